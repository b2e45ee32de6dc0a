import PyProof.Rows.All
import HandS.ForMost
import HandS.Wide
import HandS.Strs
import HandS.TupSets
import HandS.TupAny
import HandS.TupMul
import HandS.Lambda
import HandS.Flow
import HandS.Style
import HandS.IsInst
import HandS.Deep
import HandS.Conv
import HandS.Zip
import HandS.Replace
import HandS.Defaults
import HandS.SetKeys
import KE.KSortTupG
import KE.SortCalls
import PyProof.StrWalks
import KE.SortData
import HandS.Head2
import HandS.HeadEnd
import HandS.HeadHook1
import HandS.HeadHook2
import PyProof.ReprRoads
import HandS.Ends
import HandS.Words
import PyProof.EqKinds
import PyProof.P3Eq
import PyProof.P3In
import PyProof.FactsAll.dict_1
import PyProof.ListStr
import KE.GoesMore
import KE.GoesEnum
import PyProof.ReprBulk
import PyProof.StrLawsIn
import HandS.ReplaceList
import PyProof.CollectStr
import PyProof.DictMoreH
import KE.KEqDeep
import HandS.Text
import PyProof.TupleOfSeq
import KE.KDictPairs
import HandS.Small
import HandS.DictTup
import KE.KDictItemsList
import KE.KItemsList
import PyProof.StrBlock2
import KE.SortKeyHeap
import HandS.SortKw
import HandS.HeadHook4
import HandS.EndTab
import KE.KDictSum
import KE.KDictCopyH
import HandS.Star
import KE.GoesNew
import HandS.Exc
import HandS.ExcOwn
import HandS.ExcIs
import HandS.WordsExc
import PySem.Challenge.RW_openties_k04_alike_tables
import HandS.Base
import HandS.Call
import HandS.More
import HandS.Head0
import HandS.Head1
import KE.KStateDown
set_option Elab.async false
set_option linter.all false
set_option maxRecDepth 100000
set_option maxHeartbeats 4000000
set_option autoImplicit false
namespace Pu
open PySem PySem.Spec PyProof.Rows L2
/-- a tuple that is plain, by the settled part of the heap or by what stands at the top -/
def PlT (K : PySem.W.Frag) (F : Hp) (a : Addr) (xs : List V) : Prop := (∃ o, F a = some (.frz o (.tup xs)) ∧ o.dict = none) ∨
  ∃ (o : Obj) (its : Array Value) (n : Nat), K.lookup a = some o ∧ o.cls = .type "tuple" ∧ o.data = .seq its n ∧ its.size ≤ sizeLine ∧ Vals xs its.toList ∧ o.dict = none
theorem PlT.sq {K : PySem.W.Frag} {F : Hp} {a : Addr} {xs : List V} (h : PlT K F a xs) : SqT K F a xs := by
  rcases h with ⟨o, h, _⟩ | ⟨o, its, n, h1, h2, h3, h4, h5, _⟩
  · exact .inl (.inr ⟨o, h⟩)
  · exact .inr ⟨o, its, n, h1, h2, h3, h4, h5⟩
theorem PlT.mono {K : PySem.W.Frag} {F G : Hp} {a : Addr} {xs : List V} (e : ∀ b o, F b = some o → G b = some o) (h : PlT K F a xs) : PlT K G a xs := h.imp (fun ⟨o, h, d⟩ => ⟨o, e _ _ h, d⟩) id
/-- what a new tuple of these gives -/
abbrev NewT (H : Hp) (Q : VK) (xs : List V) : Prop := ∀ (q : Addr) (ob : Obj), H q = none → ob.dict = none → Q (.ref q) (upd H q (.frz ob (.tup xs)))
abbrev tupO (its : List Value) : Obj := { cls := .type "tuple", data := .seq its.toArray }
section
variable {X : Cx} {pins : List (Addr × Obj)} {σ : L2.St} {H : Hp} {s : Shared} {xs ys : List V} {its : List Value}
theorem laidT (I : Inv X pins σ H s) (r : Vals xs its) (z : xs.length ≤ sizeLine) : Inv X pins σ (upd H s.heap.objs.size (.frz (tupO its) (.tup xs))) { s with heap := s.heap.push (tupO its) } :=
  I.laid (t' := s.toks) (fun b u e => Heap.get?_push_of_some _ e) (Nat.le_refl _) ⟨Heap.get?_push_size _ rfl, z, its, r, ⟨_, Heap.get?_push_size _ rfl, rfl, _, rfl⟩⟩
theorem newT (I : Inv X pins σ H s) {Q : VK} (q : NewT H Q xs) : Q (.ref s.heap.objs.size) (upd H s.heap.objs.size (.frz (tupO its) (.tup xs))) := q _ _ (I.hok.fresh (Nat.le_refl _)) rfl
def tTupP (t : TA) : TE := fun σ H Q => t σ H fun vs H1 => vs.length ≤ sizeLine ∧ NewT H1 Q vs
theorem pe_tupP {es : List Expr} {t : TA} {pos : Pos} {x1 : Nat} (h : PA X es t) : PE X (.Tuple es x1 pos) (tTupP t) :=
  ⟨fun pins s σ H Q I hq => wpAny_Tuple_spliced (thn (h.run pos pins s σ H _ I hq) fun us s1 ⟨vs, H1, I1, r, z, q⟩ => ⟨by rw [← r.length]; exact z, .ref s1.heap.objs.size, _, laidT I1 r z, rfl, newT I1 q⟩)⟩
def rCatP (K : PySem.W.Frag) : R2 := fun x y H Q => ∃ a b xs ys, x = .ref a ∧ y = .ref b ∧ SqT K H a xs ∧ SqT K H b ys ∧ xs.length + ys.length ≤ sizeLine ∧ (xs = [] → Q (.ref b) H) ∧ (xs ≠ [] → ys = [] → Q (.ref a) H) ∧ (xs ≠ [] → ys ≠ [] → NewT H Q (xs ++ ys))
theorem op_catP : OpR X (binaryOp .Add) (rCatP X.K) := by
  intro pins s σ H x y v u Q I rx ry ⟨a, b, xs, ys, e1, e2, ha, hb, hz, q0, q1, q2⟩
  subst e1 e2
  by_cases hx : xs = []
  · exact op_catA pins s σ H _ _ v u Q I rx ry ⟨a, b, xs, ys, rfl, rfl, ha, hb, hz, q0, q1, fun z => absurd hx z⟩
  · cases rx
    cases ry
    obtain ⟨is, r1, p1, _⟩ := I.tuple ha
    obtain ⟨js, r2, p2, _⟩ := I.tuple hb
    refine HT.cat_tup p1 p2 (fun z => hx (r1.nil_iff.mp z)) (fun z => ⟨.ref a, H, I, rfl, q1 hx (r2.nil_iff.mp z)⟩) (fun z => ⟨.ref s.heap.objs.size, _, ?_, rfl, newT (its := is ++ js) I (q2 hx fun e => z (r2.nil_iff.mpr e))⟩) (by rw [← r1.length, ← r2.length]; exact hz)
    exact laidT I (r1.append r2) (by rw [List.length_append]; exact hz)
def rSlP (K : PySem.W.Frag) : V → Option Int → Option Int → Hp → VK → Prop := fun x lo hi H Q => ∃ a xs, x = .ref a ∧ SqT K H a xs ∧
  (HT.sIx xs.length 0 lo = 0 ∧ HT.sIx xs.length xs.length hi = xs.length → Q (.ref a) H) ∧ (¬ (HT.sIx xs.length 0 lo = 0 ∧ HT.sIx xs.length xs.length hi = xs.length) → NewT H Q (cutV xs lo hi))
theorem sl_tupP : SlR X (rSlP X.K) := by
  intro pins s σ H x v vl vu lo hi sl Q I rx hs pl pu ⟨a, xs, e1, hx, q1, q2⟩
  by_cases hw : HT.sIx xs.length 0 lo = 0 ∧ HT.sIx xs.length xs.length hi = xs.length
  · exact sl_tupA pins s σ H x v vl vu lo hi sl Q I rx hs pl pu ⟨a, xs, e1, hx, q1, fun z => absurd hw z⟩
  · subst e1
    cases rx
    obtain ⟨is, r, ht, hz⟩ := I.tuple hx
    have hlen : is.toArray.size = xs.length := List.size_toArray.trans r.length.symm
    refine ⟨"tuple", _, PyProof.Rows.slot_tuple_getitem.lookup, ht.typeIs, HT.getItem_tuple_cut ht hs pl pu (by rw [hlen]; exact hw) ?_ (by rw [hlen]; exact hz)⟩
    rw [hlen]
    exact ⟨.ref s.heap.objs.size, _, laidT I ((r.drop (HT.sIx xs.length 0 lo)).take (HT.sIx xs.length xs.length hi - HT.sIx xs.length 0 lo)) (Nat.le_trans (cutV_length xs lo hi) hz), rfl, newT I (q2 hw)⟩
theorem call_tupleP : CallR X (.type "tuple") (fun vs H Q => ∃ p ys, vs = [.ref p] ∧ ((SqL X.K H p ys ∧ NewT H Q ys) ∨ (SqT X.K H p ys ∧ Q (.ref p) H))) := by
  intro pins s σ H vs us Q I r ⟨p, ys, e, h⟩
  subst e
  obtain ⟨u, rfl, rx⟩ := vals1 r
  cases rx
  rcases h with ⟨hq, q⟩ | ⟨hq, q⟩
  · obtain ⟨is, r', pl, hz⟩ := I.list hq
    have hlen := r'.length
    refine call_tuple_list pl.isList (fun h2 kp => let I1 : Inv X pins σ H { s with heap := h2 } := I.kept (t' := s.toks) kp; ⟨.ref h2.objs.size, _, laidT I1 r' hz, rfl, newT (its := is) I1 q⟩) ?_
    simp only [List.size_toArray]
    omega
  · obtain ⟨is, r', pl, hz⟩ := I.tuple hq
    exact call_tuple_same pl ⟨.ref p, H, I, rfl, q⟩
end
end Pu
namespace Pu
open PySem PySem.Spec PyProof.Rows L2
mutual
/-- a value stands for a datum, by the settled part F of the heap -/
inductive RV (K : PySem.W.Frag) (F : Hp) : V → PyData → Prop
  | non : RV K F .non .none
  | bl (b : Bool) : RV K F (.bl b) (.bool b)
  | int (i : Int) : RV K F (.int i) (.int i)
  | str (x : Str) : RV K F (.str x) (.str x)
  | lst {a : Addr} {xs : List V} {ds : List PyData} : F a = some (.lst xs) → RVs K F xs ds → RV K F (.ref a) (.list ds)
  | tup {a : Addr} {xs : List V} {ds : List PyData} : PlT K F a xs → RVs K F xs ds → RV K F (.ref a) (.tuple ds)
  | dct {a : Addr} : F a = some (.dK []) → RV K F (.ref a) (.dict [])
inductive RVs (K : PySem.W.Frag) (F : Hp) : List V → List PyData → Prop
  | nil : RVs K F [] []
  | cons {v : V} {vs : List V} {d : PyData} {ds : List PyData} : RV K F v d → RVs K F vs ds → RVs K F (v :: vs) (d :: ds)
end
theorem Same.tup {K : PySem.W.Frag} {F G : Hp} {a : Addr} {xs : List V} (e : Same F G) (h : SqT K F a xs) : SqT K G a xs := by
  rcases h with (h | ⟨o, h⟩) | h
  · exact .inl (.inl (e _ _ h))
  · exact .inl (.inr ⟨o, e _ _ h⟩)
  · exact .inr h
section
variable {K : PySem.W.Frag} {F G : Hp}
mutual
theorem RV.mono (e : Same F G) : ∀ {v : V} {d : PyData}, RV K F v d → RV K G v d
  | _, _, .non => .non
  | _, _, .bl b => .bl b
  | _, _, .int i => .int i
  | _, _, .str x => .str x
  | _, _, .lst h r => .lst (e _ _ h) (RVs.mono e r)
  | _, _, .tup h r => .tup (h.mono e) (RVs.mono e r)
  | _, _, .dct h => .dct (e _ _ h)
theorem RVs.mono (e : Same F G) : ∀ {vs : List V} {ds : List PyData}, RVs K F vs ds → RVs K G vs ds
  | _, _, .nil => .nil
  | _, _, .cons r t => .cons (RV.mono e r) (RVs.mono e t)
end
theorem RVs.len : ∀ {vs : List V} {ds : List PyData}, RVs K F vs ds → vs.length = ds.length
  | _, _, .nil => rfl
  | _, _, .cons _ t => congrArg (· + 1) (RVs.len t)
theorem RVs.at' : ∀ {vs : List V} {ds : List PyData} {i : Nat} {d : PyData}, RVs K F vs ds → ds[i]? = some d → ∃ v, vs[i]? = some v ∧ RV K F v d
  | _, _, _, _, .nil, h => by simp at h
  | _, _, 0, _, .cons r _, h => by simp at h; subst h; exact ⟨_, rfl, r⟩
  | _, _, i + 1, d, .cons _ t, h => by
    obtain ⟨v, h1, h2⟩ := RVs.at' (i := i) (d := d) t (by simpa using h)
    exact ⟨v, by simpa using h1, h2⟩
theorem RVs.app : ∀ {vs ws : List V} {ds es : List PyData}, RVs K F vs ds → RVs K F ws es → RVs K F (vs ++ ws) (ds ++ es)
  | _, _, _, _, .nil, s => s
  | _, _, _, _, .cons r t, s => .cons r (RVs.app t s)
theorem RVs.drop' : ∀ {vs : List V} {ds : List PyData} (n : Nat), RVs K F vs ds → RVs K F (vs.drop n) (ds.drop n)
  | _, _, 0, r => r
  | _, _, _ + 1, .nil => .nil
  | _, _, n + 1, .cons _ t => RVs.drop' n t
theorem RVs.take' : ∀ {vs : List V} {ds : List PyData} (n : Nat), RVs K F vs ds → RVs K F (vs.take n) (ds.take n)
  | _, _, 0, _ => .nil
  | _, _, _ + 1, .nil => .nil
  | _, _, n + 1, .cons r t => .cons r (RVs.take' n t)
theorem RVs.one {v : V} {d : PyData} (r : RV K F v d) : RVs K F [v] [d] := .cons r .nil
end
/-- the numbers a pen may hold -/
structure PenInv (cells : List Int) (at_ cur : Int) (b : Nat) : Prop where
  at0 : 0 ≤ at_
  most : at_ + b ≤ 2 ^ 32
  cur0 : 0 ≤ cur
  few : cells.length ≤ 12
/-- the tables of code objects that are followed: told by the last entry of the written part, which no look-up finds -/
def tabPairs : List Value → List (Addr × Str)
  | .ref a :: .str q _ :: r => (a, q) :: tabPairs r
  | _ => []
def tabF (K : PySem.W.Frag) : List (Addr × Str) := match K.getLast? with
  | some (_, ⟨_, _, .seq its _, _⟩) => tabPairs its.toList
  | _ => []
structure Pens where
  pa : Addr
  ca : Addr
  tb : List (Addr × Str)
abbrev Pn := Option Pens
/-- the tables of code objects: what they tell is settled -/
def TabsIs (T : List (Addr × Str)) (F H : Hp) : Prop := ∀ p ∈ T, F p.1 = none ∧ ∃ ps : Array Value, H p.1 = some (.tbl ps) ∧ TriplesOk ps.toList ∧ ∀ (pos : Pos) (cv : Value), codeAmong pos ps.toList = some cv → ∃ c, cv = .ref c ∧ F c = some (LamX.CodeO c p.2)
theorem TabsIs.to {T : List (Addr × Str)} {F H F' H' : Hp} (t : TabsIs T F H) (s : Same F F') (e : ∀ p ∈ T, F' p.1 = none ∧ H' p.1 = H p.1) : TabsIs T F' H' := fun p hp =>
  let ⟨_, ps, h1, h2, h3⟩ := t p hp
  ⟨(e p hp).1, ps, (e p hp).2.trans h1, h2, fun pos cv hc => let ⟨c, e1, e2⟩ := h3 pos cv hc; ⟨c, e1, s _ _ e2⟩⟩
theorem TabsIs.at_ {T : List (Addr × Str)} {F H : Hp} (t : TabsIs T F H) {p : Addr × Str} (hp : p ∈ T) {a : Addr} (h : H a = none) : a ≠ p.1 := fun z => by
  obtain ⟨_, ps, h1, _⟩ := t p hp
  rw [← z, h] at h1
  cases h1
def PenIs (pn : Pn) (b : Nat) (F H : Hp) : Prop := match pn with
  | none => True
  | some q => F q.pa = none ∧ F q.ca = none ∧ q.pa ≠ q.ca ∧ TabsIs q.tb F H ∧ ∃ (cells : List Int) (at_ cur : Int), H q.pa = some (.lst [.ref q.ca, .int at_, .int cur]) ∧ H q.ca = some (.lst (cells.map V.int)) ∧ PenInv cells at_ cur b
def NotPen (pn : Pn) (a : Addr) : Prop := ∀ q, pn = some q → a ≠ q.pa ∧ ∀ p ∈ q.tb, a ≠ p.1
def NotCa (pn : Pn) (a : Addr) : Prop := ∀ q, pn = some q → a ≠ q.ca
structure Ok (pn : Pn) (b : Nat) (F H : Hp) : Prop where
  sub : Same F H
  pen : PenIs pn b F H
structure Ext (pn : Pn) (F H F' H' : Hp) : Prop where
  fsub : Same F F'
  keep : ∀ a o, H a = some o → F a = none → NotPen pn a → H' a = some o ∧ F' a = none
section
variable {pn : Pn} {b b1 b2 : Nat} {F H F1 H1 F2 H2 : Hp}
theorem Ext.refl : Ext pn F H F H := ⟨Same.refl _, fun _ _ h q _ => ⟨h, q⟩⟩
theorem Ext.trans (x : Ext pn F H F1 H1) (y : Ext pn F1 H1 F2 H2) : Ext pn F H F2 H2 :=
  ⟨x.fsub.trans y.fsub, fun a o h q n => let ⟨h1, q1⟩ := x.keep a o h q n; y.keep a o h1 q1 n⟩
theorem Ok.free (k : Ok pn b F H) {p : Addr} (h : H p = none) : F p = none := k.sub.free h
theorem same_upd2 {F H : Hp} (s : Same F H) {p : Addr} {o : HO} : Same (upd F p o) (upd H p o) := fun a u e => by
  by_cases h : a = p
  · subst h; rw [upd_same] at e ⊢; exact e
  · rw [upd_ne h] at e ⊢; exact s a u e
theorem same_new {H : Hp} {p : Addr} {o : HO} (h : H p = none) : Same H (upd H p o) := fun a u e => by
  rw [upd_ne (ne_of_none e h)]; exact e
theorem same_upd {F : Hp} {p : Addr} {o : HO} (h : F p = none) : Same F (upd F p o) := fun a u e => by
  rw [upd_ne (fun z => by rw [z, h] at e; cases e)]; exact e
theorem PenIs.new {p : Addr} {o : HO} (k : PenIs pn b F H) (fp : F p = none) (h : H p = none) : PenIs pn b (upd F p o) (upd H p o) := by
  match pn, k with
  | none, _ => trivial
  | some q, ⟨f1, f2, ne, tb, cells, at_, cur, h1, h2, i⟩ =>
    have n1 : q.pa ≠ p := ne_of_none h1 h
    have n2 : q.ca ≠ p := ne_of_none h2 h
    exact ⟨by rw [upd_ne n1]; exact f1, by rw [upd_ne n2]; exact f2, ne, tb.to (same_upd fp) fun t ht => ⟨by rw [upd_ne (tb.at_ ht h).symm]; exact (tb t ht).1, by rw [upd_ne (tb.at_ ht h).symm]⟩, cells, at_, cur, by rw [upd_ne n1]; exact h1, by rw [upd_ne n2]; exact h2, i⟩
/-- another object is written -/
theorem PenIs.wr {p : Addr} {o : HO} (k : PenIs pn b F H) (np : NotPen pn p) (nc : NotCa pn p) : PenIs pn b F (upd H p o) := by
  match pn, k, np, nc with
  | none, _, _, _ => trivial
  | some q, ⟨f1, f2, ne, tb, cells, at_, cur, h1, h2, i⟩, np, nc =>
    exact ⟨f1, f2, ne, tb.to (Same.refl _) fun t ht => ⟨(tb t ht).1, upd_ne ((np q rfl).2 t ht).symm⟩, cells, at_, cur, by rw [upd_ne (np q rfl).1.symm]; exact h1, by rw [upd_ne (nc q rfl).symm]; exact h2, i⟩
theorem PenIs.apartN (k : PenIs pn b F H) {p : Addr} (h : H p = none) : NotPen pn p ∧ NotCa pn p := by
  refine ⟨fun q e => ?_, fun q e z => ?_⟩
  · subst e
    obtain ⟨_, _, _, tb, cells, at_, cur, h1, _⟩ := k
    exact ⟨fun z => (by rw [← z, h] at h1; cases h1), fun t ht => tb.at_ ht h⟩
  · subst e
    obtain ⟨_, _, _, _, cells, at_, cur, _, h2, _⟩ := k
    rw [← z, h] at h2; cases h2
theorem PenIs.own {p : Addr} {o : HO} (k : PenIs pn b F H) (h : H p = none) : PenIs pn b F (upd H p o) := k.wr (k.apartN h).1 (k.apartN h).2
/-- a new settled object -/
theorem Ok.new {p : Addr} {o : HO} (k : Ok pn b F H) (h : H p = none) : Ok pn b (upd F p o) (upd H p o) := ⟨same_upd2 k.sub, k.pen.new (k.free h) h⟩
theorem Ext.new {p : Addr} {o : HO} (k : Ok pn b F H) (h : H p = none) : Ext pn F H (upd F p o) (upd H p o) :=
  ⟨same_new (k.free h), fun a u e q _ => by
    have n : a ≠ p := ne_of_none e h
    rw [upd_ne n, upd_ne n]; exact ⟨e, q⟩⟩
/-- a new object of one's own -/
theorem Ok.own {p : Addr} {o : HO} (k : Ok pn b F H) (h : H p = none) : Ok pn b F (upd H p o) := ⟨k.sub.trans (same_new h), k.pen.own h⟩
theorem Ext.own {p : Addr} {o : HO} (h : H p = none) : Ext pn F H F (upd H p o) :=
  ⟨Same.refl _, fun a u e q _ => by rw [upd_ne (ne_of_none e h)]; exact ⟨e, q⟩⟩
/-- an own object is settled -/
theorem Ok.settle {p : Addr} {o : HO} (k : Ok pn b F H) (h : H p = some o) (f : F p = none) (n : NotPen pn p) (nc : NotCa pn p) : Ok pn b (upd F p o) H := by
  refine ⟨fun a u e => ?_, ?_⟩
  · by_cases q : a = p
    · subst q; rw [upd_same] at e; cases e; exact h
    · rw [upd_ne q] at e; exact k.sub a u e
  · have kp := k.pen
    match pn, kp, n, nc with
    | none, _, _, _ => trivial
    | some q, ⟨f1, f2, ne, tb, cells, at_, cur, h1, h2, i⟩, n, nc =>
      exact ⟨by rw [upd_ne (n q rfl).1.symm]; exact f1, by rw [upd_ne (nc q rfl).symm]; exact f2, ne, tb.to (same_upd f) fun t ht => ⟨by rw [upd_ne ((n q rfl).2 t ht).symm]; exact (tb t ht).1, rfl⟩, cells, at_, cur, h1, h2, i⟩
theorem PenIs.le {b' : Nat} (k : PenIs pn b F H) (h : b' ≤ b) : PenIs pn b' F H := by
  match pn, k with
  | none, _ => trivial
  | some q, ⟨f1, f2, ne, tb, cells, at_, cur, h1, h2, i⟩ =>
    exact ⟨f1, f2, ne, tb, cells, at_, cur, h1, h2, i.at0, by have := i.most; omega, i.cur0, i.few⟩
end
inductive Sl where
  | d (x : PyData)
  | l (xs : List PyData)
  | r (xs : List PyData)
  | p
  | k (kvs : List (Str × PyData))
def Sl.isOwn : Sl → Bool
  | .l _ => true
  | .k _ => true
  | _ => false
/-- a dict of one's own, its keys texts -/
inductive KVs (K : PySem.W.Frag) (F : Hp) : List (Key × V) → List (Str × PyData) → Prop
  | nil : KVs K F [] []
  | cons {x : Str} {v : V} {d : PyData} {vs : List (Key × V)} {ds : List (Str × PyData)} : RV K F v d → KVs K F vs ds → KVs K F ((.inr x, v) :: vs) ((x, d) :: ds)
theorem KVs.mono {K : PySem.W.Frag} {F G : Hp} (e : Same F G) : ∀ {vs : List (Key × V)} {ds : List (Str × PyData)}, KVs K F vs ds → KVs K G vs ds
  | _, _, .nil => .nil
  | _, _, .cons r t => .cons (r.mono e) (KVs.mono e t)
def OwnK (K : PySem.W.Frag) (pn : Pn) (F H : Hp) (v : V) (xs : List (Str × PyData)) : Prop :=
  ∃ a vs, v = .ref a ∧ F a = none ∧ NotPen pn a ∧ NotCa pn a ∧ H a = some (.dK vs) ∧ KVs K F vs xs
abbrev En := List (Option Sl)
/-- a list of one's own, not settled -/
def OwnL (K : PySem.W.Frag) (pn : Pn) (F H : Hp) (v : V) (xs : List PyData) : Prop :=
  ∃ a vs, v = .ref a ∧ F a = none ∧ NotPen pn a ∧ NotCa pn a ∧ H a = some (.lst vs) ∧ RVs K F vs xs
def SlIs (K : PySem.W.Frag) (pn : Pn) (F H : Hp) (v : V) : Sl → Prop
  | .d x => RV K F v x
  | .l xs => OwnL K pn F H v xs
  | .r xs => OwnL K pn F H v xs
  | .p => ∃ (u : Unit) (q : Pens), pn = some q ∧ v = .ref q.pa
  | .k xs => OwnK K pn F H v xs
/-- a datum that is read: settled, or a list of one's own -/
def BV (K : PySem.W.Frag) (pn : Pn) (F H : Hp) (v : V) (d : PyData) : Prop := RV K F v d ∨ ∃ xs, d = .list xs ∧ OwnL K pn F H v xs
section
variable {K : PySem.W.Frag} {pn : Pn} {b b' : Nat} {F H F' H' : Hp} {v : V}
theorem OwnL.ext {xs : List PyData} (h : OwnL K pn F H v xs) (e : Ext pn F H F' H') : OwnL K pn F' H' v xs := by
  obtain ⟨a, vs, rfl, f, n, nc, ha, r⟩ := h
  obtain ⟨h1, f1⟩ := e.keep a _ ha f n
  exact ⟨a, vs, rfl, f1, n, nc, h1, r.mono e.fsub⟩
theorem OwnK.ext {xs : List (Str × PyData)} (h : OwnK K pn F H v xs) (e : Ext pn F H F' H') : OwnK K pn F' H' v xs := by
  obtain ⟨a, vs, rfl, f, n, nc, ha, r⟩ := h
  obtain ⟨h1, f1⟩ := e.keep a _ ha f n
  exact ⟨a, vs, rfl, f1, n, nc, h1, r.mono e.fsub⟩
theorem SlIs.ext {s : Sl} (h : SlIs K pn F H v s) (e : Ext pn F H F' H') : SlIs K pn F' H' v s := by
  match s, h with
  | .d x, h => exact RV.mono e.fsub h
  | .l xs, h => exact OwnL.ext h e
  | .r xs, h => exact OwnL.ext h e
  | .p, h => exact h
  | .k xs, h => exact OwnK.ext h e
theorem BV.ext {d : PyData} (h : BV K pn F H v d) (e : Ext pn F H F' H') : BV K pn F' H' v d := by
  rcases h with h | ⟨xs, rfl, h⟩
  · exact .inl (h.mono e.fsub)
  · exact .inr ⟨xs, rfl, h.ext e⟩
theorem BV.list {ds : List PyData} (h : BV K pn F H v (.list ds)) (k : Ok pn b F H) : ∃ a vs, v = .ref a ∧ H a = some (.lst vs) ∧ RVs K F vs ds := by
  rcases h with h | ⟨xs, e, a, vs, rfl, _, _, _, h, r⟩
  · cases h with
    | lst h r => exact ⟨_, _, rfl, k.sub _ _ h, r⟩
  · cases e; exact ⟨a, vs, rfl, h, r⟩
theorem BV.tup {ds : List PyData} (h : BV K pn F H v (.tuple ds)) (k : Ok pn b F H) : ∃ a vs, v = .ref a ∧ SqT K H a vs ∧ RVs K F vs ds := by
  rcases h with h | ⟨xs, e, _⟩
  · cases h with
    | tup h r => exact ⟨_, _, rfl, Same.tup k.sub h.sq, r⟩
  · cases e
theorem BV.int {i : Int} (h : BV K pn F H v (.int i)) : v = .int i := by
  rcases h with h | ⟨xs, e, _⟩
  · cases h; rfl
  · cases e
theorem BV.str {i : Str} (h : BV K pn F H v (.str i)) : v = .str i := by
  rcases h with h | ⟨xs, e, _⟩
  · cases h; rfl
  · cases e
theorem BV.bool {i : Bool} (h : BV K pn F H v (.bool i)) : v = .bl i := by
  rcases h with h | ⟨xs, e, _⟩
  · cases h; rfl
  · cases e
theorem BV.none' (h : BV K pn F H v .none) : v = .non := by
  rcases h with h | ⟨xs, e, _⟩
  · cases h; rfl
  · cases e
end
theorem SlIs.ownF {K : PySem.W.Frag} {pn : Pn} {F H : Hp} {a : Addr} : ∀ {s : Sl}, s.isOwn = true → SlIs K pn F H (.ref a) s → F a = none
  | .l _, _, ⟨_, _, e, f, _⟩ => by cases e; exact f
  | .k _, _, ⟨_, _, e, f, _⟩ => by cases e; exact f
structure Rep (K : PySem.W.Frag) (pn : Pn) (F H : Hp) (σ : L2.St) (env : En) (b : Nat) : Prop where
  ok : Ok pn b F H
  len : σ.length = env.length
  slot : ∀ (i : Nat) (s : Sl), env[i]? = some (some s) → ∃ v, σ[i]? = some (some v) ∧ SlIs K pn F H v s
  apart : ∀ (i j : Nat) (a : Addr) (xs ys : List PyData), i ≠ j → env[i]? = some (some (Sl.l xs)) → (env[j]? = some (some (Sl.l ys)) ∨ env[j]? = some (some (Sl.r ys))) → σ[i]? = some (some (V.ref a)) → σ[j]? ≠ some (some (V.ref a))
  tk : ∃ q, pn = some q ∧ q.tb = tabF K
theorem Rep.ext {K : PySem.W.Frag} {pn : Pn} {F H F' H' : Hp} {σ : L2.St} {env : En} {b b' : Nat} (r : Rep K pn F H σ env b) (k : Ok pn b' F' H') (e : Ext pn F H F' H') : Rep K pn F' H' σ env b' :=
  ⟨k, r.len, fun i s h => let ⟨v, h1, h2⟩ := r.slot i s h; ⟨v, h1, h2.ext e⟩, r.apart, r.tk⟩
abbrev WE := En → Nat → (PyData → Nat → Prop) → Prop
abbrev WT := En → Nat → (Bool → Nat → Prop) → Prop
abbrev WF := En → Nat → (List PyData → Nat → Prop) → Prop
abbrev WA := En → Nat → (List Sl → Nat → Prop) → Prop
abbrev WD := List Sl → Nat → (PyData → Nat → Prop) → Prop
structure PEnds where
  nx : En → Nat → Prop
  rt : PyData → Nat → Prop
  bk : En → Nat → Prop := fun _ _ => False
  ct : En → Nat → Prop := fun _ _ => False
  rl : List PyData → Nat → Prop := fun _ _ => False
  xr : Str → Nat → Prop := fun _ _ => False
abbrev WS := PEnds → En → Nat → Prop
/-- a value, settled -/
def lE (K : PySem.W.Frag) (t : WE) : TE := fun σ H Q => ∃ pn F env b P, Rep K pn F H σ env b ∧ t env b P ∧
  ∀ v d F' H' b', Ok pn b' F' H' → Ext pn F H F' H' → RV K F' v d → P d b' → Q v H'
/-- a value to be read only -/
def lB (K : PySem.W.Frag) (t : WE) : TE := fun σ H Q => ∃ pn F env b P, Rep K pn F H σ env b ∧ t env b P ∧
  ∀ v d F' H' b', Ok pn b' F' H' → Ext pn F H F' H' → BV K pn F' H' v d → P d b' → Q v H'
/-- a new list -/
def lF (K : PySem.W.Frag) (t : WF) : TE := fun σ H Q => ∃ pn F env b P, Rep K pn F H σ env b ∧ t env b P ∧
  ∀ v d F' H' b', Ok pn b' F' H' → Ext pn F H F' H' → OwnL K pn F' H' v d → (∀ a, v = .ref a → H a = none) → P d b' → Q v H'
def lT (K : PySem.W.Frag) (t : WT) : TT := fun σ H Q => ∃ pn F env b P, Rep K pn F H σ env b ∧ t env b P ∧
  ∀ k F' H' b', Ok pn b' F' H' → Ext pn F H F' H' → P k b' → Q k H'
def ArgsAre (K : PySem.W.Frag) (pn : Pn) (F H : Hp) : List V → List Sl → Prop
  | [], [] => ∃ q, pn = some q ∧ q.tb = tabF K
  | v :: vs, s :: ss => SlIs K pn F H v s ∧ s.isOwn = false ∧ ArgsAre K pn F H vs ss
  | _, _ => False
theorem ArgsAre.ext {K : PySem.W.Frag} {pn : Pn} {F H F' H' : Hp} (e : Ext pn F H F' H') : ∀ {vs : List V} {ss : List Sl}, ArgsAre K pn F H vs ss → ArgsAre K pn F' H' vs ss
  | [], [], h => h
  | _ :: _, _ :: _, ⟨h, n, t⟩ => ⟨h.ext e, n, ArgsAre.ext e t⟩
  | [], _ :: _, h => h.elim
  | _ :: _, [], h => h.elim
theorem ArgsAre.tk {K : PySem.W.Frag} {pn : Pn} {F H : Hp} : ∀ {vs : List V} {ss : List Sl}, ArgsAre K pn F H vs ss → ∃ q, pn = some q ∧ q.tb = tabF K
  | [], [], h => h
  | _ :: _, _ :: _, ⟨_, _, t⟩ => ArgsAre.tk t
  | [], _ :: _, h => h.elim
  | _ :: _, [], h => h.elim
theorem ArgsAre.len {K : PySem.W.Frag} {pn : Pn} {F H : Hp} : ∀ {vs : List V} {ss : List Sl}, ArgsAre K pn F H vs ss → vs.length = ss.length
  | [], [], _ => rfl
  | _ :: _, _ :: _, ⟨_, _, t⟩ => congrArg (· + 1) (ArgsAre.len t)
  | [], _ :: _, h => h.elim
  | _ :: _, [], h => h.elim
def lA (K : PySem.W.Frag) (t : WA) : TA := fun σ H Q => ∃ pn F env b P, Rep K pn F H σ env b ∧ t env b P ∧
  ∀ vs ss F' H' b', Ok pn b' F' H' → Ext pn F H F' H' → ArgsAre K pn F' H' vs ss → P ss b' → Q vs H'
structure RepS (K : PySem.W.Frag) (pn : Pn) (F0 H0 F H : Hp) (σ : L2.St) (env : En) (b : Nat) : Prop where
  rep : Rep K pn F H σ env b
  ext : Ext pn F0 H0 F H
  own : ∀ (i : Nat) (a : Addr) (s : Sl), s.isOwn = true → env[i]? = some (some s) → σ[i]? = some (some (V.ref a)) → H0 a = none
/-- a statement -/
def lS (K : PySem.W.Frag) (t : WS) : TS := fun D σ H => ∃ pn F0 H0 F env b PD, RepS K pn F0 H0 F H σ env b ∧ t PD env b ∧
  (∀ σ' F' H' env' b', RepS K pn F0 H0 F' H' σ' env' b' → (PD.nx env' b' → D.nx σ' H') ∧ (PD.bk env' b' → D.bk σ' H') ∧ (PD.ct env' b' → D.ct σ' H')) ∧
  (∀ v d F' H' b', Ok pn b' F' H' → Ext pn F0 H0 F' H' → RV K F' v d → PD.rt d b' → D.rt v H') ∧
  (∀ v ds F' H' b', Ok pn b' F' H' → Ext pn F0 H0 F' H' → OwnL K pn F' H' v ds → (∀ a, v = .ref a → H0 a = none) → PD.rl ds b' → D.rt v H')
/-- a def's promise by what it does to data -/
def spW (K : PySem.W.Frag) (f : WD) : Sp := fun vs H Q _ => ∃ pn F ss b P, Ok pn b F H ∧ ArgsAre K pn F H vs ss ∧ f ss b P ∧
  ∀ v d F' H' b', Ok pn b' F' H' → Ext pn F H F' H' → RV K F' v d → P d b' → Q v H'
section
variable {X : Cx} {e : Expr} {t u : TE}
theorem PE.imp (h : PE X e t) (i : ∀ σ H Q, u σ H Q → t σ H Q) : PE X e u := ⟨fun pins s σ H Q I q => h.run pins s σ H Q I (i _ _ _ q)⟩
theorem PT.imp {t u : TT} (h : PT X e t) (i : ∀ σ H Q, u σ H Q → t σ H Q) : PT X e u := ⟨fun pins s σ H Q I q => h.run pins s σ H Q I (i _ _ _ q)⟩
theorem PA.imp {es : List Expr} {t u : TA} (h : PA X es t) (i : ∀ σ H Q, u σ H Q → t σ H Q) : PA X es u := ⟨fun pos pins s σ H Q I q => h.run pos pins s σ H Q I (i _ _ _ q)⟩
theorem PS.imp {st : Stmt} {t u : TS} (h : PS X st t) (i : ∀ D σ H, u D σ H → t D σ H) : PS X st u := ⟨fun pins s σ H D I q => h.run pins s σ H D I (i _ _ _ q)⟩
theorem PSs.imp {st : List Stmt} {t u : TS} (h : PSs X st t) (i : ∀ D σ H, u D σ H → t D σ H) : PSs X st u := ⟨fun pins s σ H D I q => h.run pins s σ H D I (i _ _ _ q)⟩
end
abbrev EE (X : Cx) (e : Expr) (t : WE) : Prop := PE X e (lE X.K t)
abbrev EB (X : Cx) (e : Expr) (t : WE) : Prop := PE X e (lB X.K t)
abbrev EF (X : Cx) (e : Expr) (t : WF) : Prop := PE X e (lF X.K t)
abbrev ET (X : Cx) (e : Expr) (t : WT) : Prop := PT X e (lT X.K t)
abbrev EA (X : Cx) (es : List Expr) (t : WA) : Prop := PA X es (lA X.K t)
abbrev SS (X : Cx) (st : Stmt) (t : WS) : Prop := PS X st (lS X.K t)
abbrev SB (X : Cx) (st : List Stmt) (t : WS) : Prop := PSs X st (lS X.K t)
section
variable {X : Cx} {e : Expr}
theorem EE.eb {t : WE} (h : EE X e t) : EB X e t := PE.imp h fun σ H Q ⟨pn, F, env, b, P, r, q, k⟩ =>
  ⟨pn, F, env, b, P, r, q, fun v d F' H' b' o x rv p => k v d F' H' b' o x (.inl rv) p⟩
/-- a new list, settled at once -/
def fz (t : WF) : WE := fun env b P => t env b fun ds b' => P (.list ds) b'
theorem EF.ee {t : WF} (h : EF X e t) : EE X e (fz t) := PE.imp h fun σ H Q ⟨pn, F, env, b, P, r, q, k⟩ => by
  refine ⟨pn, F, env, b, _, r, q, fun v d F' H' b' o x ow nw p => ?_⟩
  obtain ⟨a, vs, rfl, f, n, nc, ha, rv⟩ := ow
  refine k (.ref a) (.list d) (upd F' a (.lst vs)) H' b' (o.settle ha f n nc) ⟨x.fsub.trans (same_new f), fun c u hc fc ncp => ?_⟩ (.lst upd_same (rv.mono (same_new f))) p
  obtain ⟨h1, f1⟩ := x.keep c u hc fc ncp
  have ne : c ≠ a := fun z => by rw [z, nw a rfl] at hc; cases hc
  exact ⟨h1, by rw [upd_ne ne]; exact f1⟩
end
end Pu
namespace Pu
open PySem PySem.Spec PyProof.Rows L2
/-- .. a settled value, the pen untouched -/
abbrev Go (K : PySem.W.Frag) (pn : Pn) (b : Nat) (F H : Hp) (P : PyData → Prop) (Q : VK) : Prop :=
  ∀ (w : V) (z : PyData) (F' H' : Hp), Ok pn b F' H' → Ext pn F H F' H' → RV K F' w z → P z → Q w H'
abbrev GoL (K : PySem.W.Frag) (pn : Pn) (b : Nat) (F H : Hp) (P : List PyData → Prop) (Q : VK) : Prop :=
  ∀ (w : V) (z : List PyData) (F' H' : Hp), Ok pn b F' H' → Ext pn F H F' H' → OwnL K pn F' H' w z → (∀ a, w = .ref a → H a = none) → P z → Q w H'
section
variable {K : PySem.W.Frag} {pn : Pn} {b : Nat} {F H : Hp} {P : PyData → Prop} {Q : VK}
theorem Go.tup (k : Go K pn b F H P Q) (o : Ok pn b F H) {vs : List V} {ds : List PyData} (r : RVs K F vs ds) (p : P (.tuple ds)) : NewT H Q vs := fun q ob hq hd =>
  k _ _ _ _ (o.new hq) (.new o hq) (.tup (.inl ⟨ob, upd_same, hd⟩) (r.mono (same_new (o.free hq)))) p
theorem Go.lst (k : Go K pn b F H P Q) (o : Ok pn b F H) {vs : List V} {ds : List PyData} (r : RVs K F vs ds) (p : P (.list ds)) : ∀ q, H q = none → Q (.ref q) (upd H q (.lst vs)) := fun q hq =>
  k _ _ _ _ (o.new hq) (.new o hq) (.lst upd_same (r.mono (same_new (o.free hq)))) p
theorem GoL.lst {P : List PyData → Prop} (k : GoL K pn b F H P Q) (o : Ok pn b F H) {vs : List V} {ds : List PyData} (r : RVs K F vs ds) (p : P ds) : ∀ q, H q = none → Q (.ref q) (upd H q (.lst vs)) := fun q hq => by
  refine k _ _ _ _ (o.own hq) (.own hq) ⟨q, vs, rfl, o.free hq, (o.pen.apartN hq).1, (o.pen.apartN hq).2, upd_same, r⟩ (fun a e => by cases e; exact hq) p
end
theorem Ext.back {pn : Pn} {b b' : Nat} {F H F' H' : Hp} (x : Ext pn F H F' H') (o : Ok pn b F H) (o' : Ok pn b' F' H') {a : Addr} (h : H' a = none) : H a = none := by
  cases e : H a with
  | none => rfl
  | some u =>
    cases f : F a with
    | some z =>
      have := o'.sub a z (x.fsub a z f)
      rw [h] at this; cases this
    | none =>
      by_cases n : NotPen pn a
      · have := (x.keep a u e f n).1
        rw [h] at this; cases this
      · exfalso
        exact n (o'.pen.apartN h).1
abbrev P2 := PyData → PyData → (PyData → Prop) → Prop
def Op2 (K : PySem.W.Frag) (r : R2) (p : P2) : Prop :=
  ∀ (pn : Pn) (b : Nat) (F H : Hp) (v u : V) (x y : PyData) (P : PyData → Prop) (Q : VK), Ok pn b F H → BV K pn F H v x → BV K pn F H u y → p x y P → Go K pn b F H P Q → r v u H Q
def wOp (p : P2) (ta tb : WE) : WE := fun env b P => ta env b fun x b1 => tb env b1 fun y b2 => p x y fun z => P z b2
section
variable {K : PySem.W.Frag} {r : R2} {p : P2} {ta tb : WE}
theorem op2 (o : Op2 K r p) {σ : L2.St} {H : Hp} {Q : VK} (h : lE K (wOp p ta tb) σ H Q) : tOp r (lB K ta) (lB K tb) σ H Q := by
  obtain ⟨pn, F, env, b, P, rep, t, k⟩ := h
  refine ⟨pn, F, env, b, _, rep, t, fun v x F1 H1 b1 o1 e1 bv1 t1 => ?_⟩
  refine ⟨pn, F1, env, b1, _, rep.ext o1 e1, t1, fun u y F2 H2 b2 o2 e2 bv2 t2 => ?_⟩
  exact o pn b2 F2 H2 v u x y _ Q o2 (bv1.ext e2) bv2 t2 fun w z F' H' o3 e3 rv q => k w z F' H' b2 o3 (e1.trans (e2.trans e3)) rv q
end
section
variable {X : Cx} {a c : Expr} {pos : Pos} {ta tb : WE} {r : R2} {p : P2}
theorem e_op {op : Operator} (ho : OpR X (binaryOp op) r) (o : Op2 X.K r p) (ha : EB X a ta) (hb : EB X c tb) : EE X (.BinOp a op c pos) (wOp p ta tb) := PE.imp (pe_op ho ha hb) fun _ _ _ => op2 o
theorem e_cmp {op : CmpOp} (ho : OpR X (compareOp op) r) (o : Op2 X.K r p) (ha : EB X a ta) (hb : EB X c tb) (hm : behindInMarks op c = false) : EE X (.Compare a [op] [c] pos) (wOp p ta tb) := PE.imp (pe_cmpR ho ha hb hm) fun _ _ _ => op2 o
/-- a bool as a test -/
def wTt (t : WE) : WT := fun env b P => t env b fun d b' => match d with | .bool k => P k b' | _ => False
theorem tt_of {K : PySem.W.Frag} {t : WE} {σ : L2.St} {H : Hp} {Q : Bool → Hp → Prop} (h : lT K (wTt t) σ H Q) : lE K t σ H fun x H' => ∃ k, x = .bl k ∧ Q k H' := by
  obtain ⟨pn, F, env, b, P, rep, t, k⟩ := h
  refine ⟨pn, F, env, b, _, rep, t, fun v d F' H' b' o e rv q => ?_⟩
  cases rv with
  | bl c => exact ⟨c, rfl, k c F' H' b' o e q⟩
  | _ => exact q.elim
theorem t_cmp {op : CmpOp} (ho : OpR X (compareOp op) r) (o : Op2 X.K r p) (ha : EB X a ta) (hb : EB X c tb) (hm : behindInMarks op c = false) : ET X (.Compare a [op] [c] pos) (wTt (wOp p ta tb)) := PT.imp (pt_cmpR ho ha hb hm) fun _ _ _ h => op2 o (tt_of h)
end
def pAdd : P2
  | .int i, .int j, P => P (.int (i + j))
  | .str s, .str t, P => s.length + t.length ≤ sizeLine ∧ P (.str (s ++ t))
  | .tuple xs, .tuple ys, P => xs.length + ys.length ≤ sizeLine ∧ P (.tuple (xs ++ ys))
  | .list xs, .list ys, P => xs.length + ys.length ≤ sizeLine ∧ P (.list (xs ++ ys))
  | _, _, _ => False
def rAddA (K : PySem.W.Frag) : R2 := fun x y H Q => (rI0 fun i j => .int (i + j)) x y H Q ∨ (∃ i j, x = .str i ∧ y = .str j ∧ i.length + j.length ≤ sizeLine ∧ Q (.str (i ++ j)) H) ∨ rCatP K x y H Q ∨ rCat x y H Q
theorem opr_add {X : Cx} : OpR X (binaryOp .Add) (rAddA X.K) := OpR.or op_add (OpR.or op_add_str (OpR.or op_catP op_cat))
theorem o_add {K : PySem.W.Frag} : Op2 K (rAddA K) pAdd := by
  intro pn b F H v u x y P Q o bv bu q k
  match x, y, q with
  | .int i, .int j, q => exact .inl ⟨i, j, bv.int, bu.int, k _ _ F H o .refl (.int _) q⟩
  | .str s, .str t, ⟨z, q⟩ => exact .inr (.inl ⟨s, t, bv.str, bu.str, z, k _ _ F H o .refl (.str _) q⟩)
  | .tuple xs, .tuple ys, ⟨z, q⟩ =>
    obtain ⟨a, vs, rfl, h1, r1⟩ := bv.tup o
    obtain ⟨c, us, rfl, h2, r2⟩ := bu.tup o
    refine .inr (.inr (.inl ⟨a, c, vs, us, rfl, rfl, h1, h2, by rw [r1.len, r2.len]; exact z, fun e => ?_, fun _ e => ?_, fun _ _ => k.tup o (r1.app r2) q⟩))
    · subst e
      cases r1
      rcases bu with bu | ⟨_, e, _⟩
      · exact k _ _ F H o .refl bu q
      · cases e
    · subst e
      cases r2
      rcases bv with bv | ⟨_, e, _⟩
      · exact k _ _ F H o .refl bv (by simpa using q)
      · cases e
  | .list xs, .list ys, ⟨z, q⟩ =>
    obtain ⟨a, vs, rfl, h1, r1⟩ := bv.list o
    obtain ⟨c, us, rfl, h2, r2⟩ := bu.list o
    exact .inr (.inr (.inr ⟨a, c, vs, us, rfl, rfl, h1, h2, by rw [r1.len, r2.len]; exact z, k.lst o (r1.app r2) q⟩))
def pI (C : Int → Int → Prop) (g : Int → Int → PyData) : P2
  | .int i, .int j, P => C i j ∧ P (g i j)
  | _, _, _ => False
theorem o_int {K : PySem.W.Frag} {C : Int → Int → Prop} {g : Int → Int → Int} : Op2 K (rI C fun i j => .int (g i j)) (pI C fun i j => .int (g i j)) := by
  intro pn b F H v u x y P Q o bv bu q k
  match x, y, q with
  | .int i, .int j, ⟨c, q⟩ => exact ⟨i, j, bv.int, bu.int, c, k _ _ F H o .refl (.int _) q⟩
theorem o_int0 {K : PySem.W.Frag} {g : Int → Int → Int} : Op2 K (rI0 fun i j => .int (g i j)) (pI (fun _ _ => True) fun i j => .int (g i j)) := by
  intro pn b F H v u x y P Q o bv bu q k
  match x, y, q with
  | .int i, .int j, ⟨c, q⟩ => exact ⟨i, j, bv.int, bu.int, k _ _ F H o .refl (.int _) q⟩
theorem o_intB {K : PySem.W.Frag} {g : Int → Int → Bool} : Op2 K (rI0 fun i j => .bl (g i j)) (pI (fun _ _ => True) fun i j => .bool (g i j)) := by
  intro pn b F H v u x y P Q o bv bu q k
  match x, y, q with
  | .int i, .int j, ⟨c, q⟩ => exact ⟨i, j, bv.int, bu.int, k _ _ F H o .refl (.bl _) q⟩
/-- list * int, int * int -/
def pMul : P2
  | .int i, .int j, P => CMul i j ∧ P (.int (i * j))
  | .list xs, .int k, P => -(2 ^ 63) ≤ k ∧ k < 2 ^ 63 ∧ xs.length * k.toNat ≤ sizeLine ∧ P (.list (List.replicate k.toNat xs).flatten)
  | _, _, _ => False
theorem RVs.rep {K : PySem.W.Frag} {F : Hp} {vs : List V} {ds : List PyData} (r : RVs K F vs ds) : ∀ n, RVs K F (List.replicate n vs).flatten (List.replicate n ds).flatten
  | 0 => .nil
  | n + 1 => by rw [List.replicate_succ, List.replicate_succ, List.flatten_cons, List.flatten_cons]; exact r.app (RVs.rep r n)
def rMulA : R2 := fun x y H Q => (rI CMul fun i j => .int (i * j)) x y H Q ∨ rRep x y H Q
theorem opr_mul {X : Cx} : OpR X (binaryOp .Mult) rMulA := OpR.or op_mul op_rep
mutual
theorem RV.dp {K : PySem.W.Frag} {F H : Hp} (s : Same F H) : ∀ {v : V} {d : PyData}, RV K F v d → d.canLay0 = true → Dp K H v d
  | _, _, .non, _ => .non
  | _, _, .bl b, _ => .bl b
  | _, _, .int i, _ => .int i
  | _, _, .str x, _ => .str x
  | _, _, .lst h r, c => .lst (SqL.of (s _ _ h)) (RVs.dp s r (by simpa [PyData.canLay0] using c))
  | _, _, .tup h r, c => .tup (Same.tup s h.sq) (RVs.dp s r (by simpa [PyData.canLay0] using c))
  | _, _, .dct h, c => by simp [PyData.canLay0] at c
theorem RVs.dp {K : PySem.W.Frag} {F H : Hp} (s : Same F H) : ∀ {vs : List V} {ds : List PyData}, RVs K F vs ds → PyData.canLayAll0 ds = true → DpAll K H vs ds
  | _, _, .nil, _ => .nil
  | _, _, .cons (d := d) (ds := ds) r t, c => by
    have c' : d.canLay0 = true ∧ PyData.canLayAll0 ds = true := by simpa [PyData.canLayAll0] using c
    exact .cons (RV.dp s r c'.1) (RVs.dp s t c'.2)
end
theorem BV.dp {K : PySem.W.Frag} {pn : Pn} {b : Nat} {F H : Hp} {v : V} {d : PyData} (h : BV K pn F H v d) (o : Ok pn b F H) (c : d.canLay0 = true) : Dp K H v d := by
  rcases h with h | ⟨xs, rfl, a, vs, rfl, _, _, _, h, r⟩
  · exact h.dp o.sub c
  · exact .lst (SqL.of h) (r.dp o.sub (by simpa [PyData.canLay0] using c))
def pNe : P2 := fun x y P => SeqAt.shaped x = true ∧ SeqAt.shaped y = true ∧ P (.bool (!PyData.eqv x y))
theorem o_ne {K : PySem.W.Frag} : Op2 K (rNeD K) pNe := by
  intro pn b F H v u x y P Q o bv bu ⟨s1, s2, q⟩ k
  exact ⟨x, y, bv.dp o (SeqAt.canLay_of_shaped s1), bu.dp o (SeqAt.canLay_of_shaped s2), s1, s2, k _ _ F H o .refl (.bl _) q⟩
/-- is None, is True -/
def isNon : PyData → Bool
  | .none => true
  | _ => false
def pIs (neg : Bool) : P2
  | x, .none, P => P (.bool (neg ^^ isNon x))
  | .bool i, .bool j, P => P (.bool (neg ^^ decide (i = j)))
  | _, _, _ => False
def rIsA : R2 := fun x y H Q => (y = .non ∧ Q (.bl (decide (x = .non))) H) ∨ rIsB x y H Q
def rNsA : R2 := fun x y H Q => (y = .non ∧ Q (.bl (!decide (x = .non))) H) ∨ rNotB x y H Q
theorem opr_is {X : Cx} : OpR X (compareOp .Is) rIsA := OpR.or op_isN op_isBl
theorem opr_ns {X : Cx} : OpR X (compareOp .IsNot) rNsA := OpR.or op_notN op_notBl
theorem BV.non_iff {K : PySem.W.Frag} {pn : Pn} {F H : Hp} {v : V} {d : PyData} (h : BV K pn F H v d) : decide (v = .non) = isNon d := by
  rcases h with h | ⟨xs, rfl, a, vs, rfl, _⟩
  · cases h <;> rfl
  · rfl
theorem o_is {K : PySem.W.Frag} : Op2 K rIsA (pIs false) := by
  intro pn b F H v u x y P Q o bv bu q k
  unfold pIs at q
  split at q
  · exact .inl ⟨bu.none', k _ _ F H o .refl (.bl _) (by rw [bv.non_iff]; simpa using q)⟩
  · exact .inr ⟨_, _, bv.bool, bu.bool, k _ _ F H o .refl (.bl _) (by simpa using q)⟩
  · exact q.elim
theorem o_ns {K : PySem.W.Frag} : Op2 K rNsA (pIs true) := by
  intro pn b F H v u x y P Q o bv bu q k
  unfold pIs at q
  split at q
  · exact .inl ⟨bu.none', k _ _ F H o .refl (.bl _) (by rw [bv.non_iff]; simpa using q)⟩
  · exact .inr ⟨_, _, bv.bool, bu.bool, k _ _ F H o .refl (.bl _) (by simpa using q)⟩
  · exact q.elim
/-- x[i] -/
def pIx : P2
  | .list xs, .int i, P => match atI xs i with | some v => P v | none => False
  | .tuple xs, .int i, P => match atI xs i with | some v => P v | none => False
  | .str z, .int i, P => z.length ≤ sizeLine ∧ match atI z.cps.toList i with | some c => P (.str ⟨#[c]⟩) | none => False
  | _, _, _ => False
theorem RVs.atI' {K : PySem.W.Frag} {F : Hp} {vs : List V} {ds : List PyData} {i : Int} {d : PyData} (r : RVs K F vs ds) (h : atI ds i = some d) : ∃ v, atI vs i = some v ∧ RV K F v d := by
  unfold atI at h ⊢
  rw [r.len]
  cases e : ixN ds.length i with
  | none => rw [e] at h; cases h
  | some j => rw [e] at h; exact r.at' h
theorem o_ix {K : PySem.W.Frag} : Op2 K (rIx K) pIx := by
  intro pn b F H v u x y P Q o bv bu q k
  unfold pIx at q
  split at q
  · split at q
    · rename_i h
      obtain ⟨a, vs, rfl, h1, r1⟩ := bv.list o
      obtain ⟨w, hw, rw_⟩ := r1.atI' h
      exact .inl ⟨a, vs, _, w, rfl, bu.int, SqL.of h1, hw, k _ _ F H o .refl rw_ q⟩
    · exact q.elim
  · split at q
    · rename_i h
      obtain ⟨a, vs, rfl, h1, r1⟩ := bv.tup o
      obtain ⟨w, hw, rw_⟩ := r1.atI' h
      exact .inr (.inl ⟨a, vs, _, w, rfl, bu.int, h1, hw, k _ _ F H o .refl rw_ q⟩)
    · exact q.elim
  · obtain ⟨z, q⟩ := q
    split at q
    · rename_i h
      exact .inr (.inr ⟨_, _, _, bv.str, bu.int, z, h, k _ _ F H o .refl (.str _) q⟩)
    · exact q.elim
  · exact q.elim
section
variable {X : Cx} {a c : Expr} {pos : Pos} {ta tb : WE}
theorem e_ix (ha : EB X a ta) (hb : EB X c tb) (hs : PlainIx c) : EE X (.Subscript a c pos) (wOp pIx ta tb) := PE.imp (pe_ix ix_seq ha hb hs) fun _ _ _ => op2 o_ix
end
abbrev P1 := PyData → (PyData → Prop) → Prop
def Cl1 (K : PySem.W.Frag) (r : List V → Hp → VK → Prop) (p : P1) : Prop :=
  ∀ (pn : Pn) (b : Nat) (F H : Hp) (v : V) (x : PyData) (P : PyData → Prop) (Q : VK), Ok pn b F H → BV K pn F H v x → p x P → Go K pn b F H P Q → r [v] H Q
def w1 (p : P1) (ta : WE) : WE := fun env b P => ta env b fun x b1 => p x fun z => P z b1
def Cl1L (K : PySem.W.Frag) (r : List V → Hp → VK → Prop) (p : PyData → (List PyData → Prop) → Prop) : Prop :=
  ∀ (pn : Pn) (b : Nat) (F H : Hp) (v : V) (x : PyData) (P : List PyData → Prop) (Q : VK), Ok pn b F H → BV K pn F H v x → p x P → GoL K pn b F H P Q → r [v] H Q
def w1L (p : PyData → (List PyData → Prop) → Prop) (ta : WE) : WF := fun env b P => ta env b fun x b1 => p x fun z => P z b1
section
variable {X : Cx} {e : Expr} {ta : WE} {x : Str} {p pos : Pos} {id T : String} {r : List V → Hp → VK → Prop} {q : P1}
theorem cl1 {K : PySem.W.Frag} (c : Cl1 K r q) {σ : L2.St} {H : Hp} {Q : VK} (h : lE K (w1 q ta) σ H Q) : tCB r (tCons (lB K ta) tNil) σ H Q := by
  obtain ⟨pn, F, env, b, P, rep, t, k⟩ := h
  exact ⟨pn, F, env, b, _, rep, t, fun v x F1 H1 b1 o1 e1 bv t1 => c pn b1 F1 H1 v x _ _ o1 bv t1 fun w z F' H' o3 e3 rv pz => k w z F' H' b1 o3 (e1.trans e3) rv pz⟩
theorem cl1L {K : PySem.W.Frag} {q : PyData → (List PyData → Prop) → Prop} (c : Cl1L K r q) {σ : L2.St} {H : Hp} {Q : VK} (h : lF K (w1L q ta) σ H Q) : tCB r (tCons (lB K ta) tNil) σ H Q := by
  obtain ⟨pn, F, env, b, P, rep, t, k⟩ := h
  exact ⟨pn, F, env, b, _, rep, t, fun v x F1 H1 b1 o1 e1 bv t1 => c pn b1 F1 H1 v x _ _ o1 bv t1 fun w z F' H' o3 e3 rv nw pz => k w z F' H' b1 o3 (e1.trans e3) rv (fun a e => e1.back rep.ok o1 (nw a e)) pz⟩
theorem e_call1 (hc : CallR X (.builtin id) r) (c : Cl1 X.K r q) (hg : Gl X x) (hm : X.mg x = none) (hv : bootBuiltins x = some (.builtin id)) (ha : EB X e ta) (hn : x ≠ "__name__" := by decide) (hdb : (x == ("__debug__" : Str)) = false := by decide)
    (he : starEach [e] X.env = (false, eval e X.env) :: starEach [] X.env := by rfl) : EE X (.Call (.Name x p) [e] [] pos) (w1 q ta) := PE.imp (pe_callB hc hg hm hv (pa_cons ha pa_nil he) hn hdb he) fun _ _ _ => cl1 c
theorem e_ty1 (hc : CallR X (.type T) r) (c : Cl1 X.K r q) (hg : Gl X x) (hm : X.mg x = none) (hv : bootBuiltins x = some (.type T)) (ha : EB X e ta) (hn : x ≠ "__name__" := by decide) (hdb : (x == ("__debug__" : Str)) = false := by decide)
    (he : starEach [e] X.env = (false, eval e X.env) :: starEach [] X.env := by rfl) : EE X (.Call (.Name x p) [e] [] pos) (w1 q ta) := PE.imp (pe_callTy hc hg hm hv (pa_cons ha pa_nil he) hn hdb he) fun _ _ _ => cl1 c
theorem f_ty1 {q : PyData → (List PyData → Prop) → Prop} (hc : CallR X (.type T) r) (c : Cl1L X.K r q) (hg : Gl X x) (hm : X.mg x = none) (hv : bootBuiltins x = some (.type T)) (ha : EB X e ta) (hn : x ≠ "__name__" := by decide) (hdb : (x == ("__debug__" : Str)) = false := by decide)
    (he : starEach [e] X.env = (false, eval e X.env) :: starEach [] X.env := by rfl) : EF X (.Call (.Name x p) [e] [] pos) (w1L q ta) := PE.imp (pe_callTy hc hg hm hv (pa_cons ha pa_nil he) hn hdb he) fun _ _ _ => cl1L c
end
def pLen : P1
  | .str z, P => z.length ≤ sizeLine ∧ P (.int z.length)
  | .list xs, P => P (.int xs.length)
  | .tuple xs, P => P (.int xs.length)
  | _, _ => False
theorem c_len {X : Cx} : Cl1 X.K (fun xs H Q => ∃ x n, xs = [x] ∧ LenV X.K x H n ∧ Q (.int n) H) pLen := by
  intro pn b F H v x P Q o bv q k
  match x, q with
  | .str z, ⟨h, q⟩ =>
    have e := bv.str
    subst e
    exact ⟨_, z.length, rfl, ⟨h, rfl⟩, k _ _ F H o .refl (.int _) q⟩
  | .list xs, q =>
    obtain ⟨a, vs, rfl, h1, r1⟩ := bv.list o
    exact ⟨_, vs.length, rfl, .inl ⟨vs, SqL.of h1, rfl⟩, k _ _ F H o .refl (by rw [r1.len]; exact .int _) q⟩
  | .tuple xs, q =>
    obtain ⟨a, vs, rfl, h1, r1⟩ := bv.tup o
    exact ⟨_, vs.length, rfl, .inr ⟨vs, h1, rfl⟩, k _ _ F H o .refl (by rw [r1.len]; exact .int _) q⟩
/-- list(x) of a list or tuple -/
def pListL : PyData → (List PyData → Prop) → Prop
  | .list xs, P => P xs
  | .tuple xs, P => P xs
  | _, _ => False
/-- int(b), int(i) -/
def pInt : P1
  | .int i, P => P (.int i)
  | .bool c, P => P (.int (if c then 1 else 0))
  | _, _ => False
theorem c_int {X : Cx} : Cl1 X.K (fun xs H Q => (∃ i, xs = [.int i] ∧ Q (.int i) H) ∨ ∃ k, xs = [.bl k] ∧ Q (.int (if k then 1 else 0)) H) pInt := by
  intro pn b F H v x P Q o bv q k
  match x, q with
  | .int i, q => exact .inl ⟨i, by rw [bv.int], k _ _ F H o .refl (.int _) q⟩
  | .bool c, q => exact .inr ⟨c, by rw [bv.bool], k _ _ F H o .refl (.int _) q⟩
/-- all(..), any(..) of a list of bools -/
def boolsOf : List PyData → Option (List Bool)
  | [] => some []
  | .bool c :: r => (boolsOf r).map (c :: ·)
  | _ :: _ => none
theorem RVs.bools {K : PySem.W.Frag} {F : Hp} : ∀ {vs : List V} {ds : List PyData} {bs : List Bool}, RVs K F vs ds → boolsOf ds = some bs → vs = bs.map V.bl
  | _, _, _, .nil, h => by simp [boolsOf] at h; subst h; rfl
  | _, _, bs, .cons (d := d) r t, h => by
    cases r with
    | bl c =>
      simp only [boolsOf, Option.map_eq_some_iff] at h
      obtain ⟨cs, h1, rfl⟩ := h
      rw [t.bools h1]; rfl
    | _ => simp [boolsOf] at h
def pAll : P1
  | .list xs, P => match boolsOf xs with | some bs => P (.bool (bs.all id)) | none => False
  | _, _ => False
def pAny : P1
  | .list xs, P => match boolsOf xs with | some bs => P (.bool (bs.any id)) | none => False
  | _, _ => False
theorem c_all {X : Cx} : Cl1 X.K (rAll X.K) pAll := by
  intro pn b F H v x P Q o bv q k
  match x, q with
  | .list xs, q =>
    obtain ⟨a, vs, rfl, h1, r1⟩ := bv.list o
    cases e : boolsOf xs with
    | none => simp only [pAll, e] at q
    | some bs =>
      simp only [pAll, e] at q
      have e2 := r1.bools e
      subst e2
      exact ⟨a, bs, rfl, SqL.of h1, k _ _ F H o .refl (.bl _) q⟩
theorem c_any {X : Cx} : Cl1 X.K (rAny X.K) pAny := by
  intro pn b F H v x P Q o bv q k
  match x, q with
  | .list xs, q =>
    obtain ⟨a, vs, rfl, h1, r1⟩ := bv.list o
    cases e : boolsOf xs with
    | none => simp only [pAny, e] at q
    | some bs =>
      simp only [pAny, e] at q
      have e2 := r1.bools e
      subst e2
      exact ⟨a, bs, rfl, SqL.of h1, k _ _ F H o .refl (.bl _) q⟩
def pTru : PyData → (Bool → Prop) → Prop
  | .none, P => P false
  | .bool c, P => P c
  | .int i, P => P (i != 0)
  | .str z, P => z.length ≤ sizeLine ∧ P ((z.length : Int) != 0)
  | .list xs, P => P (!xs.isEmpty)
  | .tuple xs, P => P (!xs.isEmpty)
  | .dict kvs, P => P (!kvs.isEmpty)
theorem isE {K : PySem.W.Frag} {F : Hp} {vs : List V} {ds : List PyData} (r : RVs K F vs ds) : (!vs.isEmpty) = !ds.isEmpty := by cases r <;> rfl
theorem tru {K : PySem.W.Frag} {pn : Pn} {b : Nat} {F H : Hp} {v : V} {x : PyData} (o : Ok pn b F H) (bv : BV K pn F H v x) {P : Bool → Prop} (q : pTru x P) : ∃ k, TruV K v H k ∧ P k := by
  match x, q with
  | .none, q => have e := bv.none'; subst e; exact ⟨false, rfl, q⟩
  | .bool c, q => have e := bv.bool; subst e; exact ⟨c, rfl, q⟩
  | .int i, q => have e := bv.int; subst e; exact ⟨_, rfl, q⟩
  | .str z, ⟨h, q⟩ => have e := bv.str; subst e; exact ⟨_, ⟨h, rfl⟩, q⟩
  | .list xs, q =>
    obtain ⟨a, vs, rfl, h1, r1⟩ := bv.list o
    exact ⟨_, .inl ⟨vs, SqL.of h1, rfl⟩, by rw [isE r1]; exact q⟩
  | .tuple xs, q =>
    obtain ⟨a, vs, rfl, h1, r1⟩ := bv.tup o
    exact ⟨_, .inr (.inl ⟨vs, h1, rfl⟩), by rw [isE r1]; exact q⟩
  | .dict kvs, q =>
    rcases bv with bv | ⟨_, e, _⟩
    · cases bv with
      | dct h => exact ⟨_, .inr (.inr ⟨[], o.sub _ _ h, rfl⟩), q⟩
    · cases e
def wTru (t : WE) : WT := fun env b P => t env b fun x b1 => pTru x fun k => P k b1
def wAndT (t u : WT) : WT := fun env b P => t env b fun c b1 => if c = true then u env b1 P else P false b1
def wOrT (t u : WT) : WT := fun env b P => t env b fun c b1 => if c = true then P true b1 else u env b1 P
def wNotT (t : WT) : WT := fun env b P => t env b fun c b1 => P (!c) b1
def wIfE (c : WT) (t u : WE) : WE := fun env b P => c env b fun k b1 => if k = true then t env b1 P else u env b1 P
def wOrE (t u : WE) : WE := fun env b P => t env b fun x b1 => pTru x fun k => if k = true then P x b1 else u env b1 P
def wAndE (t u : WE) : WE := fun env b P => t env b fun x b1 => pTru x fun k => if k = true then u env b1 P else P x b1
def wNotE (t : WE) : WE := fun env b P => t env b fun x b1 => pTru x fun k => P (.bool (!k)) b1
section
variable {X : Cx} {a c e : Expr} {pos : Pos} {rest : List Expr} {ta tb : WE} {ua ub : WT}
theorem t_tru (ha : EB X a ta) (he : ∀ whole, isTrue a X.env whole = (do let v ← whole; standAt a.pos; holding [v] (truthy v))) : ET X a (wTru ta) := PT.imp (pt_truth ha he) fun σ H Q ⟨pn, F, env, b, P, rep, t, k⟩ =>
  ⟨pn, F, env, b, _, rep, t, fun v x F1 H1 b1 o1 e1 bv t1 => let ⟨c, h1, h2⟩ := tru o1 bv t1; ⟨c, h1, k c F1 H1 b1 o1 e1 h2⟩⟩
theorem PW.imp {t u : TT} (h : PW X e t) (i : ∀ σ H Q, u σ H Q → t σ H Q) : PW X e u := ⟨fun wh pins s σ H Q I q => h.run wh pins s σ H Q I (i _ _ _ q)⟩
theorem tw_and (ha : ET X a ua) (hb : PW X (.BoolOp .And (c :: rest) pos) (lT X.K ub)) : PW X (.BoolOp .And (a :: c :: rest) pos) (lT X.K (wAndT ua ub)) := PW.imp (pw_and ha hb) fun σ H Q ⟨pn, F, env, b, P, rep, t, k⟩ => by
  refine ⟨pn, F, env, b, _, rep, t, fun kc F1 H1 b1 o1 e1 t1 => ?_⟩
  cases kc with
  | true => exact ⟨pn, F1, env, b1, _, rep.ext o1 e1, t1, fun k' F2 H2 b2 o2 e2 q => k k' F2 H2 b2 o2 (e1.trans e2) q⟩
  | false => exact k false F1 H1 b1 o1 e1 t1
theorem tw_or (ha : ET X a ua) (hb : PW X (.BoolOp .Or (c :: rest) pos) (lT X.K ub)) : PW X (.BoolOp .Or (a :: c :: rest) pos) (lT X.K (wOrT ua ub)) := PW.imp (pw_or ha hb) fun σ H Q ⟨pn, F, env, b, P, rep, t, k⟩ => by
  refine ⟨pn, F, env, b, _, rep, t, fun kc F1 H1 b1 o1 e1 t1 => ?_⟩
  cases kc with
  | false => exact ⟨pn, F1, env, b1, _, rep.ext o1 e1, t1, fun k' F2 H2 b2 o2 e2 q => k k' F2 H2 b2 o2 (e1.trans e2) q⟩
  | true => exact k true F1 H1 b1 o1 e1 t1
theorem t_not (ha : ET X a ua) : ET X (.UnaryOp .Not a pos) (wNotT ua) := PT.imp (pt_not ha) fun σ H Q ⟨pn, F, env, b, P, rep, t, k⟩ =>
  ⟨pn, F, env, b, _, rep, t, fun kc F1 H1 b1 o1 e1 t1 => k _ F1 H1 b1 o1 e1 t1⟩
theorem e_if (hc : ET X c ua) (ha : EE X a ta) (hb : EE X e tb) : EE X (.IfExp c a e pos) (wIfE ua ta tb) := PE.imp (pe_ifExp hc ha hb) fun σ H Q ⟨pn, F, env, b, P, rep, t, k⟩ => by
  refine ⟨pn, F, env, b, _, rep, t, fun kc F1 H1 b1 o1 e1 t1 => ?_⟩
  cases kc with
  | true => exact ⟨pn, F1, env, b1, _, rep.ext o1 e1, t1, fun v d F2 H2 b2 o2 e2 rv q => k v d F2 H2 b2 o2 (e1.trans e2) rv q⟩
  | false => exact ⟨pn, F1, env, b1, _, rep.ext o1 e1, t1, fun v d F2 H2 b2 o2 e2 rv q => k v d F2 H2 b2 o2 (e1.trans e2) rv q⟩
theorem e_or (ha : EE X a ta) (hb : EE X (.BoolOp .Or (c :: rest) pos) tb) : EE X (.BoolOp .Or (a :: c :: rest) pos) (wOrE ta tb) := PE.imp (pe_orT ha hb) fun σ H Q ⟨pn, F, env, b, P, rep, t, k⟩ => by
  refine ⟨pn, F, env, b, _, rep, t, fun v x F1 H1 b1 o1 e1 rv t1 => ?_⟩
  obtain ⟨kc, h1, h2⟩ := tru o1 (.inl rv) t1
  refine ⟨kc, h1, ?_⟩
  cases kc with
  | true => exact k v x F1 H1 b1 o1 e1 rv h2
  | false => exact ⟨pn, F1, env, b1, _, rep.ext o1 e1, h2, fun v d F2 H2 b2 o2 e2 rv q => k v d F2 H2 b2 o2 (e1.trans e2) rv q⟩
theorem e_and (ha : EE X a ta) (hb : EE X (.BoolOp .And (c :: rest) pos) tb) : EE X (.BoolOp .And (a :: c :: rest) pos) (wAndE ta tb) := PE.imp (pe_andT ha hb) fun σ H Q ⟨pn, F, env, b, P, rep, t, k⟩ => by
  refine ⟨pn, F, env, b, _, rep, t, fun v x F1 H1 b1 o1 e1 rv t1 => ?_⟩
  obtain ⟨kc, h1, h2⟩ := tru o1 (.inl rv) t1
  refine ⟨kc, h1, ?_⟩
  cases kc with
  | false => exact k v x F1 H1 b1 o1 e1 rv h2
  | true => exact ⟨pn, F1, env, b1, _, rep.ext o1 e1, h2, fun v d F2 H2 b2 o2 e2 rv q => k v d F2 H2 b2 o2 (e1.trans e2) rv q⟩
theorem e_not (ha : EB X a ta) : EE X (.UnaryOp .Not a pos) (wNotE ta) := PE.imp (pe_notT ha) fun σ H Q ⟨pn, F, env, b, P, rep, t, k⟩ =>
  ⟨pn, F, env, b, _, rep, t, fun v x F1 H1 b1 o1 e1 bv t1 => let ⟨c, h1, h2⟩ := tru o1 bv t1; ⟨c, h1, k _ _ F1 H1 b1 o1 e1 (.bl _) h2⟩⟩
end
def wC (d : PyData) : WE := fun _ b P => P d b
def wVar (i : Nat) : WE := fun env b P => match env[i]? with
  | some (some (.d x)) => P x b
  | some (some (.l xs)) => P (.list xs) b
  | some (some (.r xs)) => P (.list xs) b
  | _ => False
def wVal (i : Nat) : WE := fun env b P => match env[i]? with
  | some (some (.d x)) => P x b
  | _ => False
section
variable {X : Cx} {i : Nat} {x : Str} {pos : Pos}
theorem b_var (h : PE X (.Name x pos) (tVar i)) : EB X (.Name x pos) (wVar i) := PE.imp h fun σ H Q ⟨pn, F, env, b, P, rep, t, k⟩ => by
  unfold wVar at t
  split at t
  · rename_i y h
    obtain ⟨v, h1, h2⟩ := rep.slot i _ h
    exact ⟨v, h1, k v y F H b rep.ok .refl (.inl h2) t⟩
  · rename_i y h
    obtain ⟨v, h1, h2⟩ := rep.slot i _ h
    exact ⟨v, h1, k v _ F H b rep.ok .refl (.inr ⟨_, rfl, h2⟩) t⟩
  · rename_i y h
    obtain ⟨v, h1, h2⟩ := rep.slot i _ h
    exact ⟨v, h1, k v _ F H b rep.ok .refl (.inr ⟨_, rfl, h2⟩) t⟩
  · exact t.elim
theorem e_var (h : PE X (.Name x pos) (tVar i)) : EE X (.Name x pos) (wVal i) := PE.imp h fun σ H Q ⟨pn, F, env, b, P, rep, t, k⟩ => by
  unfold wVal at t
  split at t
  · rename_i y h
    obtain ⟨v, h1, h2⟩ := rep.slot i _ h
    exact ⟨v, h1, k v y F H b rep.ok .refl h2 t⟩
  · exact t.elim
theorem e_c {e : Expr} {v : V} {d : PyData} (h : PE X e (tC v)) (r : ∀ F, RV X.K F v d) : EE X e (wC d) := PE.imp h fun σ H Q ⟨pn, F, env, b, P, rep, t, k⟩ => k v d F H b rep.ok .refl (r F) t
theorem e_int {n : Int} {j : Nat} : EE X (.Constant (.int n) j pos) (wC (.int n)) := e_c pe_int fun _ => .int n
theorem e_bl {n : Bool} {j : Nat} : EE X (.Constant (.bool n) j pos) (wC (.bool n)) := e_c pe_bl fun _ => .bl n
theorem e_str {n : Str} {j : Nat} : EE X (.Constant (.str n) j pos) (wC (.str n)) := e_c pe_str fun _ => .str n
theorem e_non {j : Nat} : EE X (.Constant .none j pos) (wC .none) := e_c pe_non fun _ => .non
def wNeg (ta : WE) : WE := fun env b P => ta env b fun x b1 => match x with | .int i => P (.int (-i)) b1 | _ => False
theorem e_neg {e : Expr} {ta : WE} (ha : EB X e ta) : EE X (.UnaryOp .USub e pos) (wNeg ta) := PE.imp (pe_un un_neg ha) fun σ H Q ⟨pn, F, env, b, P, rep, t, k⟩ => by
  refine ⟨pn, F, env, b, _, rep, t, fun v x F1 H1 b1 o1 e1 bv t1 => ?_⟩
  match x, t1 with
  | .int i, t1 => exact ⟨i, bv.int, k _ _ F1 H1 b1 o1 e1 (.int _) t1⟩
end
abbrev WL := En → Nat → (List PyData → Nat → Prop) → Prop
def lD (K : PySem.W.Frag) (t : WL) : TA := fun σ H Q => ∃ pn F env b P, Rep K pn F H σ env b ∧ t env b P ∧
  ∀ vs ds F' H' b', Ok pn b' F' H' → Ext pn F H F' H' → RVs K F' vs ds → P ds b' → Q vs H'
abbrev ED (X : Cx) (es : List Expr) (t : WL) : Prop := PA X es (lD X.K t)
def wNil : WL := fun _ b P => P [] b
def wCons (t : WE) (u : WL) : WL := fun env b P => t env b fun x b1 => u env b1 fun xs b2 => P (x :: xs) b2
section
variable {X : Cx} {e : Expr} {es : List Expr} {pos : Pos} {te : WE} {t : WL}
theorem d_nil : ED X [] wNil := PA.imp pa_nil fun σ H Q ⟨pn, F, env, b, P, rep, t, k⟩ => k [] [] F H b rep.ok .refl .nil t
theorem d_cons (ha : EE X e te) (hr : ED X es t) (hs : starEach (e :: es) X.env = (false, eval e X.env) :: starEach es X.env := by rfl) : ED X (e :: es) (wCons te t) := PA.imp (pa_cons ha hr hs) fun σ H Q ⟨pn, F, env, b, P, rep, t, k⟩ =>
  ⟨pn, F, env, b, _, rep, t, fun v x F1 H1 b1 o1 e1 rv t1 => ⟨pn, F1, env, b1, _, rep.ext o1 e1, t1, fun vs ds F2 H2 b2 o2 e2 rvs q => k _ _ F2 H2 b2 o2 (e1.trans e2) (.cons (rv.mono e2.fsub) rvs) q⟩⟩
def wTup (t : WL) : WE := fun env b P => t env b fun xs b1 => xs.length ≤ sizeLine ∧ P (.tuple xs) b1
def wLst (t : WL) : WF := fun env b P => t env b fun xs b1 => xs.length ≤ sizeLine ∧ P xs b1
theorem e_tup {x1 : Nat} (h : ED X es t) : EE X (.Tuple es x1 pos) (wTup t) := PE.imp (pe_tupP h) fun σ H Q ⟨pn, F, env, b, P, rep, t, k⟩ =>
  ⟨pn, F, env, b, _, rep, t, fun vs ds F1 H1 b1 o1 e1 rvs ⟨z, q⟩ => ⟨by rw [rvs.len]; exact z, Go.tup (P := fun d => P d b1) (fun w z F' H' o2 e2 rv q => k w z F' H' b1 o2 (e1.trans e2) rv q) o1 rvs q⟩⟩
theorem f_lst (h : ED X es t) : EF X (.List es pos) (wLst t) := PE.imp (pe_lst h) fun σ H Q ⟨pn, F, env, b, P, rep, t, k⟩ =>
  ⟨pn, F, env, b, _, rep, t, fun vs ds F1 H1 b1 o1 e1 rvs ⟨z, q⟩ => ⟨by rw [rvs.len]; exact z, GoL.lst (P := fun d => P d b1) (fun w z F' H' o2 e2 rv nw q => k w z F' H' b1 o2 (e1.trans e2) rv (fun a e => e1.back rep.ok o1 (nw a e)) q) o1 rvs q⟩⟩
end
end Pu
namespace Pu
open PySem PySem.Spec PyProof.Rows L2
def tyD : PyData → String
  | .none => "NoneType"
  | .bool _ => "bool"
  | .int _ => "int"
  | .str _ => "str"
  | .list _ => "list"
  | .tuple _ => "tuple"
  | .dict _ => "dict"
def isiD (T : String) (d : PyData) : Bool := tyD d == T || (T == "int" && tyD d == "bool")
theorem BV.ty {K : PySem.W.Frag} {pn : Pn} {b : Nat} {F H : Hp} {v : V} {x : PyData} (o : Ok pn b F H) (bv : BV K pn F H v x) : TyX K H v (.type (tyD x)) := by
  rcases bv with bv | ⟨xs, rfl, a, vs, rfl, _, _, _, h, _⟩
  · cases bv with
    | non => exact .base .non
    | bl c => exact .base (.bl c)
    | int i => exact .base (.int i)
    | str i => exact .base (.str i)
    | lst h _ => exact .base (.lst (o.sub _ _ h))
    | dct h => exact .base (.dK (o.sub _ _ h))
    | tup h _ =>
      rcases h with ⟨ob, h, _⟩ | ⟨ob, _, _, hk, hc, _⟩
      · exact .fTuple (o.sub _ _ h)
      · exact .kTuple hk hc
  · exact .base (.lst h)
/-- the answers for the classes that are written -/
def KitT (T : String) : Prop := ∀ d : PyData, kitB (tyD d) T = some (isiD T d)
theorem kit_all (T : String) (h : (["NoneType", "bool", "int", "str", "list", "tuple", "dict"].all fun s => decide (kitB s T = some (s == T || (T == "int" && s == "bool")))) = true) : KitT T := fun d => by
  have h' := List.all_eq_true.mp h
  have : tyD d ∈ ["NoneType", "bool", "int", "str", "list", "tuple", "dict"] := by cases d <;> simp [tyD]
  exact of_decide_eq_true (h' _ this)
theorem kit_int : KitT "int" := kit_all _ (by decide +kernel)
theorem kit_bool : KitT "bool" := kit_all _ (by decide +kernel)
theorem kit_tuple : KitT "tuple" := kit_all _ (by decide +kernel)
theorem kit_list : KitT "list" := kit_all _ (by decide +kernel)
def pIsi (Ts : List String) : P1 := fun d P => P (.bool (Ts.any fun T => isiD T d))
section
variable {X : Cx} {e ec : Expr} {ta : WE} {x T : Str} {p pos tpos : Pos}
theorem e_isi {T : String} (kt : KitT T) (hg : Gl X "isinstance") (hm : X.mg "isinstance" = none) (ha : EB X e ta) (hc : PE X ec (tC (.ty T)))
    (he : starEach [e, ec] X.env = (false, eval e X.env) :: starEach [ec] X.env := by rfl) (he2 : starEach [ec] X.env = (false, eval ec X.env) :: starEach [] X.env := by rfl) (hpl : (backTo pos (starEach [ec] X.env)).any (·.1) = false := by rfl) :
    EE X (.Call (.Name "isinstance" p) [e, ec] [] pos) (w1 (pIsi [T]) ta) :=
  PE.imp (pe_callB call_isi hg hm (by decide +kernel) (pa_cons ha (pa_cons hc pa_nil he2) he) (by decide) (by decide) he hpl) fun σ H Q ⟨pn, F, env, b, P, rep, t, k⟩ =>
    ⟨pn, F, env, b, _, rep, t, fun v d F1 H1 b1 o1 e1 bv t1 => ⟨v, _, _, _, isiD T d, rfl, .ty T, bv.ty o1, kit_ty (kt d), k _ _ F1 H1 b1 o1 e1 (.bl _) (by simpa [pIsi] using t1)⟩⟩
/-- the classes of a written tuple -/
inductive Tys (X : Cx) : List Expr → List String → TA → Prop
  | nil : Tys X [] [] tNil
  | cons {e : Expr} {es : List Expr} {T : String} {Ts : List String} {t : TA} : KitT T → PE X e (tC (.ty T)) → starEach (e :: es) X.env = (false, eval e X.env) :: starEach es X.env → Tys X es Ts t → Tys X (e :: es) (T :: Ts) (tCons (tC (.ty T)) t)
theorem Tys.pa {es : List Expr} {Ts : List String} {t : TA} (h : Tys X es Ts t) : PA X es t := by
  induction h with
  | nil => exact pa_nil
  | cons _ h1 h2 _ ih => exact pa_cons h1 ih h2
theorem Tys.run {es : List Expr} {Ts : List String} {t : TA} (h : Tys X es Ts t) {σ : L2.St} {H : Hp} {Q : List V → Hp → Prop} (q : Q (Ts.map V.ty) H) : t σ H Q := by
  induction h generalizing Q with
  | nil => exact q
  | cons _ _ _ _ ih => exact ih q
theorem Tys.kit {es : List Expr} {Ts : List String} {t : TA} {K : PySem.W.Frag} (h : Tys X es Ts t) (d : PyData) : PySem.W.kitAny K (.type (tyD d)) (Ts.map Value.type) = some (Ts.any fun T => isiD T d) := by
  induction h with
  | nil => exact kitAny_nil
  | @cons e es T Ts t kt _ _ _ ih =>
    refine kitAny_cons (kit_ty (kt d)) (fun z => ?_) (fun z => ?_)
    · rw [ih, List.any_cons, z, Bool.false_or]
    · rw [List.any_cons, z, Bool.true_or]
theorem Tys.cls : ∀ Ts : List String, Paired ClsV (Ts.map V.ty) (Ts.map Value.type)
  | [] => .nil
  | T :: r => .cons (.ty T) (Tys.cls r)
end
abbrev WO := En → Nat → (Option Int → Nat → Prop) → Prop
def lO (K : PySem.W.Frag) (t : WO) : TO := fun σ H Q => ∃ pn F env b P, Rep K pn F H σ env b ∧ t env b P ∧
  ∀ o F' H' b', Ok pn b' F' H' → Ext pn F H F' H' → P o b' → Q o H'
abbrev EO (X : Cx) (e : Option Expr) (t : WO) : Prop := PO X e (lO X.K t)
theorem PO.imp {X : Cx} {e : Option Expr} {t u : TO} (h : PO X e t) (i : ∀ σ H Q, u σ H Q → t σ H Q) : PO X e u := ⟨fun pins s σ H Q I q => h.run pins s σ H Q I (i _ _ _ q)⟩
def wNoPart : WO := fun _ b P => P none b
def wPart (t : WE) : WO := fun env b P => t env b fun x b1 => match x with | .int i => P (some i) b1 | _ => False
theorem o_none {X : Cx} : EO X none wNoPart := PO.imp po_none fun σ H Q ⟨pn, F, env, b, P, rep, t, k⟩ => k none F H b rep.ok .refl t
theorem o_some {X : Cx} {e : Expr} {t : WE} (h : EB X e t) : EO X (some e) (wPart t) := PO.imp (po_some h) fun σ H Q ⟨pn, F, env, b, P, rep, t, k⟩ => by
  refine ⟨pn, F, env, b, _, rep, t, fun v x F1 H1 b1 o1 e1 bv t1 => ?_⟩
  match x, t1 with
  | .int i, t1 => exact ⟨i, bv.int, k _ F1 H1 b1 o1 e1 t1⟩
def cutD (xs : List PyData) (lo hi : Option Int) : List PyData := (xs.drop (HT.sIx xs.length 0 lo)).take (HT.sIx xs.length xs.length hi - HT.sIx xs.length 0 lo)
def pSl (lo hi : Option Int) : P1
  | .str z, P => z.length ≤ sizeLine ∧ P (.str (cutS z lo hi))
  | .tuple xs, P => P (.tuple (cutD xs lo hi))
  | .list xs, P => P (.list (cutD xs lo hi))
  | _, _ => False
def wSl (t : WE) (l h : WO) : WE := fun env b P => t env b fun x b1 => l env b1 fun lo b2 => h env b2 fun hi b3 => pSl lo hi x fun z => P z b3
def wSlL (t : WE) (l h : WO) : WF := fun env b P => t env b fun x b1 => l env b1 fun lo b2 => h env b2 fun hi b3 => match x with | .list xs => P (cutD xs lo hi) b3 | _ => False
theorem RVs.cut {K : PySem.W.Frag} {F : Hp} {vs : List V} {ds : List PyData} (r : RVs K F vs ds) (lo hi : Option Int) : RVs K F (cutV vs lo hi) (cutD ds lo hi) := by
  unfold cutV cutD
  rw [r.len]
  exact (r.drop' _).take' _
theorem cutV_whole {xs : List V} {lo hi : Option Int} (h : HT.sIx xs.length 0 lo = 0 ∧ HT.sIx xs.length xs.length hi = xs.length) : cutV xs lo hi = xs := by
  unfold cutV; rw [h.1, h.2]; simp
section
variable {X : Cx} {e : Expr} {te : WE} {lo hi : Option Expr} {tl th : WO} {pos p2 : Pos}
theorem e_sl (he : EB X e te) (hl : EO X lo tl) (hu : EO X hi th) : EE X (.Subscript e (.Slice lo hi none p2) pos) (wSl te tl th) :=
  PE.imp (pe_slice (SlR.or sl_str (SlR.or sl_tupP sl_list)) he hl hu) fun σ H Q ⟨pn, F, env, b, P, rep, t, k⟩ => by
    refine ⟨pn, F, env, b, _, rep, t, fun v x F1 H1 b1 o1 e1 bv t1 => ?_⟩
    refine ⟨pn, F1, env, b1, _, rep.ext o1 e1, t1, fun l F2 H2 b2 o2 e2 t2 => ?_⟩
    refine ⟨pn, F2, env, b2, _, (rep.ext o1 e1).ext o2 e2, t2, fun u F3 H3 b3 o3 e3 t3 => ?_⟩
    have bv3 := (bv.ext e2).ext e3
    have k3 : Go X.K pn b3 F3 H3 (fun z => P z b3) Q := fun w z F' H' o4 e4 rv q => k w z F' H' b3 o4 (e1.trans (e2.trans (e3.trans e4))) rv q
    match x, t3 with
    | .str z, ⟨hz, q⟩ => exact .inl ⟨z, bv3.str, hz, k3 _ _ F3 H3 o3 .refl (.str _) q⟩
    | .tuple xs, q =>
      rcases bv3 with bv3 | ⟨_, e, _⟩
      · cases bv3 with
        | tup h r =>
          refine .inr (.inl ⟨_, _, rfl, Same.tup o3.sub h.sq, fun z => ?_, fun z => k3.tup o3 (r.cut l u) q⟩)
          have := r.cut l u
          rw [cutV_whole z] at this
          exact k3 _ _ F3 H3 o3 .refl (.tup h this) q
      · cases e
    | .list xs, q =>
      obtain ⟨a, vs, rfl, h1, r1⟩ := bv3.list o3
      exact .inr (.inr ⟨a, vs, rfl, SqL.of h1, k3.lst o3 (r1.cut l u) q⟩)
theorem RVs.rev {K : PySem.W.Frag} {F : Hp} : ∀ {vs : List V} {ds : List PyData}, RVs K F vs ds → RVs K F vs.reverse ds.reverse
  | _, _, .nil => .nil
  | _, _, .cons r t => by rw [List.reverse_cons, List.reverse_cons]; exact (RVs.rev t).app (.one r)
end
def strsOf : List PyData → Option (List Str)
  | [] => some []
  | .str c :: r => (strsOf r).map (c :: ·)
  | _ :: _ => none
theorem RVs.strs {K : PySem.W.Frag} {F : Hp} : ∀ {vs : List V} {ds : List PyData} {bs : List Str}, RVs K F vs ds → strsOf ds = some bs → vs = bs.map V.str
  | _, _, _, .nil, h => by simp [strsOf] at h; subst h; rfl
  | _, _, bs, .cons (d := d) r t, h => by
    cases r with
    | str c =>
      simp only [strsOf, Option.map_eq_some_iff] at h
      obtain ⟨cs, h1, rfl⟩ := h
      rw [t.strs h1]; rfl
    | _ => simp [strsOf] at h
abbrev PS2 := Str → PyData → (PyData → Prop) → Prop
/-- sep.join(list of texts) -/
def pJoin : PS2
  | a, .list xs, P => match strsOf xs with | some ys => (ys.map (·.length)).sum + ys.length * a.length ≤ 16777216 ∧ P (.str (Txt.join a ys)) | none => False
  | _, _, _ => False
/-- s.index(t) -/
def pIndex : PS2
  | a, .str c, P => match Builtin.Str.occurrences a c 0 a.length 1 with | i :: _ => P (.int (i : Nat)) | [] => False
  | _, _, _ => False
/-- a method of a text with one argument -/
def wMS (p : PS2) (ta tb : WE) : WE := fun env b P => ta env b fun x b1 => match x with
  | .str a => tb env b1 fun y b2 => p a y fun z => P z b2
  | _ => False
def MsR (K : PySem.W.Frag) (r : V → List V → Hp → VK → Prop) (p : PS2) : Prop :=
  ∀ (pn : Pn) (b : Nat) (F H : Hp) (a : Str) (u : V) (y : PyData) (P : PyData → Prop) (Q : VK), Ok pn b F H → BV K pn F H u y → p a y P → Go K pn b F H P Q → r (.str a) [u] H Q
section
variable {X : Cx} {o e : Expr} {ta tb : WE} {apos pos : Pos}
theorem ms_run {r : V → List V → Hp → VK → Prop} {p : PS2} (m : MsR X.K r p) {σ : L2.St} {H : Hp} {Q : VK} (h : lE X.K (wMS p ta tb) σ H Q) : tM1 r (lB X.K ta) (lB X.K tb) σ H Q := by
  obtain ⟨pn, F, env, b, P, rep, t, k⟩ := h
  refine ⟨pn, F, env, b, _, rep, t, fun v x F1 H1 b1 o1 e1 bv t1 => ?_⟩
  cases x with
  | str a =>
    have e := bv.str
    subst e
    exact ⟨⟨a, rfl⟩, pn, F1, env, b1, _, rep.ext o1 e1, t1, fun u y F2 H2 b2 o2 e2 bu t2 => m pn b2 F2 H2 a u y _ Q o2 bu t2 fun w z F' H' o3 e3 rv q => k w z F' H' b2 o3 (e1.trans (e2.trans e3)) rv q⟩
  | _ => exact t1.elim
theorem m_join {K : PySem.W.Frag} : MsR K (fun x xs H Q => ∃ a p, ∃ ys : List Str, x = .str a ∧ xs = [.ref p] ∧ (SqL K H p (ys.map V.str) ∨ SqT K H p (ys.map V.str)) ∧ (ys.map (·.length)).sum + ys.length * a.length ≤ 16777216 ∧ Q (.str (Txt.join a ys)) H) pJoin := by
  intro pn b F H a u y P Q o bu q k
  match y, q with
  | .list xs, q =>
    obtain ⟨p, vs, rfl, h1, r1⟩ := bu.list o
    cases es : strsOf xs with
    | none => simp only [pJoin, es] at q
    | some ys =>
      simp only [pJoin, es] at q
      have e3 := r1.strs es
      subst e3
      exact ⟨a, p, ys, rfl, rfl, .inl (SqL.of h1), q.1, k _ _ F H o .refl (.str _) q.2⟩
theorem m_index {K : PySem.W.Frag} : MsR K (fun x xs H Q => ∃ a b i rest, x = .str a ∧ xs = [.str b] ∧ Builtin.Str.occurrences a b 0 a.length 1 = i :: rest ∧ Q (.int (i : Nat)) H) pIndex := by
  intro pn b F H a u y P Q o bu q k
  match y, q with
  | .str c, q =>
    cases h : Builtin.Str.occurrences a c 0 a.length 1 with
    | nil => simp only [pIndex, h] at q
    | cons i r =>
      simp only [pIndex, h] at q
      exact ⟨a, c, i, r, rfl, by rw [bu.str], h, k _ _ F H o .refl (.int _) q⟩
theorem e_join (ho : EB X o ta) (he : EB X e tb) (hs : starEach [e] X.env = [(false, eval e X.env)] := by rfl) (hbase : attributeBase o "join" X.env (eval o X.env) = eval o X.env := by rfl) (hline : (apos.endLine == pos.line) = true := by rfl) :
    EE X (.Call (.Attribute o "join" apos) [e] [] pos) (wMS pJoin ta tb) := PE.imp (pe_join ho he hs hbase hline) fun σ H Q h => ms_run m_join h
theorem e_index (ho : EB X o ta) (he : EB X e tb) (hs : starEach [e] X.env = [(false, eval e X.env)] := by rfl) (hbase : attributeBase o "index" X.env (eval o X.env) = eval o X.env := by rfl) (hline : (apos.endLine == pos.line) = true := by rfl) :
    EE X (.Call (.Attribute o "index" apos) [e] [] pos) (wMS pIndex ta tb) := PE.imp (pe_m1 F.slot_str_index F.type_str_index mt_sindex ho he hs hbase hline) fun σ H Q h => ms_run m_index h
end
def wANil : WA := fun _ b P => P [] b
def wACons (t : WE) (u : WA) : WA := fun env b P => t env b fun x b1 => u env b1 fun xs b2 => P (.d x :: xs) b2
/-- the pen, a list of one's own, handed on by name -/
def wAName (i : Nat) (u : WA) : WA := fun env b P => match env[i]? with
  | some (some .p) => u env b fun xs b2 => P (.p :: xs) b2
  | some (some (.d x)) => u env b fun xs b2 => P (.d x :: xs) b2
  | some (some (.l ys)) => u env b fun xs b2 => P (.r ys :: xs) b2
  | some (some (.r ys)) => u env b fun xs b2 => P (.r ys :: xs) b2
  | _ => False
def wCall (f : WD) (t : WA) : WE := fun env b P => t env b fun ss b1 => f ss b1 P
section
variable {X : Cx} {e : Expr} {es : List Expr} {te : WE} {t : WA} {i : Nat} {x : Str} {p pos : Pos} {f : Addr} {fd : FuncData} {ps : List Str} {k : Nat} {w : WD}
theorem a_nil : EA X [] wANil := PA.imp pa_nil fun σ H Q ⟨pn, F, env, b, P, rep, t, k⟩ => k [] [] F H b rep.ok .refl rep.tk t
theorem a_cons (ha : EE X e te) (hr : EA X es t) (hs : starEach (e :: es) X.env = (false, eval e X.env) :: starEach es X.env := by rfl) : EA X (e :: es) (wACons te t) := PA.imp (pa_cons ha hr hs) fun σ H Q ⟨pn, F, env, b, P, rep, t, k⟩ =>
  ⟨pn, F, env, b, _, rep, t, fun v x F1 H1 b1 o1 e1 rv t1 => ⟨pn, F1, env, b1, _, rep.ext o1 e1, t1, fun vs ss F2 H2 b2 o2 e2 ar q => k _ (.d x :: ss) F2 H2 b2 o2 (e1.trans e2) ⟨rv.mono e2.fsub, rfl, ar⟩ q⟩⟩
theorem a_name (ha : PE X (.Name x p) (tVar i)) (hr : EA X es t) (hs : starEach (.Name x p :: es) X.env = (false, eval (.Name x p) X.env) :: starEach es X.env := by rfl) : EA X (.Name x p :: es) (wAName i t) := PA.imp (pa_cons ha hr hs) fun σ H Q ⟨pn, F, env, b, P, rep, t, k⟩ => by
  unfold wAName at t
  split at t
  · rename_i h
    obtain ⟨v, h1, h2⟩ := rep.slot i _ h
    exact ⟨v, h1, pn, F, env, b, _, rep, t, fun vs ss F2 H2 b2 o2 e2 ar q => k _ (.p :: ss) F2 H2 b2 o2 e2 ⟨h2.ext e2, rfl, ar⟩ q⟩
  · rename_i y h
    obtain ⟨v, h1, h2⟩ := rep.slot i _ h
    exact ⟨v, h1, pn, F, env, b, _, rep, t, fun vs ss F2 H2 b2 o2 e2 ar q => k _ (.d y :: ss) F2 H2 b2 o2 e2 ⟨h2.ext e2, rfl, ar⟩ q⟩
  · rename_i ys h
    obtain ⟨v, h1, h2⟩ := rep.slot i _ h
    exact ⟨v, h1, pn, F, env, b, _, rep, t, fun vs ss F2 H2 b2 o2 e2 ar q => k _ (.r ys :: ss) F2 H2 b2 o2 e2 ⟨SlIs.ext (s := .r ys) h2 e2, rfl, ar⟩ q⟩
  · rename_i ys h
    obtain ⟨v, h1, h2⟩ := rep.slot i _ h
    exact ⟨v, h1, pn, F, env, b, _, rep, t, fun vs ss F2 H2 b2 o2 e2 ar q => k _ (.r ys :: ss) F2 H2 b2 o2 e2 ⟨h2.ext e2, rfl, ar⟩ q⟩
  · exact t.elim
theorem e_call (G : FnOk X.prog X.w X.K X.mg X.base CX0 k f fd ps (spW X.K w)) (hr : Room k X.A) (hg : Gl X x) (hm : X.mg x = some (.ref f)) (hk : PySem.W.keepIn X.K (.ref f) = true) (hb : Binds X.K fd ps []) (ha : EA X (e :: es) t) (hdb : (x == ("__debug__" : Str)) = false := by decide)
    (he : starEach (e :: es) X.env = (false, eval e X.env) :: starEach es X.env := by rfl) (hpl : (backTo pos (starEach es X.env)).any (·.1) = false := by rfl) : EE X (.Call (.Name x p) (e :: es) [] pos) (wCall w t) :=
  PE.imp (pe_call G hr hg hm hk hb .nil pass0 ha hdb he hpl) fun σ H Q ⟨pn, F, env, b, P, rep, t, k⟩ =>
    ⟨pn, F, env, b, _, rep, t, fun vs ss F1 H1 b1 o1 e1 ar t1 => ⟨pn, F1, ss, b1, P, o1, by rw [List.append_nil]; exact ar, t1, fun v d F' H' b' o' e' rv q => k v d F' H' b' o' (e1.trans e') rv q⟩⟩
end
end Pu
namespace Pu
open PySem PySem.Spec PyProof.Rows L2
section
variable {K : PySem.W.Frag} {pn : Pn} {b b' : Nat} {F0 H0 F H F' H' : Hp} {σ : L2.St} {env : En} {i : Nat} {v : V}
theorem RepS.ext' (r : RepS K pn F0 H0 F H σ env b) (k : Ok pn b' F' H') (e : Ext pn F H F' H') : RepS K pn F0 H0 F' H' σ env b' := ⟨r.rep.ext k e, r.ext.trans e, r.own⟩
theorem Rep.setD (r : Rep K pn F H σ env b) {d : PyData} (rv : RV K F v d) : Rep K pn F H (σ.set i (some v)) (env.set i (some (.d d))) b := by
  refine ⟨r.ok, by simp [r.len], fun j s h => ?_, fun j k a xs ys n h1 h2 h3 => ?_, r.tk⟩
  · by_cases e : j = i
    · subst e
      have hl : j < env.length := by have := (List.getElem?_eq_some_iff.mp h).1; simpa using this
      rw [List.getElem?_set_self hl] at h
      cases h
      exact ⟨v, List.getElem?_set_self (by rw [r.len]; exact hl), rv⟩
    · rw [List.getElem?_set_ne (Ne.symm e)] at h
      rw [List.getElem?_set_ne (Ne.symm e)]
      exact r.slot j s h
  · have e1 : j ≠ i := fun e => by
      subst e
      have hl : j < env.length := by have := (List.getElem?_eq_some_iff.mp h1).1; simpa using this
      rw [List.getElem?_set_self hl] at h1
      cases h1
    have e2 : k ≠ i := fun e => by
      subst e
      rcases h2 with h2 | h2
      all_goals
        have hl : k < env.length := by have := (List.getElem?_eq_some_iff.mp h2).1; simpa using this
        rw [List.getElem?_set_self hl] at h2
        cases h2
    rw [List.getElem?_set_ne (Ne.symm e1)] at h1 h3
    rw [List.getElem?_set_ne (Ne.symm e2)] at h2 ⊢
    exact r.apart j k a xs ys n h1 h2 h3
theorem RepS.setD (r : RepS K pn F0 H0 F H σ env b) {d : PyData} (rv : RV K F v d) : RepS K pn F0 H0 F H (σ.set i (some v)) (env.set i (some (.d d))) b := by
  refine ⟨r.rep.setD rv, r.ext, fun j a xs hs h1 h2 => ?_⟩
  have e1 : j ≠ i := fun e => by
    subst e
    have hl : j < env.length := by have := (List.getElem?_eq_some_iff.mp h1).1; simpa using this
    rw [List.getElem?_set_self hl] at h1
    cases h1
    cases hs
  rw [List.getElem?_set_ne (Ne.symm e1)] at h1 h2
  exact r.own j a xs hs h1 h2
/-- a list just made goes to a name -/
theorem RepS.setL (r : RepS K pn F0 H0 F H σ env b) {d : List PyData} (ow : OwnL K pn F H v d)
    (new : ∀ a, v = .ref a → H0 a = none ∧ ∀ (j : Nat) (ys : List PyData), (env[j]? = some (some (Sl.l ys)) ∨ env[j]? = some (some (Sl.r ys))) → σ[j]? ≠ some (some (V.ref a))) :
    RepS K pn F0 H0 F H (σ.set i (some v)) (env.set i (some (.l d))) b := by
  have get1 : ∀ (j : Nat) (s : Sl), (env.set i (some (.l d)))[j]? = some (some s) → (j = i ∧ s = .l d ∧ j < σ.length) ∨ (j ≠ i ∧ env[j]? = some (some s)) := fun j s h => by
    by_cases e : j = i
    · subst e
      have hl : j < env.length := by have := (List.getElem?_eq_some_iff.mp h).1; simpa using this
      rw [List.getElem?_set_self hl] at h
      cases h
      exact .inl ⟨rfl, rfl, by rw [r.rep.len]; exact hl⟩
    · rw [List.getElem?_set_ne (Ne.symm e)] at h
      exact .inr ⟨e, h⟩
  have get2 : ∀ (j : Nat), j ≠ i → (σ.set i (some v))[j]? = σ[j]? := fun j e => List.getElem?_set_ne (Ne.symm e)
  have get3 : i < σ.length → (σ.set i (some v))[i]? = some (some v) := fun h => List.getElem?_set_self h
  refine ⟨⟨r.rep.ok, by simp [r.rep.len], fun j s h => ?_, fun j k a xs ys n h1 h2 h3 => ?_, r.rep.tk⟩, r.ext, fun j a xs hq h1 h2 => ?_⟩
  · rcases get1 j s h with ⟨rfl, rfl, hl⟩ | ⟨e, h⟩
    · exact ⟨v, get3 hl, ow⟩
    · rw [get2 j e]; exact r.rep.slot j s h
  · have h2' : ∃ s, (env.set i (some (.l d)))[k]? = some (some s) ∧ (s = .l ys ∨ s = .r ys) := by rcases h2 with h2 | h2 <;> exact ⟨_, h2, by simp⟩
    obtain ⟨s2, h2', hs2⟩ := h2'
    rcases get1 j _ h1 with ⟨rfl, _, hl⟩ | ⟨e, g1⟩
    · rw [get3 hl] at h3
      cases h3
      rcases get1 k _ h2' with ⟨rfl, _, _⟩ | ⟨e2, h2'⟩
      · exact (n rfl).elim
      · rw [get2 k e2]
        exact (new a rfl).2 k ys (by rcases hs2 with rfl | rfl <;> simp [h2'])
    · rw [get2 j e] at h3
      rcases get1 k _ h2' with ⟨rfl, _, hl⟩ | ⟨e2, h2'⟩
      · rw [get3 hl]
        intro z
        cases z
        exact (new a rfl).2 j xs (.inl g1) h3
      · rw [get2 k e2]
        exact r.rep.apart j k a xs ys n g1 (by rcases hs2 with rfl | rfl <;> simp [h2']) h3
  · rcases get1 j _ h1 with ⟨rfl, _, hl⟩ | ⟨e, h1⟩
    · rw [get3 hl] at h2
      cases h2
      exact (new a rfl).1
    · rw [get2 j e] at h2
      exact r.own j a xs hq h1 h2
/-- a list of one's own is written -/
theorem RepS.write (r : RepS K pn F0 H0 F H σ env b) {xs ys : List PyData} {a : Addr} {ws : List V} (h : env[i]? = some (some (Sl.l xs))) (hs : σ[i]? = some (some (V.ref a))) (rv : RVs K F ws ys) :
    RepS K pn F0 H0 F (upd H a (.lst ws)) σ (env.set i (some (.l ys))) b := by
  have il : i < env.length := (List.getElem?_eq_some_iff.mp h).1
  obtain ⟨v, hv, ow⟩ := r.rep.slot i _ h
  rw [hs] at hv
  cases hv
  obtain ⟨a', vs, e, fa, np, nc, ha, _⟩ := ow
  cases e
  have n0 : H0 a = none := r.own i a _ rfl h hs
  have far : ∀ (j : Nat) (zs : List PyData) (w : V), j ≠ i → (env[j]? = some (some (Sl.l zs)) ∨ env[j]? = some (some (Sl.r zs))) → σ[j]? = some (some w) → w ≠ .ref a := fun j zs w n hj hw e => by
    subst e
    exact r.rep.apart i j a xs zs (Ne.symm n) h hj hs hw
  have keepO : ∀ {w : V} {zs : List PyData}, w ≠ .ref a → OwnL K pn F H w zs → OwnL K pn F (upd H a (.lst ws)) w zs := fun n ⟨c, us, e, f, p, q, hc, rc⟩ => by
    subst e
    exact ⟨c, us, rfl, f, p, q, by rw [upd_ne (fun z => n (by rw [z]))]; exact hc, rc⟩
  have pen' : PenIs pn b F (upd H a (.lst ws)) := r.rep.ok.pen.wr np nc
  refine ⟨⟨⟨fun c o q => ?_, pen'⟩, by simp [r.rep.len], fun j s hj => ?_, fun j k c zs us n h1 h2 h3 => ?_, r.rep.tk⟩, ⟨r.ext.fsub, fun c o hc f p => ?_⟩, fun j c zs hq h1 h2 => ?_⟩
  · rw [upd_ne (fun z => by rw [z, fa] at q; cases q)]; exact r.rep.ok.sub c o q
  · by_cases e : j = i
    · subst e
      rw [List.getElem?_set_self il] at hj
      cases hj
      exact ⟨_, hs, a, ws, rfl, fa, np, nc, upd_same, rv⟩
    · rw [List.getElem?_set_ne (Ne.symm e)] at hj
      obtain ⟨w, hw, sl⟩ := r.rep.slot j s hj
      refine ⟨w, hw, ?_⟩
      match s, sl, hj with
      | .d x, sl, _ => exact sl
      | .l zs, sl, hj => exact keepO (far j zs w e (.inl hj) hw) sl
      | .r zs, sl, hj => exact keepO (far j zs w e (.inr hj) hw) sl
      | .p, sl, _ => exact sl
      | .k zs, ⟨c, us, e, f, p, q, hc, rc⟩, _ => exact ⟨c, us, e, f, p, q, by rw [upd_ne (fun z => by rw [z, ha] at hc; exact nomatch hc)]; exact hc, rc⟩
  · have old : ∀ (m : Nat) (s : Sl), (env.set i (some (.l ys)))[m]? = some (some s) → (∃ zs, s = .l zs ∨ s = .r zs) → ∃ zs, env[m]? = some (some (Sl.l zs)) ∧ s = .l zs ∨ (m = i ∧ s = .l ys) ∨ env[m]? = some (some (Sl.r zs)) ∧ s = .r zs := fun m s hm hz => by
      by_cases e : m = i
      · subst e
        rw [List.getElem?_set_self il] at hm
        cases hm
        exact ⟨[], .inr (.inl ⟨rfl, rfl⟩)⟩
      · rw [List.getElem?_set_ne (Ne.symm e)] at hm
        obtain ⟨zs, rfl | rfl⟩ := hz
        · exact ⟨zs, .inl ⟨hm, rfl⟩⟩
        · exact ⟨zs, .inr (.inr ⟨hm, rfl⟩)⟩
    have h1' : ∃ zs', env[j]? = some (some (Sl.l zs')) := by
      obtain ⟨z, ⟨q, _⟩ | ⟨q, _⟩ | ⟨_, q⟩⟩ := old j _ h1 ⟨zs, .inl rfl⟩
      · exact ⟨z, q⟩
      · exact ⟨xs, by rw [q]; exact h⟩
      · cases q
    have h2' : ∃ us', env[k]? = some (some (Sl.l us')) ∨ env[k]? = some (some (Sl.r us')) := by
      rcases h2 with h2 | h2
      · obtain ⟨z, ⟨q, _⟩ | ⟨q, _⟩ | ⟨q, _⟩⟩ := old k _ h2 ⟨us, .inl rfl⟩
        · exact ⟨z, .inl q⟩
        · exact ⟨xs, .inl (by rw [q]; exact h)⟩
        · exact ⟨z, .inr q⟩
      · obtain ⟨z, ⟨q, _⟩ | ⟨q, _⟩ | ⟨q, _⟩⟩ := old k _ h2 ⟨us, .inr rfl⟩
        · exact ⟨z, .inl q⟩
        · exact ⟨xs, .inl (by rw [q]; exact h)⟩
        · exact ⟨z, .inr q⟩
    obtain ⟨z1, h1'⟩ := h1'
    obtain ⟨z2, h2'⟩ := h2'
    exact r.rep.apart j k c z1 z2 n h1' h2' h3
  · obtain ⟨q1, q2⟩ := r.ext.keep c o hc f p
    exact ⟨by rw [upd_ne (fun z => by rw [z, n0] at hc; cases hc)]; exact q1, q2⟩
  · by_cases e : j = i
    · subst e
      rw [hs] at h2
      cases h2
      exact n0
    · rw [List.getElem?_set_ne (Ne.symm e)] at h1
      exact r.own j c zs hq h1 h2
end
end Pu
namespace Pu
open PySem PySem.Spec PyProof.Rows L2
inductive Tg where
  | nm (i : Nat)
  | tp (is : List Nat)
def gs : List Nat → TGs
  | [] => gNil
  | i :: r => gCons (gName i) (gs r)
def gT (K : PySem.W.Frag) : Tg → TG
  | .nm i => gName i
  | .tp is => gTup K is.length (gs is)
def setAll : List Nat → List PyData → En → En
  | i :: r, d :: ds, env => setAll r ds (env.set i (some (.d d)))
  | _, _, env => env
def setT : Tg → PyData → En → Option En
  | .nm i, d, env => some (env.set i (some (.d d)))
  | .tp is, .tuple ds, env => if ds.length = is.length then some (setAll is ds env) else none
  | _, _, _ => none
def vsAll : List Nat → List V → L2.St → L2.St
  | i :: r, v :: vs, σ => vsAll r vs (σ.set i (some v))
  | _, _, σ => σ
section
variable {K : PySem.W.Frag} {pn : Pn} {b : Nat} {F0 H0 F H : Hp}
theorem gs_run : ∀ (is : List Nat) {vs : List V} {ds : List PyData} {σ : L2.St} {Q : L2.St → Hp → Prop}, RVs K F vs ds → ds.length = is.length → Q (vsAll is vs σ) H → gs is vs σ H Q
  | [], _, _, _, _, .nil, _, q => ⟨rfl, q⟩
  | i :: r, _, _, _, _, .cons rv t, h, q => ⟨_, _, rfl, gs_run r t (by simpa using h) q⟩
  | [], _, _, _, _, .cons _ _, h, _ => by simp at h
  | _ :: _, _, _, _, _, .nil, h, _ => by simp at h
theorem set_run : ∀ (is : List Nat) {vs : List V} {ds : List PyData} {σ : L2.St} {env : En}, RVs K F vs ds → RepS K pn F0 H0 F H σ env b → RepS K pn F0 H0 F H (vsAll is vs σ) (setAll is ds env) b
  | [], _, _, _, _, _, r => by simpa [vsAll, setAll] using r
  | i :: is, _, _, _, _, .nil, r => by simpa [vsAll, setAll] using r
  | i :: is, _, _, _, _, .cons rv t, r => set_run is t (r.setD rv)
theorem set_runE : ∀ (is : List Nat) {vs : List V} {ds : List PyData} {σ : L2.St} {env : En}, RVs K F vs ds → Rep K pn F H σ env b → Rep K pn F H (vsAll is vs σ) (setAll is ds env) b
  | [], _, _, _, _, _, r => by simpa [vsAll, setAll] using r
  | i :: is, _, _, _, _, .nil, r => by simpa [vsAll, setAll] using r
  | i :: is, _, _, _, _, .cons rv t, r => set_runE is t (r.setD rv)
def sT : Tg → V → List V → L2.St → L2.St
  | .nm i, v, _, σ => σ.set i (some v)
  | .tp is, _, vs, σ => vsAll is vs σ
/-- an item that is walked over: a datum, or (w = false) a pair that is taken apart at once -/
def RVw (K : PySem.W.Frag) (w : Bool) (F H : Hp) (v : V) (d : PyData) : Prop := RV K F v d ∨ (w = false ∧ ∃ a vs ds, v = .ref a ∧ d = .tuple ds ∧ SqT K H a vs ∧ RVs K F vs ds)
theorem gT_run {g : Tg} {w : Bool} {v : V} {d : PyData} {σ : L2.St} {env env' : En} {Q : L2.St → Hp → Prop} (o : Ok pn b F H) (rv : RVw K w F H v d) (hw : w = true ∨ ∃ is, g = .tp is) (h : setT g d env = some env')
    (q : ∀ vs, (RepS K pn F0 H0 F H σ env b → RepS K pn F0 H0 F H (sT g v vs σ) env' b) → (Rep K pn F H σ env b → Rep K pn F H (sT g v vs σ) env' b) → Q (sT g v vs σ) H) : gT K g v σ H Q := by
  cases g with
  | nm i =>
    cases h
    rcases rv with rv | ⟨e, _⟩
    · exact q [] (fun r => r.setD rv) (fun r => r.setD rv)
    · subst e
      rcases hw with e | ⟨_, e⟩ <;> cases e
  | tp is =>
    have two : ∀ a xs ds, v = .ref a → d = .tuple ds → SqT K H a xs → RVs K F xs ds → gT K (.tp is) v σ H Q := fun a xs ds e1 e2 hq r => by
      subst e1 e2
      by_cases hl : ds.length = is.length
      · have h2 : some (setAll is ds env) = some env' := by
          have : setT (.tp is) (.tuple ds) env = some (setAll is ds env) := if_pos hl
          rw [← this]; exact h
        cases h2
        exact ⟨_, _, rfl, hq, by rw [r.len]; exact hl, gs_run is r hl (q _ (fun z => set_run is r z) (fun z => set_runE is r z))⟩
      · have : setT (.tp is) (.tuple ds) env = none := if_neg hl
        rw [this] at h
        cases h
    rcases rv with rv | ⟨_, a, xs, ds, e1, e2, hq, r⟩
    · cases rv with
      | @tup a xs ds hq r => exact two a xs ds rfl rfl (Same.tup o.sub hq.sq) r
      | _ => cases h
    · exact two a xs ds e1 e2 hq r
end
section
variable {X : Cx} {pos : Pos}
abbrev PGt (X : Cx) (e : Expr) (g : Tg) : Prop := PG X e (gT X.K g)
theorem g_nm {i : Nat} {x : Str} (hN : X.N.Nodup) (hi : X.N[i]? = some x) (hx : Loc X.env.scope x) (hf : X.fn x = true ∨ X.env.scope.names.lookup x = some .local := by first | exact .inl rfl | exact .inr rfl) : PGt X (.Name x pos) (.nm i) := pg_name hN hi hx hf
inductive Gs (X : Cx) : List Expr → List Nat → Prop
  | nil : Gs X [] []
  | cons {e : Expr} {es : List Expr} {i : Nat} {is : List Nat} : PG X e (gName i) → (assignEach (e :: es) X.env).map (·.2) = assign e X.env :: (assignEach es X.env).map (·.2) → Gs X es is → Gs X (e :: es) (i :: is)
theorem Gs.pg {es : List Expr} {is : List Nat} (h : Gs X es is) : PGs X es (gs is) := by
  induction h with
  | nil => exact pgs_nil
  | cons h1 h2 _ ih => exact pgs_cons h1 ih h2
theorem g_tp {es : List Expr} {k : Nat} {is : List Nat} (hc : X.calm = true) (h : Gs X es is) (hn : (assignEach es X.env).length = is.length := by rfl) (hst : (assignEach es X.env).findIdx? (·.1) = none := by rfl) : PGt X (.Tuple es k pos) (.tp is) := pg_tup hc h.pg hn hst
end
/-- still: what must stand of the source (m: nothing but what a step may do; else what is settled stays) -/
def Cs (m : Bool) (pn : Pn) (F1 H1 F H : Hp) : Prop := match m with
  | true => Ext pn F1 H1 F H
  | false => Same F1 F
theorem Cs.same {m : Bool} {pn : Pn} {F1 H1 F H : Hp} (h : Cs m pn F1 H1 F H) : Same F1 F := match m, h with
  | true, h => h.fsub
  | false, h => h
def ItOk (K : PySem.W.Frag) (pn : Pn) (w : Bool) (C : Hp → Hp → Prop) (J : It) (items : List PyData) : Prop :=
  ∀ (i : Nat) (F H : Hp) (b : Nat), Ok pn b F H → C F H → (i < items.length → J.go i H) ∧ (items.length ≤ i → J.stop i H) ∧
    ∀ (x : V) (H' : Hp), J.yld i H x H' → i < items.length → ∃ F' d, items[i]? = some d ∧ RVw K w F' H' x d ∧ Ok pn b F' H' ∧ Ext pn F H F' H'
abbrev WI := En → Nat → (List PyData → Nat → Prop) → Prop
def lI (K : PySem.W.Frag) (m w : Bool) (t : WI) : TI := fun σ H R => ∃ pn F env b P, Rep K pn F H σ env b ∧ t env b P ∧
  ∀ items F' H' b' J, Ok pn b' F' H' → Ext pn F H F' H' → ItOk K pn w (Cs m pn F' H') J items → P items b' → R J H'
section
variable {X : Cx} {tg e : Expr}
theorem PI.imp {t u : TI} (h : PI X tg e t) (i : ∀ σ H R, u σ H R → t σ H R) : PI X tg e u := ⟨fun pins s σ H R I q => h.run pins s σ H R I (i _ _ _ q)⟩
theorem it_list {K : PySem.W.Frag} {pn : Pn} {C : Hp → Hp → Prop} {a : Addr} {items : List PyData} (h : ∀ F H b, Ok pn b F H → C F H → ∃ vs, H a = some (.lst vs) ∧ RVs K F vs items) : ItOk K pn true C (Itl K a) items := fun i F H b o c => by
  obtain ⟨vs, ha, r⟩ := h F H b o c
  refine ⟨fun hi => ?_, fun hi => ⟨vs, SqL.of ha, by rw [r.len]; exact hi⟩, fun x H' y hi => ?_⟩
  · obtain ⟨v, hv, _⟩ := r.at' (List.getElem?_eq_getElem hi)
    exact ⟨vs, v, SqL.of ha, hv⟩
  · obtain ⟨rfl, y⟩ := y
    obtain ⟨v, hv, rv⟩ := r.at' (List.getElem?_eq_getElem hi)
    have e1 := y vs (SqL.of ha)
    rw [hv] at e1
    cases e1
    exact ⟨F, _, List.getElem?_eq_getElem hi, .inl rv, o, .refl⟩
theorem it_tup {K : PySem.W.Frag} {pn : Pn} {C : Hp → Hp → Prop} {a : Addr} {items : List PyData} (h : ∀ F H b, Ok pn b F H → C F H → ∃ vs, SqT K H a vs ∧ RVs K F vs items) : ItOk K pn true C (Itt K a) items := fun i F H b o c => by
  obtain ⟨vs, ha, r⟩ := h F H b o c
  refine ⟨fun hi => ?_, fun hi => ⟨vs, ha, by rw [r.len]; exact hi⟩, fun x H' y hi => ?_⟩
  · obtain ⟨v, hv, _⟩ := r.at' (List.getElem?_eq_getElem hi)
    exact ⟨vs, v, ha, hv⟩
  · obtain ⟨rfl, y⟩ := y
    obtain ⟨v, hv, rv⟩ := r.at' (List.getElem?_eq_getElem hi)
    have e1 := y vs ha
    rw [hv] at e1
    cases e1
    exact ⟨F, _, List.getElem?_eq_getElem hi, .inl rv, o, .refl⟩
def signs (z : Str) : List PyData := z.cps.toList.map fun c => .str ⟨#[c]⟩
theorem it_str {K : PySem.W.Frag} {pn : Pn} {C : Hp → Hp → Prop} {z : Str} : ItOk K pn true C (Its z) (signs z) := fun i F H b o c => by
  have hl : (signs z).length = z.cps.size := by simp [signs]
  refine ⟨fun hi => by rw [hl] at hi; exact hi, fun hi => by rw [hl] at hi; exact hi, fun x H' y hi => ?_⟩
  obtain ⟨rfl, c, hc, rfl⟩ := y
  refine ⟨F, .str ⟨#[c]⟩, ?_, .inl (.str _), o, .refl⟩
  unfold signs
  rw [List.getElem?_map, Array.getElem?_toList, hc]
  rfl
def seqOf : PyData → Option (List PyData)
  | .list xs => some xs
  | .tuple xs => some xs
  | .str z => some (signs z)
  | _ => none
def wSeq (t : WE) : WI := fun env b P => t env b fun x b1 => match seqOf x with | some xs => P xs b1 | none => False
/-- a list, a tuple, a text -/
def iAny (K : PySem.W.Frag) (te : TE) : TI := fun σ H R => te σ H fun x H1 => (∃ a, x = .ref a ∧ (∃ xs, SqL K H1 a xs) ∧ R (Itl K a) H1) ∨ (∃ a, x = .ref a ∧ (∃ xs, SqT K H1 a xs) ∧ R (Itt K a) H1) ∨ ∃ z, x = .str z ∧ R (Its z) H1
theorem i_any {te : TE} (hl : PE X e te) : PI X tg e (iAny X.K te) := by
  refine ⟨fun pins s σ H R I h => ?_⟩
  refine thn (hl.run pins s σ H _ I h) fun v s1 q => ?_
  obtain ⟨x, H1, I1, r1, q1⟩ := q
  rcases q1 with ⟨a, rfl, ⟨xs, hq⟩, q⟩ | ⟨a, rfl, ⟨xs, hq⟩, q⟩ | ⟨z, rfl, q⟩
  · cases r1
    obtain ⟨its, rv, p, hz⟩ := I1.list hq
    exact wpAny_pyIter_list p.isList (pi_one (tk := s1.toks) I1 _ (turn_list a _) ⟨_, Heap.get?_push_size _ rfl, rfl, rfl⟩ q)
  · cases r1
    obtain ⟨its, rv, p, hz⟩ := I1.tuple hq
    exact wpAny_pyIter_tuple (show s1.heap.IsTuple a its.toArray from p) (pi_one (tk := s1.toks) I1 _ (turn_tuple a _) ⟨_, Heap.get?_push_size _ rfl, rfl, rfl⟩ q)
  · obtain ⟨t, rfl⟩ := r1
    cases ha : z.cps.all (· < 128)
    · exact wpAny_pyIter_wide ha (pi_one (tk := s1.toks) I1 _ (turn_str _ z t "str_iterator" (.inr rfl)) ⟨_, Heap.get?_push_size _ rfl, rfl, rfl⟩ q)
    · exact wpAny_pyIter_ascii ha (pi_one (tk := s1.toks) I1 _ (turn_str _ z t "str_ascii_iterator" (.inl rfl)) ⟨_, Heap.get?_push_size _ rfl, rfl, rfl⟩ q)
/-- .. that is settled -/
theorem i_seq {t : WE} (m : Bool) (h : EE X e t) : PI X tg e (lI X.K m true (wSeq t)) := PI.imp (i_any h) fun σ H R ⟨pn, F, env, b, P, rep, w, k⟩ => by
  refine ⟨pn, F, env, b, _, rep, w, fun v x F1 H1 b1 o1 e1 rv t1 => ?_⟩
  cases rv with
  | lst h r => exact .inl ⟨_, rfl, ⟨_, SqL.of (o1.sub _ _ h)⟩, k _ F1 H1 b1 _ o1 e1 (it_list fun F H b o c => ⟨_, o.sub _ _ (c.same _ _ h), r.mono c.same⟩) t1⟩
  | tup h r => exact .inr (.inl ⟨_, rfl, ⟨_, Same.tup o1.sub h.sq⟩, k _ F1 H1 b1 _ o1 e1 (it_tup fun F H b o c => ⟨_, Same.tup o.sub (Same.tup c.same h.sq), r.mono c.same⟩) t1⟩)
  | str z => exact .inr (.inr ⟨z, rfl, k _ F1 H1 b1 _ o1 e1 it_str t1⟩)
  | _ => exact t1.elim
/-- .. or a list of one's own -/
theorem i_seqB {t : WE} (h : EB X e t) : PI X tg e (lI X.K true true (wSeq t)) := PI.imp (i_any h) fun σ H R ⟨pn, F, env, b, P, rep, w, k⟩ => by
  refine ⟨pn, F, env, b, _, rep, w, fun v x F1 H1 b1 o1 e1 bv t1 => ?_⟩
  rcases bv with rv | ⟨xs, rfl, a, vs, rfl, f, np, nc, ha, r⟩
  · cases rv with
    | lst h r => exact .inl ⟨_, rfl, ⟨_, SqL.of (o1.sub _ _ h)⟩, k _ F1 H1 b1 _ o1 e1 (it_list fun F H b o c => ⟨_, o.sub _ _ (c.fsub _ _ h), r.mono c.fsub⟩) t1⟩
    | tup h r => exact .inr (.inl ⟨_, rfl, ⟨_, Same.tup o1.sub h.sq⟩, k _ F1 H1 b1 _ o1 e1 (it_tup fun F H b o c => ⟨_, Same.tup o.sub (Same.tup c.fsub h.sq), r.mono c.fsub⟩) t1⟩)
    | str z => exact .inr (.inr ⟨z, rfl, k _ F1 H1 b1 _ o1 e1 it_str t1⟩)
    | _ => exact t1.elim
  · exact .inl ⟨a, rfl, ⟨vs, SqL.of ha⟩, k _ F1 H1 b1 _ o1 e1 (it_list fun F H b o c => ⟨vs, (c.keep _ _ ha f np).1, r.mono c.fsub⟩) t1⟩
/-- range(n), range(i, j) -/
def rngD (lo : Int) (n : Nat) : List PyData := (List.range n).map fun (i : Nat) => .int (lo + i)
theorem it_rng {K : PySem.W.Frag} {pn : Pn} {C : Hp → Hp → Prop} {lo : Int} {n : Nat} : ItOk K pn true C (Itr lo n) (rngD lo n) := fun i F H b o c => by
  have hl : (rngD lo n).length = n := by simp [rngD]
  refine ⟨fun hi => by rw [hl] at hi; exact hi, fun hi => by rw [hl] at hi; exact hi, fun x H' y hi => ?_⟩
  obtain ⟨rfl, rfl⟩ := y
  rw [hl] at hi
  refine ⟨F, .int (lo + i), ?_, .inl (.int _), o, .refl⟩
  unfold rngD
  rw [List.getElem?_map, List.getElem?_range hi]
  rfl
def wRng1 (t : WE) : WI := fun env b P => t env b fun x b1 => match x with | .int j => -(2 ^ 62) ≤ j ∧ j < 2 ^ 62 ∧ P (rngD 0 j.toNat) b1 | _ => False
theorem i_rng1 {a : Expr} {t : WE} {p pos : Pos} (m : Bool) (hg : Gl X "range") (hm : X.mg "range" = none) (ha : EB X a t) (hs : starEach [a] X.env = [(false, eval a X.env)] := by rfl) : PI X tg (.Call (.Name "range" p) [a] [] pos) (lI X.K m true (wRng1 t)) :=
  PI.imp (pi_range1 hg hm (pa_cons ha pa_nil hs) hs) fun σ H R ⟨pn, F, env, b, P, rep, w, k⟩ => by
    refine ⟨pn, F, env, b, _, rep, w, fun v x F1 H1 b1 o1 e1 bv t1 => ?_⟩
    cases x with
    | int j => exact ⟨j, by rw [bv.int], t1.1, t1.2.1, k _ F1 H1 b1 _ o1 e1 it_rng t1.2.2⟩
    | _ => exact t1.elim
/-- enumerate(list) -/
def enumD (xs : List PyData) : List PyData := xs.zipIdx.map fun p => .tuple [.int (p.2 : Nat), p.1]
theorem enumD_at {xs : List PyData} {i : Nat} {d : PyData} (h : xs[i]? = some d) : (enumD xs)[i]? = some (.tuple [.int (i : Nat), d]) := by
  unfold enumD
  rw [List.getElem?_map, List.getElem?_zipIdx, h]
  simp
theorem it_enum {K : PySem.W.Frag} {pn : Pn} {C : Hp → Hp → Prop} {a : Addr} {items : List PyData} (h : ∀ F H b, Ok pn b F H → C F H → ∃ vs, H a = some (.lst vs) ∧ RVs K F vs items) : ItOk K pn false C (Ite K a) (enumD items) := fun i F H b o c => by
  obtain ⟨vs, ha, r⟩ := h F H b o c
  have hl : (enumD items).length = items.length := by simp [enumD]
  refine ⟨fun hi => ?_, fun hi => ⟨vs, SqL.of ha, by rw [r.len, ← hl]; exact hi⟩, fun x H' y hi => ?_⟩
  · obtain ⟨v, hv, _⟩ := r.at' (List.getElem?_eq_getElem (by rw [← hl]; exact hi))
    exact ⟨vs, v, SqL.of ha, hv⟩
  · obtain ⟨T, w, rfl, nT, rfl, y⟩ := y
    have hi' : i < items.length := by rw [← hl]; exact hi
    obtain ⟨v, hv, rv⟩ := r.at' (List.getElem?_eq_getElem hi')
    have e1 := y vs (SqL.of ha)
    rw [hv] at e1
    cases e1
    exact ⟨_, _, enumD_at (List.getElem?_eq_getElem hi'), .inr ⟨rfl, T, _, _, rfl, rfl, SqT.of upd_same, .cons (.int _) (.one (rv.mono (same_new (o.free nT))))⟩, o.new nT, .new o nT⟩
/-- zip(a, b): two lists or two tuples -/
def zipD : List PyData → List PyData → List PyData
  | x :: xs, y :: ys => .tuple [x, y] :: zipD xs ys
  | _, _ => []
theorem zipD_at : ∀ {xs ys : List PyData} {i : Nat} {x y : PyData}, xs[i]? = some x → ys[i]? = some y → (zipD xs ys)[i]? = some (.tuple [x, y])
  | [], _, _, _, _, h, _ => by simp at h
  | _ :: _, [], _, _, _, _, h => by simp at h
  | _ :: _, _ :: _, 0, _, _, h, h2 => by simp at h h2; subst h; subst h2; rfl
  | _ :: xs, _ :: ys, i + 1, _, _, h, h2 => by
    have := zipD_at (xs := xs) (ys := ys) (i := i) (by simpa using h) (by simpa using h2)
    simpa [zipD] using this
theorem zipD_len : ∀ (xs ys : List PyData), (zipD xs ys).length = min xs.length ys.length
  | [], _ => by simp [zipD]
  | _ :: _, [] => by simp [zipD]
  | _ :: xs, _ :: ys => by simp [zipD, zipD_len xs ys]
def wZip (t u : WE) : WI := fun env b P => t env b fun x b1 => u env b1 fun y b2 => match x, y with
  | .list xs, .list ys => P (zipD xs ys) b2
  | .tuple xs, .tuple ys => P (zipD xs ys) b2
  | _, _ => False
theorem it_zip {K : PySem.W.Frag} {pn : Pn} {C : Hp → Hp → Prop} {a c : Addr} {xs ys : List PyData} (h : ∀ F H b, Ok pn b F H → C F H → ∃ vs us, H a = some (.lst vs) ∧ RVs K F vs xs ∧ H c = some (.lst us) ∧ RVs K F us ys) : ItOk K pn false C (Itz K a c) (zipD xs ys) := fun i F H b o cc => by
  obtain ⟨vs, us, ha, r, hc, r2⟩ := h F H b o cc
  refine ⟨fun hi => ?_, fun hi => ⟨vs, us, SqL.of ha, SqL.of hc, by rw [zipD_len] at hi; rw [r.len, r2.len]; omega⟩, fun x H' y hi => ?_⟩
  · rw [zipD_len] at hi
    obtain ⟨v, hv, _⟩ := r.at' (List.getElem?_eq_getElem (show i < xs.length by omega))
    obtain ⟨u, hu, _⟩ := r2.at' (List.getElem?_eq_getElem (show i < ys.length by omega))
    exact ⟨vs, us, v, u, SqL.of ha, SqL.of hc, hv, hu⟩
  · rw [zipD_len] at hi
    obtain ⟨T, w1, w2, rfl, nT, rfl, y1, y2⟩ := y
    have l1 : i < xs.length := by omega
    have l2 : i < ys.length := by omega
    obtain ⟨v, hv, rv⟩ := r.at' (List.getElem?_eq_getElem l1)
    obtain ⟨u, hu, ru⟩ := r2.at' (List.getElem?_eq_getElem l2)
    have e1 := y1 vs (SqL.of ha)
    have e2 := y2 us (SqL.of hc)
    rw [hv] at e1
    rw [hu] at e2
    cases e1
    cases e2
    exact ⟨_, _, zipD_at (List.getElem?_eq_getElem l1) (List.getElem?_eq_getElem l2), .inr ⟨rfl, T, _, _, rfl, rfl, SqT.of upd_same, .cons (rv.mono (same_new (o.free nT))) (.one (ru.mono (same_new (o.free nT))))⟩, o.new nT, .new o nT⟩
theorem it_zipT {K : PySem.W.Frag} {pn : Pn} {C : Hp → Hp → Prop} {a c : Addr} {xs ys : List PyData} (h : ∀ F H b, Ok pn b F H → C F H → ∃ vs us, SqT K H a vs ∧ RVs K F vs xs ∧ SqT K H c us ∧ RVs K F us ys) : ItOk K pn false C (RZ.ItzT K a c) (zipD xs ys) := fun i F H b o cc => by
  obtain ⟨vs, us, ha, r, hc, r2⟩ := h F H b o cc
  refine ⟨fun hi => ?_, fun hi => ⟨vs, us, ha, hc, by rw [zipD_len] at hi; rw [r.len, r2.len]; omega⟩, fun x H' y hi => ?_⟩
  · rw [zipD_len] at hi
    obtain ⟨v, hv, _⟩ := r.at' (List.getElem?_eq_getElem (show i < xs.length by omega))
    obtain ⟨u, hu, _⟩ := r2.at' (List.getElem?_eq_getElem (show i < ys.length by omega))
    exact ⟨vs, us, v, u, ha, hc, hv, hu⟩
  · rw [zipD_len] at hi
    obtain ⟨T, w1, w2, rfl, nT, rfl, y1, y2⟩ := y
    have l1 : i < xs.length := by omega
    have l2 : i < ys.length := by omega
    obtain ⟨v, hv, rv⟩ := r.at' (List.getElem?_eq_getElem l1)
    obtain ⟨u, hu, ru⟩ := r2.at' (List.getElem?_eq_getElem l2)
    have e1 := y1 vs ha
    have e2 := y2 us hc
    rw [hv] at e1
    rw [hu] at e2
    cases e1
    cases e2
    exact ⟨_, _, zipD_at (List.getElem?_eq_getElem l1) (List.getElem?_eq_getElem l2), .inr ⟨rfl, T, _, _, rfl, rfl, SqT.of upd_same, .cons (rv.mono (same_new (o.free nT))) (.one (ru.mono (same_new (o.free nT))))⟩, o.new nT, .new o nT⟩
theorem i_zip {a c : Expr} {t u : WE} {p pos tpos : Pos} {elts : List Expr} {kk : Nat} (m : Bool) (hg : Gl X "zip") (hm : X.mg "zip" = none) (ha : EE X a t) (hb : EE X c u)
    (hs : starEach [a, c] X.env = (false, eval a X.env) :: starEach [c] X.env := by rfl) (hs2 : starEach [c] X.env = (false, eval c X.env) :: starEach [] X.env := by rfl) (hpl : (backTo pos (starEach [c] X.env)).any (·.1) = false := by rfl) :
    PI X (.Tuple elts kk tpos) (.Call (.Name "zip" p) [a, c] [] pos) (lI X.K m false (wZip t u)) :=
  PI.imp (RZ.pi_zipA hg hm (pa_cons ha (pa_cons hb pa_nil hs2) hs) hs hpl) fun σ H R ⟨pn, F, env, b, P, rep, w, k⟩ => by
    refine ⟨pn, F, env, b, _, rep, w, fun v x F1 H1 b1 o1 e1 rv t1 => ?_⟩
    refine ⟨pn, F1, env, b1, _, rep.ext o1 e1, t1, fun v2 y F2 H2 b2 o2 e2 ru t2 => ?_⟩
    have rv2 := rv.mono e2.fsub
    cases rv2 with
    | lst h r =>
      cases ru with
      | lst h2 r2 => exact ⟨_, _, _, _, rfl, .inl ⟨SqL.of (o2.sub _ _ h), SqL.of (o2.sub _ _ h2), k _ F2 H2 b2 _ o2 (e1.trans e2) (it_zip fun F H b o c => ⟨_, _, o.sub _ _ (c.same _ _ h), r.mono c.same, o.sub _ _ (c.same _ _ h2), r2.mono c.same⟩) t2⟩⟩
      | _ => exact t2.elim
    | tup h r =>
      cases ru with
      | tup h2 r2 => exact ⟨_, _, _, _, rfl, .inr ⟨Same.tup o2.sub h.sq, Same.tup o2.sub h2.sq, k _ F2 H2 b2 _ o2 (e1.trans e2) (it_zipT fun F H b o c => ⟨_, _, Same.tup o.sub (Same.tup c.same h.sq), r.mono c.same, Same.tup o.sub (Same.tup c.same h2.sq), r2.mono c.same⟩) t2⟩⟩
      | _ => exact t2.elim
    | _ => exact t2.elim
end
end Pu
namespace Pu
open PySem PySem.Spec PyProof.Rows L2
def sNext : WS := fun PD env b => PD.nx env b
def sSeq (t u : WS) : WS := fun PD env b => t { PD with nx := fun env' b' => u PD env' b' } env b
def sRet (t : WE) : WS := fun PD env b => t env b PD.rt
def sIf (c : WT) (t u : WS) : WS := fun PD env b => c env b fun k b' => if k = true then t PD env b' else u PD env b'
def sCont : WS := fun PD env b => PD.ct env b
def sAsg (t : WE) (g : Tg) : WS := fun PD env b => t env b fun d b' => match setT g d env with | some env' => PD.nx env' b' | none => False
def sSet (t : WE) (i : Nat) : WS := fun PD env b => t env b fun d b' => PD.nx (env.set i (some (.d d))) b'
def sSetL (t : WF) (i : Nat) : WS := fun PD env b => t env b fun d b' => PD.nx (env.set i (some (.l d))) b'
def sApp (i : Nat) (t : WE) : WS := fun PD env b => match env[i]? with
  | some (some (.l xs)) => t env b fun d b' => xs.length < sizeLine ∧ PD.nx (env.set i (some (.l (xs ++ [d])))) b'
  | _ => False
section
variable {X : Cx} {st : Stmt} {rest : List Stmt} {t u : WS} {e : Expr} {te : WE} {pos : Pos}
theorem sb_nil : SB X [] sNext := PSs.imp pss_nil fun D σ H ⟨pn, F0, H0, F, env, b, PD, rep, t, k, _⟩ => (k σ F H env b rep).1 t
theorem lS_in {K : PySem.W.Frag} {t u : WS} {D : Ends} {σ : L2.St} {H : Hp} (h : lS K (sSeq t u) D σ H) : tSeq (lS K t) (lS K u) D σ H := by
  obtain ⟨pn, F0, H0, F, env, b, PD, rep, w, k, r⟩ := h
  refine ⟨pn, F0, H0, F, env, b, { PD with nx := fun env' b' => u PD env' b' }, rep, w, fun σ' F' H' env' b' rep' => ⟨fun q => ?_, (k σ' F' H' env' b' rep').2.1, (k σ' F' H' env' b' rep').2.2⟩, r⟩
  exact ⟨pn, F0, H0, F', env', b', PD, rep', q, k, r⟩
theorem sb_cons (h1 : SS X st t) (h2 : SB X rest u) : SB X (st :: rest) (sSeq t u) := PSs.imp (pss_cons h1 h2) fun _ _ _ h => lS_in h
theorem sb_one (h1 : SS X st t) : SB X [st] t := pss_one h1
theorem s_cont : SS X (.Continue pos) sCont := PS.imp ps_continue fun D σ H ⟨pn, F0, H0, F, env, b, PD, rep, t, k, _⟩ => (k σ F H env b rep).2.2 t
theorem s_ret (he : EE X e te) : SS X (.Return (some e) pos) (sRet te) := PS.imp (ps_ret he) fun D σ H ⟨pn, F0, H0, F, env, b, PD, rep, t, k, r⟩ =>
  ⟨pn, F, env, b, PD.rt, rep.rep, t, fun v d F' H' b' o x rv q => r.1 v d F' H' b' o (rep.ext.trans x) rv q⟩
theorem s_if {c : Expr} {p q : List Stmt} {tc : WT} (hc : ET X c tc) (ha : SB X p t) (hb : SB X q u) : SS X (.If c p q pos) (sIf tc t u) := PS.imp (ps_if hc ha hb) fun D σ H ⟨pn, F0, H0, F, env, b, PD, rep, w, k, r⟩ => by
  refine ⟨pn, F, env, b, _, rep.rep, w, fun kc F1 H1 b1 o1 e1 t1 => ?_⟩
  cases kc with
  | true => exact ⟨pn, F0, H0, F1, env, b1, PD, rep.ext' o1 e1, t1, k, r⟩
  | false => exact ⟨pn, F0, H0, F1, env, b1, PD, rep.ext' o1 e1, t1, k, r⟩
theorem s_asg {tg : Expr} {g : Tg} (he : EE X e te) (hg : PGt X tg g) (hs : swapsWithSole [tg] e pos.line X.env = pure false := by rfl) (hw : swappedStores [tg] e X.env = pure none := by rfl) (h1 : (assignEach [tg] X.env).map (·.2) = [assign tg X.env] := by rfl) :
    SS X (.Assign [tg] e pos) (sAsg te g) := PS.imp (ps_asg he hg hs hw h1) fun D σ H ⟨pn, F0, H0, F, env, b, PD, rep, t, k, r⟩ => by
  refine ⟨pn, F, env, b, _, rep.rep, t, fun v d F' H' b' o x rv q => ?_⟩
  split at q
  · rename_i env' h
    exact gT_run (w := true) (F0 := F0) (H0 := H0) o (.inl rv) (.inl rfl) h fun vs c1 _ => (k _ F' H' env' b' (c1 (rep.ext' o x))).1 q
  · exact q.elim
theorem s_set {i : Nat} {x : Str} {pos' : Pos} (hN : X.N.Nodup) (hi : X.N[i]? = some x) (hx : Loc X.env.scope x) (he : EE X e te) (hs : swapsWith e (some (.Name x pos')) pos.line X.env = pure false := by rfl) (hf : X.fn x = true ∨ X.env.scope.names.lookup x = some .local := by first | exact .inl rfl | exact .inr rfl) :
    SS X (.Assign [.Name x pos'] e pos) (sSet te i) := PS.imp (ps_set hN hi hx he hs hf) fun D σ H ⟨pn, F0, H0, F, env, b, PD, rep, t, k, r⟩ =>
  ⟨pn, F, env, b, _, rep.rep, t, fun v d F' H' b' o x rv q => (k _ F' H' _ b' ((rep.ext' o x).setD rv)).1 q⟩
theorem Ext.bk {pn : Pn} {b' : Nat} {F H F' H' : Hp} (x : Ext pn F H F' H') (o' : Ok pn b' F' H') {a : Addr} (h : H' a = none) : H a = none := by
  cases e : H a with
  | none => rfl
  | some u =>
    exfalso
    cases f : F a with
    | some z =>
      have := o'.sub a z (x.fsub a z f)
      rw [h] at this; cases this
    | none =>
      by_cases n : NotPen pn a
      · have := (x.keep a u e f n).1
        rw [h] at this; cases this
      · exact n (o'.pen.apartN h).1
/-- a fresh list's address is nobody's -/
theorem RepS.fresh {K : PySem.W.Frag} {pn : Pn} {b : Nat} {F0 H0 F H : Hp} {σ : L2.St} {env : En} (rep : RepS K pn F0 H0 F H σ env b) {v : V} (nw : ∀ a, v = .ref a → H a = none) :
    ∀ a, v = .ref a → H0 a = none ∧ ∀ (j : Nat) (ys : List PyData), (env[j]? = some (some (Sl.l ys)) ∨ env[j]? = some (some (Sl.r ys))) → σ[j]? ≠ some (some (V.ref a)) := by
  intro a ea
  have ha := nw a ea
  refine ⟨rep.ext.bk rep.rep.ok ha, fun j ys h z => ?_⟩
  rcases h with h | h
  all_goals
    obtain ⟨w, hw, c, vs, rfl, _, _, _, hc, _⟩ := rep.rep.slot j _ h
    rw [z] at hw
    cases hw
    rw [ha] at hc; cases hc
def sPar (i j : Nat) (t u : WE) : WS := fun PD env b => t env b fun x b1 => u env b1 fun y b2 => PD.nx ((env.set i (some (.d x))).set j (some (.d y))) b2
def sParL (i j : Nat) (t : WE) (u : WF) : WS := fun PD env b => t env b fun x b1 => u env b1 fun y b2 => PD.nx ((env.set i (some (.d x))).set j (some (.l y))) b2
variable {a c : Expr} {ta tb : WE} {tf : WF} {x y z : Str} {px py pz pt : Pos} {kt k2 : Nat} {pt2 : Pos} {i j l : Nat}
theorem s_par (hc : X.calm = true) (hN : X.N.Nodup) (hi : X.N[i]? = some x) (hj : X.N[j]? = some y) (hij : i ≠ j) (hx : X.env.scope.names.lookup x = some .local) (hy : X.env.scope.names.lookup y = some .local) (ha : EE X a ta) (hb : EE X c tb)
    (hw : swappedStores [.Tuple [.Name x px, .Name y py] kt pt] (.Tuple [a, c] k2 pt2) X.env = pure (some [x, y])) (hs : swapsWithSole [.Tuple [.Name x px, .Name y py] kt pt] (.Tuple [a, c] k2 pt2) pos.line X.env = pure false := by rfl)
    (h1 : starEach [a, c] X.env = (false, eval a X.env) :: starEach [c] X.env := by rfl) (h2 : starEach [c] X.env = (false, eval c X.env) :: starEach [] X.env := by rfl) :
    SS X (.Assign [.Tuple [.Name x px, .Name y py] kt pt] (.Tuple [a, c] k2 pt2) pos) (sPar i j ta tb) := PS.imp (ps_par hc hN hi hj hij hx hy (pa_cons ha (pa_cons hb pa_nil h2) h1) hw hs) fun D σ H ⟨pn, F0, H0, F, env, b, PD, rep, t, k, r⟩ => by
  refine ⟨pn, F, env, b, _, rep.rep, t, fun v d F1 H1 b1 o1 x1 rv t1 => ?_⟩
  refine ⟨pn, F1, env, b1, _, rep.rep.ext o1 x1, t1, fun u e F2 H2 b2 o2 x2 ru t2 => ?_⟩
  exact ⟨v, u, rfl, (k _ F2 H2 _ b2 ((((rep.ext' o1 x1).ext' o2 x2).setD (rv.mono x2.fsub)).setD ru)).1 t2⟩
/-- xs.append(e) -/
theorem s_app {i : Nat} {x : Str} {p apos cpos : Pos} (h : PE X (.Name x p) (tVar i)) (he : EE X e te) (hb : attributeBase (.Name x p) "append" X.env (eval (.Name x p) X.env) = eval (.Name x p) X.env := by rfl)
    (hfew : ((backTo cpos (starEach [e] X.env)).all (fun x => !x.1) && (backToKw cpos (keywordEach [] X.env)).all (fun x => x.1.isSome) && decide ([e].length + ([] : List Keyword).length + (if ([] : List Keyword).isEmpty then 0 else 1) < 30)) = true := by rfl)
    (hl : (apos.endLine == cpos.line) = true := by rfl) (hs : starEach [e] X.env = (false, eval e X.env) :: starEach [] X.env := by rfl) (hp : (backTo cpos (starEach [] X.env)).any (·.1) = false := by rfl)
    (hw : swapsWith (.Call (.Attribute (.Name x p) "append" apos) [e] [] cpos) none pos.line X.env = pure false := by rfl) :
    SS X (.Expr (.Call (.Attribute (.Name x p) "append" apos) [e] [] cpos) pos) (sApp i te) :=
  PS.imp (ps_expr (pe_bm PySem.F.plainAttrs_list PySem.F.slot_list_append PySem.F.type_list_append mt_append h (pa_cons he pa_nil hs) hb hfew hl hs hp) hw) fun D σ H ⟨pn, F0, H0, F, env, b, PD, rep, t, k, r⟩ => by
    unfold sApp at t
    split at t
    · rename_i xs hx
      obtain ⟨v, hv, ow⟩ := rep.rep.slot i _ hx
      obtain ⟨a, vs, rfl, fa, np, nc, ha, rvs⟩ := id ow
      refine ⟨.ref a, hv, .inl ⟨rfl, vs, SqL.of ha⟩, pn, F, env, b, _, rep.rep, t, fun w d F1 H1 b1 o1 x1 rv q => ?_⟩
      obtain ⟨ha1, fa1⟩ := x1.keep a _ ha fa np
      exact ⟨a, vs, w, rfl, rfl, ha1, by rw [rvs.len]; exact q.1, (k σ F1 _ _ b1 ((rep.ext' o1 x1).write hx hv ((rvs.mono x1.fsub).app (.one rv)))).1 q.2⟩
    · exact t.elim
end
def hU (H0 F1 : Hp) : Hp := fun a => match F1 a with
  | some o => some o
  | none => H0 a
section
variable {K : PySem.W.Frag} {pn : Pn} {b : Nat} {F0 H0 F1 H1 F H : Hp} {σ : L2.St} {env : En}
theorem hU_none {a : Addr} (h : F1 a = none) : hU H0 F1 a = H0 a := by unfold hU; rw [h]
theorem Ext.down (x : Ext pn F0 H0 F1 H1) (y : Ext pn F1 (hU H0 F1) F H) : Ext pn F0 H0 F H :=
  ⟨x.fsub.trans y.fsub, fun a o h f n => by
    have f1 := (x.keep a o h f n).2
    exact y.keep a o (by rw [hU_none f1]; exact h) f1 n⟩
theorem Ext.up (x : Ext pn F0 H0 F1 H1) (y : Ext pn F0 H0 F H) (s : Same F1 F) : Ext pn F1 (hU H0 F1) F H :=
  ⟨s, fun a o h f n => by
    rw [hU_none f] at h
    exact y.keep a o h (x.fsub.free f) n⟩
theorem RepS.up (x : Ext pn F0 H0 F1 H1) (r : RepS K pn F0 H0 F H σ env b) (s : Same F1 F) : RepS K pn F1 (hU H0 F1) F H σ env b :=
  ⟨r.rep, x.up r.ext s, fun i a s' hq h1 h2 => by
    have h3 := r.own i a s' hq h1 h2
    obtain ⟨v, hv, sl⟩ := r.rep.slot i _ h1
    rw [h2] at hv
    cases hv
    rw [hU_none (s.free (sl.ownF hq))]; exact h3⟩
theorem RepS.down (x : Ext pn F0 H0 F1 H1) (r : RepS K pn F1 (hU H0 F1) F H σ env b) : RepS K pn F0 H0 F H σ env b :=
  ⟨r.rep, x.down r.ext, fun i a s' hq h1 h2 => by
    have h3 := r.own i a s' hq h1 h2
    obtain ⟨v, hv, sl⟩ := r.rep.slot i _ h1
    rw [h2] at hv
    cases hv
    rw [hU_none (r.ext.fsub.free (sl.ownF hq))] at h3; exact h3⟩
end
def wFor (g : Tg) (body : WS) (PD : PEnds) : List PyData → En → Nat → Prop
  | [], env, b => PD.nx env b
  | x :: xs, env, b => match setT g x env with
    | some env' => body { nx := wFor g body PD xs, ct := wFor g body PD xs, bk := PD.nx, rt := PD.rt, rl := PD.rl, xr := PD.xr } env' b
    | none => False
def sFor (t : WI) (g : Tg) (body : WS) : WS := fun PD env b => t env b fun xs b1 => wFor g body PD xs env b1
section
variable {X : Cx} {pos : Pos} {tg iter : Expr} {g : Tg} {body : List Stmt} {ti : WI} {tb : WS}
theorem s_for {iw : Bool} (hp : PassesOwn (model X.prog X.w) X.A X.env X.xe) (hc : X.calm = true) (hi : PI X tg iter (lI X.K false iw ti)) (hg : PGt X tg g) (hb : SB X body tb) (hs : ∀ x, foldedSetIterable iter X.env x = pure x := by intro _; rfl) (hw : iw = true ∨ ∃ is, g = .tp is := by first | exact .inl rfl | exact .inr ⟨_, rfl⟩) :
    SS X (.For tg iter body [] pos) (sFor ti g tb) := PS.imp (ps_for hp hc hi hg hb hs) fun D σ H ⟨pn, F0, H0, F, env, b, PD, rep, t, k, r⟩ => by
  refine ⟨pn, F, env, b, _, rep.rep, t, fun items F1 H1 b1 J o1 x1 it t1 => ?_⟩
  refine ⟨fun i m σ H => ∃ F env b, RepS X.K pn F0 H0 F H σ env b ∧ Same F1 F ∧ i + m = items.length ∧ wFor g tb PD (items.drop i) env b, ⟨items.length, F1, env, b1, rep.ext' o1 x1, Same.refl _, by omega, t1⟩, fun i m σ H hW => ?_⟩
  obtain ⟨F2, env2, b2, rep2, sm, em, w⟩ := hW
  obtain ⟨go, stop, yld⟩ := it i F2 H b2 rep2.rep.ok sm
  by_cases hi : i < items.length
  · refine .inr ⟨go hi, fun σ' H' => ∃ F' env' b', RepS X.K pn F0 H0 F' H' σ' env' b' ∧ Same F1 F' ∧ wFor g tb PD (items.drop (i + 1)) env' b', fun σ' H' hN => ?_, fun x H' hy => ?_⟩
    · obtain ⟨F', env', b', r', s', w'⟩ := hN
      exact ⟨m - 1, by omega, F', env', b', r', s', by omega, w'⟩
    · obtain ⟨F', d, hd, rv, o', x'⟩ := yld x H' hy hi
      rw [List.drop_eq_getElem_cons hi] at w
      have ed : items[i] = d := by
        rw [List.getElem?_eq_getElem hi] at hd
        exact Option.some.inj hd
      rw [ed] at w
      unfold wFor at w
      split at w
      · rename_i env' hset
        refine gT_run (F0 := F0) (H0 := H0) (env := env2) o' rv hw hset fun vs c1 _ => ?_
        have rep3 := c1 (rep2.ext' o' x')
        have s3 := sm.trans x'.fsub
        have x01 := rep.ext.trans x1
        refine ⟨pn, F1, hU H0 F1, F', env', b2, _, rep3.up x01 s3, w, fun σ4 F4 H4 env4 b4 rep4 => ?_, ⟨fun v d F4 H4 b4 o4 x4 rv q => r.1 v d F4 H4 b4 o4 (x01.down x4) rv q, fun v d F4 H4 b4 o4 x4 ow nw q => r.2 v d F4 H4 b4 o4 (x01.down x4) ow (fun a ea => by
          have h3 := nw a ea
          obtain ⟨c, us, ec, fc, _⟩ := ow
          have : a = c := by rw [ea] at ec; exact V.ref.inj ec
          subst this
          rwa [hU_none (x4.fsub.free fc)] at h3) q⟩⟩
        have rep5 := rep4.down x01
        exact ⟨fun q => ⟨F4, env4, b4, rep5, rep4.ext.fsub, q⟩, fun q => (k σ4 F4 H4 env4 b4 rep5).1 q, fun q => ⟨F4, env4, b4, rep5, rep4.ext.fsub, q⟩⟩
      · exact w.elim
  · have e0 : items.drop i = [] := List.drop_of_length_le (by omega)
    rw [e0] at w
    exact .inl ⟨stop (by omega), (k σ F2 H env2 b2 rep2).1 w⟩
def wWhile (c : WT) (body : WS) (PD : PEnds) : Nat → En → Nat → Prop
  | 0, _, _ => False
  | n + 1, env, b => c env b fun k b1 => if k = true then body { nx := wWhile c body PD n, ct := wWhile c body PD n, bk := PD.nx, rt := PD.rt, rl := PD.rl, xr := PD.xr } env b1 else PD.nx env b1
def sWhile (c : WT) (body : WS) : WS := fun PD env b => ∃ n, wWhile c body PD n env b
theorem s_while {c : Expr} {tc : WT} (hp : PassesOwn (model X.prog X.w) X.A X.env X.xe) (hc : ET X c tc) (hb : SB X body tb) : SS X (.While c body [] pos) (sWhile tc tb) := PS.imp (ps_while hp hc hb) fun D σ H ⟨pn, F0, H0, F, env, b, PD, rep, t, k, r⟩ => by
  obtain ⟨n, t⟩ := t
  refine ⟨fun m σ H => ∃ F env b, RepS X.K pn F0 H0 F H σ env b ∧ wWhile tc tb PD m env b, ⟨n, F, env, b, rep, t⟩, fun m σ H hW => ?_⟩
  obtain ⟨F2, env2, b2, rep2, w⟩ := hW
  cases m with
  | zero => exact w.elim
  | succ m =>
    refine ⟨pn, F2, env2, b2, _, rep2.rep, w, fun kc F1 H1 b1 o1 x1 t1 => ?_⟩
    have rep3 := rep2.ext' o1 x1
    cases kc with
    | true =>
      refine ⟨fun σ' H' => ∃ F' env' b', RepS X.K pn F0 H0 F' H' σ' env' b' ∧ wWhile tc tb PD m env' b', fun σ' H' hN => ⟨m, Nat.lt_succ_self m, hN⟩, ?_⟩
      exact ⟨pn, F0, H0, F1, env2, b1, _, rep3, t1, fun σ4 F4 H4 env4 b4 rep4 => ⟨fun q => ⟨F4, env4, b4, rep4, q⟩, fun q => (k σ4 F4 H4 env4 b4 rep4).1 q, fun q => ⟨F4, env4, b4, rep4, q⟩⟩, r⟩
    | false => exact (k σ F1 H1 env2 b1 rep3).1 t1
end
def wipeE (env : En) : List Nat → En
  | [] => env
  | v :: vs => (wipeE env vs).set v none
def wLc (g : Tg) (tt : WT) (te : WE) (own : List Nat) (env : En) : List PyData → Nat → List PyData → (List PyData → Nat → Prop) → Prop
  | [], b, acc, P => P acc b
  | x :: xs, b, acc, P => match setT g x (wipeE env own) with
    | some env' => tt env' b fun k b1 => if k = true then te env' b1 fun y b2 => wLc g tt te own env xs b2 (acc ++ [y]) P else wLc g tt te own env xs b1 acc P
    | none => False
def fLc (t : WI) (g : Tg) (tt : WT) (te : WE) (own : List Nat) : WF := fun env b P => t env b fun xs b1 => xs.length < sizeLine ∧ wLc g tt te own env xs b1 [] P
def wYes : WT := fun _ b P => P true b
abbrev ETs (X : Cx) (ifs : List Expr) (t : WT) : Prop := PTs X ifs (lT X.K t)
def Tg.slots : Tg → List Nat
  | .nm i => [i]
  | .tp is => is
theorem wipe_set {σ : L2.St} {v : V} {i : Nat} : ∀ {vs : List Nat}, i ∈ vs → wipe (σ.set i (some v)) vs = wipe σ vs
  | [], h => by simp at h
  | w :: vs, h => by
    unfold wipe
    by_cases e : i ∈ vs
    · rw [wipe_set e]
    · have hw : i = w := by simpa [e] using h
      subst hw
      have : ∀ (vs : List Nat), i ∉ vs → wipe (σ.set i (some v)) vs = (wipe σ vs).set i (some v) := by
        intro us
        induction us with
        | nil => intro _; rfl
        | cons u us ih =>
          intro hn
          have h1 : i ≠ u := fun z => hn (by simp [z])
          have h2 : i ∉ us := fun z => hn (by simp [z])
          unfold wipe
          rw [ih h2, List.set_comm _ _ h1]
      rw [this vs e, List.set_set]
theorem wipe_vsAll : ∀ (is : List Nat) {vs : List V} {σ : L2.St} {own : List Nat}, (∀ i ∈ is, i ∈ own) → wipe (vsAll is vs σ) own = wipe σ own
  | [], _, _, _, _ => by simp [vsAll]
  | i :: r, [], _, _, _ => by simp [vsAll]
  | i :: r, v :: vs, σ, own, h => by
    unfold vsAll
    rw [wipe_vsAll r (fun j hj => h j (List.mem_cons_of_mem _ hj)), wipe_set (h i List.mem_cons_self)]
theorem wipe_sT {g : Tg} {v : V} {vs : List V} {σ : L2.St} {own : List Nat} (h : ∀ i ∈ g.slots, i ∈ own) : wipe (sT g v vs σ) own = wipe σ own := by
  cases g with
  | nm i => exact wipe_set (h i (by simp [Tg.slots]))
  | tp is => exact wipe_vsAll is h
theorem Rep.wipe {K : PySem.W.Frag} {pn : Pn} {b : Nat} {F H : Hp} {σ : L2.St} {env : En} (r : Rep K pn F H σ env b) : ∀ (own : List Nat), Rep K pn F H (wipe σ own) (wipeE env own) b
  | [] => r
  | v :: vs => by
    have q := Rep.wipe r vs
    unfold L2.wipe wipeE
    have get : ∀ (j : Nat) (s : Sl), ((wipeE env vs).set v none)[j]? = some (some s) → j ≠ v ∧ (wipeE env vs)[j]? = some (some s) := fun j s h => by
      by_cases e : j = v
      · subst e
        have hl : j < (wipeE env vs).length := by have := (List.getElem?_eq_some_iff.mp h).1; simpa using this
        rw [List.getElem?_set_self hl] at h
        cases h
      · rw [List.getElem?_set_ne (Ne.symm e)] at h
        exact ⟨e, h⟩
    refine ⟨q.ok, by simp [q.len], fun j s h => ?_, fun j k a xs ys n h1 h2 h3 => ?_, q.tk⟩
    · obtain ⟨e, h⟩ := get j s h
      rw [List.getElem?_set_ne (Ne.symm e)]
      exact q.slot j s h
    · obtain ⟨e1, g1⟩ := get j _ h1
      rw [List.getElem?_set_ne (Ne.symm e1)] at h3
      rcases h2 with h2 | h2
      · obtain ⟨e2, g2⟩ := get k _ h2
        rw [List.getElem?_set_ne (Ne.symm e2)]
        exact q.apart j k a xs ys n g1 (.inl g2) h3
      · obtain ⟨e2, g2⟩ := get k _ h2
        rw [List.getElem?_set_ne (Ne.symm e2)]
        exact q.apart j k a xs ys n g1 (.inr g2) h3
theorem wipe_idem (σ : L2.St) : ∀ vs : List Nat, wipe (wipe σ vs) vs = wipe σ vs := by
  intro vs
  apply List.ext_getElem?
  intro i
  by_cases h : i ∈ vs
  · have key : ∀ (us : List Nat) (τ : L2.St), i ∈ us → (wipe τ us)[i]? = if i < τ.length then some none else none := by
      intro us
      induction us with
      | nil => intro τ hn; simp at hn
      | cons u us ih =>
        intro τ hn
        unfold wipe
        by_cases e : u = i
        · subst e
          rw [List.getElem?_set]
          simp [wipe_length]
        · have : i ∈ us := by
            rcases List.mem_cons.mp hn with z | z
            · exact (e z.symm).elim
            · exact z
          rw [List.getElem?_set_ne e, ih τ this]
    rw [key vs _ h, key vs _ h, wipe_length]
  · rw [wipe_out h]
section
variable {X : Cx} {elt tg iter : Expr} {ifs : List Expr} {scope : Scope} {own : List (Str × Nat)} {pos : Pos} {ti : WI} {g : Tg} {tt : WT} {te : WE}
theorem lc_read {iw : Bool} {K : PySem.W.Frag} {σ : L2.St} {H : Hp} {Q : VK} (hw : iw = true ∨ ∃ is, g = .tp is) (hin : ∀ i ∈ g.slots, i ∈ own.map (·.2)) (h : lF K (fLc ti g tt te (own.map (·.2))) σ H Q) : tLc (lI K true iw ti) (gT K g) (lT K tt) (lE K te) (own.map (·.2)) σ H Q := by
  obtain ⟨pn, F, env, b, P, rep, t, k⟩ := h
  refine ⟨pn, F, env, b, _, rep, t, fun items F1 H1 b1 J o1 x1 it t1 D hD => ?_⟩
  obtain ⟨hz, t1⟩ := t1
  have rep1 := rep.ext o1 x1
  have dPen : NotPen pn D ∧ NotCa pn D := o1.pen.apartN hD
  refine ⟨fun i m H => ∃ F2 b2 acc vs, Ok pn b2 F2 H ∧ Ext pn F1 H1 F2 H ∧ F2 D = none ∧ H D = some (.lst vs) ∧ RVs K F2 vs acc ∧ acc.length ≤ i ∧ i + m = items.length ∧ wLc g tt te (own.map (·.2)) env (items.drop i) b2 acc P,
    ⟨items.length, F1, b1, [], [], o1.own hD, .own hD, o1.free hD, upd_same, .nil, Nat.le_refl _, by omega, t1⟩, fun i m H hW => ?_⟩
  obtain ⟨F2, b2, acc, vs, o2, x2, fD, hDv, rvs, la, em, w⟩ := hW
  obtain ⟨go, stop, yld⟩ := it i F2 H b2 o2 x2
  by_cases hi : i < items.length
  · refine .inr ⟨go hi, fun H' => ∃ F2 b2 acc vs, Ok pn b2 F2 H' ∧ Ext pn F1 H1 F2 H' ∧ F2 D = none ∧ H' D = some (.lst vs) ∧ RVs K F2 vs acc ∧ acc.length ≤ i + 1 ∧ wLc g tt te (own.map (·.2)) env (items.drop (i + 1)) b2 acc P, fun H' hN => ?_, fun x H' hy => ?_⟩
    · obtain ⟨F3, b3, acc3, vs3, c1, c2, c3, c4, c5, c6, c7⟩ := hN
      exact ⟨m - 1, by omega, F3, b3, acc3, vs3, c1, c2, c3, c4, c5, c6, by omega, c7⟩
    · obtain ⟨F', d, hd, rv, o', x'⟩ := yld x H' hy hi
      rw [List.drop_eq_getElem_cons hi] at w
      have ed : items[i] = d := by
        rw [List.getElem?_eq_getElem hi] at hd
        exact Option.some.inj hd
      rw [ed] at w
      unfold wLc at w
      split at w
      · rename_i env' hset
        have rep2 : Rep K pn F' H' (wipe σ (own.map (·.2))) (wipeE env (own.map (·.2))) b2 := (rep1.ext o' (x2.trans x')).wipe _
        refine gT_run (F0 := F') (H0 := H') (env := wipeE env (own.map (·.2))) (b := b2) o' rv hw hset fun us _ c2 => ⟨(wipe_sT hin).trans (wipe_idem _ _), ?_⟩
        have rep3 := c2 rep2
        obtain ⟨hD', fD'⟩ := x'.keep D _ hDv fD dPen.1
        refine ⟨pn, F', env', b2, _, rep3, w, fun kc F4 H4 b4 o4 x4 t4 => ?_⟩
        obtain ⟨hD4, fD4⟩ := x4.keep D _ hD' fD' dPen.1
        cases kc with
        | true =>
          refine iteT ⟨pn, F4, env', b4, _, rep3.ext o4 x4, t4, fun y dy F5 H5 b5 o5 x5 ry t5 => ?_⟩
          obtain ⟨hD5, fD5⟩ := x5.keep D _ hD4 fD4 dPen.1
          have s5 := x'.fsub.trans (x4.fsub.trans x5.fsub)
          refine ⟨vs, hD5, by rw [rvs.len]; omega, F5, b5, acc ++ [dy], vs ++ [y], ?_, ?_, fD5, upd_same, (rvs.mono s5).app (.one ry), by simp; omega, t5⟩
          · refine ⟨fun c o q => ?_, ?_⟩
            · rw [upd_ne (fun z => by rw [z, fD5] at q; cases q)]; exact o5.sub c o q
            · exact o5.pen.wr dPen.1 dPen.2
          · have xx := x2.trans (x'.trans (x4.trans x5))
            refine ⟨xx.fsub, fun c o hc fc nc => ?_⟩
            obtain ⟨q1, q2⟩ := xx.keep c o hc fc nc
            exact ⟨by rw [upd_ne (ne_of_none hc hD)]; exact q1, q2⟩
        | false =>
          exact iteF ⟨F4, b4, acc, vs, o4, x2.trans (x'.trans x4), fD4, hD4, rvs.mono (x'.fsub.trans x4.fsub), by omega, t4⟩
      · exact w.elim
  · have e0 : items.drop i = [] := List.drop_of_length_le (by omega)
    rw [e0] at w
    refine .inl ⟨stop (by omega), k _ _ F2 H b2 o2 (x1.trans x2) ⟨D, vs, rfl, fD, dPen.1, dPen.2, hDv, rvs⟩ (fun a ea => ?_) w⟩
    cases ea
    exact x1.bk o1 hD
end
end Pu
namespace Pu
open PySem PySem.Spec PyProof.Rows L2
section
variable {X : Cx} {elt tg iter : Expr} {ifs : List Expr} {scope : Scope} {own : List (Str × Nat)} {pos : Pos} {ti : WI} {g : Tg} {tt : WT} {te : WE}
theorem ts_nil : ETs X [] wYes := ⟨fun pins s σ H Q I h => by
  obtain ⟨pn, F, env, b, P, rep, t, k⟩ := h
  exact pts_nil.run pins s σ H Q I (k true F H b rep.ok .refl t)⟩
theorem ts_one {c : Expr} {t : WT} (h : ET X c t) : ETs X [c] t := pts_one h
theorem f_lc {iw : Bool} (hc : X.calm = true) (hN : X.N.Nodup) (hi : PI X tg iter (lI X.K true iw ti)) (ok : BlkOk X.N X.env.scope scope own) (hin : ∀ i ∈ g.slots, i ∈ own.map (·.2))
    (hg : ∀ (s : Shared) (H : Hp) (C : Addr) (cl : List (Str × Addr)) (fp : List Addr), PGt (X.blk s H scope (compEnvC scope cl C X.env) fp) tg g) (ht : ∀ (s : Shared) (H : Hp) (C : Addr) (cl : List (Str × Addr)) (fp : List Addr), ETs (X.blk s H scope (compEnvC scope cl C X.env) fp) ifs tt)
    (he : ∀ (s : Shared) (H : Hp) (C : Addr) (cl : List (Str × Addr)) (fp : List Addr), EE (X.blk s H scope (compEnvC scope cl C X.env) fp) elt te) (hs : ∀ x, foldedSetIterable iter X.env x = pure x := by intro _; rfl) (hw : iw = true ∨ ∃ is, g = .tp is := by first | exact .inl rfl | exact .inr ⟨_, rfl⟩) :
    EF X (.ListComp elt [⟨tg, iter, ifs, 0⟩] scope pos) (fLc ti g tt te (own.map (·.2))) := PE.imp (pe_lc hc hN hi ok hg ht he hs) fun σ H Q h => lc_read hw hin h
theorem s_setLc {iw : Bool} {i : Nat} {y : Str} {py spos : Pos} (hc : X.calm = true) (hN : X.N.Nodup) (hy : X.N[i]? = some y) (hyl : X.env.scope.names.lookup y = some .local) (hsw : swapsWith (.ListComp elt [⟨tg, iter, ifs, 0⟩] scope pos) (some (.Name y py)) spos.line X.env = pure true)
    (hi : PI X tg iter (lI X.K true iw ti)) (ok : BlkOk X.N X.env.scope scope own) (hin : ∀ i ∈ g.slots, i ∈ own.map (·.2))
    (hg : ∀ (s : Shared) (H : Hp) (C : Addr) (cl : List (Str × Addr)) (fp : List Addr), PGt (X.blk s H scope (compEnvC scope cl C X.env) fp) tg g) (ht : ∀ (s : Shared) (H : Hp) (C : Addr) (cl : List (Str × Addr)) (fp : List Addr), ETs (X.blk s H scope (compEnvC scope cl C X.env) fp) ifs tt)
    (he : ∀ (s : Shared) (H : Hp) (C : Addr) (cl : List (Str × Addr)) (fp : List Addr), EE (X.blk s H scope (compEnvC scope cl C X.env) fp) elt te) (hs : ∀ x, foldedSetIterable iter X.env x = pure x := by intro _; rfl) (hw : iw = true ∨ ∃ is, g = .tp is := by first | exact .inl rfl | exact .inr ⟨_, rfl⟩) :
    SS X (.Assign [.Name y py] (.ListComp elt [⟨tg, iter, ifs, 0⟩] scope pos) spos) (sSet (fz (fLc ti g tt te (own.map (·.2)))) i) := PS.imp (ps_setLc hc hN hy hyl hsw hi ok hg ht he hs) fun D σ H ⟨pn, F0, H0, F, env, b, PD, rep, t, k, r⟩ => by
  refine lc_read hw hin ⟨pn, F, env, b, _, rep.rep, t, fun v d F' H' b' o x ow nw q => ?_⟩
  obtain ⟨a, vs, rfl, f, n, nc, ha, rv⟩ := ow
  have h0 := (rep.fresh nw a rfl).1
  have rep2 := rep.ext' o x
  have o2 : Ok pn b' (upd F' a (.lst vs)) H' := o.settle ha f n nc
  refine (k _ (upd F' a (.lst vs)) H' _ b' (RepS.setD ?_ (.lst upd_same (rv.mono (same_new f))))).1 q
  have x2 : Ext pn F H (upd F' a (.lst vs)) H' := ⟨x.fsub.trans (same_new f), fun c u hc fc npc => by
    obtain ⟨h1, f1⟩ := x.keep c u hc fc npc
    exact ⟨h1, by rw [upd_ne (fun z => by rw [z, nw a rfl] at hc; cases hc)]; exact f1⟩⟩
  exact rep.ext' o2 x2
end
def env0 (nn : Nat) (ss : List Sl) : En := ss.map some ++ List.replicate (nn - ss.length) none
def wDef (np nn : Nat) (t : WS) : WD := fun ss b P => ss.length = np ∧ t { nx := fun _ b' => P .none b', rt := P } (env0 nn ss) b
theorem args_at {K : PySem.W.Frag} {pn : Pn} {F H : Hp} : ∀ {vs : List V} {ss : List Sl} {i : Nat} {s : Sl}, ArgsAre K pn F H vs ss → ss[i]? = some s → ∃ v, vs[i]? = some v ∧ SlIs K pn F H v s ∧ s.isOwn = false
  | [], [], i, s, _, h => by simp at h
  | v :: vs, q :: ss, 0, s, ⟨h1, h2, _⟩, h => by simp at h; subst h; exact ⟨v, rfl, h1, h2⟩
  | v :: vs, q :: ss, i + 1, s, ⟨_, _, t⟩, h => by
    obtain ⟨u, h1, h2⟩ := args_at (i := i) (s := s) t (by simpa using h)
    exact ⟨u, by simpa using h1, h2⟩
  | [], _ :: _, _, _, h, _ => h.elim
  | _ :: _, [], _, _, h, _ => h.elim
theorem start_rep {K : PySem.W.Frag} {pn : Pn} {F H : Hp} {b : Nat} {N : List Str} {vs : List V} {ss : List Sl} (o : Ok pn b F H) (ar : ArgsAre K pn F H vs ss) : RepS K pn F H F H (L2.start N vs) (env0 N.length ss) b := by
  have el := ar.len
  have noL : ∀ (i : Nat) (s : Sl), s.isOwn = true → (env0 N.length ss)[i]? ≠ some (some s) := fun i s hs h => by
    unfold env0 at h
    by_cases hi : i < ss.length
    · rw [List.getElem?_append_left (by simpa using hi), List.getElem?_map, List.getElem?_eq_getElem hi] at h
      simp only [Option.map_some, Option.some.injEq] at h
      obtain ⟨v, _, _, q⟩ := args_at ar (List.getElem?_eq_getElem hi)
      rw [h, hs] at q
      cases q
    · rw [List.getElem?_append_right (by simpa using Nat.le_of_not_lt hi)] at h
      have := List.mem_of_getElem? h
      simp at this
  refine ⟨⟨o, by simp [L2.start, env0, el], fun i s h => ?_, fun i j a xs ys _ h1 _ _ => (noL i _ rfl h1).elim, ar.tk⟩, .refl, fun i a s hs h1 _ => (noL i s hs h1).elim⟩
  unfold env0 at h
  by_cases hi : i < ss.length
  · rw [List.getElem?_append_left (by simpa using hi), List.getElem?_map, List.getElem?_eq_getElem hi] at h
    simp only [Option.map_some, Option.some.injEq] at h
    obtain ⟨v, hv, q, _⟩ := args_at ar (List.getElem?_eq_getElem hi)
    rw [h] at q
    refine ⟨v, ?_, q⟩
    unfold L2.start
    rw [List.getElem?_append_left (by simpa [el] using hi), List.getElem?_map, hv]
    rfl
  · rw [List.getElem?_append_right (by simpa using Nat.le_of_not_lt hi)] at h
    have := List.mem_of_getElem? h
    simp at this
section
variable {P : Program} {w : World} {K : PySem.W.Frag} {mg : Str → Option Value} {base : Heap}
/-- a def keeps the promise that its body's reading is -/
theorem ok_fn {x qual : Str} {st : Stmt} {f : Addr} {fd : FuncData} {N ps : List Str} {k : Nat} {t : WS} (F : Fun K x qual st f fd) (S : FnScope N ps (defScope st))
    (body : ∀ (cdv : Value) (A : Around) (outer : List Env) (s : Shared) (H : Hp) (E : XK), Room k (A.deeper (envOfC qual (defScope st) s.heap.objs.size f cdv)) → SB (cxOf CX0 P w K mg base N qual (defScope st) f cdv A outer s H E).nox (defBody st) t) :
    FnOk P w K mg base CX0 (k + 1) f fd ps (spW K (wDef ps.length N.length t)) := by
  refine F.ok S (fun vs H Q E h => ?_) (fun cdv A outer s H vs Q E hr h => ?_)
  · obtain ⟨pn, F, ss, b, P, o, ar, ⟨hl, _⟩, _⟩ := h
    rw [ar.len, hl]
  · obtain ⟨pn, F, ss, b, PP, o, ar, ⟨hl, q⟩, kk⟩ := h
    exact ⟨lS K t, body cdv A outer s H E hr, pn, F, H, F, _, b, _, start_rep o ar, q,
      fun σ' F' H' env' b' rep' => ⟨fun q => kk .non .none F' H' b' rep'.rep.ok rep'.ext .non q, fun q => q, fun q => q⟩, ⟨fun v d F' H' b' o' x' rv q => kk v d F' H' b' o' x' rv q, fun _ _ _ _ _ _ _ _ _ q => q.elim⟩⟩
/-- another way to say what a def does -/
theorem spW.imp {f : Addr} {fd : FuncData} {ps : List Str} {k : Nat} {t u : WD} (G : FnOk P w K mg base CX0 k f fd ps (spW K t)) (h : ∀ ss b P, u ss b P → t ss b P) : FnOk P w K mg base CX0 k f fd ps (spW K u) :=
  G.imp fun vs H Q E ⟨pn, F, ss, b, P, o, ar, q, kk⟩ => ⟨pn, F, ss, b, P, o, ar, h ss b P q, kk⟩
end
end Pu
namespace Pu
open PySem PySem.Spec PyProof.Rows L2
theorem toFun {K : PySem.W.Frag} {x qual : Str} {st : Stmt} {f : Addr} {fd : FuncData} (F : FunD K x qual (defArgs st) (defBody st) (defScope st) [] [] f fd) : Fun K x qual st f fd := by
  obtain ⟨oc, od, dV, kV, doc, pm, an, cdv, ct, osl, rfl, lk, hcd, hD, _⟩ := F.ex
  rcases hD with ⟨_, rfl⟩ | ⟨e, _⟩
  · exact ⟨⟨oc, od, kV, doc, pm, an, cdv, ct, osl, rfl, lk, hcd⟩, F.kp⟩
  · exact absurd rfl e
section
variable {X : Cx} {a c e e2 : Expr} {pos : Pos} {ta tb tc : WE}
theorem e_one {op : BoolOp} (h : EE X a ta) : EE X (.BoolOp op [a] pos) ta := pe_one h
/-- a < b < c -/
def wCh (p q : P2) (ta tb tc : WE) : WE := fun env b P => ta env b fun x b1 => tb env b1 fun y b2 => p x y fun z => match z with
  | .bool k => if k = true then tc env b2 fun w b3 => q y w fun u => P u b3 else P (.bool false) b2
  | _ => False
def wOpL (p : PyData → PyData → (List PyData → Prop) → Prop) (ta tb : WE) : WF := fun env b P => ta env b fun x b1 => tb env b1 fun y b2 => p x y fun z => P z b2
def pCatL : PyData → PyData → (List PyData → Prop) → Prop
  | .list xs, .list ys, P => xs.length + ys.length ≤ sizeLine ∧ P (xs ++ ys)
  | _, _, _ => False
def pRepL : PyData → PyData → (List PyData → Prop) → Prop
  | .list xs, .int k, P => -(2 ^ 63) ≤ k ∧ k < 2 ^ 63 ∧ xs.length * k.toNat ≤ sizeLine ∧ P (List.replicate k.toNat xs).flatten
  | _, _, _ => False
/-- {} -/
def wD0 : WE := fun _ b P => P (.dict []) b
end
end Pu
namespace Pu
open PySem PySem.Spec PyProof.Rows L2
abbrev pLt : P2 := pI (fun _ _ => True) fun i j => .bool (decide (i < j))
abbrev pLe : P2 := pI (fun _ _ => True) fun i j => .bool (decide (i ≤ j))
abbrev pGt : P2 := pI (fun _ _ => True) fun i j => .bool (decide (j < i))
abbrev pGe : P2 := pI (fun _ _ => True) fun i j => .bool (decide (j ≤ i))
abbrev pSub : P2 := pI (fun _ _ => True) fun i j => .int (i - j)
abbrev pMod : P2 := pI (fun _ j => 0 < j) fun i j => .int (i % j)
abbrev pPow : P2 := pI CPow fun i j => .int (i ^ j.toNat)
end Pu
namespace Pu
open PySem PySem.Spec PyProof.Rows L2
section
variable {X : Cx} {pins : List (Addr × Obj)} {σ : L2.St} {H : Hp} {s : Shared}
/-- the state behind a store to a plain local name -/
theorem stored {i : Nat} {x : Str} {v : V} {u : Value} {m : Str → Option Value} {h' : Heap} {tk : Nat} (I : Inv X pins σ H s) (nd : X.N.Nodup) (at_ : X.N[i]? = some x) (kl : X.env.scope.names.lookup x = some .local) (rv : RelV v u)
    (ns : s.heap.Ns X.env.locals m) (lk : ∀ (j : Nat) (y : Str) (w : V), X.N[j]? = some y → σ[j]? = some (some w) → Vis X.env.scope y → ∃ z, RelV w z ∧ Look X.env s.heap m y z)
    (ns' : h'.Ns X.env.locals (fun y => if y = x then some u else m y)) (sb : Heap.SameBut X.env.locals s.heap h') : Inv X pins (σ.set i (some v)) H { s with heap := h', toks := tk } := by
  have bound : i < σ.length := I.len.symm ▸ (List.getElem?_eq_some_iff.mp at_).1
  have old : ∀ b o, X.s_0.heap.get? b = some o → b ≠ X.env.locals := fun b o e => Nat.ne_of_lt (Nat.lt_of_lt_of_le (Heap.lt_size e) I.ok.above)
  obtain ⟨oL, _, _, atL, _⟩ := id ns
  have trackd : HOk X.prog X.w H h' := fun b ob e => by
    refine (I.hok b ob e).stay (fun c w' hc q => (sb.2 c fun z => ?_).trans q) (fun _ q => q) fun _ _ q => q
    subst z
    rcases hc with hc | hc
    · subst hc; rw [I.free] at e; cases e
    · rw [I.free] at hc; cases hc
  refine ⟨I.ok, I.os, I.bare, ⟨fun b o e n hb hx => (sb.2 b (old b o e)).trans (I.base.keep b o e n hb hx), fun b o e n hb hx => ?_, I.base.free, fun b o e hx => ?_, I.base.tups, I.base.frzs, I.base.tbls⟩, ⟨_, ns', fun j y w e1 e2 e3 => ?_⟩, fun y c e => ?_, I.free, I.freeC, fun p hp => ?_, trackd, by simpa using I.len⟩
  · obtain ⟨sl, e1⟩ := I.base.slot b o e n hb hx
    exact ⟨sl, (sb.2 b (old b o e)).trans e1⟩
  · obtain ⟨o', e1⟩ := I.base.there b o e hx
    exact ⟨o', (sb.2 b (old b o e)).trans e1⟩
  · by_cases hj : j = i
    · subst hj
      have ey : x = y := Option.some.inj (at_.symm.trans e1)
      subst ey
      rw [List.getElem?_set_self bound] at e2
      have ew : v = w := by simpa using e2
      subst ew
      exact ⟨u, rv, .inl ⟨kl, if_pos rfl⟩⟩
    · rw [List.getElem?_set_ne (Ne.symm hj)] at e2
      obtain ⟨z, rz, q⟩ := lk j y w e1 e2 e3
      have ne : y ≠ x := fun e => hj (nodup_ix nd e1 (e.symm ▸ at_))
      refine ⟨z, rz, ?_⟩
      rcases q with ⟨kk, e⟩ | ⟨kk, c, e, zz⟩
      · exact .inl ⟨kk, by simp [ne, e]⟩
      · exact .inr ⟨kk, c, e, zz.sameBut sb (I.cne y c e)⟩
  · obtain ⟨w', z⟩ := I.cell y c e
    exact ⟨w', z.sameBut sb (I.cne y c e)⟩
  · obtain ⟨e, n, ne, nf, d⟩ := I.pin p hp
    exact ⟨(sb.2 p.1 ne).trans e, n, ne, nf, d⟩
/-- what a name's evaluation gives, token and all -/
def Raw (X : Cx) (x : Str) (u : Value) (s : Shared) : Prop := ∀ (pos : Pos) (Q E : Value → Shared → Prop), Q u s → wpAny (model X.prog X.w) X.A (eval (.Name x pos) X.env) Q E s
/-- x = e, where e's value is a text whose token is known -/
theorem asg_raw {i : Nat} {x : Str} {e : Expr} {p1 p4 : Pos} {Q : Flow → Shared → Prop} (nd : X.N.Nodup) (at_ : X.N[i]? = some x) (kl : X.env.scope.names.lookup x = some .local) (hd : (x == ("__debug__" : Str)) = false)
    (h : wpAny (model X.prog X.w) X.A (eval e X.env) (fun u s1 => ∃ (z : Str) (t : Tok) (H1 : Hp), u = .str z t ∧ t ≠ 0 ∧ t < s1.toks ∧ Inv X pins σ H1 s1 ∧
      ∀ s2, Inv X pins (σ.set i (some (.str z))) H1 s2 → Raw X x (.str z t) s2 → t < s2.toks → Q .next s2) X.xe s)
    (hs : swapsWith e (some (.Name x p1)) p4.line X.env = pure false) : wpAny (model X.prog X.w) X.A (exec (.Assign [.Name x p1] e p4) X.env) Q X.xe s := by
  refine wpAny_Assign_Name (thn h fun u s1 q => ?_) hs
  obtain ⟨z, t, H1, rfl, t0, tl, I1, k⟩ := q
  obtain ⟨m, ns, lk⟩ := id I1.loc
  refine wpAny_storeName_local kl ns (fun h' ns' sb => ?_) (by rw [I1.ok.kind]; rfl)
  refine k _ (stored I1 nd at_ kl ⟨t, rfl⟩ ns lk ns' sb) (fun pos Q E q => ?_) (show t < s1.toks + 1 from Nat.lt_succ_of_lt tl)
  exact wpAny_Name (wpAny_loadName_local I1.ok.kind kl ns' (if_pos rfl) q) hd
/-- text.replace(x, '') -/
theorem strike_raw {ic : Nat} {c x : Str} {z y : Str} {t : Tok} {p1 p2 apos pos c0 : Pos} {j : Nat} {Q : VK} (hN : X.N[ic]? = some c) (hv : Vis X.env.scope c) (dc : (c == ("__debug__" : Str)) = false) (cc : (c == ("__classdict__" : Str)) = false)
    (I : Inv X pins σ H s) (hz : σ[ic]? = some (some (.str z))) (raw : Raw X x (.str y t) s) (t0 : t ≠ 0) (tl : t < s.toks) (hy : (y == Str.empty) = false) (len : z.length ≤ 16777216)
    (hst : starEach [.Name x p2, .Constant (.str "") j c0] X.env = [(false, eval (.Name x p2) X.env), (false, eval (.Constant (.str "") j c0) X.env)]) (hbase : attributeBase (.Name c p1) "replace" X.env (eval (.Name c p1) X.env) = eval (.Name c p1) X.env) (hline : (apos.endLine == pos.line) = true)
    (q : Q (.str (Txt.replace z y Str.empty)) H) : wpAny (model X.prog X.w) X.A (eval (.Call (.Attribute (.Name c p1) "replace" apos) [.Name x p2, .Constant (.str "") j c0] [] pos) X.env) (EP X pins σ Q) X.xe s := by
  refine PySem.Call_method2 hbase hst hline (raw_name hN hv I hz (fun v r => ?_) dc cc)
  obtain ⟨tz, rfl⟩ := r
  refine ⟨"str", _, F.plainAttrs_str, F.slot_str_replace, F.type_str_replace, typeIs_str _ _ _, (fun _ e => nomatch e), Calls.callWith_builtin rfl (Calls.evalArgs_plain (Calls.spliced_cons ?_))⟩
  refine raw _ _ _ (Calls.spliced_cons (Calls.Constant_str (Calls.spliced_nil ?_)))
  exact PySem.SC.replace t0 (fun e => absurd (e ▸ tl : t < 0) (Nat.not_lt_zero _)) (Nat.ne_of_lt tl) hy (by show z.length + (z.length + 1) * 0 ≤ 16777216; omega) fun t' k => ⟨.str (Txt.replace z y Str.empty), H, I.tok k, ⟨t', rfl⟩, q⟩
end
end Pu
namespace Pu
open PySem PySem.Spec PyProof.Rows L2
section
variable {X : Cx} {pins : List (Addr × Obj)} {σ : L2.St} {H : Hp} {s : Shared}
/-- c[take(pen, len(c))]: the sign's token is out -/
theorem pick_raw {ic ip : Nat} {c pen ft : Str} {z : Str} {vp : V} {f : Addr} {fd : FuncData} {ps : List Str} {k : Nat} {sp : Sp} {p1 p2 p3 p4 p5 p6 p7 p10 : Pos} {Q : VK}
    (hNc : X.N[ic]? = some c) (hvc : Vis X.env.scope c) (dc : (c == ("__debug__" : Str)) = false) (cc : (c == ("__classdict__" : Str)) = false)
    (hNp : X.N[ip]? = some pen) (hvp : Vis X.env.scope pen) (dp : (pen == ("__debug__" : Str)) = false) (cp : (pen == ("__classdict__" : Str)) = false)
    (G : FnOk X.prog X.w X.K X.mg X.base CX0 k f fd ps sp) (hr : Room k X.A) (hg : Gl X ft) (hm : X.mg ft = some (.ref f)) (hk : PySem.W.keepIn X.K (.ref f) = true) (hb : Binds X.K fd ps []) (df : (ft == ("__debug__" : Str)) = false)
    (hgl : Gl X "len") (hml : X.mg "len" = none)
    (he : starEach [.Name pen p3, .Call (.Name "len" p4) [.Name c p5] [] p6] X.env = (false, eval (.Name pen p3) X.env) :: starEach [.Call (.Name "len" p4) [.Name c p5] [] p6] X.env)
    (he2 : starEach [.Call (.Name "len" p4) [.Name c p5] [] p6] X.env = (false, eval (.Call (.Name "len" p4) [.Name c p5] [] p6) X.env) :: starEach [] X.env)
    (he3 : starEach [.Name c p5] X.env = (false, eval (.Name c p5) X.env) :: starEach [] X.env)
    (I : Inv X pins σ H s) (hz : σ[ic]? = some (some (.str z))) (hp : σ[ip]? = some (some vp)) (len : z.length ≤ 16777216)
    (h : sp [vp, .int z.length] H (fun y H1 => ∃ i cc, y = .int i ∧ atI z.cps.toList i = some cc ∧ Q (.str ⟨#[cc]⟩) H1) E0) :
    wpAny (model X.prog X.w) X.A (eval (.Subscript (.Name c p1) (.Call (.Name ft p2) [.Name pen p3, .Call (.Name "len" p4) [.Name c p5] [] p6] [] p7) p10) X.env)
      (fun u s1 => ∃ (y : Str) (t : Tok) (H1 : Hp), u = .str y t ∧ t ≠ 0 ∧ t < s1.toks ∧ Inv X pins σ H1 s1 ∧ (y == Str.empty) = false ∧ Q (.str y) H1) X.xe s := by
  have z63 : (sizeLine : Nat) < 2 ^ 63 := line63
  have zs : (16777216 : Nat) ≤ sizeLine := by decide
  refine Subscript_ (raw_name hNc hvc I hz (fun v r => ?_) dc cc)
  obtain ⟨tz, rfl⟩ := r
  refine wpAny_Call_Name_kw (ld_glob I hg hm ?_ df)
  refine PySem.W.callWith_K (h₀ := X.base) I.ok.mod.kin hk ?_ he (by rw [he2]; rfl)
  rw [he]
  show wpAny _ _ (spliced ((false, eval (.Name pen p3) X.env) :: backTo p7 (starEach [.Call (.Name "len" p4) [.Name c p5] [] p6] X.env))) _ _ s
  refine Calls.spliced_cons (raw_name hNp hvp I hp (fun vpen rpen => ?_) dp cp)
  rw [he2]
  show wpAny _ _ (spliced ((false, eval (.Call (.Name "len" p4) [.Name c p5] [] p6) X.env) :: backTo p7 (starEach [] X.env))) _ _ s
  refine Calls.spliced_cons (wpAny_Call_Name_kw (ld_blt I hgl hml PySem.boot_len ?_))
  refine PyProof.Rows.callWith_builtin1 ?_ he3 (by rfl)
  rw [he3]
  show wpAny _ _ (spliced ((false, eval (.Name c p5) X.env) :: backTo p6 (starEach [] X.env))) _ _ s
  refine Calls.spliced_cons (raw_name hNc hvc I hz (fun v2 r2 => ?_) dc cc)
  obtain ⟨tz2, rfl⟩ := r2
  refine Calls.spliced_nil ?_
  refine PyProof.Rows.len_str (by omega) ?_
  refine Calls.spliced_nil ?_
  have I2 : Inv X pins σ H { s with toks := s.toks + 1 + 1 } := I.tok _
  refine ⟨I2.kIn, ?_⟩
  refine wpAny_with_toks (n := 1) (show 1 ≤ s.toks + 1 + 1 from Nat.le_add_left 1 _) (wpAny_mono (run_fn G hr hb .nil pass0 (vs := [vp, .int z.length]) I2 (Paired.cons rpen (.cons ⟨_, rfl⟩ .nil)) h) (fun u s1 q h1 => ?_) fun _ _ e _ => e)
  obtain ⟨y, H1, I1, ry, i, d, rfl, hat, q⟩ := q
  obtain ⟨ti, rfl⟩ := ry
  obtain ⟨j, a1, a2, a3, a4, a5⟩ := atI_get hat
  have hl : z.cps.toList.length = z.length := by simp [Str.length]
  rw [hl] at a1 a4 a5
  refine tail_any (typeIs_str s1 z tz) slot_str_getitem.lookup (PyProof.Rows.getItem_str (c := d) ?_ (by rw [a1]; simpa using a2) ?_) rfl
  · have e1 : decide (i < -(2 ^ 63 : Int)) = false := decide_eq_false (by omega)
    have e2 : decide (i ≥ 2 ^ 63) = false := decide_eq_false (by omega)
    rw [e1, e2, Bool.or_false]
  · exact ⟨⟨#[d]⟩, s1.toks, H1, rfl, (fun e => absurd (e ▸ h1 : 1 ≤ 0) (by decide)), Nat.lt_succ_self _, I1.tok _, by rfl, q⟩
end
/-- right = c[take(pen, len(c))]; left = g(pen, c.replace(right, '')) -/
def sPick (ic ip ir il : Nat) (wt wg : WD) (u : WS) : WS := fun PD env b => match env[ic]?, env[ip]? with
  | some (some (.d (.str z))), some (some .p) => z.length ≤ 16777216 ∧ wt [.p, .d (.int z.length)] b fun y b1 => match y with
    | .int i => match atI z.cps.toList i with
      | some c => wg [.p, .d (.str (Txt.replace z ⟨#[c]⟩ Str.empty))] b1 fun d b2 => u PD ((env.set ir (some (.d (.str ⟨#[c]⟩)))).set il (some (.d d))) b2
      | none => False
    | _ => False
  | _, _ => False
section
variable {X : Cx}
theorem sb_pick {ic ip ir il : Nat} {c pen ft gt xr xl : Str} {f g : Addr} {fd gd : FuncData} {ps qs : List Str} {k k2 : Nat} {wt wg : WD} {p1 p2 p3 p4 p5 p6 p7 p8 p9 p10 q1 q2 q3 q4 q5 q6 q7 q8 q9 apos : Pos} {jn : Nat} {rest : List Stmt} {u : WS}
    (nd : X.N.Nodup) (hNc : X.N[ic]? = some c) (hvc : Vis X.env.scope c) (dc : (c == ("__debug__" : Str)) = false) (cc : (c == ("__classdict__" : Str)) = false)
    (hNp : X.N[ip]? = some pen) (hvp : Vis X.env.scope pen) (dp : (pen == ("__debug__" : Str)) = false) (cp : (pen == ("__classdict__" : Str)) = false)
    (hNr : X.N[ir]? = some xr) (hlr : X.env.scope.names.lookup xr = some .local) (dr : (xr == ("__debug__" : Str)) = false)
    (hNl : X.N[il]? = some xl) (hll : Loc X.env.scope xl) (hfl : X.fn xl = true ∨ X.env.scope.names.lookup xl = some .local) (ncr : ic ≠ ir) (npr : ip ≠ ir)
    (G : FnOk X.prog X.w X.K X.mg X.base CX0 k f fd ps (spW X.K wt)) (hr : Room k X.A) (hg : Gl X ft) (hm : X.mg ft = some (.ref f)) (hk : PySem.W.keepIn X.K (.ref f) = true) (hb : Binds X.K fd ps []) (df : (ft == ("__debug__" : Str)) = false)
    (G2 : FnOk X.prog X.w X.K X.mg X.base CX0 k2 g gd qs (spW X.K wg)) (hr2 : Room k2 X.A) (hg2 : Gl X gt) (hm2 : X.mg gt = some (.ref g)) (hk2 : PySem.W.keepIn X.K (.ref g) = true) (hb2 : Binds X.K gd qs []) (dg : (gt == ("__debug__" : Str)) = false)
    (hgl : Gl X "len") (hml : X.mg "len" = none)
    (he : starEach [.Name pen p3, .Call (.Name "len" p4) [.Name c p5] [] p6] X.env = (false, eval (.Name pen p3) X.env) :: starEach [.Call (.Name "len" p4) [.Name c p5] [] p6] X.env)
    (he2 : starEach [.Call (.Name "len" p4) [.Name c p5] [] p6] X.env = (false, eval (.Call (.Name "len" p4) [.Name c p5] [] p6) X.env) :: starEach [] X.env)
    (he3 : starEach [.Name c p5] X.env = (false, eval (.Name c p5) X.env) :: starEach [] X.env)
    (hs : swapsWith (.Subscript (.Name c p1) (.Call (.Name ft p2) [.Name pen p3, .Call (.Name "len" p4) [.Name c p5] [] p6] [] p7) p10) (some (.Name xr p8)) p9.line X.env = pure false)
    (hst : starEach [.Name xr q5, .Constant (.str "") jn q6] X.env = [(false, eval (.Name xr q5) X.env), (false, eval (.Constant (.str "") jn q6) X.env)]) (hbase : attributeBase (.Name c q4) "replace" X.env (eval (.Name c q4) X.env) = eval (.Name c q4) X.env) (hline : (apos.endLine == q7.line) = true)
    (hf : starEach [.Name pen q3, .Call (.Attribute (.Name c q4) "replace" apos) [.Name xr q5, .Constant (.str "") jn q6] [] q7] X.env = (false, eval (.Name pen q3) X.env) :: starEach [.Call (.Attribute (.Name c q4) "replace" apos) [.Name xr q5, .Constant (.str "") jn q6] [] q7] X.env)
    (hf2 : starEach [.Call (.Attribute (.Name c q4) "replace" apos) [.Name xr q5, .Constant (.str "") jn q6] [] q7] X.env = (false, eval (.Call (.Attribute (.Name c q4) "replace" apos) [.Name xr q5, .Constant (.str "") jn q6] [] q7) X.env) :: starEach [] X.env)
    (hs2 : swapsWith (.Call (.Name gt q2) [.Name pen q3, .Call (.Attribute (.Name c q4) "replace" apos) [.Name xr q5, .Constant (.str "") jn q6] [] q7] [] q9) (some (.Name xl q1)) q8.line X.env = pure false)
    (hrest : SB X rest u) :
    SB X (.Assign [.Name xr p8] (.Subscript (.Name c p1) (.Call (.Name ft p2) [.Name pen p3, .Call (.Name "len" p4) [.Name c p5] [] p6] [] p7) p10) p9 :: .Assign [.Name xl q1] (.Call (.Name gt q2) [.Name pen q3, .Call (.Attribute (.Name c q4) "replace" apos) [.Name xr q5, .Constant (.str "") jn q6] [] q7] [] q9) q8 :: rest) (sPick ic ip ir il wt wg u) := by
  refine ⟨fun pins s σ H D I h => ?_⟩
  obtain ⟨pn, F0, H0, F, env, b, PD, rep, t, kk, r⟩ := h
  unfold sPick at t
  split at t
  case h_2 => exact t.elim
  rename_i z hc hp
  obtain ⟨len, t⟩ := t
  obtain ⟨vc, hvz, rz⟩ := rep.rep.slot ic _ hc
  cases rz
  obtain ⟨vp, hvpv, pa, ca, epn, ep⟩ := rep.rep.slot ip _ hp
  refine wpAny_execs_cons (asg_raw (σ := σ) (pins := pins) nd hNr hlr dr (thn (pick_raw (Q := fun v H1 => ∃ d F1 b1, v = .str ⟨#[d]⟩ ∧ Ok pn b1 F1 H1 ∧ Ext pn F H F1 H1 ∧
      wg [.p, .d (.str (Txt.replace z ⟨#[d]⟩ Str.empty))] b1 fun e b2 => u PD ((env.set ir (some (.d (.str ⟨#[d]⟩)))).set il (some (.d e))) b2)
    hNc hvc dc cc hNp hvp dp cp G hr hg hm hk hb df hgl hml he he2 he3 I hvz hvpv len ?_) fun w s1 q => ?_) hs)
  · refine ⟨pn, F, [.p, .d (.int z.length)], b, _, rep.rep.ok, ⟨⟨pa, ca, epn, ep⟩, rfl, .int _, rfl, rep.rep.tk⟩, t, fun v d F1 H1 b1 o1 x1 rv q => ?_⟩
    cases rv with
    | int i =>
      simp only at q
      cases e : atI z.cps.toList i with
      | none => rw [e] at q; exact q.elim
      | some d => rw [e] at q; exact ⟨i, d, rfl, e, d, F1, b1, rfl, o1, x1, q⟩
    | _ => exact q.elim
  · obtain ⟨y, tk, H1, rfl, t0, tl, I1, ny, d, F1, b1, ey, o1, x1, q⟩ := q
    cases ey
    refine ⟨_, tk, H1, rfl, t0, tl, I1, fun s2 I2 raw tl2 => ?_⟩
    have rep1 := rep.ext' o1 x1
    have rep2 := rep1.setD (i := ir) (d := .str ⟨#[d]⟩) (RV.str _)
    have hz2 : (σ.set ir (some (V.str ⟨#[d]⟩)))[ic]? = some (some (V.str z)) := by rw [List.getElem?_set_ne (Ne.symm ncr)]; exact hvz
    have hp2 : (σ.set ir (some (V.str ⟨#[d]⟩)))[ip]? = some (some vp) := by rw [List.getElem?_set_ne (Ne.symm npr)]; exact hvpv
    refine wpAny_execs_cons (wpAny_Assign_Name (thn (Q := EP X pins (σ.set ir (some (V.str ⟨#[d]⟩))) fun v H2 => ∃ e F2 b2, RV X.K F2 v e ∧ Ok pn b2 F2 H2 ∧ Ext pn F1 H1 F2 H2 ∧ u PD ((env.set ir (some (.d (.str ⟨#[d]⟩)))).set il (some (.d e))) b2) ?_ fun w s3 q3 => ?_) hs2)
    · refine wpAny_Call_Name_kw (ld_glob I2 hg2 hm2 ?_ dg)
      refine PySem.W.callWith_K (h₀ := X.base) I2.ok.mod.kin hk2 ?_ hf (by rw [hf2]; rfl)
      rw [hf]
      show wpAny _ _ (spliced ((false, eval (.Name pen q3) X.env) :: backTo q9 (starEach [.Call (.Attribute (.Name c q4) "replace" apos) [.Name xr q5, .Constant (.str "") jn q6] [] q7] X.env))) _ _ s2
      refine Calls.spliced_cons (raw_name hNp hvp I2 hp2 (fun vpen rpen => ?_) dp cp)
      rw [hf2]
      show wpAny _ _ (spliced ((false, eval (.Call (.Attribute (.Name c q4) "replace" apos) [.Name xr q5, .Constant (.str "") jn q6] [] q7) X.env) :: backTo q9 (starEach [] X.env))) _ _ s2
      refine Calls.spliced_cons (thn (strike_raw (Q := fun v H2 => v = .str (Txt.replace z ⟨#[d]⟩ Str.empty) ∧ H2 = H1) hNc hvc dc cc I2 hz2 raw t0 tl2 ny len hst hbase hline ⟨rfl, rfl⟩) fun w s4 q4 => Calls.spliced_nil ?_)
      obtain ⟨v4, H4, I4, r4, rfl, rfl⟩ := q4
      refine ⟨I4.kIn, run_fn G2 hr2 hb2 .nil pass0 (vs := [vp, .str (Txt.replace z ⟨#[d]⟩ Str.empty)]) I4 (Paired.cons rpen (.cons r4 .nil)) ?_⟩
      exact ⟨pn, F1, [.p, .d (.str (Txt.replace z ⟨#[d]⟩ Str.empty))], b1, _, o1, ⟨⟨pa, ca, epn, ep⟩, rfl, .str _, rfl, rep.rep.tk⟩, q, fun v e F2 H2 b2 o2 x2 rv q => ⟨e, F2, b2, rv, o2, x2, q⟩⟩
    · obtain ⟨v, H3, I3, r3, e, F2, b2, rv, o2, x2, q⟩ := q3
      refine store_ok I3 nd hNl hll r3 (fun s5 I5 => ?_) hfl
      have rep3 := (rep2.ext' o2 x2).setD (i := il) rv
      exact hrest.run pins s5 _ H3 D I5 ⟨pn, F0, H0, F2, _, b2, PD, rep3, q, kk, r⟩
end
end Pu
namespace Pu
open PySem PySem.Spec PyProof.Rows L2
end Pu
namespace Pu
open PySem PySem.Spec PyProof.Rows L2
end Pu
namespace PuS
open PySem PySem.Spec PyProof.Rows L2
section
variable {P : Program} {w : World} {κ : Type} [DecidableEq κ] {kd : PySem.KeyKind P w κ}
/-- the key that a value is -/
noncomputable def kO (kd : PySem.KeyKind P w κ) (v : Value) : Option κ := open Classical in if h : ∃ k, kd.is k v = true then some h.choose else none
theorem kO_is {k : κ} {v : Value} (h : kd.is k v = true) : kO kd v = some k := by
  have e : ∃ k, kd.is k v = true := ⟨k, h⟩
  unfold kO
  rw [dif_pos e]
  exact congrArg some (kd.inj v _ _ e.choose_spec h)
theorem is_kO {k : κ} {v : Value} (h : kO kd v = some k) : kd.is k v = true := by
  unfold kO at h
  split at h
  · rename_i e
    cases h
    exact e.choose_spec
  · cases h
noncomputable abbrev kE (kd : PySem.KeyKind P w κ) (e : Int × Value) : Option κ := kO kd e.2
theorem kE_mem {l : List (Int × Value)} (k : κ) : some k ∈ l.map (kE kd) ↔ ∃ e ∈ l, kd.is k e.2 = true :=
  List.mem_map.trans ⟨fun ⟨e, he, q⟩ => ⟨e, he, is_kO q⟩, fun ⟨e, he, q⟩ => ⟨e, he, kO_is q⟩⟩
/-- the set at a: its members M, n of them -/
structure SG (kd : PySem.KeyKind P w κ) (o : Obj) (M : κ → Bool) (n : Nat) (es : Array (Int × Value)) (ep : Nat) (t : SetTable) : Prop where
  ex : o.ExactSet
  dt : o.data = .set es ep t
  el : ElemsOf kd es.toList
  nd : (es.toList.map (kE kd)).Nodup
  mem : ∀ k, M k = true ↔ some k ∈ es.toList.map (kE kd)
  few : es.size < scanBound
  fit : t.fits es.size = true
  num : es.size = n
  ris : Ris t.place.toList
  led : w.params.followText "set-order" = true ∨ t.led = true
def SetG (kd : PySem.KeyKind P w κ) (h : Heap) (a : Addr) (M : κ → Bool) (n : Nat) : Prop := ∃ o es ep t, h.get? a = some o ∧ SG kd o M n es ep t
variable {h h' : Heap} {a : Addr} {M : κ → Bool} {n : Nat}
theorem SetG.at' (R : SetG kd h a M n) (k : ∀ o, h.get? a = some o → h'.get? a = some o) : SetG kd h' a M n := let ⟨o, es, ep, t, ho, r⟩ := R; ⟨o, es, ep, t, k o ho, r⟩
theorem SetG.congr {M' : κ → Bool} {n' : Nat} (R : SetG kd h a M n) (e : ∀ k, M k = M' k) (en : n = n') : SetG kd h a M' n' := by
  obtain rfl : M = M' := funext e
  subst en
  exact R
end
section
variable {P : Program} {w : World} {κ : Type} [DecidableEq κ] {kd : PySem.KeyKind P w κ} {A : Around} {E : Value → Shared → Prop} {s : Shared} {a : Addr} {M : κ → Bool} {n : Nat}
theorem tailG {g : Bool → Sem Unit} (hg : ∀ (b : Bool) (s₁ : Shared) (Q' : Unit → Shared → Prop), Q' () s₁ → wpAny (model P w) A (g b) Q' E s₁) {o : Obj} {es0 : Array (Int × Value)} {ep : Nat} {t0 : SetTable}
    (ho : s.heap.get? a = some o) (hx : o.ExactSet) (hd : o.data = .set es0 ep t0) {es : Array (Int × Value)} {t : SetTable} {M' : κ → Bool}
    (G : ∀ o' ep' t' es', es'.toList.Perm es.toList → o'.ExactSet → o'.data = .set es' ep' t' → t'.fits es'.size = true → Ris t'.place.toList → (w.params.followText "set-order" = true ∨ t'.led = true) → SG kd o' M' es.size es' ep' t')
    (few : es.size < scanBound) (fit : t.fits es.size = true) (ris : Ris t.place.toList) (led : w.params.followText "set-order" = true ∨ t.led = true) {wd : Bool} {R : Option Bool → Shared → Prop}
    (fin : ∀ h', Heap.SameBut a s.heap h' → SetG kd h' a M' es.size → R (some true) { s with heap := h' }) :
    wpAny (model P w) A (do
        storeSet a es t
        if (!wd && t.tooFull) = true then do
            g (relayAll t es (SetTable.grown es.size)).2.2
            storeSet a (relayAll t es (SetTable.grown es.size)).1 (relayAll t es (SetTable.grown es.size)).2.1
            pure (some true)
          else pure (some true)) R E s := by
  have st1 := store_at (es' := es) (t' := t) ho hd
  have sm1 := Heap.SameBut.update s.heap a (Obj.putSet es t)
  refine wpAny_bind (wpAny_storeSet_of ho hd ?_ (fits_of_scanBound few))
  split
  · have f1 := relayAll_perm t es (SetTable.grown es.size)
    have f2 := relayAll_fits t es (SetTable.grown es.size)
    have f3 := relayAll_ris t es (SetTable.grown es.size)
    have f4 := relayAll_led t es (SetTable.grown es.size)
    generalize relayAll t es (SetTable.grown es.size) = Y at f1 f2 f3 f4 ⊢
    obtain ⟨es2, t2, gv⟩ := Y
    dsimp only at f1 f2 f3 f4 ⊢
    have sz : es2.size = es.size := by rw [← Array.length_toList, f1.length_eq, Array.length_toList]
    refine wpAny_bind (hg _ _ _ (wpAny_bind (wpAny_storeSet_of st1 rfl ?_ (fits_of_scanBound (by rw [sz]; exact few)))))
    have st2 := store_at (es' := es2) (t' := t2) st1 rfl
    exact wpAny_pure (fin _ (sm1.trans (Heap.SameBut.update _ a _)) ⟨_, es2, _, t2, st2, G _ _ _ _ f1 hx rfl f2 f3 (led.imp id fun z => by rw [f4]; exact z)⟩)
  · exact wpAny_pure (fin _ sm1 ⟨_, es, _, t, st1, G _ _ _ _ (List.Perm.refl _) hx rfl fit ris led⟩)
theorem addG {k : κ} {x : Value} {Q : Bool → Shared → Prop} (hx : kd.is k x = true) (hsc : x.scannable = true) (R : SetG kd s.heap a M n) (room : n + 1 < scanBound)
    (hQ : ∀ h', Heap.SameBut a s.heap h' → SetG kd h' a (fun j => M j || decide (j = k)) (if M k = true then n else n + 1) → Q (!M k) { s with heap := h' }) :
    wpAny (model P w) A (setAddHashed a x (kd.hash k)) Q E s := by
  obtain ⟨o, es, ep, t, ho, r⟩ := R
  unfold setAddHashed setAddHashedIn
  refine wpAny_holding (wpAny_bind (wpAny_setState_of ho r.dt r.fit ?_))
  dsimp only
  rw [byScan_of hsc r.few r.el]
  simp only [↓reduceIte]
  unfold setAddByScan
  refine wpAny_bind (wpAny_bind (wpAny_rule (wpAny_bind (wpAny_setScan_of hx ho r.dt r.fit r.el ?_))))
  cases hfi : List.findIdx? (fun e => kd.is k e.2) es.toList with
  | some j =>
    dsimp only
    obtain ⟨hj, pj, _⟩ := List.findIdx?_eq_some_iff_getElem.mp hfi
    have there : M k = true := (r.mem k).2 ((kE_mem k).2 ⟨es.toList[j], List.getElem_mem hj, pj⟩)
    have q := hQ s.heap (Heap.SameBut.refl a s.heap) ⟨o, es, ep, t, ho, { r with
      mem := fun i => by
        rw [Bool.or_eq_true, decide_eq_true_eq, ← r.mem i]
        exact ⟨fun z => z.elim id (fun e => e ▸ there), .inl⟩
      num := by rw [if_pos there]; exact r.num }⟩
    rw [there] at q
    exact wpAny_pure (wpAny_pure q)
  | none =>
    dsimp only
    have nk : some k ∉ es.toList.map (kE kd) := fun z => by
      obtain ⟨e, he, q⟩ := (kE_mem k).1 z
      have c := List.findIdx?_eq_none_iff.mp hfi e he
      rw [q] at c
      cases c
    have gone : M k = false := Bool.eq_false_iff.mpr fun z => nk ((r.mem k).1 z)
    have ways : ∀ (b : Bool) {s₁ : Shared} {Q' : Unit → Shared → Prop}, Q' () s₁ → wpAny (model P w) A (match b with | true => rule "set.scan.the-table-gave-way" | false => pure ()) Q' E s₁ := by
      intro b s₁ Q' q
      cases b <;> first | exact wpAny_pure q | exact wpAny_rule q
    have f1 := layNew_perm t es (kd.hash k) x
    have f2 := layNew_fits t es (kd.hash k) x
    have f3 := layNew_ris t es (kd.hash k) x r.ris
    have f4 := layNew_led t es (kd.hash k) x
    generalize layNew t es (kd.hash k) x = Y at f1 f2 f3 f4 ⊢
    obtain ⟨es1, t1, wd, gv⟩ := Y
    dsimp only at f1 f2 f3 f4 ⊢
    rw [Array.toList_push] at f1
    have pc : es1.toList.Perm ((kd.hash k, x) :: es.toList) := f1.trans (List.perm_append_singleton _ _)
    have sz : es1.size = n + 1 := by rw [← Array.length_toList, pc.length_eq, List.length_cons, Array.length_toList, r.num]
    have few1 : es1.size < scanBound := by rw [sz]; exact room
    have led1 : w.params.followText "set-order" = true ∨ t1.led = true := r.led.imp id fun z => by rw [f4]; exact z
    have G : ∀ o' ep' t' es', es'.toList.Perm es1.toList → o'.ExactSet → o'.data = .set es' ep' t' → t'.fits es'.size = true → Ris t'.place.toList → (w.params.followText "set-order" = true ∨ t'.led = true) →
        SG kd o' (fun j => M j || decide (j = k)) es1.size es' ep' t' := fun o' ep' t' es' pm q1 q2 q3 q4 q5 => by
      have p2 := pm.trans pc
      have pk : (es'.toList.map (kE kd)).Perm (some k :: es.toList.map (kE kd)) := by
        have z := p2.map (kE kd)
        rw [List.map_cons] at z
        rwa [show kE kd (kd.hash k, x) = some k from kO_is hx] at z
      have sz' : es'.size = es1.size := by rw [← Array.length_toList, pm.length_eq, Array.length_toList]
      exact { ex := q1, dt := q2, fit := q3, ris := q4, led := q5, few := by rw [sz']; exact few1, num := sz'
              el := fun e he => (List.mem_cons.mp (p2.mem_iff.mp he)).elim (fun z => by rw [z]; exact ⟨⟨k, hx, rfl⟩, hsc⟩) (r.el e)
              nd := pk.nodup_iff.mpr (List.nodup_cons.mpr ⟨nk, r.nd⟩)
              mem := fun i => by
                rw [Bool.or_eq_true, decide_eq_true_eq, r.mem i, pk.mem_iff, List.mem_cons, Option.some.injEq]
                exact Or.comm }
    have fin : ∀ h', Heap.SameBut a s.heap h' → SetG kd h' a (fun j => M j || decide (j = k)) es1.size → Q true { s with heap := h' } := fun h' sb z => by
      have q := hQ h' sb (by rw [gone]; rw [sz] at z; exact z)
      rwa [gone] at q
    refine wpAny_bind (ways _ ?_)
    split
    · refine wpAny_bind ?_
      rw [hashByValue_scannable 8 hsc]
      refine wpAny_pure (tailG (kd := kd) ?_ ho r.ex r.dt G few1 ?_ ?_ ?_ ?_)
      · intro b s₁ Q' q
        cases b <;> first | exact wpAny_pure q | exact wpAny_rule q
      · first | (split <;> first | exact f2 | exact SetTable.fits_plain_off f2) | exact f2
      · first | (split <;> exact f3) | exact f3
      · first | (split <;> exact led1) | exact led1
      · intro h' sb z
        dsimp only
        exact wpAny_pure (fin h' sb z)
    · refine wpAny_bind (wpAny_pure ?_)
      simp only [↓reduceIte]
      refine tailG (kd := kd) ?_ ho r.ex r.dt G few1 f2 f3 led1 ?_
      · intro b s₁ Q' q
        cases b <;> first | exact wpAny_pure q | exact wpAny_rule q
      · intro h' sb z
        dsimp only
        exact wpAny_pure (fin h' sb z)
end
end PuS
namespace PuS
open PySem PySem.Spec PyProof.Rows L2
/-- the keys, each once, in the order they come -/
def dstep {κ : Type} [DecidableEq κ] (acc : List κ) (k : κ) : List κ := if k ∈ acc then acc else acc ++ [k]
def dist {κ : Type} [DecidableEq κ] (l : List κ) : List κ := l.foldl dstep []
theorem dist_snoc {κ : Type} [DecidableEq κ] (l : List κ) (k : κ) : dist (l ++ [k]) = dstep (dist l) k := by
  unfold dist
  rw [List.foldl_append]
  rfl
theorem dist_len {κ : Type} [DecidableEq κ] (l : List κ) : (dist l).length ≤ l.length := by
  suffices h : ∀ (l acc : List κ), (l.foldl dstep acc).length ≤ acc.length + l.length by
    have := h l []
    simpa [dist] using this
  intro l
  induction l with
  | nil => intro acc; simp
  | cons x r ih =>
    intro acc
    refine Nat.le_trans (ih _) ?_
    unfold dstep
    split
    · simp only [List.length_cons]; omega
    · simp only [List.length_append, List.length_cons, List.length_nil]; omega
theorem dist_next {κ : Type} [DecidableEq κ] {ks : List κ} {i : Nat} {k : κ} (h : ks[i]? = some k) : dist (ks.take (i + 1)) = dstep (dist (ks.take i)) k := by
  rw [take_next h, dist_snoc]
theorem mem_dstep {κ : Type} [DecidableEq κ] {acc : List κ} {k j : κ} : decide (j ∈ dstep acc k) = (decide (j ∈ acc) || decide (j = k)) := by
  unfold dstep
  split
  · rename_i hk
    by_cases e : j = k
    · subst e; simp [hk]
    · simp [e]
  · simp
theorem len_dstep {κ : Type} [DecidableEq κ] {acc : List κ} {k : κ} : (dstep acc k).length = if decide (k ∈ acc) = true then acc.length else acc.length + 1 := by
  unfold dstep
  by_cases hk : k ∈ acc <;> simp [hk]
section
variable {P : Program} {w : World} {κ : Type} [DecidableEq κ] {kd : PySem.KeyKind P w κ} {A : Around} {E : Value → Shared → Prop} {s : Shared}
/-- the set of the first keys -/
abbrev SetT (kd : PySem.KeyKind P w κ) (h : Heap) (a : Addr) (ks : List κ) : Prop := SetG kd h a (fun k => decide (k ∈ dist ks)) (dist ks).length
theorem freshG {h : Heap} {a : Addr} (ho : h.get? a = some { cls := .type "set", dict := none, data := .set #[] 0 (.fresh 0 0 (!w.params.followText "set-order")) }) : SetT kd h a [] :=
  ⟨_, #[], 0, _, ho, { ex := ⟨rfl, rfl, rfl⟩, dt := rfl, el := fun e he => by cases he
                       nd := List.nodup_nil, mem := fun k => by simp [dist], few := by decide, fit := by rfl, num := rfl, ris := List.Pairwise.nil
                       led := by
                        show _ ∨ (!w.params.followText "set-order") = true
                        cases w.params.followText "set-order"
                        · exact .inr rfl
                        · exact .inl rfl }⟩
theorem loopG {R : Result → Shared → Prop} {I S : Addr} {fp wr : List Addr} {G : Array GenState → Array GenState → Prop} {n : Nat} {Pv : Nat → Value → Prop} {St : Nat → Shared → Prop} {ks : List κ}
    (W : WalksS P w A.in1 I fp wr G n Pv St) (nS : S ∉ fp) (hn : n = ks.length) (room : n + 1 < scanBound) (val : ∀ i v, Pv i v → ∃ k, ks[i]? = some k ∧ kd.is k v = true ∧ v.scannable = true) :
    ∀ (m i : Nat) (s : Shared), n - i = m → i ≤ n → St i s → SetT kd s.heap S (ks.take i) →
      (∀ s', Moved (S :: wr) G s s' → SetT kd s'.heap S ks → R (.ok (.ret .none)) s') → codeAny (model P w) A (.builtin "set.update.loop" ⟨[.ref S, .ref I], []⟩) R s := by
  have nw : S ∉ wr := fun z => nS (W.sub _ z)
  have up : ∀ b ∈ wr, b ∈ S :: wr := fun b z => List.mem_cons_of_mem _ z
  intro m
  induction m with
  | zero =>
    intro i s e0 e1 st R0 hR
    obtain rfl : i = n := by omega
    refine codeAny_builtin F.entry_set_update_loop ?_
    rw [Around.under_plainId F.plain_set_update_loop _]
    refine wpAny_bind (W.done s _ _ st fun s' mv => wpAny_pure (hR s' (mv.mono up) ?_))
    have z : ks.take i = ks := by rw [hn]; exact List.take_length
    rw [z] at R0
    exact R0.at' fun o e => mv.heap S o nw e
  | succ m ih =>
    intro i s e0 e1 st R0 hR
    refine codeAny_builtin F.entry_set_update_loop ?_
    rw [Around.under_plainId F.plain_set_update_loop _]
    refine wpAny_bind (W.item i s _ _ (by omega) st fun v s' pv st' mv => ?_)
    obtain ⟨k, hk, kv, sc⟩ := val i v pv
    have R1 := R0.at' (h' := s'.heap) fun o e => mv.heap S o nw e
    show wpAny _ A.in1 (holding [v] (setAdd S v) >>= _) _ _ s'
    unfold setAdd
    refine wpAny_bind (wpAny_holding (wpAny_holding (wpAny_bind (kd.pyHash kv (addG (s := { s' with toks := s'.toks + 1 }) kv sc R1 ?_ fun h' sb R2 => ?_)))))
    · have := dist_len (ks.take i)
      have := List.length_take_le i ks
      omega
    · have R3 : SetT kd h' S (ks.take (i + 1)) := R2.congr (fun j => by rw [dist_next hk, mem_dstep]) (by rw [dist_next hk, len_dstep])
      refine wpAny_pure ⟨plainId_quiet F.plain_set_update_loop _, ih (i + 1) _ (by omega) (by omega) (W.frame _ s' _ _ st' (Nat.le_succ _) fun b hb o e => ?_) R3 fun s'' mv' R4 => ?_⟩
      · exact (sb.2 b fun z => nS (by rw [← z]; exact hb)).trans e
      · exact hR s'' (Moved.trans W.gtrans ((mv.mono up).then_heap (Nat.le_succ _) fun b o hb e => (sb.2 b fun z => hb (by rw [z]; exact List.mem_cons_self)).trans e) mv') R4
/-- the heap with a new set -/
abbrev nset (w : World) (s : Shared) : Heap := s.heap.push { cls := .type "set", dict := none, data := .set #[] 0 (.fresh 0 0 (!w.params.followText "set-order")) }
abbrev Keeps0 (s : Shared) (h' : Heap) : Prop := ∀ b o, b < s.heap.objs.size → s.heap.get? b = some o → h'.get? b = some o
/-- what update does to the new set -/
def Upd (kd : PySem.KeyKind P w κ) (A : Around) (s : Shared) (x : Value) (ks : List κ) : Prop := ∀ (A' : Around) (E' : Value → Shared → Prop) (Q' : Unit → Shared → Prop), A'.handled = A.handled →
  (∀ h' tk, SetT kd h' s.heap.objs.size ks → Keeps0 s h' → Q' () { s with heap := h', toks := tk }) → wpAny (model P w) A' (Builtin.Frozenset.updateFrom "set.__init__" s.heap.objs.size x) Q' E' { s with heap := nset w s }
set_option maxHeartbeats 3200000 in
theorem callG {x : Value} {ks : List κ} {Q : Value → Shared → Prop} (U : Upd kd A s x ks)
    (h : ∀ h' tk, SetT kd h' s.heap.objs.size ks → Keeps0 s h' → Q (.ref s.heap.objs.size) { s with heap := h', toks := tk }) : wpAny (model P w) A (call (.type "set") [x]) Q E s := by
  obtain ⟨c, tl, hmro⟩ := F.called_set.mro
  have c1 := F.called_set.made
  have c2 := F.called_set.sub
  have c3 := F.called_set.notType
  have c4 := F.called_set.canCreate
  have c5 := F.typeCall_set_1 x
  refine wpAny_call (codeAny_of_tree ?_)
  show wpAny _ _ (callAny (.type "set") _) _ _ _
  refine wpAny_pure ⟨Code.quiet_builtin _ (by decide +kernel), codeAny_builtin F.entry_type_call ?_⟩
  rw [Around.under_plain (weight_type_call_type "set" [x] []) rfl]
  repeat (any_goals (first | assumption | wp_step))
  refine codeAny_mono (code_set_led1 x (E := E) (Q₁ := fun obj s₁ => obj = .ref s.heap.objs.size ∧ s₁ = { s with heap := nset w s }) ⟨rfl, rfl⟩) fun r s₁ hr => ?_
  cases r with
  | error e => exact hr
  | ok fl =>
    cases fl with
    | ret obj =>
      obtain ⟨rfl, rfl⟩ := hr
      have gS : (nset w s).get? s.heap.objs.size = some { cls := .type "set", dict := none, data := .set #[] 0 (.fresh 0 0 (!w.params.followText "set-order")) } := Heap.get?_push_size _ rfl
      have hT : Shared.TypeIs { s with heap := nset w s } (.ref s.heap.objs.size) "set" := ⟨_, gS, rfl⟩
      have c6 := F.called_set.init.lookup
      have c7 := F.called_set.init.bind (.ref s.heap.objs.size)
      repeat (any_goals (first | assumption | wp_step))
      refine codeAny_mono (codeAny_call_builtin (R := wants (fun r s₂ => r = .none ∧ ∃ h' tk, s₂ = { s with heap := h', toks := tk } ∧ SetT kd h' s.heap.objs.size ks ∧ Keeps0 s h') E) F.called_set.init.plain F.entry_set_init (check_set_init_1 hT ?_)) fun r₂ s₂ hr₂ => ?_
      · unfold Builtin.«set.__init__» noKeywords
        have u := fun (A' : Around) => U A'
        generalize Builtin.Frozenset.updateFrom = UF at u ⊢
        wp_walk
        refine u A.in1.in1 _ _ rfl fun h' tk R k => ?_
        exact wpAny_pure ⟨rfl, h', tk, rfl, R, k⟩
      · cases r₂ with
        | error e => exact hr₂
        | ok fl₂ =>
          cases fl₂ with
          | ret r =>
            obtain ⟨rfl, h', tk, rfl, R, k⟩ := hr₂
            repeat (any_goals (first | assumption | wp_step))
            exact h _ _ R k
          | _ => exact hr₂.elim
    | _ => exact hr.elim
end
end PuS
namespace PuS
open PySem PySem.Spec PyProof.Rows L2
theorem sub_str_set : isSubtype (.type "str") (.type "set") = pure false := by rw [isSubtype_type]; kernel_rfl
theorem sub_str_frozenset : isSubtype (.type "str") (.type "frozenset") = pure false := by rw [isSubtype_type]; kernel_rfl
section
variable {P : Program} {w : World} {κ : Type} [DecidableEq κ] {kd : PySem.KeyKind P w κ} {A : Around} {E : Value → Shared → Prop} {s : Shared}
/-- values that are keys -/
def Keyed (kd : PySem.KeyKind P w κ) (vs : List Value) (ks : List κ) : Prop := vs.length = ks.length ∧ ∀ (i : Nat) (v : Value), vs[i]? = some v → ∃ k, ks[i]? = some k ∧ kd.is k v = true ∧ v.scannable = true
theorem Keyed.nil : Keyed kd [] [] := ⟨rfl, fun i v h => by simp at h⟩
theorem Keyed.cons {v : Value} {k : κ} {vs : List Value} {ks : List κ} (h : kd.is k v = true) (q : v.scannable = true) (r : Keyed kd vs ks) : Keyed kd (v :: vs) (k :: ks) :=
  ⟨congrArg (· + 1) r.1, fun i u e => by
    cases i with
    | zero => simp at e; subst e; exact ⟨k, rfl, h, q⟩
    | succ i => simpa using r.2 i u (by simpa using e)⟩
theorem nset_size : (nset w s).objs.size = s.heap.objs.size + 1 := by rw [Heap.size_push]
theorem nset_get {o : Obj} : ((nset w s).push o).get? s.heap.objs.size = some { cls := .type "set", dict := none, data := .set #[] 0 (.fresh 0 0 (!w.params.followText "set-order")) } :=
  Heap.get?_push_of_some _ (Heap.get?_push_size _ rfl)
/-- behind the loop -/
theorem endG {ks : List κ} {G : Array GenState → Array GenState → Prop} {o : Obj} {s' : Shared} {Q' : Unit → Shared → Prop} (hm : Moved [s.heap.objs.size, (nset w s).objs.size] (fun a b => b = a) { s with heap := (nset w s).push o } s')
    (R : SetT kd s'.heap s.heap.objs.size ks) (q : ∀ h' tk, SetT kd h' s.heap.objs.size ks → Keeps0 s h' → Q' () { s with heap := h', toks := tk }) : Q' () s' := by
  obtain ⟨h', g', d', tk', os'⟩ := s'
  have eg : g' = s.gens := hm.gens
  have ed : d' = s.drawn := hm.drawn
  have eo : os' = s.os := hm.os
  subst eg; subst ed; subst eo
  refine q h' tk' R fun b u hb e => hm.heap b u (fun z => ?_) (Heap.get?_push_of_some _ (Heap.get?_push_of_some _ e))
  rcases List.mem_cons.mp z with z | z
  · rw [z] at hb; exact Nat.lt_irrefl _ hb
  · rw [List.mem_singleton.mp z, nset_size] at hb
    omega
set_option maxHeartbeats 3200000 in
theorem upd_list {l : Addr} {items : Array Value} {ks : List κ} (hh : A.handled = none) (hl : s.heap.IsList l items) (kv : Keyed kd items.toList ks) (room : ks.length + 1 < scanBound) : Upd kd A s (.ref l) ks := fun A' E' Q' ha q => by
  have hA : A'.handled = none := ha.trans hh
  obtain ⟨ol, hol, hcl, nl, hdl⟩ := hl
  obtain ⟨ocls, odict, odata, oslots⟩ := ol
  simp only at hcl hdl
  subst hcl; subst hdl
  have d1 : (nset w s).get? l = some { cls := .type "list", dict := odict, data := .seq items nl, slots := oslots } := Heap.get?_push_of_some _ hol
  have d2 := F.sub_list_set
  have d3 := F.sub_list_frozenset
  have d4 : (Value.type "list" == Value.type "dict") = false := by decide
  have d5 : (nset w s).IsList l items := ⟨_, d1, rfl, nl, rfl⟩
  unfold Builtin.Frozenset.updateFrom
  generalize hPI : pyIter = PI
  wp_walk
  subst hPI
  have lt : l < s.heap.objs.size := Heap.lt_size hol
  have ne : l ≠ (nset w s).objs.size := by rw [nset_size]; exact Nat.ne_of_lt (Nat.lt_succ_of_lt lt)
  have sz : items.size = ks.length := by rw [← kv.1, Array.length_toList]
  refine wpAny_pyIter_list d5 (wpAny_bind (wpAny_runValue (loopG (kd := kd) (ks := ks) ((Walks.list (by simp [hA]) _ l ne items).toS) ?_ sz (by omega) (fun i v hv => kv.2 i v (by rw [Array.getElem?_toList]; exact hv)) (items.size - 0) 0 _ (by omega) (Nat.zero_le _)
    ⟨⟨_, Heap.get?_push_size _ rfl, rfl, rfl⟩, d5.push _⟩ (freshG nset_get) fun s' hm R => ?_)))
  · simp only [List.mem_cons, List.mem_singleton, List.not_mem_nil, or_false, not_or, nset_size]
    exact ⟨Nat.ne_of_lt (Nat.lt_succ_self _), Nat.ne_of_gt lt⟩
  · exact wpAny_pure (endG (G := fun a b => b = a) hm R q)
set_option maxHeartbeats 3200000 in
theorem upd_tuple {l : Addr} {items : Array Value} {ks : List κ} (hh : A.handled = none) (hl : s.heap.IsTuple l items) (kv : Keyed kd items.toList ks) (room : ks.length + 1 < scanBound) : Upd kd A s (.ref l) ks := fun A' E' Q' ha q => by
  have hA : A'.handled = none := ha.trans hh
  obtain ⟨ol, hol, hcl, nl, hdl⟩ := hl
  obtain ⟨ocls, odict, odata, oslots⟩ := ol
  simp only at hcl hdl
  subst hcl; subst hdl
  have d1 : (nset w s).get? l = some { cls := .type "tuple", dict := odict, data := .seq items nl, slots := oslots } := Heap.get?_push_of_some _ hol
  have d2 := F.sub_tuple_set
  have d3 := F.sub_tuple_frozenset
  have d4 : (Value.type "tuple" == Value.type "dict") = false := by decide
  have d5 : (nset w s).IsTuple l items := ⟨_, d1, rfl, nl, rfl⟩
  unfold Builtin.Frozenset.updateFrom
  generalize hPI : pyIter = PI
  wp_walk
  subst hPI
  have lt : l < s.heap.objs.size := Heap.lt_size hol
  have ne : l ≠ (nset w s).objs.size := by rw [nset_size]; exact Nat.ne_of_lt (Nat.lt_succ_of_lt lt)
  have sz : items.size = ks.length := by rw [← kv.1, Array.length_toList]
  refine wpAny_pyIter_tuple d5 (wpAny_bind (wpAny_runValue (loopG (kd := kd) (ks := ks) ((Walks.tuple (by simp [hA]) _ l ne items).toS) ?_ sz (by omega) (fun i v hv => kv.2 i v (by rw [Array.getElem?_toList]; exact hv)) (items.size - 0) 0 _ (by omega) (Nat.zero_le _)
    ⟨⟨_, Heap.get?_push_size _ rfl, rfl, rfl⟩, d5.push _⟩ (freshG nset_get) fun s' hm R => ?_)))
  · simp only [List.mem_cons, List.mem_singleton, List.not_mem_nil, or_false, not_or, nset_size]
    exact ⟨Nat.ne_of_lt (Nat.lt_succ_self _), Nat.ne_of_gt lt⟩
  · exact wpAny_pure (endG (G := fun a b => b = a) hm R q)
set_option maxHeartbeats 3200000 in
theorem upd_str {x : Str} {t : Tok} {ks : List κ} (hh : A.handled = none) (sz : x.cps.size = ks.length) (kv : ∀ (i : Nat) (c : Nat) (u : Tok), x.cps[i]? = some c → ∃ k, ks[i]? = some k ∧ kd.is k (.str ⟨#[c]⟩ u) = true) (room : ks.length + 1 < scanBound) : Upd kd A s (.str x t) ks := fun A' E' Q' ha q => by
  have hA : A'.handled = none := ha.trans hh
  have d2 := sub_str_set
  have d3 := sub_str_frozenset
  have d4 : (Value.type "str" == Value.type "dict") = false := by decide
  unfold Builtin.Frozenset.updateFrom
  generalize hPI : pyIter = PI
  wp_walk
  subst hPI
  refine wpAny_pyIter_str (s := { s with heap := nset w s }) fun o St hW hst => wpAny_bind (wpAny_runValue (loopG (kd := kd) (ks := ks) ((hW _ (by simp [hA])).toS) ?_ sz (by omega) (fun i v hv => ?_) (x.cps.size - 0) 0 _ (by omega) (Nat.zero_le _) hst (freshG nset_get) fun s' hm R => ?_))
  · simp only [List.mem_singleton, nset_size]
    exact Nat.ne_of_lt (Nat.lt_succ_self _)
  · obtain ⟨c, u, e1, rfl⟩ := hv
    obtain ⟨k, e2, e3⟩ := kv i c u e1
    exact ⟨k, e2, e3, rfl⟩
  · exact wpAny_pure (endG (G := fun a b => b = a) hm R q)
end
end PuS
namespace PuS
open PySem PySem.Spec PyProof.Rows L2
abbrev sLt (x y : Str) : Prop := x.cps.toList < y.cps.toList
theorem sLt_irrefl (x : Str) : ¬ sLt x x := List.lt_irrefl _
theorem sLt_trans {x y z : Str} (h : sLt x y) (k : sLt y z) : sLt x z := List.lt_trans h k
theorem sLt_tri (x y : Str) : sLt x y ∨ x = y ∨ sLt y x := by
  by_cases h : sLt x y
  · exact .inl h
  · by_cases k : sLt y x
    · exact .inr (.inr k)
    · exact .inr (.inl (PySem.W.str_of_cps (List.le_antisymm (List.not_lt.mp k) (List.not_lt.mp h))))
/-- put in, in ascending order, once -/
def insS (z : Str) : List Str → List Str
  | [] => [z]
  | x :: r => if z = x then x :: r else if sLt z x then z :: x :: r else x :: insS z r
def asc (l : List Str) : List Str := l.foldr insS []
theorem mem_insS {z x : Str} : ∀ {l : List Str}, x ∈ insS z l ↔ x = z ∨ x ∈ l
  | [] => by simp [insS]
  | y :: r => by
    unfold insS
    split
    · rename_i e; subst e; simp
    · split
      · simp
      · rw [List.mem_cons, mem_insS (l := r), List.mem_cons]
        exact ⟨fun h => h.elim (fun a => .inr (.inl a)) fun b => b.elim .inl fun c => .inr (.inr c), fun h => h.elim (fun a => .inr (.inl a)) fun b => b.elim .inl fun c => .inr (.inr c)⟩
theorem insS_asc {z : Str} : ∀ {l : List Str}, l.Pairwise sLt → (insS z l).Pairwise sLt
  | [], _ => List.pairwise_singleton _ _
  | y :: r, h => by
    obtain ⟨h1, h2⟩ := List.pairwise_cons.mp h
    unfold insS
    split
    · exact h
    · split
      · rename_i _ lt
        exact List.pairwise_cons.mpr ⟨fun x hx => (List.mem_cons.mp hx).elim (fun e => e ▸ lt) fun hr => sLt_trans lt (h1 x hr), h⟩
      · rename_i ne nl
        refine List.pairwise_cons.mpr ⟨fun x hx => ?_, insS_asc h2⟩
        rcases mem_insS.mp hx with e | hr
        · subst e
          rcases sLt_tri y x with a | a | a
          · exact a
          · exact absurd a.symm ne
          · exact absurd a nl
        · exact h1 x hr
theorem asc_asc : ∀ (l : List Str), (asc l).Pairwise sLt
  | [] => List.Pairwise.nil
  | y :: r => insS_asc (asc_asc r)
theorem mem_dist {κ : Type} [DecidableEq κ] {x : κ} {l : List κ} : x ∈ dist l ↔ x ∈ l := by
  suffices h : ∀ (l acc : List κ), x ∈ l.foldl dstep acc ↔ x ∈ acc ∨ x ∈ l by
    have := h l []
    simpa [dist] using this
  intro l
  induction l with
  | nil => intro acc; simp
  | cons y r ih =>
    intro acc
    rw [List.foldl_cons, ih, List.mem_cons]
    have : x ∈ dstep acc y ↔ x ∈ acc ∨ x = y := by
      unfold dstep
      split
      · rename_i hy
        exact ⟨.inl, fun z => z.elim id fun e => e ▸ hy⟩
      · simp
    rw [this]
    exact ⟨fun h => h.elim (fun a => a.elim .inl fun b => .inr (.inl b)) fun c => .inr (.inr c), fun h => h.elim (fun a => .inl (.inl a)) fun b => b.elim (fun c => .inl (.inr c)) .inr⟩
end PuS
namespace PuS
open PySem PySem.Spec PyProof.Rows L2 Pu
def ofStr (z : Str) : List Key := z.cps.toList.map fun c => Sum.inr ⟨#[c]⟩
def KeysOfV (K : PySem.W.Frag) (H : Hp) (x : V) (ks : List Key) : Prop := (∃ z, x = .str z ∧ ks = ofStr z) ∨ ∃ l, x = .ref l ∧ (SqL K H l (ks.map kV) ∨ SqT K H l (ks.map kV))
theorem keyed_vals {P : Program} {w : World} : ∀ {ks : List Key} {us : List Value}, Vals (ks.map kV) us → Keyed (mixKind P w) us ks
  | [], _, .nil => .nil
  | k :: ks, _, .cons r t => .cons (kV_is r) (key_scan r) (keyed_vals t)
section
variable {X : Cx} {pins : List (Addr × Obj)} {σ : L2.St} {H : Hp} {s : Shared} {x : V} {v : Value} {ks : List Key}
theorem upd_of (I : Inv X pins σ H s) (hc : X.calm = true) (r : RelV x v) (hk : KeysOfV X.K H x ks) (room : ks.length + 1 < scanBound) : Upd (mixKind X.prog X.w) X.A s v ks := by
  rcases hk with ⟨z, rfl, rfl⟩ | ⟨l, rfl, h | h⟩
  · obtain ⟨t, rfl⟩ := r
    refine upd_str (I.ok.hd hc) (by simp [ofStr]) (fun i c u e => ⟨Sum.inr ⟨#[c]⟩, ?_, mixKind_str _ _ _ _⟩) room
    simp only [ofStr, List.getElem?_map, Array.getElem?_toList, e, Option.map_some]
  · cases r
    obtain ⟨its, rv, pl, hz⟩ := I.list h
    exact upd_list (I.ok.hd hc) pl.isList (by simpa using keyed_vals rv) room
  · cases r
    obtain ⟨its, rv, pl, hz⟩ := I.tuple h
    exact upd_tuple (I.ok.hd hc) pl (by simpa using keyed_vals rv) room
end
theorem nodup_le {κ : Type} [DecidableEq κ] : ∀ {l m : List κ}, l.Nodup → (∀ x ∈ l, x ∈ m) → l.length ≤ m.length
  | [], _, _, _ => Nat.zero_le _
  | x :: l, m, h, s => by
    obtain ⟨h1, h2⟩ := List.nodup_cons.mp h
    have hx := s x (List.mem_cons_self ..)
    have := nodup_le (m := m.erase x) h2 fun y hy => (List.mem_erase_of_ne (fun (e : y = x) => h1 (e ▸ hy))).mpr (s y (List.mem_cons_of_mem _ hy))
    rw [List.length_erase_of_mem hx] at this
    have := List.length_pos_of_mem hx
    simp only [List.length_cons]
    omega
theorem dist_nodup {κ : Type} [DecidableEq κ] (l : List κ) : (dist l).Nodup := by
  suffices h : ∀ (l acc : List κ), acc.Nodup → (l.foldl dstep acc).Nodup from h l [] List.nodup_nil
  intro l
  induction l with
  | nil => exact fun acc h => h
  | cons y r ih =>
    intro acc h
    refine ih _ ?_
    unfold dstep
    split
    · exact h
    · rename_i ny
      exact List.nodup_append.mpr ⟨h, by simp, fun a ha b hb e => ny (by rw [List.mem_singleton.mp hb] at e; exact e ▸ ha)⟩
theorem dist_count {κ : Type} [DecidableEq κ] {l m : List κ} (n : m.Nodup) (h : ∀ x, x ∈ m ↔ x ∈ l) : m.length = (dist l).length :=
  Nat.le_antisymm (nodup_le n fun x hx => mem_dist.mpr ((h x).1 hx)) (nodup_le (dist_nodup l) fun x hx => (h x).2 (mem_dist.mp hx))
end PuS
namespace Pu
open PySem PySem.Spec PyProof.Rows L2 PuS
def kD : Key → PyData
  | .inl i => .int i
  | .inr z => .str z
/-- the keys in a datum -/
def KeysD (x : PyData) (ks : List Key) : Prop := (∃ z, x = .str z ∧ ks = ofStr z) ∨ x = .list (ks.map kD) ∨ x = .tuple (ks.map kD)
def tI (n : List Int) : PyData := .tuple (n.map .int)
def pLenSet : P1 := fun x P => (∃ ks, KeysD x ks ∧ ks.length + 1 < scanBound ∧ P (.int (dist ks).length)) ∨ ∃ ns : List (List Int), x = .list (ns.map tI) ∧ ns.length < 64 ∧ P (.int (dist ns).length)
def pSortSet (x : PyData) (P : List PyData → Prop) : Prop := ∃ zs : List Str, KeysD x (zs.map Sum.inr) ∧ zs.length + 1 < scanBound ∧ P ((asc zs).map .str)
section
variable {K : PySem.W.Frag} {pn : Pn} {b : Nat} {F H : Hp} {v : V}
theorem rvs_keys : ∀ {ks : List Key} {vs : List V}, RVs K F vs (ks.map kD) → vs = ks.map kV
  | [], _, .nil => rfl
  | .inl i :: ks, _, .cons r t => by
    cases r
    rw [rvs_keys t]
    rfl
  | .inr z :: ks, _, .cons r t => by
    cases r
    rw [rvs_keys t]
    rfl
theorem rvs_ints : ∀ {ns : List Int} {vs : List V}, RVs K F vs (ns.map PyData.int) → vs = ns.map V.int
  | [], _, .nil => rfl
  | i :: ks, _, .cons r t => by
    cases r
    rw [rvs_ints t]
    rfl
theorem BV.keys {x : PyData} {ks : List Key} (o : Ok pn b F H) (h : BV K pn F H v x) (e : KeysD x ks) : KeysOfV K H v ks := by
  rcases e with ⟨z, rfl, rfl⟩ | rfl | rfl
  · exact .inl ⟨z, h.str, rfl⟩
  · obtain ⟨a, vs, rfl, ha, r⟩ := h.list o
    exact .inr ⟨a, rfl, .inl (SqL.of (by rw [← rvs_keys r]; exact ha))⟩
  · obtain ⟨a, vs, rfl, ha, r⟩ := h.tup o
    exact .inr ⟨a, rfl, .inr (by rw [← rvs_keys r]; exact ha)⟩
end
theorem hu64 {k : Nat} {A : Around} (r : Room k A) : A.units + 64 < cLine := by
  have := r.un
  omega
end Pu
namespace Pu
open PySem PySem.Spec PyProof.Rows L2
/-- sysModules is there, and is no list -/
def sysB (g : Addr → Option Obj) : Bool := match g sysModules with
  | some ⟨.type c, _, _, _⟩ => !decide (c = "list")
  | _ => false
abbrev Tbl : Type := List (Str × List He.Dv)
def plB (K : PySem.W.Frag) (x : Str) : Bool := match K.lookup (He.ga K x) with
  | some o => o.dict.isNone
  | none => false
def obsC (fa : List He.Fa) (fn : List He.DefD) (tb : Tbl) (K : PySem.W.Frag) : Bool × He.AlD := (tb.all fun p => He.tupB K p.1 p.2 && plB K p.1, He.obsD fa fn K)
def SaysC (fa : List He.Fa) (fn : List He.DefD) (tb : Tbl) (K : PySem.W.Frag) : Prop := obsC fa fn tb K = (true, He.valD fn)
section
variable {fa : List He.Fa} {fn : List He.DefD} {tb : Tbl} {K : PySem.W.Frag}
theorem SaysC.d (c : SaysC fa fn tb K) : He.SaysD fa fn K := congrArg (fun z : Bool × He.AlD => z.2) c
theorem SaysC.fact (c : SaysC fa fn tb K) (i : Nat) {f : He.Fa} (h : fa[i]? = some f := by rfl) : f.ok K = true := c.d.fact i h
theorem SaysC.def_ (c : SaysC fa fn tb K) (i : Nat) {d : He.DefD} (h : fn[i]? = some d := by rfl) : ∃ fd, FunD K d.name d.qual d.params d.body d.scope (d.dvs K) (d.kws K) (He.fAd K d.at_) fd := c.d.def_ i h
theorem SaysC.tup (c : SaysC fa fn tb K) (i : Nat) {x : Str} {vs : List He.Dv} (h : tb[i]? = some (x, vs) := by rfl) (H : Hp) : PlT K H (He.ga K x) (vs.map (He.Dv.v K)) := by
  have b := Bool.and_eq_true_iff.mp (List.all_eq_true.mp (congrArg (fun z : Bool × He.AlD => z.1) c) (x, vs) (List.mem_of_getElem? h))
  have p : plB K x = true := b.2
  rcases He.tupB_ok b.1 (fun _ => none) with (e | ⟨_, e⟩) | ⟨o, its, n, h1, h2, h3, h4, h5⟩
  · cases e
  · cases e
  · refine .inr ⟨o, its, n, h1, h2, h3, h4, h5, ?_⟩
    unfold plB at p
    rw [h1] at p
    exact Option.isNone_iff_eq_none.mp p
end
end Pu
namespace Pu
open PySem PySem.Spec PyProof.Rows L2
/-- the object at sysModules is there, untracked -/
structure NoSys (X : Cx) : Prop where
  gd : X.A.guards = some []
  there : ∃ o, X.s_0.heap.get? sysModules = some o
  un : X.H_0 sysModules = none
  ex : X.ex = []
section
variable {X : Cx} {pins : List (Addr × Obj)} {σ : L2.St} {F H : Hp} {s : Shared}
theorem NoSys.now (N : NoSys X) (I : Inv X pins σ H s) : H sysModules = none := by
  obtain ⟨o, e⟩ := N.there
  exact I.base.free _ o e N.un (by rw [N.ex]; simp)
mutual
theorem reads_of (I : Inv X pins σ H s) (sub : Same F H) : ∀ {v : V} {d : PyData} {u : Value}, RV X.K F v d → RelV v u → ∃ as, Reads s.heap u d as ∧ (H sysModules = none → sysModules ∉ as)
  | _, _, _, .non, r => by
    cases r
    exact ⟨_, .none, by simp⟩
  | _, _, _, .bl b, r => by
    cases r
    exact ⟨_, .bool _, by simp⟩
  | _, _, _, .int i, r => by
    obtain ⟨t, rfl⟩ := r
    exact ⟨_, .int _ _, by simp⟩
  | _, _, _, .str x, r => by
    obtain ⟨t, rfl⟩ := r
    exact ⟨_, .str _ _, by simp⟩
  | _, _, _, .lst (a := a) h q, r => by
    cases r
    obtain ⟨its, rv, pl, _⟩ := I.list (SqL.of (K := X.K) (sub _ _ h))
    obtain ⟨o, ho, hc, n, hd⟩ := pl.isList
    obtain ⟨as, ra, hn⟩ := readsAll_of I sub q rv
    refine ⟨_, .list ho hc hd (by simpa using ra), fun ns z => ?_⟩
    rcases List.mem_cons.mp z with z | z
    · have := sub _ _ h
      rw [← z, ns] at this
      cases this
    · exact hn ns z
  | _, _, _, .tup h q, r => by
    cases r
    obtain ⟨its, rv, ⟨o, ho, hc, n, hd⟩, _⟩ := I.tuple (Same.tup sub h.sq)
    obtain ⟨as, ra, hn⟩ := readsAll_of I sub q rv
    exact ⟨_, .tuple ho hc hd (by simpa using ra), hn⟩
  | _, _, _, .dct (a := a) h, r => by
    cases r
    obtain ⟨_, _, vs, kv, m⟩ := (show ObjOk X.prog X.w H s.heap a (.dK []) from I.hok a _ (sub _ _ h))
    have e0 : vs = [] := by cases kv; rfl
    subst e0
    obtain ⟨o, es, ep, ho, hx, hd, _, hp, _⟩ := m
    have sz : es.size = 0 := by
      have := hp.length
      simpa using this
    have e1 : es = #[] := Array.eq_empty_of_size_eq_zero sz
    subst e1
    refine ⟨_, .dict ho hx.1 hd .nil .nil, fun ns z => ?_⟩
    have z := List.mem_singleton.mp z
    have := sub _ _ h
    rw [← z, ns] at this
    cases this
theorem readsAll_of (I : Inv X pins σ H s) (sub : Same F H) : ∀ {vs : List V} {ds : List PyData} {us : List Value}, RVs X.K F vs ds → Vals vs us → ∃ as, ReadsAll s.heap us ds as ∧ (H sysModules = none → sysModules ∉ as)
  | _, _, _, .nil, .nil => ⟨_, .nil, by simp⟩
  | _, _, _, .cons r t, .cons u w => by
    obtain ⟨as, h1, n1⟩ := reads_of I sub r u
    obtain ⟨bs, h2, n2⟩ := readsAll_of I sub t w
    exact ⟨_, .cons h1 h2, fun ns z => (List.mem_append.mp z).elim (n1 ns) (n2 ns)⟩
end
end
theorem boot_repr : bootBuiltins "repr" = some (.builtin "repr") := by decide +kernel
end Pu
namespace Pu
open PySem PySem.Spec PyProof.Rows L2
def TopOk (P : Program) (w : World) (K : PySem.W.Frag) (mg : Str → Option Value) (base : Heap) (k : Nat) (f : Addr) (fd : FuncData) (ps : List Str) (sp : Sp) : Prop :=
  ∀ (A : Around) (outer : List Env) (s : Shared) (H : Hp) (args : Args) (us : List Value) (vs : List V) (Q : VK) (E : XK), Room k A → A.guards = some [] → (∃ o, s.heap.get? sysModules = some o) → H sysModules = none →
    Env0 P w K mg base A outer s H → BindsTo s fd args (ps.zip us) → Vals vs us → sp vs H Q E → codeAny (model P w) A (.call (.ref f) args) (CR CX0 outer P w H s Q E) s
section
variable {P : Program} {w : World} {K : PySem.W.Frag} {mg : Str → Option Value} {base : Heap}
theorem top_ok {x qual : Str} {st : Stmt} {f : Addr} {fd : FuncData} {N ps : List Str} {k : Nat} {sp : Sp} (F : Fun K x qual st f fd) (S : FnScope N ps (defScope st)) (len : ∀ vs H Q E, sp vs H Q E → vs.length = ps.length)
    (body : ∀ (cdv : Value) (A : Around) (outer : List Env) (s : Shared) (H : Hp) (vs : List V) (Q : VK) (E : XK), Room k (A.deeper (envOfC qual (defScope st) s.heap.objs.size f cdv)) → NoSys (cxOf CX0 P w K mg base N qual (defScope st) f cdv A outer s H E).nox → sp vs H Q E →
      ∃ t, PSs (cxOf CX0 P w K mg base N qual (defScope st) f cdv A outer s H E).nox (defBody st) t ∧ t { nx := fun _ H' => Q .non H', rt := Q } (start N vs) H) :
    TopOk P w K mg base (k + 1) f fd ps sp := by
  intro A outer s H args us vs Q E hr gd th un e0 hb r hs
  obtain ⟨oc, od, kV, doc, pm, an, cdv, ct, osl, rfl, lk, hcd⟩ := F.ex
  have KX : K.In s.heap := e0.mod.kin.keeps fun b o e => (e0.bs b o e).1
  have nl : s.heap.NoLimit := e0.mod.nolimit.keeps fun b o e => (e0.bs b o e).1
  have kinds : ∀ y ∈ ps.zip us, (defScope st).names.lookup y.1 = some .local ∨ ((defScope st).names.lookup y.1 = some .cell ∧ ((cellsFrom (s.heap.objs.size + 1) (defScope st).names []).lookup y.1).isSome = true) := fun y hy =>
    (S.par y.1 (List.of_mem_zip (a := y.1) (b := y.2) hy).1).imp id fun q => ⟨q, PySem.W.cellsFrom_some _ _ _ (.inl q)⟩
  refine codeAny_call_function hr.depth (KX _ _ lk) rfl S.co S.gen rfl (PySem.W.codeRec_of KX hcd) (hb _ _ _ _ (wpAny_newFunctionEnv_cells S.kind kinds fun env he s1 x => ?_))
  subst he
  obtain ⟨t, ht, hq⟩ := body cdv A outer s H vs Q E (hr.deeper _) ⟨gd, th, un, rfl⟩ hs
  have I := inv_start (CX := CX0) (E := E) S hr.hd e0 (len _ _ _ _ hs) r x
  have fin : ∀ {σ' : L2.St} {H' : Hp} {v : V} {u : Value} {s' : Shared}, Inv (cxOf CX0 P w K mg base N qual (defScope st) f cdv A outer s H E) [] σ' H' s' → RelV v u → Q v H' → CE outer P w H s Q u s' := fun J rv q => ⟨_, _, J.os, J.bare, J.base, J.hok, rv, q⟩
  refine ⟨nl.keeps x.toInCall.keep, codeAny_func (wpAny_mono (ht.nox.run [] s1 (start N vs) H _ I hq) (fun fl s' z => ?_) fun e s' z => z)⟩
  cases fl with
  | ret u => obtain ⟨v, σ', H', J, rv, q⟩ := z; exact fin J rv q
  | next => obtain ⟨σ', H', J, q⟩ := z; exact fin (v := V.non) (u := Value.none) J rfl q
  | brk => obtain ⟨_, _, _, q⟩ := z; exact False.elim q
  | cont => obtain ⟨_, _, _, q⟩ := z; exact False.elim q
end
end Pu
namespace PySem
namespace SeqAt
open PySem
open MeetsSeq MeetsSeq2 MeetsSeq3 SeqRoads2
/-- a dict's object -/
def DictOb (h : Heap) (l : Addr) : Prop := ∃ es n dd sl, h.get? l = some { cls := .type "dict", dict := dd, data := .dict es n, slots := sl }
theorem dsub_none : isSubtype (.type "NoneType") (.type "dict") = pure false := by rw [isSubtype_type]; kernel_rfl
theorem dsup_none : isSubtype (.type "dict") (.type "NoneType") = pure false := by rw [isSubtype_type]; kernel_rfl
theorem dict_no_none (l : Addr) (es : Array DictEntry) (n : Nat) (dd : Option Addr) (sl : Array (Option Value))  : Meets (Builtin.«dict.__eq__» ⟨[.ref l, .none], []⟩) (fun _ R s => s.heap.get? l = some { cls := .type "dict", dict := dd, data := .dict es n, slots := sl } ∧ R (.ok (.ret .notImplemented)) s) :=
  .of_wp fun prog w A R s h => by
    obtain ⟨hp, g, d, tk, os⟩ := s
    obtain ⟨hl, h⟩ := h
    have f1 := dsub_none
    wp_walk using AutoSeq1.wpAny_loadPart' hl, wpAny_load hl
    exact ⟨_, rfl, h⟩
theorem none_no_dict (l : Addr) (es : Array DictEntry) (n : Nat) (dd : Option Addr) (sl : Array (Option Value))  : Meets (Builtin.«NoneType.__eq__» ⟨[.none, .ref l], []⟩) (fun _ R s => s.heap.get? l = some { cls := .type "dict", dict := dd, data := .dict es n, slots := sl } ∧ R (.ok (.ret .notImplemented)) s) :=
  .of_wp fun prog w A R s h => by
    obtain ⟨hp, g, d, tk, os⟩ := s
    obtain ⟨hl, h⟩ := h
    wp_walk using AutoSeq1.wpAny_loadPart' hl, wpAny_load hl
    exact ⟨_, rfl, h⟩
theorem dsub_bool : isSubtype (.type "bool") (.type "dict") = pure false := by rw [isSubtype_type]; kernel_rfl
theorem dsup_bool : isSubtype (.type "dict") (.type "bool") = pure false := by rw [isSubtype_type]; kernel_rfl
theorem dict_no_bool (l : Addr) (es : Array DictEntry) (n : Nat) (dd : Option Addr) (sl : Array (Option Value)) (b : Bool) : Meets (Builtin.«dict.__eq__» ⟨[.ref l, (.bool b)], []⟩) (fun _ R s => s.heap.get? l = some { cls := .type "dict", dict := dd, data := .dict es n, slots := sl } ∧ R (.ok (.ret .notImplemented)) s) :=
  .of_wp fun prog w A R s h => by
    obtain ⟨hp, g, d, tk, os⟩ := s
    obtain ⟨hl, h⟩ := h
    have f1 := dsub_bool
    wp_walk using AutoSeq1.wpAny_loadPart' hl, wpAny_load hl
    exact ⟨_, rfl, h⟩
theorem bool_no_dict (l : Addr) (es : Array DictEntry) (n : Nat) (dd : Option Addr) (sl : Array (Option Value)) (b : Bool) : Meets (Builtin.«int.__eq__» ⟨[(.bool b), .ref l], []⟩) (fun _ R s => s.heap.get? l = some { cls := .type "dict", dict := dd, data := .dict es n, slots := sl } ∧ R (.ok (.ret .notImplemented)) s) :=
  .of_wp fun prog w A R s h => by
    obtain ⟨hp, g, d, tk, os⟩ := s
    obtain ⟨hl, h⟩ := h
    wp_walk using AutoSeq1.wpAny_loadPart' hl, wpAny_load hl
    exact ⟨_, rfl, h⟩
theorem dsub_int : isSubtype (.type "int") (.type "dict") = pure false := by rw [isSubtype_type]; kernel_rfl
theorem dsup_int : isSubtype (.type "dict") (.type "int") = pure false := by rw [isSubtype_type]; kernel_rfl
theorem dict_no_int (l : Addr) (es : Array DictEntry) (n : Nat) (dd : Option Addr) (sl : Array (Option Value)) (b : Int) (u : Tok) : Meets (Builtin.«dict.__eq__» ⟨[.ref l, (.int b u)], []⟩) (fun _ R s => s.heap.get? l = some { cls := .type "dict", dict := dd, data := .dict es n, slots := sl } ∧ R (.ok (.ret .notImplemented)) s) :=
  .of_wp fun prog w A R s h => by
    obtain ⟨hp, g, d, tk, os⟩ := s
    obtain ⟨hl, h⟩ := h
    have f1 := dsub_int
    wp_walk using AutoSeq1.wpAny_loadPart' hl, wpAny_load hl
    exact ⟨_, rfl, h⟩
theorem int_no_dict (l : Addr) (es : Array DictEntry) (n : Nat) (dd : Option Addr) (sl : Array (Option Value)) (b : Int) (u : Tok) : Meets (Builtin.«int.__eq__» ⟨[(.int b u), .ref l], []⟩) (fun _ R s => s.heap.get? l = some { cls := .type "dict", dict := dd, data := .dict es n, slots := sl } ∧ R (.ok (.ret .notImplemented)) s) :=
  .of_wp fun prog w A R s h => by
    obtain ⟨hp, g, d, tk, os⟩ := s
    obtain ⟨hl, h⟩ := h
    wp_walk using AutoSeq1.wpAny_loadPart' hl, wpAny_load hl
    exact ⟨_, rfl, h⟩
theorem dsub_str : isSubtype (.type "str") (.type "dict") = pure false := by rw [isSubtype_type]; kernel_rfl
theorem dsup_str : isSubtype (.type "dict") (.type "str") = pure false := by rw [isSubtype_type]; kernel_rfl
theorem dict_no_str (l : Addr) (es : Array DictEntry) (n : Nat) (dd : Option Addr) (sl : Array (Option Value)) (b : Str) (u : Tok) : Meets (Builtin.«dict.__eq__» ⟨[.ref l, (.str b u)], []⟩) (fun _ R s => s.heap.get? l = some { cls := .type "dict", dict := dd, data := .dict es n, slots := sl } ∧ R (.ok (.ret .notImplemented)) s) :=
  .of_wp fun prog w A R s h => by
    obtain ⟨hp, g, d, tk, os⟩ := s
    obtain ⟨hl, h⟩ := h
    have f1 := dsub_str
    wp_walk using AutoSeq1.wpAny_loadPart' hl, wpAny_load hl
    exact ⟨_, rfl, h⟩
theorem str_no_dict (l : Addr) (es : Array DictEntry) (n : Nat) (dd : Option Addr) (sl : Array (Option Value)) (b : Str) (u : Tok) : Meets (Builtin.«str.__eq__» ⟨[(.str b u), .ref l], []⟩) (fun _ R s => s.heap.get? l = some { cls := .type "dict", dict := dd, data := .dict es n, slots := sl } ∧ R (.ok (.ret .notImplemented)) s) :=
  .of_wp fun prog w A R s h => by
    obtain ⟨hp, g, d, tk, os⟩ := s
    obtain ⟨hl, h⟩ := h
    wp_walk using AutoSeq1.wpAny_loadPart' hl, wpAny_load hl
    exact ⟨_, rfl, h⟩
section
variable {A : Around} {s : Shared}
theorem RcAt.dict_none {l : Addr}  (hl : DictOb s.heap l) (hu : A.units < cLine) : RcAt A s (.ref l) .none false := fun prog w E Q h => by
  obtain ⟨es, n, dd, sl, ho⟩ := hl
  exact rc_eq_decline_or (k := false) ⟨_, ho, rfl⟩ rfl (by decide) dsub_none F.slot_dict_eq F.slot_NoneType_eq_refl
    (fun _ hq => call_meets F.slot_dict_eq ⟨_, ho, rfl⟩ F.entry_dict_eq (F.args_dict_eq_2 _ _) (dict_no_none l es n dd sl ) ⟨ho, hq⟩)
    (fun _ hq => call_meets F.slot_NoneType_eq_refl rfl F.entry_NoneType_eq (F.args_NoneType_eq_2 _ _) (none_no_dict l es n dd sl ) ⟨ho, hq⟩)
    (fun _ hq => wpAny_of_eq (rfl : isSame (.ref l) .none = pure false) hq) (.inr hu) h
theorem RcAt.none_dict {l : Addr}  (hl : DictOb s.heap l) (hu : A.units < cLine) : RcAt A s .none (.ref l) false := fun prog w E Q h => by
  obtain ⟨es, n, dd, sl, ho⟩ := hl
  exact rc_eq_decline_or (k := false) rfl ⟨_, ho, rfl⟩ (by decide) dsup_none F.slot_NoneType_eq F.slot_dict_eq_refl
    (fun _ hq => call_meets F.slot_NoneType_eq rfl F.entry_NoneType_eq (F.args_NoneType_eq_2 _ _) (none_no_dict l es n dd sl ) ⟨ho, hq⟩)
    (fun _ hq => call_meets F.slot_dict_eq_refl ⟨_, ho, rfl⟩ F.entry_dict_eq (F.args_dict_eq_2 _ _) (dict_no_none l es n dd sl ) ⟨ho, hq⟩)
    (fun _ hq => wpAny_of_eq (rfl : isSame .none (.ref l) = pure false) hq) (.inr hu) h
theorem EqAt.dict_none {l : Addr}  (hl : DictOb s.heap l) (hu : A.units < cLine) : EqAt A s (.ref l) .none false := fun prog w E Q h => by
  unfold eqBool
  refine wpAny_holding (wpAny_ite_split (fun hab => absurd (eq_of_beq hab) nofun) (fun _ => wpAny_bind (RcAt.dict_none  hl hu prog w E _ (wpAny_truthy_bool h))))
theorem EqAt.none_dict {l : Addr}  (hl : DictOb s.heap l) (hu : A.units < cLine) : EqAt A s .none (.ref l) false := fun prog w E Q h => by
  unfold eqBool
  refine wpAny_holding (wpAny_ite_split (fun hab => absurd (eq_of_beq hab) nofun) (fun _ => wpAny_bind (RcAt.none_dict  hl hu prog w E _ (wpAny_truthy_bool h))))
theorem RcAt.dict_bool {l : Addr} (b : Bool) (hl : DictOb s.heap l) (hu : A.units < cLine) : RcAt A s (.ref l) (.bool b) false := fun prog w E Q h => by
  obtain ⟨es, n, dd, sl, ho⟩ := hl
  exact rc_eq_decline_or (k := false) ⟨_, ho, rfl⟩ rfl (by decide) dsub_bool F.slot_dict_eq F.slot_bool_eq_refl
    (fun _ hq => call_meets F.slot_dict_eq ⟨_, ho, rfl⟩ F.entry_dict_eq (F.args_dict_eq_2 _ _) (dict_no_bool l es n dd sl b) ⟨ho, hq⟩)
    (fun _ hq => call_meets F.slot_bool_eq_refl rfl F.entry_int_eq (F.args_int_eq_2 _ _) (bool_no_dict l es n dd sl b) ⟨ho, hq⟩)
    (fun _ hq => wpAny_of_eq (rfl : isSame (.ref l) (.bool b) = pure false) hq) (.inr hu) h
theorem RcAt.bool_dict {l : Addr} (b : Bool) (hl : DictOb s.heap l) (hu : A.units < cLine) : RcAt A s (.bool b) (.ref l) false := fun prog w E Q h => by
  obtain ⟨es, n, dd, sl, ho⟩ := hl
  exact rc_eq_decline_or (k := false) rfl ⟨_, ho, rfl⟩ (by decide) dsup_bool F.slot_bool_eq F.slot_dict_eq_refl
    (fun _ hq => call_meets F.slot_bool_eq rfl F.entry_int_eq (F.args_int_eq_2 _ _) (bool_no_dict l es n dd sl b) ⟨ho, hq⟩)
    (fun _ hq => call_meets F.slot_dict_eq_refl ⟨_, ho, rfl⟩ F.entry_dict_eq (F.args_dict_eq_2 _ _) (dict_no_bool l es n dd sl b) ⟨ho, hq⟩)
    (fun _ hq => wpAny_of_eq (rfl : isSame (.bool b) (.ref l) = pure false) hq) (.inr hu) h
theorem EqAt.dict_bool {l : Addr} (b : Bool) (hl : DictOb s.heap l) (hu : A.units < cLine) : EqAt A s (.ref l) (.bool b) false := fun prog w E Q h => by
  unfold eqBool
  refine wpAny_holding (wpAny_ite_split (fun hab => absurd (eq_of_beq hab) nofun) (fun _ => wpAny_bind (RcAt.dict_bool b hl hu prog w E _ (wpAny_truthy_bool h))))
theorem EqAt.bool_dict {l : Addr} (b : Bool) (hl : DictOb s.heap l) (hu : A.units < cLine) : EqAt A s (.bool b) (.ref l) false := fun prog w E Q h => by
  unfold eqBool
  refine wpAny_holding (wpAny_ite_split (fun hab => absurd (eq_of_beq hab) nofun) (fun _ => wpAny_bind (RcAt.bool_dict b hl hu prog w E _ (wpAny_truthy_bool h))))
theorem RcAt.dict_int {l : Addr} (b : Int) (u : Tok) (hl : DictOb s.heap l) (hu : A.units < cLine) : RcAt A s (.ref l) (.int b u) false := fun prog w E Q h => by
  obtain ⟨es, n, dd, sl, ho⟩ := hl
  exact rc_eq_decline_or (k := false) ⟨_, ho, rfl⟩ (typeIs_int s b u) (by decide) dsub_int F.slot_dict_eq F.slot_int_eq_refl
    (fun _ hq => call_meets F.slot_dict_eq ⟨_, ho, rfl⟩ F.entry_dict_eq (F.args_dict_eq_2 _ _) (dict_no_int l es n dd sl b u) ⟨ho, hq⟩)
    (fun _ hq => call_meets F.slot_int_eq_refl (typeIs_int s b u) F.entry_int_eq (F.args_int_eq_2 _ _) (int_no_dict l es n dd sl b u) ⟨ho, hq⟩)
    (fun _ hq => wpAny_of_eq (rfl : isSame (.ref l) (.int b u) = pure false) hq) (.inr hu) h
theorem RcAt.int_dict {l : Addr} (b : Int) (u : Tok) (hl : DictOb s.heap l) (hu : A.units < cLine) : RcAt A s (.int b u) (.ref l) false := fun prog w E Q h => by
  obtain ⟨es, n, dd, sl, ho⟩ := hl
  exact rc_eq_decline_or (k := false) (typeIs_int s b u) ⟨_, ho, rfl⟩ (by decide) dsup_int F.slot_int_eq F.slot_dict_eq_refl
    (fun _ hq => call_meets F.slot_int_eq (typeIs_int s b u) F.entry_int_eq (F.args_int_eq_2 _ _) (int_no_dict l es n dd sl b u) ⟨ho, hq⟩)
    (fun _ hq => call_meets F.slot_dict_eq_refl ⟨_, ho, rfl⟩ F.entry_dict_eq (F.args_dict_eq_2 _ _) (dict_no_int l es n dd sl b u) ⟨ho, hq⟩)
    (fun _ hq => wpAny_of_eq (rfl : isSame (.int b u) (.ref l) = pure false) hq) (.inr hu) h
theorem EqAt.dict_int {l : Addr} (b : Int) (u : Tok) (hl : DictOb s.heap l) (hu : A.units < cLine) : EqAt A s (.ref l) (.int b u) false := fun prog w E Q h => by
  unfold eqBool
  refine wpAny_holding (wpAny_ite_split (fun hab => absurd (eq_of_beq hab) nofun) (fun _ => wpAny_bind (RcAt.dict_int b u hl hu prog w E _ (wpAny_truthy_bool h))))
theorem EqAt.int_dict {l : Addr} (b : Int) (u : Tok) (hl : DictOb s.heap l) (hu : A.units < cLine) : EqAt A s (.int b u) (.ref l) false := fun prog w E Q h => by
  unfold eqBool
  refine wpAny_holding (wpAny_ite_split (fun hab => absurd (eq_of_beq hab) nofun) (fun _ => wpAny_bind (RcAt.int_dict b u hl hu prog w E _ (wpAny_truthy_bool h))))
theorem RcAt.dict_str {l : Addr} (b : Str) (u : Tok) (hl : DictOb s.heap l) (hu : A.units < cLine) : RcAt A s (.ref l) (.str b u) false := fun prog w E Q h => by
  obtain ⟨es, n, dd, sl, ho⟩ := hl
  exact rc_eq_decline_or (k := false) ⟨_, ho, rfl⟩ (typeIs_str s b u) (by decide) dsub_str F.slot_dict_eq F.slot_str_eq_refl
    (fun _ hq => call_meets F.slot_dict_eq ⟨_, ho, rfl⟩ F.entry_dict_eq (F.args_dict_eq_2 _ _) (dict_no_str l es n dd sl b u) ⟨ho, hq⟩)
    (fun _ hq => call_meets F.slot_str_eq_refl (typeIs_str s b u) F.entry_str_eq (F.args_str_eq_2 _ _) (str_no_dict l es n dd sl b u) ⟨ho, hq⟩)
    (fun _ hq => wpAny_of_eq (rfl : isSame (.ref l) (.str b u) = pure false) hq) (.inr hu) h
theorem RcAt.str_dict {l : Addr} (b : Str) (u : Tok) (hl : DictOb s.heap l) (hu : A.units < cLine) : RcAt A s (.str b u) (.ref l) false := fun prog w E Q h => by
  obtain ⟨es, n, dd, sl, ho⟩ := hl
  exact rc_eq_decline_or (k := false) (typeIs_str s b u) ⟨_, ho, rfl⟩ (by decide) dsup_str F.slot_str_eq F.slot_dict_eq_refl
    (fun _ hq => call_meets F.slot_str_eq (typeIs_str s b u) F.entry_str_eq (F.args_str_eq_2 _ _) (str_no_dict l es n dd sl b u) ⟨ho, hq⟩)
    (fun _ hq => call_meets F.slot_dict_eq_refl ⟨_, ho, rfl⟩ F.entry_dict_eq (F.args_dict_eq_2 _ _) (dict_no_str l es n dd sl b u) ⟨ho, hq⟩)
    (fun _ hq => wpAny_of_eq (rfl : isSame (.str b u) (.ref l) = pure false) hq) (.inr hu) h
theorem EqAt.dict_str {l : Addr} (b : Str) (u : Tok) (hl : DictOb s.heap l) (hu : A.units < cLine) : EqAt A s (.ref l) (.str b u) false := fun prog w E Q h => by
  unfold eqBool
  refine wpAny_holding (wpAny_ite_split (fun hab => absurd (eq_of_beq hab) nofun) (fun _ => wpAny_bind (RcAt.dict_str b u hl hu prog w E _ (wpAny_truthy_bool h))))
theorem EqAt.str_dict {l : Addr} (b : Str) (u : Tok) (hl : DictOb s.heap l) (hu : A.units < cLine) : EqAt A s (.str b u) (.ref l) false := fun prog w E Q h => by
  unfold eqBool
  refine wpAny_holding (wpAny_ite_split (fun hab => absurd (eq_of_beq hab) nofun) (fun _ => wpAny_bind (RcAt.str_dict b u hl hu prog w E _ (wpAny_truthy_bool h))))
end
theorem dsub_list : isSubtype (.type "list") (.type "dict") = pure false := by rw [isSubtype_type]; kernel_rfl
theorem dsup_list : isSubtype (.type "dict") (.type "list") = pure false := by rw [isSubtype_type]; kernel_rfl
theorem dict_no_list (l : Addr) (es : Array DictEntry) (n : Nat) (dd : Option Addr) (sl : Array (Option Value)) (b : Addr) (items : Array Value) (n2 : Nat) (dd2 : Option Addr) (sl2 : Array (Option Value)) : Meets (Builtin.«dict.__eq__» ⟨[.ref l, .ref b], []⟩) (fun _ R s => s.heap.get? l = some { cls := .type "dict", dict := dd, data := .dict es n, slots := sl } ∧ s.heap.get? b = some { cls := .type "list", dict := dd2, data := .seq items n2, slots := sl2 } ∧ R (.ok (.ret .notImplemented)) s) :=
  .of_wp fun prog w A R s h => by
    obtain ⟨hp, g, d, tk, os⟩ := s
    obtain ⟨hl, hb, h⟩ := h
    have f1 := dsub_list
    wp_walk using AutoSeq1.wpAny_loadPart' hl, wpAny_load hl, AutoSeq1.wpAny_loadPart' hb, wpAny_load hb
    exact ⟨_, rfl, h⟩
theorem list_no_dict (l : Addr) (es : Array DictEntry) (n : Nat) (dd : Option Addr) (sl : Array (Option Value)) (b : Addr) (items : Array Value) (n2 : Nat) (dd2 : Option Addr) (sl2 : Array (Option Value)) : Meets (Builtin.«list.__eq__» ⟨[.ref b, .ref l], []⟩) (fun _ R s => s.heap.get? l = some { cls := .type "dict", dict := dd, data := .dict es n, slots := sl } ∧ s.heap.get? b = some { cls := .type "list", dict := dd2, data := .seq items n2, slots := sl2 } ∧ R (.ok (.ret .notImplemented)) s) :=
  .of_wp fun prog w A R s h => by
    obtain ⟨hp, g, d, tk, os⟩ := s
    obtain ⟨hl, hb, h⟩ := h
    have f1 := dsup_list
    wp_walk using AutoSeq1.wpAny_loadPart' hl, wpAny_load hl, AutoSeq1.wpAny_loadPart' hb, wpAny_load hb
    exact ⟨_, rfl, h⟩
theorem dsub_tuple : isSubtype (.type "tuple") (.type "dict") = pure false := by rw [isSubtype_type]; kernel_rfl
theorem dsup_tuple : isSubtype (.type "dict") (.type "tuple") = pure false := by rw [isSubtype_type]; kernel_rfl
theorem dict_no_tuple (l : Addr) (es : Array DictEntry) (n : Nat) (dd : Option Addr) (sl : Array (Option Value)) (b : Addr) (items : Array Value) (n2 : Nat) (dd2 : Option Addr) (sl2 : Array (Option Value)) : Meets (Builtin.«dict.__eq__» ⟨[.ref l, .ref b], []⟩) (fun _ R s => s.heap.get? l = some { cls := .type "dict", dict := dd, data := .dict es n, slots := sl } ∧ s.heap.get? b = some { cls := .type "tuple", dict := dd2, data := .seq items n2, slots := sl2 } ∧ R (.ok (.ret .notImplemented)) s) :=
  .of_wp fun prog w A R s h => by
    obtain ⟨hp, g, d, tk, os⟩ := s
    obtain ⟨hl, hb, h⟩ := h
    have f1 := dsub_tuple
    wp_walk using AutoSeq1.wpAny_loadPart' hl, wpAny_load hl, AutoSeq1.wpAny_loadPart' hb, wpAny_load hb
    exact ⟨_, rfl, h⟩
theorem tuple_no_dict (l : Addr) (es : Array DictEntry) (n : Nat) (dd : Option Addr) (sl : Array (Option Value)) (b : Addr) (items : Array Value) (n2 : Nat) (dd2 : Option Addr) (sl2 : Array (Option Value)) : Meets (Builtin.«tuple.__eq__» ⟨[.ref b, .ref l], []⟩) (fun _ R s => s.heap.get? l = some { cls := .type "dict", dict := dd, data := .dict es n, slots := sl } ∧ s.heap.get? b = some { cls := .type "tuple", dict := dd2, data := .seq items n2, slots := sl2 } ∧ R (.ok (.ret .notImplemented)) s) :=
  .of_wp fun prog w A R s h => by
    obtain ⟨hp, g, d, tk, os⟩ := s
    obtain ⟨hl, hb, h⟩ := h
    have f1 := dsup_tuple
    wp_walk using AutoSeq1.wpAny_loadPart' hl, wpAny_load hl, AutoSeq1.wpAny_loadPart' hb, wpAny_load hb
    exact ⟨_, rfl, h⟩
section
variable {A : Around} {s : Shared}
theorem ne_dict_list {l b : Addr} {items : Array Value} (hl : DictOb s.heap l) (hb : s.heap.IsList b items) : l ≠ b := fun e => by
  subst e
  obtain ⟨es, n, dd, sl, ho⟩ := hl
  obtain ⟨o2, ho2, hc2, _⟩ := hb
  rw [ho] at ho2
  cases ho2
  exact absurd hc2 (by simp)
theorem RcAt.dict_list {l b : Addr} {items : Array Value} (hl : DictOb s.heap l) (hb : s.heap.IsList b items) (hu : A.units < cLine) : RcAt A s (.ref l) (.ref b) false := fun prog w E Q h => by
  have hne := ne_dict_list hl hb
  obtain ⟨es, n, dd, sl, ho⟩ := hl
  obtain ⟨⟨cls2, dd2, data2, sl2⟩, ho2, hc2, n2, hd2⟩ := id hb
  simp only at hc2 hd2
  subst hc2 hd2
  exact rc_eq_decline_or (k := false) ⟨_, ho, rfl⟩ ⟨_, ho2, rfl⟩ (by decide) dsub_list F.slot_dict_eq F.slot_list_eq_refl
    (fun _ hq => call_meets F.slot_dict_eq ⟨_, ho, rfl⟩ F.entry_dict_eq (F.args_dict_eq_2 _ _) (dict_no_list l es n dd sl b items n2 dd2 sl2) ⟨ho, ho2, hq⟩)
    (fun _ hq => call_meets F.slot_list_eq_refl ⟨_, ho2, rfl⟩ F.entry_list_eq (F.args_list_eq_2 _ _) (list_no_dict l es n dd sl b items n2 dd2 sl2) ⟨ho, ho2, hq⟩)
    (fun _ hq => wpAny_isSame_ref_other' hne ho ho2 (by simp) hq) (.inr hu) h
theorem RcAt.list_dict {l b : Addr} {items : Array Value} (hl : DictOb s.heap l) (hb : s.heap.IsList b items) (hu : A.units < cLine) : RcAt A s (.ref b) (.ref l) false := fun prog w E Q h => by
  have hne := ne_dict_list hl hb
  obtain ⟨es, n, dd, sl, ho⟩ := hl
  obtain ⟨⟨cls2, dd2, data2, sl2⟩, ho2, hc2, n2, hd2⟩ := id hb
  simp only at hc2 hd2
  subst hc2 hd2
  exact rc_eq_decline_or (k := false) ⟨_, ho2, rfl⟩ ⟨_, ho, rfl⟩ (by decide) dsup_list F.slot_list_eq F.slot_dict_eq_refl
    (fun _ hq => call_meets F.slot_list_eq ⟨_, ho2, rfl⟩ F.entry_list_eq (F.args_list_eq_2 _ _) (list_no_dict l es n dd sl b items n2 dd2 sl2) ⟨ho, ho2, hq⟩)
    (fun _ hq => call_meets F.slot_dict_eq_refl ⟨_, ho, rfl⟩ F.entry_dict_eq (F.args_dict_eq_2 _ _) (dict_no_list l es n dd sl b items n2 dd2 sl2) ⟨ho, ho2, hq⟩)
    (fun _ hq => wpAny_isSame_ref_other' hne.symm ho2 ho (by simp) hq) (.inr hu) h
theorem EqAt.dict_list {l b : Addr} {items : Array Value} (hl : DictOb s.heap l) (hb : s.heap.IsList b items) (hu : A.units < cLine) : EqAt A s (.ref l) (.ref b) false := .of_refs (ne_dict_list hl hb) (.dict_list hl hb hu)
theorem EqAt.list_dict {l b : Addr} {items : Array Value} (hl : DictOb s.heap l) (hb : s.heap.IsList b items) (hu : A.units < cLine) : EqAt A s (.ref b) (.ref l) false := .of_refs (ne_dict_list hl hb).symm (.list_dict hl hb hu)
theorem ne_dict_tuple {l b : Addr} {items : Array Value} (hl : DictOb s.heap l) (hb : s.heap.IsTuple b items) : l ≠ b := fun e => by
  subst e
  obtain ⟨es, n, dd, sl, ho⟩ := hl
  obtain ⟨o2, ho2, hc2, _⟩ := hb
  rw [ho] at ho2
  cases ho2
  exact absurd hc2 (by simp)
theorem RcAt.dict_tuple {l b : Addr} {items : Array Value} (hl : DictOb s.heap l) (hb : s.heap.IsTuple b items) (hu : A.units < cLine) : RcAt A s (.ref l) (.ref b) false := fun prog w E Q h => by
  have hne := ne_dict_tuple hl hb
  obtain ⟨es, n, dd, sl, ho⟩ := hl
  obtain ⟨⟨cls2, dd2, data2, sl2⟩, ho2, hc2, n2, hd2⟩ := id hb
  simp only at hc2 hd2
  subst hc2 hd2
  exact rc_eq_decline_or (k := false) ⟨_, ho, rfl⟩ ⟨_, ho2, rfl⟩ (by decide) dsub_tuple F.slot_dict_eq F.slot_tuple_eq_refl
    (fun _ hq => call_meets F.slot_dict_eq ⟨_, ho, rfl⟩ F.entry_dict_eq (F.args_dict_eq_2 _ _) (dict_no_tuple l es n dd sl b items n2 dd2 sl2) ⟨ho, ho2, hq⟩)
    (fun _ hq => call_meets F.slot_tuple_eq_refl ⟨_, ho2, rfl⟩ F.entry_tuple_eq (F.args_tuple_eq_2 _ _) (tuple_no_dict l es n dd sl b items n2 dd2 sl2) ⟨ho, ho2, hq⟩)
    (fun _ hq => wpAny_isSame_ref_other hne ho ho2 (by simp) hq) (.inr hu) h
theorem RcAt.tuple_dict {l b : Addr} {items : Array Value} (hl : DictOb s.heap l) (hb : s.heap.IsTuple b items) (hu : A.units < cLine) : RcAt A s (.ref b) (.ref l) false := fun prog w E Q h => by
  have hne := ne_dict_tuple hl hb
  obtain ⟨es, n, dd, sl, ho⟩ := hl
  obtain ⟨⟨cls2, dd2, data2, sl2⟩, ho2, hc2, n2, hd2⟩ := id hb
  simp only at hc2 hd2
  subst hc2 hd2
  exact rc_eq_decline_or (k := false) ⟨_, ho2, rfl⟩ ⟨_, ho, rfl⟩ (by decide) dsup_tuple F.slot_tuple_eq F.slot_dict_eq_refl
    (fun _ hq => call_meets F.slot_tuple_eq ⟨_, ho2, rfl⟩ F.entry_tuple_eq (F.args_tuple_eq_2 _ _) (tuple_no_dict l es n dd sl b items n2 dd2 sl2) ⟨ho, ho2, hq⟩)
    (fun _ hq => call_meets F.slot_dict_eq_refl ⟨_, ho, rfl⟩ F.entry_dict_eq (F.args_dict_eq_2 _ _) (dict_no_tuple l es n dd sl b items n2 dd2 sl2) ⟨ho, ho2, hq⟩)
    (fun _ hq => wpAny_isSame_ref_other' hne.symm ho2 ho (by simp) hq) (.inr hu) h
theorem EqAt.dict_tuple {l b : Addr} {items : Array Value} (hl : DictOb s.heap l) (hb : s.heap.IsTuple b items) (hu : A.units < cLine) : EqAt A s (.ref l) (.ref b) false := .of_refs (ne_dict_tuple hl hb) (.dict_tuple hl hb hu)
theorem EqAt.tuple_dict {l b : Addr} {items : Array Value} (hl : DictOb s.heap l) (hb : s.heap.IsTuple b items) (hu : A.units < cLine) : EqAt A s (.ref b) (.ref l) false := .of_refs (ne_dict_tuple hl hb).symm (.tuple_dict hl hb hu)
end
end SeqAt
end PySem
namespace PySem
namespace SeqAt
open PySem
mutual
def dfree : PyData → Bool
  | .dict _ => false
  | .list xs => dfreeAll xs
  | .tuple xs => dfreeAll xs
  | _ => true
def dfreeAll : List PyData → Bool
  | [] => true
  | x :: xs => dfree x && dfreeAll xs
end
theorem DictOb.of {h : Heap} {l : Addr} {o : Obj} {es : Array DictEntry} {n : Nat} (h1 : h.get? l = some o) (h2 : o.cls = .type "dict") (h3 : o.data = .dict es n) : DictOb h l := by
  obtain ⟨c, d, dt, sl⟩ := o
  simp only at h2 h3
  subst h2 h3
  exact ⟨es, n, d, sl, h1⟩
mutual
theorem eqv_self : ∀ d : PyData, dfree d = true → PyData.eqv d d = true
  | .none, _ => rfl
  | .bool b, _ => by simp [PyData.eqv]
  | .int i, _ => by simp [PyData.eqv]
  | .str x, _ => by simp [PyData.eqv]
  | .list xs, h => by rw [PyData.eqv]; exact eqvAll_self xs h
  | .tuple xs, h => by rw [PyData.eqv]; exact eqvAll_self xs h
  | .dict _, h => by cases h
theorem eqvAll_self : ∀ xs : List PyData, dfreeAll xs = true → PyData.eqvAll xs xs = true
  | [], _ => rfl
  | x :: xs, h => by
    have h' : dfree x = true ∧ dfreeAll xs = true := by simpa [dfreeAll] using h
    rw [PyData.eqvAll, eqv_self x h'.1, eqvAll_self xs h'.2]; rfl
end
section
variable {h : Heap}
mutual
/-- one value is one datum, if one of the two is free of dicts -/
theorem reads_one : ∀ (d e : PyData) (v : Value) (as bs : List Addr), (dfree d = true ∨ dfree e = true) → Reads h v d as → Reads h v e bs → d = e
  | .none, _, _, _, _, _, ra, rb => by cases ra; cases rb; rfl
  | .bool _, _, _, _, _, _, ra, rb => by cases ra; cases rb; rfl
  | .int _, _, _, _, _, _, ra, rb => by cases ra; cases rb; rfl
  | .str _, _, _, _, _, _, ra, rb => by cases ra; cases rb; rfl
  | .list xs, _, _, _, _, f, ra, rb => by
    cases ra with
    | list h1 h2 h3 h4 =>
      cases rb with
      | list k1 k2 k3 k4 =>
        rw [h1] at k1; cases k1
        rw [h3] at k3; cases k3
        exact congrArg PyData.list (readsAll_one xs _ _ _ _ f h4 k4)
      | tuple k1 k2 k3 k4 => rw [h1] at k1; cases k1; rw [h2] at k2; simp at k2
      | dict k1 k2 k3 _ _ => rw [h1] at k1; cases k1; rw [h2] at k2; simp at k2
  | .tuple xs, _, _, _, _, f, ra, rb => by
    cases ra with
    | tuple h1 h2 h3 h4 =>
      cases rb with
      | tuple k1 k2 k3 k4 =>
        rw [h1] at k1; cases k1
        rw [h3] at k3; cases k3
        exact congrArg PyData.tuple (readsAll_one xs _ _ _ _ f h4 k4)
      | list k1 k2 k3 k4 => rw [h1] at k1; cases k1; rw [h2] at k2; simp at k2
      | dict k1 k2 k3 _ _ => rw [h1] at k1; cases k1; rw [h2] at k2; simp at k2
  | .dict kvs, _, _, _, _, f, ra, rb => by
    cases ra with
    | dict h1 h2 h3 h4 h5 =>
      cases rb with
      | tuple k1 k2 k3 k4 => rw [h1] at k1; cases k1; rw [h2] at k2; simp at k2
      | list k1 k2 k3 k4 => rw [h1] at k1; cases k1; rw [h2] at k2; simp at k2
      | dict k1 k2 k3 _ _ => rcases f with f | f <;> cases f
theorem readsAll_one : ∀ (xs ys : List PyData) (vs : List Value) (as bs : List Addr), (dfreeAll xs = true ∨ dfreeAll ys = true) → ReadsAll h vs xs as → ReadsAll h vs ys bs → xs = ys
  | [], _, _, _, _, _, ra, rb => by cases ra; cases rb; rfl
  | x :: xs, _, _, _, _, f, ra, rb => by
    cases ra with
    | cons r rs =>
      cases rb with
      | @cons _ _ y ys _ _ r' rs' =>
        have f1 : dfree x = true ∨ dfree y = true := f.imp (fun z => (Bool.and_eq_true_iff.mp z).1) fun z => (Bool.and_eq_true_iff.mp z).1
        have f2 : dfreeAll xs = true ∨ dfreeAll ys = true := f.imp (fun z => (Bool.and_eq_true_iff.mp z).2) fun z => (Bool.and_eq_true_iff.mp z).2
        rw [reads_one x _ _ _ _ f1 r r', readsAll_one xs _ _ _ _ f2 rs rs']
end
end
section
/-- two lists, two tuples, two dicts -/
def kin : PyData → PyData → Bool
  | .list _, .list _ => true
  | .tuple _, .tuple _ => true
  | .dict _, .dict _ => true
  | _, _ => false
theorem at_list {h : Heap} {a : Addr} {o : Obj} {vs : Array Value} {n : Nat} (e1 : h.get? a = some o) (e2 : o.cls = .type "list") (e3 : o.data = .seq vs n) : h.IsList a vs := ⟨_, e1, e2, _, e3⟩
theorem at_tuple {h : Heap} {a : Addr} {o : Obj} {vs : Array Value} {n : Nat} (e1 : h.get? a = some o) (e2 : o.cls = .type "tuple") (e3 : o.data = .seq vs n) : h.IsTuple a vs := ⟨_, e1, e2, _, e3⟩
variable {A : Around} {s : Shared} {v u : Value} {d e : PyData} {as bs : List Addr} {xs ys : List PyData}
theorem eqFlat (k : kin d e = false) (ra : Reads s.heap v d as) (rb : Reads s.heap u e bs) (lt : A.units < cLine) : EqAt A s v u (PyData.eqv d e) ∧ RcAt A s v u (PyData.eqv d e) := by
  cases ra with
  | none => cases rb with
    | none => exact ⟨EqAt.same _, RcAt.none_none⟩
    | bool q1 => exact ⟨EqAt.none_bool q1, RcAt.none_bool q1⟩
    | int q1 q2 => exact ⟨EqAt.none_int q1 q2, RcAt.none_int q1 q2⟩
    | str q1 q2 => exact ⟨EqAt.none_str q1 q2, RcAt.none_str q1 q2⟩
    | list q1 q2 q3 _ => exact ⟨EqAt.none_list (at_list q1 q2 q3) lt, RcAt.none_list (at_list q1 q2 q3) lt⟩
    | tuple q1 q2 q3 _ => exact ⟨EqAt.none_tuple (at_tuple q1 q2 q3) lt, RcAt.none_tuple (at_tuple q1 q2 q3) lt⟩
    | dict q1 q2 q3 _ _ => exact ⟨EqAt.none_dict (DictOb.of q1 q2 q3) lt, RcAt.none_dict (DictOb.of q1 q2 q3) lt⟩
  | bool p1 => cases rb with
    | none => exact ⟨EqAt.bool_none p1, RcAt.bool_none p1⟩
    | bool q1 => exact ⟨EqAt.bool_bool p1 q1, RcAt.bool_bool p1 q1⟩
    | int q1 q2 => exact ⟨EqAt.bool_int p1 q1 q2, RcAt.bool_int p1 q1 q2⟩
    | str q1 q2 => exact ⟨EqAt.bool_str p1 q1 q2, RcAt.bool_str p1 q1 q2⟩
    | list q1 q2 q3 _ => exact ⟨EqAt.bool_list p1 (at_list q1 q2 q3) lt, RcAt.bool_list p1 (at_list q1 q2 q3) lt⟩
    | tuple q1 q2 q3 _ => exact ⟨EqAt.bool_tuple p1 (at_tuple q1 q2 q3) lt, RcAt.bool_tuple p1 (at_tuple q1 q2 q3) lt⟩
    | dict q1 q2 q3 _ _ => exact ⟨EqAt.bool_dict p1 (DictOb.of q1 q2 q3) lt, RcAt.bool_dict p1 (DictOb.of q1 q2 q3) lt⟩
  | int p1 p2 => cases rb with
    | none => exact ⟨EqAt.int_none p1 p2, RcAt.int_none p1 p2⟩
    | bool q1 => exact ⟨EqAt.int_bool p1 p2 q1, RcAt.int_bool p1 p2 q1⟩
    | int q1 q2 => exact ⟨EqAt.int_int p1 p2 q1 q2, RcAt.int_int p1 p2 q1 q2⟩
    | str q1 q2 => exact ⟨EqAt.int_str p1 p2 q1 q2, RcAt.int_str p1 p2 q1 q2⟩
    | list q1 q2 q3 _ => exact ⟨EqAt.int_list p1 p2 (at_list q1 q2 q3) lt, RcAt.int_list p1 p2 (at_list q1 q2 q3) lt⟩
    | tuple q1 q2 q3 _ => exact ⟨EqAt.int_tuple p1 p2 (at_tuple q1 q2 q3) lt, RcAt.int_tuple p1 p2 (at_tuple q1 q2 q3) lt⟩
    | dict q1 q2 q3 _ _ => exact ⟨EqAt.int_dict p1 p2 (DictOb.of q1 q2 q3) lt, RcAt.int_dict p1 p2 (DictOb.of q1 q2 q3) lt⟩
  | str p1 p2 => cases rb with
    | none => exact ⟨EqAt.str_none p1 p2, RcAt.str_none p1 p2⟩
    | bool q1 => exact ⟨EqAt.str_bool p1 p2 q1, RcAt.str_bool p1 p2 q1⟩
    | int q1 q2 => exact ⟨EqAt.str_int p1 p2 q1 q2, RcAt.str_int p1 p2 q1 q2⟩
    | str q1 q2 => exact ⟨EqAt.str_str p1 p2 q1 q2, RcAt.str_str p1 p2 q1 q2⟩
    | list q1 q2 q3 _ => exact ⟨EqAt.str_list p1 p2 (at_list q1 q2 q3) lt, RcAt.str_list p1 p2 (at_list q1 q2 q3) lt⟩
    | tuple q1 q2 q3 _ => exact ⟨EqAt.str_tuple p1 p2 (at_tuple q1 q2 q3) lt, RcAt.str_tuple p1 p2 (at_tuple q1 q2 q3) lt⟩
    | dict q1 q2 q3 _ _ => exact ⟨EqAt.str_dict p1 p2 (DictOb.of q1 q2 q3) lt, RcAt.str_dict p1 p2 (DictOb.of q1 q2 q3) lt⟩
  | list p1 p2 p3 _ => cases rb with
    | none => exact ⟨EqAt.list_none (at_list p1 p2 p3) lt, RcAt.list_none (at_list p1 p2 p3) lt⟩
    | bool q1 => exact ⟨EqAt.list_bool q1 (at_list p1 p2 p3) lt, RcAt.list_bool q1 (at_list p1 p2 p3) lt⟩
    | int q1 q2 => exact ⟨EqAt.list_int q1 q2 (at_list p1 p2 p3) lt, RcAt.list_int q1 q2 (at_list p1 p2 p3) lt⟩
    | str q1 q2 => exact ⟨EqAt.list_str q1 q2 (at_list p1 p2 p3) lt, RcAt.list_str q1 q2 (at_list p1 p2 p3) lt⟩
    | list q1 q2 q3 _ => cases k
    | tuple q1 q2 q3 _ => exact ⟨EqAt.list_tuple (at_list p1 p2 p3) (at_tuple q1 q2 q3) lt, RcAt.list_tuple (at_list p1 p2 p3) (at_tuple q1 q2 q3) lt⟩
    | dict q1 q2 q3 _ _ => exact ⟨EqAt.list_dict (DictOb.of q1 q2 q3) (at_list p1 p2 p3) lt, RcAt.list_dict (DictOb.of q1 q2 q3) (at_list p1 p2 p3) lt⟩
  | tuple p1 p2 p3 _ => cases rb with
    | none => exact ⟨EqAt.tuple_none (at_tuple p1 p2 p3) lt, RcAt.tuple_none (at_tuple p1 p2 p3) lt⟩
    | bool q1 => exact ⟨EqAt.tuple_bool q1 (at_tuple p1 p2 p3) lt, RcAt.tuple_bool q1 (at_tuple p1 p2 p3) lt⟩
    | int q1 q2 => exact ⟨EqAt.tuple_int q1 q2 (at_tuple p1 p2 p3) lt, RcAt.tuple_int q1 q2 (at_tuple p1 p2 p3) lt⟩
    | str q1 q2 => exact ⟨EqAt.tuple_str q1 q2 (at_tuple p1 p2 p3) lt, RcAt.tuple_str q1 q2 (at_tuple p1 p2 p3) lt⟩
    | list q1 q2 q3 _ => exact ⟨EqAt.tuple_list (at_tuple p1 p2 p3) (at_list q1 q2 q3) lt, RcAt.tuple_list (at_tuple p1 p2 p3) (at_list q1 q2 q3) lt⟩
    | tuple q1 q2 q3 _ => cases k
    | dict q1 q2 q3 _ _ => exact ⟨EqAt.tuple_dict (DictOb.of q1 q2 q3) (at_tuple p1 p2 p3) lt, RcAt.tuple_dict (DictOb.of q1 q2 q3) (at_tuple p1 p2 p3) lt⟩
  | dict p1 p2 p3 _ _ => cases rb with
    | none => exact ⟨EqAt.dict_none (DictOb.of p1 p2 p3) lt, RcAt.dict_none (DictOb.of p1 p2 p3) lt⟩
    | bool q1 => exact ⟨EqAt.dict_bool q1 (DictOb.of p1 p2 p3) lt, RcAt.dict_bool q1 (DictOb.of p1 p2 p3) lt⟩
    | int q1 q2 => exact ⟨EqAt.dict_int q1 q2 (DictOb.of p1 p2 p3) lt, RcAt.dict_int q1 q2 (DictOb.of p1 p2 p3) lt⟩
    | str q1 q2 => exact ⟨EqAt.dict_str q1 q2 (DictOb.of p1 p2 p3) lt, RcAt.dict_str q1 q2 (DictOb.of p1 p2 p3) lt⟩
    | list q1 q2 q3 _ => exact ⟨EqAt.dict_list (DictOb.of p1 p2 p3) (at_list q1 q2 q3) lt, RcAt.dict_list (DictOb.of p1 p2 p3) (at_list q1 q2 q3) lt⟩
    | tuple q1 q2 q3 _ => exact ⟨EqAt.dict_tuple (DictOb.of p1 p2 p3) (at_tuple q1 q2 q3) lt, RcAt.dict_tuple (DictOb.of p1 p2 p3) (at_tuple q1 q2 q3) lt⟩
    | dict q1 q2 q3 _ _ => cases k
/-- the items, pair by pair -/
abbrev Each (A : Around) (s : Shared) (xs ys : List PyData) : Prop := ∀ (vs us : List Value) (as bs : List Addr), ReadsAll s.heap vs xs as → ReadsAll s.heap us ys bs → ∀ (j : Nat) (h1 : j < vs.length) (h2 : j < us.length), EqAt A.in1 s vs[j] us[j] (pairEq xs ys j)
theorem sizes {h : Heap} {vs : Array Value} {xs : List PyData} {as : List Addr} (r : ReadsAll h vs.toList xs as) : vs.size = xs.length := by
  have z := ReadsAll.length _ _ _ r
  rwa [Array.length_toList] at z
theorem listRc (ra : Reads s.heap v (.list xs) as) (rb : Reads s.heap u (.list ys) bs) (lt : A.units < cLine) (each : Each A s xs ys) : RcAt A s v u (PyData.eqvAll xs ys) := by
  cases ra with
  | list a1 a2 a3 a4 =>
    cases rb with
    | list b1 b2 b3 b4 =>
      have z1 := sizes a4
      have z2 := sizes b4
      by_cases same : xs.length = ys.length
      · rw [← eqvAll_same_length same, ← z1]
        exact RcAt.lists (at_list a1 a2 a3) (at_list b1 b2 b3) (by omega) lt fun j j1 j2 => by
          have q := each _ _ _ _ a4 b4 j (by simpa using j1) (by simpa using j2)
          simpa using q
      · rw [eqvAll_other_length same]
        exact RcAt.lists_lengths (at_list a1 a2 a3) (at_list b1 b2 b3) (by simp; omega) lt
theorem tupRc (ra : Reads s.heap v (.tuple xs) as) (rb : Reads s.heap u (.tuple ys) bs) (lt : A.units < cLine) (each : Each A s xs ys) : RcAt A s v u (PyData.eqvAll xs ys) := by
  cases ra with
  | tuple a1 a2 a3 a4 =>
    cases rb with
    | tuple b1 b2 b3 b4 =>
      rw [← eqvAll_eq, ← sizes a4, ← sizes b4]
      exact RcAt.tuples (at_tuple a1 a2 a3) (at_tuple b1 b2 b3) lt fun j j1 j2 => by
        have q := each _ _ _ _ a4 b4 j (by simpa using j1) (by simpa using j2)
        simpa using q
/-- from the comparison to the test that looks at the address first -/
theorem rcEq (f : dfree d = true ∨ dfree e = true) (ra : Reads s.heap v d as) (rb : Reads s.heap u e bs) (h : ∃ a, v = .ref a) (k : ∃ a, u = .ref a) (rc : RcAt A s v u (PyData.eqv d e)) : EqAt A s v u (PyData.eqv d e) := by
  obtain ⟨a, rfl⟩ := h
  obtain ⟨b, rfl⟩ := k
  by_cases ab : a = b
  · subst ab
    obtain rfl := reads_one d e _ _ _ f ra rb
    rw [eqv_self d (f.elim id id)]
    exact EqAt.same _
  · exact EqAt.of_refs ab rc
theorem ref_list {h : Heap} (r : Reads h v (.list xs) as) : ∃ a, v = .ref a := by cases r; exact ⟨_, rfl⟩
theorem ref_tuple {h : Heap} (r : Reads h v (.tuple xs) as) : ∃ a, v = .ref a := by cases r; exact ⟨_, rfl⟩
end
mutual
theorem eqMix : ∀ (d e : PyData) (A : Around) (s : Shared) (v u : Value) (as bs : List Addr), (dfree d = true ∨ dfree e = true) → Reads s.heap v d as → Reads s.heap u e bs → A.units + min d.depth e.depth < cLine → EqAt A s v u (PyData.eqv d e)
  | .list xs, e, A, s, v, u, _, _, f, ra, rb, hu => by
    cases e with
    | list ys => exact rcEq f ra rb (ref_list ra) (ref_list rb) (listRc ra rb (room_here hu) fun vs us as bs q1 q2 => eqMixAll xs ys A.in1 s vs us as bs f q1 q2 (room_in hu))
    | _ => exact (eqFlat rfl ra rb (room_here hu)).1
  | .tuple xs, e, A, s, v, u, _, _, f, ra, rb, hu => by
    cases e with
    | tuple ys => exact rcEq f ra rb (ref_tuple ra) (ref_tuple rb) (tupRc ra rb (room_here hu) fun vs us as bs q1 q2 => eqMixAll xs ys A.in1 s vs us as bs f q1 q2 (room_in hu))
    | _ => exact (eqFlat rfl ra rb (room_here hu)).1
  | .dict kvs, e, A, s, v, u, _, _, f, ra, rb, hu => by
    cases e with
    | dict _ => rcases f with f | f <;> cases f
    | _ => exact (eqFlat rfl ra rb (room_here hu)).1
  | .none, e, _, _, _, _, _, _, _, ra, rb, hu => (eqFlat (by cases e <;> rfl) ra rb (room_here hu)).1
  | .bool _, e, _, _, _, _, _, _, _, ra, rb, hu => (eqFlat (by cases e <;> rfl) ra rb (room_here hu)).1
  | .int _, e, _, _, _, _, _, _, _, ra, rb, hu => (eqFlat (by cases e <;> rfl) ra rb (room_here hu)).1
  | .str _, e, _, _, _, _, _, _, _, ra, rb, hu => (eqFlat (by cases e <;> rfl) ra rb (room_here hu)).1
theorem eqMixAll : ∀ (xs ys : List PyData) (A : Around) (s : Shared) (vs us : List Value) (as bs : List Addr), (dfreeAll xs = true ∨ dfreeAll ys = true) → ReadsAll s.heap vs xs as → ReadsAll s.heap us ys bs →
    A.units + min (PyData.depthAll xs) (PyData.depthAll ys) < cLine → ∀ (j : Nat) (h1 : j < vs.length) (h2 : j < us.length), EqAt A s vs[j] us[j] (pairEq xs ys j)
  | [], _, _, _, _, _, _, _, _, .nil, _, _, _, h1, _ => nomatch h1
  | _ :: _, [], _, _, _, _, _, _, _, _, .nil, _, _, _, h2 => nomatch h2
  | x :: xs, y :: ys, A, s, _, _, _, _, f, .cons r rs, .cons r' rs', hu, j, h1, h2 => by
    have both : (dfree x = true ∨ dfree y = true) ∧ (dfreeAll xs = true ∨ dfreeAll ys = true) := by
      rcases f with z | z <;> obtain ⟨z1, z2⟩ := Bool.and_eq_true_iff.mp z
      · exact ⟨.inl z1, .inl z2⟩
      · exact ⟨.inr z1, .inr z2⟩
    match j with
    | 0 => exact eqMix x y A s _ _ _ _ both.1 r r' (room_head hu)
    | j + 1 => exact eqMixAll xs ys A s _ _ _ _ both.2 rs rs' (room_tail hu) j (Nat.lt_of_succ_lt_succ h1) (Nat.lt_of_succ_lt_succ h2)
end
theorem rcMix {d e : PyData} {A : Around} {s : Shared} {v u : Value} {as bs : List Addr} (f : dfree d = true ∨ dfree e = true) (ra : Reads s.heap v d as) (rb : Reads s.heap u e bs) (hu : A.units + min d.depth e.depth < cLine) : RcAt A s v u (PyData.eqv d e) := by
  cases k : kin d e with
  | false => exact (eqFlat k ra rb (room_here hu)).2
  | true =>
    cases d <;> cases e <;> first
      | (cases k; done)
      | exact listRc ra rb (room_here hu) fun vs us as bs q1 q2 => eqMixAll _ _ A.in1 s vs us as bs f q1 q2 (room_in hu)
      | exact tupRc ra rb (room_here hu) fun vs us as bs q1 q2 => eqMixAll _ _ A.in1 s vs us as bs f q1 q2 (room_in hu)
      | (rcases f with f | f <;> cases f)
/-- the datum that a value reads as -/
noncomputable def datOf (h : Heap) (v : Value) : PyData := open Classical in if e : ∃ d as, Reads h v d as then e.choose else .none
theorem datOf_eq {h : Heap} {v : Value} {d : PyData} {as : List Addr} (r : Reads h v d as) : datOf h v = d := by
  have e : ∃ d as, Reads h v d as := ⟨d, as, r⟩
  unfold datOf
  rw [dif_pos e]
  obtain ⟨bs, r2⟩ := e.choose_spec
  exact (r2.unique _ _ r).1
theorem datAll_eq {h : Heap} : ∀ {xs : List PyData} {vs : List Value} {as : List Addr}, ReadsAll h vs xs as → vs.map (datOf h) = xs
  | _, _, _, .nil => rfl
  | _, _, _, .cons r t => by rw [List.map_cons, datOf_eq r, datAll_eq t]
theorem reads_mem {h : Heap} : ∀ {xs : List PyData} {vs : List Value} {as : List Addr}, ReadsAll h vs xs as → ∀ y ∈ vs, ∃ d bs, d ∈ xs ∧ Reads h y d bs ∧ d.depth ≤ PyData.depthAll xs
  | _, _, _, .nil, y, hy => by cases hy
  | _, _, _, .cons (d := d) r t, y, hy => by
    rcases List.mem_cons.mp hy with rfl | hy
    · exact ⟨d, _, List.mem_cons_self .., r, Nat.le_max_left _ _⟩
    · obtain ⟨e, bs, h1, h2, h3⟩ := reads_mem t y hy
      exact ⟨e, bs, List.mem_cons_of_mem _ h1, h2, Nat.le_trans h3 (Nat.le_max_right _ _)⟩
theorem dfreeAll_mem : ∀ {xs : List PyData} {d : PyData}, dfreeAll xs = true → d ∈ xs → dfree d = true
  | _ :: _, _, h, m => by
    obtain ⟨h1, h2⟩ := Bool.and_eq_true_iff.mp (show (dfree _ && dfreeAll _) = true from h)
    rcases List.mem_cons.mp m with rfl | m
    · exact h1
    · exact dfreeAll_mem h2 m
theorem items_mix {A : Around} {s : Shared} {vs : Array Value} {xs : List PyData} {as bs : List Addr} {x : Value} {d : PyData} (f : dfreeAll xs = true ∨ dfree d = true) (rs : ReadsAll s.heap vs.toList xs as) (rx : Reads s.heap x d bs)
    (hu : A.units + 1 + min (PyData.depthAll xs) d.depth < cLine) : ∀ y, y ∈ vs → EqAt A.in1 s y x (PyData.eqv (datOf s.heap y) d) := fun y hy => by
  obtain ⟨e, cs, m, ry, le⟩ := reads_mem rs y (by simpa using hy)
  rw [datOf_eq ry]
  refine eqMix e d A.in1 s y x _ _ (f.imp (fun z => dfreeAll_mem z m) id) ry rx ?_
  have : min e.depth d.depth ≤ min (PyData.depthAll xs) d.depth := Nat.le_min.mpr ⟨Nat.le_trans (Nat.min_le_left _ _) le, Nat.min_le_right _ _⟩
  show A.units + 1 + min e.depth d.depth < cLine
  omega
theorem any_dat {h : Heap} {vs : Array Value} {xs : List PyData} {as : List Addr} {d : PyData} (rs : ReadsAll h vs.toList xs as) : vs.any (fun y => PyData.eqv (datOf h y) d) = xs.any (fun y => PyData.eqv y d) := by
  rw [← Array.any_toList, ← datAll_eq rs, List.any_map]
  rfl
end SeqAt
end PySem
namespace Pu
open PySem PySem.Spec PyProof.Rows L2 SeqAt
section
variable {X : Cx} {pins : List (Addr × Obj)} {σ : L2.St} {F H : Hp} {s : Shared} {pn : Pn} {b : Nat}
theorem BV.reads (I : Inv X pins σ H s) (o : Ok pn b F H) {v : V} {d : PyData} {u : Value} (h : BV X.K pn F H v d) (r : RelV v u) : ∃ as, Reads s.heap u d as := by
  rcases h with h | ⟨xs, rfl, a, vs, rfl, _, _, _, ha, q⟩
  · obtain ⟨as, h, _⟩ := reads_of I o.sub h r
    exact ⟨as, h⟩
  · cases r
    obtain ⟨its, rv, pl, _⟩ := I.list (SqL.of (K := X.K) ha)
    obtain ⟨ob, ho, hc, n, hd⟩ := pl.isList
    obtain ⟨as, ra, _⟩ := readsAll_of I o.sub q rv
    exact ⟨_, .list ho hc hd (by simpa using ra)⟩
end
def rEq2 (K : PySem.W.Frag) : R2 := fun x y H Q => ∃ (pn : Pn) (b : Nat) (F : Hp) (d e : PyData), Ok pn b F H ∧ BV K pn F H x d ∧ BV K pn F H y e ∧ (dfree d = true ∨ dfree e = true) ∧ min d.depth e.depth ≤ 60 ∧ Q (.bl (PyData.eqv d e)) H
def pEq2 : P2 := fun x y P => (dfree x = true ∨ dfree y = true) ∧ min x.depth y.depth ≤ 60 ∧ P (.bool (PyData.eqv x y))
theorem op_eq2 {X : Cx} (hu : X.A.units + 64 < cLine) : OpR X (compareOp .Eq) (rEq2 X.K) := by
  intro pins s σ H x y v u Q I rx ry ⟨pn, b, F, d, e, o, bx, by', f, dp, q⟩
  obtain ⟨as, r1⟩ := bx.reads I o rx
  obtain ⟨bs, r2⟩ := by'.reads I o ry
  exact rcMix f r1 r2 (by omega) X.prog X.w _ _ ⟨.bl _, H, I, rfl, q⟩
theorem o_eq2 {K : PySem.W.Frag} : Op2 K (rEq2 K) pEq2 := by
  intro pn b F H v u x y P Q o bv bu ⟨f, dp, q⟩ k
  exact ⟨pn, b, F, x, y, o, bv, bu, f, dp, k _ _ F H o .refl (.bl _) q⟩
/-- the items of a list, a tuple -/
def itemsD : PyData → Option (List PyData)
  | .list xs => some xs
  | .tuple xs => some xs
  | _ => none
def rIn2 (K : PySem.W.Frag) (neg : Bool) : R2 := fun x y H Q => ∃ (pn : Pn) (b : Nat) (F : Hp) (d e : PyData) (ds : List PyData), Ok pn b F H ∧ BV K pn F H x d ∧ BV K pn F H y e ∧ itemsD e = some ds ∧ (dfreeAll ds = true ∨ dfree d = true) ∧ min (PyData.depthAll ds) d.depth ≤ 60 ∧ Q (.bl (neg ^^ (ds.any fun z => PyData.eqv z d))) H
def pIn2 (neg : Bool) : P2
  | .str s, .str t, P => P (.bool (neg ^^ !(Builtin.Str.occurrences t s 0 t.length 1).isEmpty))
  | x, y, P => ∃ ds, itemsD y = some ds ∧ (dfreeAll ds = true ∨ dfree x = true) ∧ min (PyData.depthAll ds) x.depth ≤ 60 ∧ P (.bool (neg ^^ (ds.any fun z => PyData.eqv z x)))
section
variable {X : Cx}
theorem op_in2 (hu : X.A.units + 64 < cLine) : OpR X (compareOp .In) (rIn2 X.K false) := by
  intro pins s σ H x y v u Q I rx ry ⟨pn, b, F, d, e, ds, o, bx, by', ei, f, dp, q⟩
  obtain ⟨as, r1⟩ := bx.reads I o rx
  obtain ⟨bs, r2⟩ := by'.reads I o ry
  rw [Bool.false_xor] at q
  cases r2 with
  | list k1 k2 k3 k4 =>
    cases ei
    exact in_listAt _ ⟨_, k1, k2, _, k3⟩ (items_mix f k4 r1 (by omega)) (by rw [any_dat k4]; exact ⟨.bl _, H, I, rfl, q⟩)
  | tuple k1 k2 k3 k4 =>
    cases ei
    exact in_tupleAt _ ⟨_, k1, k2, _, k3⟩ (items_mix f k4 r1 (by omega)) (by rw [any_dat k4]; exact ⟨.bl _, H, I, rfl, q⟩)
  | _ => cases ei
theorem op_ni2 (hu : X.A.units + 64 < cLine) : OpR X (compareOp .NotIn) (rIn2 X.K true) := by
  intro pins s σ H x y v u Q I rx ry ⟨pn, b, F, d, e, ds, o, bx, by', ei, f, dp, q⟩
  obtain ⟨as, r1⟩ := bx.reads I o rx
  obtain ⟨bs, r2⟩ := by'.reads I o ry
  rw [Bool.true_xor] at q
  cases r2 with
  | list k1 k2 k3 k4 =>
    cases ei
    exact notIn_listAt _ ⟨_, k1, k2, _, k3⟩ (items_mix f k4 r1 (by omega)) (by rw [any_dat k4]; exact ⟨.bl _, H, I, rfl, q⟩)
  | tuple k1 k2 k3 k4 =>
    cases ei
    exact notIn_tupleAt _ ⟨_, k1, k2, _, k3⟩ (items_mix f k4 r1 (by omega)) (by rw [any_dat k4]; exact ⟨.bl _, H, I, rfl, q⟩)
  | _ => cases ei
def rInB (K : PySem.W.Frag) : R2 := fun x y H Q => (∃ i j, x = .str i ∧ y = .str j ∧ Q (.bl (!(Builtin.Str.occurrences j i 0 j.length 1).isEmpty)) H) ∨ rIn2 K false x y H Q
def rNiB (K : PySem.W.Frag) : R2 := fun x y H Q => (∃ i j, x = .str i ∧ y = .str j ∧ Q (.bl (!(!(Builtin.Str.occurrences j i 0 j.length 1).isEmpty))) H) ∨ rIn2 K true x y H Q
theorem opr_in2 (hu : X.A.units + 64 < cLine) : OpR X (compareOp .In) (rInB X.K) := OpR.or op_in_str (op_in2 hu)
theorem opr_ni2 (hu : X.A.units + 64 < cLine) : OpR X (compareOp .NotIn) (rNiB X.K) := OpR.or op_notIn_str (op_ni2 hu)
theorem pIn2_cases {neg : Bool} {x y : PyData} {P : PyData → Prop} (h : pIn2 neg x y P) : (∃ s t, x = .str s ∧ y = .str t ∧ P (.bool (neg ^^ !(Builtin.Str.occurrences t s 0 t.length 1).isEmpty))) ∨
    ∃ ds, itemsD y = some ds ∧ (dfreeAll ds = true ∨ dfree x = true) ∧ min (PyData.depthAll ds) x.depth ≤ 60 ∧ P (.bool (neg ^^ (ds.any fun z => PyData.eqv z x))) := by
  unfold pIn2 at h
  split at h
  · exact .inl ⟨_, _, rfl, rfl, h⟩
  · exact .inr h
theorem o_in2 {K : PySem.W.Frag} : Op2 K (rInB K) (pIn2 false) := by
  intro pn b F H v u x y P Q o bv bu q k
  rcases pIn2_cases q with ⟨s, t, rfl, rfl, q1⟩ | ⟨ds, e, f, dp, q1⟩
  · exact .inl ⟨s, t, bv.str, bu.str, k _ _ F H o .refl (.bl _) (by simpa using q1)⟩
  · exact .inr ⟨pn, b, F, x, y, ds, o, bv, bu, e, f, dp, k _ _ F H o .refl (.bl _) q1⟩
theorem o_ni2 {K : PySem.W.Frag} : Op2 K (rNiB K) (pIn2 true) := by
  intro pn b F H v u x y P Q o bv bu q k
  rcases pIn2_cases q with ⟨s, t, rfl, rfl, q1⟩ | ⟨ds, e, f, dp, q1⟩
  · exact .inl ⟨s, t, bv.str, bu.str, k _ _ F H o .refl (.bl _) (by simpa using q1)⟩
  · exact .inr ⟨pn, b, F, x, y, ds, o, bv, bu, e, f, dp, k _ _ F H o .refl (.bl _) q1⟩
end
end Pu
namespace Pu
open PySem PySem.Spec PyProof.Rows L2 SeqAt
abbrev VE := En → Option PyData
abbrev VT := En → Option Bool
abbrev VF := En → Option (List PyData)
abbrev VO := En → Option (Option Int)
abbrev HE (t : WE) (e : VE) : Prop := ∀ env b P r, e env = some r → P r b → t env b P
abbrev HT (t : WT) (e : VT) : Prop := ∀ env b P r, e env = some r → P r b → t env b P
abbrev H2 (p : P2) (e : PyData → PyData → Option PyData) : Prop := ∀ x y P r, e x y = some r → P r → p x y P
abbrev H1 (p : P1) (e : PyData → Option PyData) : Prop := ∀ x P r, e x = some r → P r → p x P
abbrev H1L (p : PyData → (List PyData → Prop) → Prop) (e : PyData → Option (List PyData)) : Prop := ∀ x P r, e x = some r → P r → p x P
abbrev H2L (p : PyData → PyData → (List PyData → Prop) → Prop) (e : PyData → PyData → Option (List PyData)) : Prop := ∀ x y P r, e x y = some r → P r → p x y P
theorem bnd {α β : Type} {o : Option α} {f : α → Option β} {r : β} (h : o.bind f = some r) : ∃ x, o = some x ∧ f x = some r := Option.bind_eq_some_iff.mp h
def vVar (i : Nat) : VE := fun env => match env[i]? with
  | some (some (.d x)) => some x
  | some (some (.l xs)) => some (.list xs)
  | some (some (.r xs)) => some (.list xs)
  | _ => none
def vVal (i : Nat) : VE := fun env => match env[i]? with
  | some (some (.d x)) => some x
  | _ => none
def v1 (p : PyData → Option PyData) (a : VE) : VE := fun env => (a env).bind p
section
variable {ta tb tc : WE} {ea eb ec : VE} {tt tu : WT} {et eu : VT} {tf : WF} {ef : VF}
theorem h_var {i : Nat} : HE (wVar i) (vVar i) := fun env b P r h k => by
  unfold vVar at h; unfold wVar
  split at h <;> first | (cases h; simp_all; done) | (simp_all)
theorem h_val {i : Nat} : HE (wVal i) (vVal i) := fun env b P r h k => by
  unfold vVal at h; unfold wVal
  split at h <;> first | (cases h; simp_all; done) | (simp_all)
def eTru : PyData → Option Bool
  | .none => some false
  | .bool c => some c
  | .int i => some (i != 0)
  | .str z => if z.length ≤ sizeLine then some ((z.length : Int) != 0) else none
  | .list xs => some (!xs.isEmpty)
  | .tuple xs => some (!xs.isEmpty)
  | _ => none
theorem tru_run {x : PyData} {k : Bool} {P : Bool → Prop} (h : eTru x = some k) (q : P k) : pTru x P := by
  cases x with
  | str z =>
    have h : (if z.length ≤ sizeLine then some ((z.length : Int) != 0) else none) = some k := h
    by_cases c : z.length ≤ sizeLine
    · rw [if_pos c] at h
      cases h
      exact ⟨c, q⟩
    · rw [if_neg c] at h
      cases h
  | dict _ => cases h
  | _ => cases h; exact q
end
end Pu
namespace Pu
open PySem PySem.Spec PyProof.Rows L2 SeqAt
end Pu
namespace Pu
open PySem PySem.Spec PyProof.Rows L2 SeqAt PuS
def eAdd : PyData → PyData → Option PyData
  | .int i, .int j => some (.int (i + j))
  | .str s, .str t => if s.length + t.length ≤ sizeLine then some (.str (s ++ t)) else none
  | .tuple xs, .tuple ys => if xs.length + ys.length ≤ sizeLine then some (.tuple (xs ++ ys)) else none
  | .list xs, .list ys => if xs.length + ys.length ≤ sizeLine then some (.list (xs ++ ys)) else none
  | _, _ => none
def eI (C : Int → Int → Bool) (g : Int → Int → PyData) : PyData → PyData → Option PyData
  | .int i, .int j => if C i j = true then some (g i j) else none
  | _, _ => none
def eEq : PyData → PyData → Option PyData := fun x y => if (dfree x || dfree y) && decide (min x.depth y.depth ≤ 60) then some (.bool (PyData.eqv x y)) else none
def eNe : PyData → PyData → Option PyData := fun x y => if SeqAt.shaped x && SeqAt.shaped y then some (.bool (!PyData.eqv x y)) else none
def eInL (neg : Bool) (x y : PyData) : Option PyData := (itemsD y).bind fun ds => if (dfreeAll ds || dfree x) && decide (min (PyData.depthAll ds) x.depth ≤ 60) then some (.bool (neg ^^ (ds.any fun z => PyData.eqv z x))) else none
def eIn (neg : Bool) : PyData → PyData → Option PyData
  | .str s, .str t => some (.bool (neg ^^ !(Builtin.Str.occurrences t s 0 t.length 1).isEmpty))
  | x, y => eInL neg x y
def eIs (neg : Bool) : PyData → PyData → Option PyData
  | x, .none => some (.bool (neg ^^ isNon x))
  | .bool i, .bool j => some (.bool (neg ^^ decide (i = j)))
  | _, _ => none
def eIx : PyData → PyData → Option PyData
  | .list xs, .int i => atI xs i
  | .tuple xs, .int i => atI xs i
  | .str z, .int i => if z.length ≤ sizeLine then (atI z.cps.toList i).map fun c => .str ⟨#[c]⟩ else none
  | _, _ => none
def eLen : PyData → Option PyData
  | .str z => if z.length ≤ sizeLine then some (.int z.length) else none
  | .list xs => some (.int xs.length)
  | .tuple xs => some (.int xs.length)
  | _ => none
def eInt : PyData → Option PyData
  | .int i => some (.int i)
  | .bool c => some (.int (if c then 1 else 0))
  | _ => none
def eAll : PyData → Option PyData
  | .list xs => (boolsOf xs).map fun bs => .bool (bs.all id)
  | _ => none
def eAny : PyData → Option PyData
  | .list xs => (boolsOf xs).map fun bs => .bool (bs.any id)
  | _ => none
def eIsi (Ts : List String) : PyData → Option PyData := fun d => some (.bool (Ts.any fun T => isiD T d))
def eListL : PyData → Option (List PyData)
  | .list xs => some xs
  | .tuple xs => some xs
  | _ => none
section
variable {C : Int → Int → Prop} {D : Int → Int → Bool} {g : Int → Int → PyData} {neg : Bool}
theorem ite_some {α : Type} {c : Prop} [Decidable c] {x r : α} (h : (if c then some x else none) = some r) : c ∧ x = r := by
  by_cases q : c
  · rw [if_pos q] at h; cases h; exact ⟨q, rfl⟩
  · rw [if_neg q] at h; cases h
theorem h2_add : H2 pAdd eAdd := fun x y P r q k => by
  cases x <;> cases y <;> first
    | (cases q; exact k)
    | (obtain ⟨c, e⟩ := ite_some q; subst e; exact ⟨c, k⟩)
    | cases q
theorem h2_i (hC : ∀ i j, D i j = true → C i j) : H2 (pI C g) (eI D g) := fun x y P r q k => by
  cases x <;> cases y <;> first
    | (obtain ⟨c, e⟩ := ite_some q; subst e; exact ⟨hC _ _ c, k⟩)
    | cases q
theorem h2_eq : H2 pEq2 eEq := fun x y P r q k => by
  obtain ⟨c, e⟩ := ite_some q
  subst e
  obtain ⟨c1, c2⟩ := Bool.and_eq_true_iff.mp c
  exact ⟨(Bool.or_eq_true _ _).mp c1, of_decide_eq_true c2, k⟩
theorem h2_ne : H2 pNe eNe := fun x y P r q k => by
  obtain ⟨c, e⟩ := ite_some q
  subst e
  obtain ⟨c1, c2⟩ := Bool.and_eq_true_iff.mp c
  exact ⟨c1, c2, k⟩
theorem inL_run {x y r : PyData} {P : PyData → Prop} (q : eInL neg x y = some r) (k : P r) : ∃ ds, itemsD y = some ds ∧ (dfreeAll ds = true ∨ dfree x = true) ∧ min (PyData.depthAll ds) x.depth ≤ 60 ∧ P (.bool (neg ^^ (ds.any fun z => PyData.eqv z x))) := by
  obtain ⟨ds, h1, q⟩ := bnd q
  obtain ⟨c, e⟩ := ite_some q
  subst e
  obtain ⟨c1, c2⟩ := Bool.and_eq_true_iff.mp c
  exact ⟨ds, h1, (Bool.or_eq_true _ _).mp c1, of_decide_eq_true c2, k⟩
theorem h2_in : H2 (pIn2 neg) (eIn neg) := fun x y P r q k => by
  cases x with
  | str s => cases y with
    | str t => cases q; exact k
    | _ => exact inL_run q k
  | _ => exact inL_run (y := y) (by cases y <;> exact q) k
theorem h2_is : H2 (pIs neg) (eIs neg) := fun x y P r q k => by
  cases x <;> cases y <;> first | (cases q; exact k) | cases q
theorem h2_ix : H2 pIx eIx := fun x y P r q k => by
  cases x with
  | list xs => cases y with
    | int i => show (match atI xs i with | some v => P v | none => False); rw [show atI xs i = some r from q]; exact k
    | _ => cases q
  | tuple xs => cases y with
    | int i => show (match atI xs i with | some v => P v | none => False); rw [show atI xs i = some r from q]; exact k
    | _ => cases q
  | str z => cases y with
    | int i =>
      have q : (if z.length ≤ sizeLine then (atI z.cps.toList i).map fun c => PyData.str ⟨#[c]⟩ else none) = some r := q
      by_cases c : z.length ≤ sizeLine
      · rw [if_pos c] at q
        obtain ⟨a, h1, h2⟩ := Option.map_eq_some_iff.mp q
        subst h2
        refine ⟨c, ?_⟩
        rw [h1]
        exact k
      · rw [if_neg c] at q; cases q
    | _ => cases q
  | _ => cases y <;> cases q
theorem h1_len : H1 pLen eLen := fun x P r q k => by
  cases x <;> first
    | (cases q; exact k)
    | (obtain ⟨c, e⟩ := ite_some q; subst e; exact ⟨c, k⟩)
    | cases q
theorem h1_int : H1 pInt eInt := fun x P r q k => by cases x <;> first | (cases q; exact k) | cases q
theorem h1_all : H1 pAll eAll := fun x P r q k => by
  cases x with
  | list xs =>
    obtain ⟨bs, h1, h2⟩ := Option.map_eq_some_iff.mp q
    subst h2
    show (match boolsOf xs with | some bs => P (.bool (bs.all id)) | none => False)
    rw [h1]
    exact k
  | _ => cases q
theorem h1_any : H1 pAny eAny := fun x P r q k => by
  cases x with
  | list xs =>
    obtain ⟨bs, h1, h2⟩ := Option.map_eq_some_iff.mp q
    subst h2
    show (match boolsOf xs with | some bs => P (.bool (bs.any id)) | none => False)
    rw [h1]
    exact k
  | _ => cases q
theorem h1_isi {Ts : List String} : H1 (pIsi Ts) (eIsi Ts) := fun x P r q k => by cases q; exact k
theorem h1_listL : H1L pListL eListL := fun x P r q k => by cases x <;> first | (cases q; exact k) | cases q
end
end Pu
namespace Pu
open PySem PySem.Spec PyProof.Rows L2 SeqAt PuS
/-- a product's factors fit -/
def mulB (i j : Int) : Bool := (decide (-(2 ^ 64) < i) && decide (i < 2 ^ 64)) || (decide (-(2 ^ 64) < j) && decide (j < 2 ^ 64))
def eMul : PyData → PyData → Option PyData
  | .int i, .int j => if mulB i j = true then some (.int (i * j)) else none
  | .list xs, .int k => if -(2 ^ 63) ≤ k ∧ k < 2 ^ 63 ∧ xs.length * k.toNat ≤ sizeLine then some (.list (List.replicate k.toNat xs).flatten) else none
  | _, _ => none
def eCatL : PyData → PyData → Option (List PyData)
  | .list xs, .list ys => if xs.length + ys.length ≤ sizeLine then some (xs ++ ys) else none
  | _, _ => none
def eRepL : PyData → PyData → Option (List PyData)
  | .list xs, .int k => if -(2 ^ 63) ≤ k ∧ k < 2 ^ 63 ∧ xs.length * k.toNat ≤ sizeLine then some (List.replicate k.toNat xs).flatten else none
  | _, _ => none
/-- keys of a datum, as a function -/
def keyD : PyData → Option Key
  | .int i => some (.inl i)
  | .str z => some (.inr z)
  | _ => none
def keysAll : List PyData → Option (List Key)
  | [] => some []
  | x :: xs => (keyD x).bind fun k => (keysAll xs).map fun ks => k :: ks
def keysF : PyData → Option (List Key)
  | .str z => some (ofStr z)
  | .list xs => keysAll xs
  | .tuple xs => keysAll xs
  | _ => none
theorem keyD_ok {x : PyData} {k : Key} (h : keyD x = some k) : x = kD k := by cases x <;> first | (cases h; rfl) | cases h
theorem keysAll_ok : ∀ {xs : List PyData} {ks : List Key}, keysAll xs = some ks → xs = ks.map kD
  | [], ks, h => by cases h; rfl
  | x :: xs, ks, h => by
    obtain ⟨k, h1, h⟩ := bnd h
    obtain ⟨r, h2, h⟩ := Option.map_eq_some_iff.mp h
    subst h
    rw [keyD_ok h1, keysAll_ok h2]
    rfl
theorem keysF_ok {x : PyData} {ks : List Key} (h : keysF x = some ks) : KeysD x ks := by
  cases x with
  | str z => cases h; exact .inl ⟨z, rfl, rfl⟩
  | list xs => exact .inr (.inl (by rw [keysAll_ok h]))
  | tuple xs => exact .inr (.inr (by rw [keysAll_ok h]))
  | _ => cases h
def eLenSet (x : PyData) : Option PyData := (keysF x).bind fun ks => if ks.length + 1 < scanBound then some (.int (dist ks).length) else none
def strKeys : List Key → Option (List Str)
  | [] => some []
  | .inr z :: r => (strKeys r).map fun zs => z :: zs
  | _ :: _ => none
theorem strKeys_ok : ∀ {ks : List Key} {zs : List Str}, strKeys ks = some zs → ks = zs.map Sum.inr
  | [], _, h => by cases h; rfl
  | .inr z :: r, _, h => by
    obtain ⟨t, h1, h⟩ := Option.map_eq_some_iff.mp h
    subst h
    rw [strKeys_ok h1]
    rfl
  | .inl _ :: _, _, h => by cases h
def eSortSet (x : PyData) : Option (List PyData) := (keysF x).bind fun ks => (strKeys ks).bind fun zs => if zs.length + 1 < scanBound then some ((asc zs).map .str) else none
def eJoin : Str → PyData → Option PyData
  | a, .list xs => (strsOf xs).bind fun ys => if (ys.map (·.length)).sum + ys.length * a.length ≤ 16777216 then some (.str (Txt.join a ys)) else none
  | _, _ => none
def eIndex : Str → PyData → Option PyData
  | a, .str c => match Builtin.Str.occurrences a c 0 a.length 1 with | i :: _ => some (.int (i : Nat)) | [] => none
  | _, _ => none
def eSl (lo hi : Option Int) : PyData → Option PyData
  | .str z => if z.length ≤ sizeLine then some (.str (cutS z lo hi)) else none
  | .tuple xs => some (.tuple (cutD xs lo hi))
  | .list xs => some (.list (cutD xs lo hi))
  | _ => none
section
variable {ta tb tc : WE} {ea eb ec : VE} {tl th : WO} {el eh : VO}
theorem h2_mul : H2 pMul eMul := fun x y P r q k => by
  cases x with
  | int i => cases y with
    | int j =>
      obtain ⟨c, e⟩ := ite_some q
      subst e
      refine ⟨?_, k⟩
      rcases (Bool.or_eq_true _ _).mp c with c | c
      · obtain ⟨c1, c2⟩ := Bool.and_eq_true_iff.mp c
        exact .inl ⟨of_decide_eq_true c1, of_decide_eq_true c2⟩
      · obtain ⟨c1, c2⟩ := Bool.and_eq_true_iff.mp c
        exact .inr ⟨of_decide_eq_true c1, of_decide_eq_true c2⟩
    | _ => cases q
  | list xs => cases y with
    | int j => obtain ⟨c, e⟩ := ite_some q; subst e; exact ⟨c.1, c.2.1, c.2.2, k⟩
    | _ => cases q
  | _ => cases y <;> cases q
theorem h2_catL : H2L pCatL eCatL := fun x y P r q k => by
  cases x <;> cases y <;> first | (obtain ⟨c, e⟩ := ite_some q; subst e; exact ⟨c, k⟩) | cases q
theorem h2_repL : H2L pRepL eRepL := fun x y P r q k => by
  cases x <;> cases y <;> first | (obtain ⟨c, e⟩ := ite_some q; subst e; exact ⟨c.1, c.2.1, c.2.2, k⟩) | cases q
theorem h1_lenSet : H1 pLenSet eLenSet := fun x P r q k => by
  obtain ⟨ks, h1, q⟩ := bnd q
  obtain ⟨c, e⟩ := ite_some q
  subst e
  exact .inl ⟨ks, keysF_ok h1, c, k⟩
theorem h1_sortSet : H1L pSortSet eSortSet := fun x P r q k => by
  obtain ⟨ks, h1, q⟩ := bnd q
  obtain ⟨zs, h2, q⟩ := bnd q
  obtain ⟨c, e⟩ := ite_some q
  subst e
  exact ⟨zs, by rw [← strKeys_ok h2]; exact keysF_ok h1, c, k⟩
abbrev HM (p : PS2) (e : Str → PyData → Option PyData) : Prop := ∀ a y P r, e a y = some r → P r → p a y P
theorem hm_join : HM pJoin eJoin := fun a y P r q k => by
  cases y with
  | list xs =>
    obtain ⟨ys, h1, q⟩ := bnd q
    obtain ⟨c, e⟩ := ite_some q
    subst e
    show (match strsOf xs with | some ys => (ys.map (·.length)).sum + ys.length * a.length ≤ 16777216 ∧ P (.str (Txt.join a ys)) | none => False)
    rw [h1]
    exact ⟨c, k⟩
  | _ => cases q
theorem hm_index : HM pIndex eIndex := fun a y P r q k => by
  cases y with
  | str c =>
    have q : (match Builtin.Str.occurrences a c 0 a.length 1 with | i :: _ => some (PyData.int (i : Nat)) | [] => none) = some r := q
    show (match Builtin.Str.occurrences a c 0 a.length 1 with | i :: _ => P (.int (i : Nat)) | [] => False)
    cases e : Builtin.Str.occurrences a c 0 a.length 1 with
    | nil => rw [e] at q; cases q
    | cons i l => rw [e] at q; cases q; exact k
  | _ => cases q
end
end Pu
namespace Pu
open PySem PySem.Spec PyProof.Rows L2 SeqAt PuS
abbrev eLt := eI (fun _ _ => true) fun i j => .bool (decide (i < j))
abbrev eLe := eI (fun _ _ => true) fun i j => .bool (decide (i ≤ j))
abbrev eGt := eI (fun _ _ => true) fun i j => .bool (decide (j < i))
abbrev eGe := eI (fun _ _ => true) fun i j => .bool (decide (j ≤ i))
abbrev eSub := eI (fun _ _ => true) fun i j => .int (i - j)
abbrev eMod := eI (fun _ j => decide (0 < j)) fun i j => .int (i % j)
theorem h2_lt : H2 pLt eLt := h2_i fun _ _ _ => trivial
theorem h2_le : H2 pLe eLe := h2_i fun _ _ _ => trivial
theorem h2_gt : H2 pGt eGt := h2_i fun _ _ _ => trivial
theorem h2_ge : H2 pGe eGe := h2_i fun _ _ _ => trivial
theorem h2_sub : H2 pSub eSub := h2_i fun _ _ _ => trivial
theorem h2_mod : H2 pMod eMod := h2_i fun _ _ h => of_decide_eq_true h
end Pu
namespace Pu
open PySem PySem.Spec PyProof.Rows L2 SeqAt PuS
def chS (z : Str) : List PyData := z.cps.toList.map fun c => .str ⟨#[c]⟩
def chV (z : Str) : List V := z.cps.toList.map fun c => .str ⟨#[c]⟩
theorem rvs_ch {K : PySem.W.Frag} {F : Hp} (z : Str) : RVs K F (chV z) (chS z) := by
  unfold chV chS
  generalize z.cps.toList = l
  induction l with
  | nil => exact .nil
  | cons c r ih => exact .cons (.str _) ih
def rListS : List V → Hp → VK → Prop := fun xs H Q => ∃ z, xs = [.str z] ∧ z.length ≤ sizeLine ∧ ∀ p, H p = none → Q (.ref p) (upd H p (.lst (chV z)))
theorem call_listS {X : Cx} (hc : X.calm = true) : CallR X (.type "list") rListS := by
  intro pins s σ H xs us Q I r h
  obtain ⟨z, e, hl, q⟩ := h
  subst e
  obtain ⟨u, eu, rx⟩ := vals1 r
  subst eu
  obtain ⟨t, rfl⟩ := rx
  have lz : (chV z).length = z.cps.size := by simp [chV]
  refine call_list_str (I.ok.hd hc) z t (fun h' tk acc c' hk e hi => ?_) hl
  have vs : Vals (chV z) acc.toList := by
    refine vals_of_at (by rw [lz, Array.length_toList, hi.1]) fun j x u h1 h2 => ?_
    obtain ⟨c, tk, e1, rfl⟩ := hi.2 j u (by rw [← h2, Array.getElem?_toList])
    unfold chV at h1
    rw [List.getElem?_map, Array.getElem?_toList, e1] at h1
    cases h1
    exact ⟨tk, rfl⟩
  refine ⟨.ref s.heap.objs.size, upd H s.heap.objs.size (.lst (chV z)), I.laid hk (Nat.le_refl _) (show ObjOk X.prog X.w _ _ _ (.lst (chV z)) from ⟨by rw [lz]; exact hl, acc.toList, c', vs, ?_⟩), rfl, q _ (I.hok.fresh (Nat.le_refl _))⟩
  rw [Array.toArray_toList]
  exact e
/-- list(x) of a list, a tuple, a text -/
def pListA : PyData → (List PyData → Prop) → Prop
  | .list xs, P => P xs
  | .tuple xs, P => P xs
  | .str z, P => z.length ≤ sizeLine ∧ P (chS z)
  | _, _ => False
def rListA (K : PySem.W.Frag) : List V → Hp → VK → Prop := fun xs H Q => (∃ p ys, xs = [.ref p] ∧ (SqL K H p ys ∨ SqT K H p ys) ∧ ∀ l, H l = none → Q (.ref l) (upd H l (.lst ys))) ∨ rListS xs H Q
theorem call_listA {X : Cx} (hc : X.calm = true) : CallR X (.type "list") (rListA X.K) := fun pins s σ H xs us Q I r h => h.elim (fun h => call_list_of pins s σ H xs us Q I r h) fun h => call_listS hc pins s σ H xs us Q I r h
theorem c_listA {X : Cx} : Cl1L X.K (rListA X.K) pListA := by
  intro pn b F H v x P Q o bv q k
  match x, q with
  | .list xs, q =>
    obtain ⟨a, vs, rfl, h1, r1⟩ := bv.list o
    exact .inl ⟨_, vs, rfl, .inl (SqL.of h1), k.lst o r1 q⟩
  | .tuple xs, q =>
    obtain ⟨a, vs, rfl, h1, r1⟩ := bv.tup o
    exact .inl ⟨_, vs, rfl, .inr h1, k.lst o r1 q⟩
  | .str z, ⟨hl, q⟩ =>
    rw [bv.str]
    exact .inr ⟨z, rfl, hl, k.lst o (rvs_ch z) q⟩
def eListA : PyData → Option (List PyData)
  | .list xs => some xs
  | .tuple xs => some xs
  | .str z => if z.length ≤ sizeLine then some (chS z) else none
  | _ => none
theorem h1_listA : H1L pListA eListA := fun x P r q k => by
  cases x <;> first | (cases q; exact k) | (obtain ⟨c, e⟩ := ite_some q; subst e; exact ⟨c, k⟩) | cases q
end Pu
namespace Pu
open PySem PySem.Spec PyProof.Rows L2 SeqAt PuS
/-- from env with n draws left at least, t gives an r with m draws left at least, of which Q -/
def ME {α : Type} (t : En → Nat → (α → Nat → Prop) → Prop) (env : En) (n : Nat) (Q : α → Nat → Prop) : Prop :=
  ∀ (b : Nat) (P : α → Nat → Prop), n ≤ b → (∀ r m b', Q r m → m ≤ b' → P r b') → t env b P
def MD (f : WD) (ss : List Sl) (n : Nat) (Q : PyData → Nat → Prop) : Prop :=
  ∀ (b : Nat) (P : PyData → Nat → Prop), n ≤ b → (∀ r m b', Q r m → m ≤ b' → P r b') → f ss b P
/-- a statement: N what follows, R returns, B breaks, C continues -/
def MS (t : WS) (env : En) (n : Nat) (N : En → Nat → Prop) (R : PyData → Nat → Prop) (B C : En → Nat → Prop) : Prop :=
  ∀ (PD : PEnds) (b : Nat), n ≤ b → (∀ e m b', N e m → m ≤ b' → PD.nx e b') → (∀ r m b', R r m → m ≤ b' → PD.rt r b') →
    (∀ e m b', B e m → m ≤ b' → PD.bk e b') → (∀ e m b', C e m → m ≤ b' → PD.ct e b') → t PD env b
section
variable {α : Type} {t u : En → Nat → (α → Nat → Prop) → Prop} {env : En} {n : Nat} {Q : α → Nat → Prop}
theorem ME.imp {Q' : α → Nat → Prop} (h : ME t env n Q) (i : ∀ r m, Q r m → Q' r m) : ME t env n Q' := fun b P hb k => h b P hb fun r m b' q hm => k r m b' (i r m q) hm
theorem ME.pure {e : En → Option α} (ht : ∀ env b P r, e env = some r → P r b → t env b P) {r : α} (he : e env = some r) (q : Q r n) : ME t env n Q := fun b P hb k => ht env b P r he (k r n b q hb)
end
section
variable {f : WD} {ss : List Sl} {n : Nat} {Q Q' : PyData → Nat → Prop}
theorem MD.imp (h : MD f ss n Q) (i : ∀ r m, Q r m → Q' r m) : MD f ss n Q' := fun b P hb k => h b P hb fun r m b' q hm => k r m b' (i r m q) hm
end
section
variable {ta tb tc : WE} {tt tu : WT} {tf : WF} {env : En} {n : Nat} {Q : PyData → Nat → Prop} {QT : Bool → Nat → Prop} {QL : List PyData → Nat → Prop}
theorem m_c {d : PyData} (q : Q d n) : ME (wC d) env n Q := fun b P hb k => k d n b q hb
theorem m_d0 (q : Q (.dict []) n) : ME wD0 env n Q := fun b P hb k => k _ n b q hb
theorem m_var {i : Nat} {x : PyData} (h : vVar i env = some x) (q : Q x n) : ME (wVar i) env n Q := ME.pure h_var h q
theorem m_val {i : Nat} {x : PyData} (h : vVal i env = some x) (q : Q x n) : ME (wVal i) env n Q := ME.pure h_val h q
theorem m_z (h : ME tf env n fun xs m => Q (.list xs) m) : ME (fz tf) env n Q := fun b P hb k => h b _ hb fun r m b' q hm => k _ m b' q hm
theorem m_op {p : P2} {e : PyData → PyData → Option PyData} (hp : H2 p e) (h : ME ta env n fun x m => ME tb env m fun y m' => ∃ z, e x y = some z ∧ Q z m') : ME (wOp p ta tb) env n Q :=
  fun b P hb k => h b _ hb fun x m b1 hx hb1 => hx b1 _ hb1 fun y m' b2 ⟨z, e, q⟩ hb2 => hp x y _ z e (k z m' b2 q hb2)
theorem m_opL {p : PyData → PyData → (List PyData → Prop) → Prop} {e : PyData → PyData → Option (List PyData)} (hp : H2L p e) (h : ME ta env n fun x m => ME tb env m fun y m' => ∃ z, e x y = some z ∧ QL z m') : ME (wOpL p ta tb) env n QL :=
  fun b P hb k => h b _ hb fun x m b1 hx hb1 => hx b1 _ hb1 fun y m' b2 ⟨z, e, q⟩ hb2 => hp x y _ z e (k z m' b2 q hb2)
theorem m_1 {p : P1} {e : PyData → Option PyData} (hp : H1 p e) (h : ME ta env n fun x m => ∃ z, e x = some z ∧ Q z m) : ME (w1 p ta) env n Q :=
  fun b P hb k => h b _ hb fun x m b1 ⟨z, e, q⟩ hb1 => hp x _ z e (k z m b1 q hb1)
theorem m_1L {p : PyData → (List PyData → Prop) → Prop} {e : PyData → Option (List PyData)} (hp : H1L p e) (h : ME ta env n fun x m => ∃ z, e x = some z ∧ QL z m) : ME (w1L p ta) env n QL :=
  fun b P hb k => h b _ hb fun x m b1 ⟨z, e, q⟩ hb1 => hp x _ z e (k z m b1 q hb1)
theorem m_ms {p : PS2} {e : Str → PyData → Option PyData} (hp : HM p e) (h : ME ta env n fun x m => ∃ a, x = .str a ∧ ME tb env m fun y m' => ∃ z, e a y = some z ∧ Q z m') : ME (wMS p ta tb) env n Q :=
  fun b P hb k => h b _ hb fun x m b1 ⟨a, ea, hx⟩ hb1 => by
    subst ea
    exact hx b1 _ hb1 fun y m' b2 ⟨z, e, q⟩ hb2 => hp a y _ z e (k z m' b2 q hb2)
theorem m_tt (h : ME ta env n fun d m => ∃ c, d = .bool c ∧ QT c m) : ME (wTt ta) env n QT :=
  fun b P hb k => h b _ hb fun x m b1 ⟨c, e, q⟩ hb1 => by subst e; exact k c m b1 q hb1
theorem m_tru (h : ME ta env n fun d m => ∃ c, eTru d = some c ∧ QT c m) : ME (wTru ta) env n QT :=
  fun b P hb k => h b _ hb fun x m b1 ⟨c, e, q⟩ hb1 => tru_run e (k c m b1 q hb1)
theorem m_notT (h : ME tt env n fun c m => QT (!c) m) : ME (wNotT tt) env n QT := fun b P hb k => h b _ hb fun c m b1 q hb1 => k _ m b1 q hb1
theorem m_andT (h : ME tt env n fun c m => (c = true → ME tu env m QT) ∧ (c = false → QT false m)) : ME (wAndT tt tu) env n QT :=
  fun b P hb k => h b _ hb fun c m b1 ⟨q1, q2⟩ hb1 => by
    cases c with
    | true => exact q1 rfl b1 P hb1 k
    | false => exact k false m b1 (q2 rfl) hb1
theorem m_orT (h : ME tt env n fun c m => (c = true → QT true m) ∧ (c = false → ME tu env m QT)) : ME (wOrT tt tu) env n QT :=
  fun b P hb k => h b _ hb fun c m b1 ⟨q1, q2⟩ hb1 => by
    cases c with
    | true => exact k true m b1 (q1 rfl) hb1
    | false => exact q2 rfl b1 P hb1 k
theorem m_yes (q : QT true n) : ME wYes env n QT := fun b P hb k => k true n b q hb
theorem m_ifE (h : ME tt env n fun c m => (c = true → ME ta env m Q) ∧ (c = false → ME tb env m Q)) : ME (wIfE tt ta tb) env n Q :=
  fun b P hb k => h b _ hb fun c m b1 ⟨q1, q2⟩ hb1 => by
    cases c with
    | true => exact q1 rfl b1 P hb1 k
    | false => exact q2 rfl b1 P hb1 k
theorem m_andE (h : ME ta env n fun x m => ∃ c, eTru x = some c ∧ (c = true → ME tb env m Q) ∧ (c = false → Q x m)) : ME (wAndE ta tb) env n Q :=
  fun b P hb k => h b _ hb fun x m b1 ⟨c, e, q1, q2⟩ hb1 => tru_run e (by
    cases c with
    | true => exact q1 rfl b1 P hb1 k
    | false => exact k x m b1 (q2 rfl) hb1)
theorem m_orE (h : ME ta env n fun x m => ∃ c, eTru x = some c ∧ (c = true → Q x m) ∧ (c = false → ME tb env m Q)) : ME (wOrE ta tb) env n Q :=
  fun b P hb k => h b _ hb fun x m b1 ⟨c, e, q1, q2⟩ hb1 => tru_run e (by
    cases c with
    | true => exact k x m b1 (q1 rfl) hb1
    | false => exact q2 rfl b1 P hb1 k)
theorem m_notE (h : ME ta env n fun x m => ∃ c, eTru x = some c ∧ Q (.bool (!c)) m) : ME (wNotE ta) env n Q :=
  fun b P hb k => h b _ hb fun x m b1 ⟨c, e, q⟩ hb1 => tru_run e (k _ m b1 q hb1)
theorem m_neg (h : ME ta env n fun x m => ∃ i, x = .int i ∧ Q (.int (-i)) m) : ME (wNeg ta) env n Q :=
  fun b P hb k => h b _ hb fun x m b1 ⟨i, e, q⟩ hb1 => by subst e; exact k _ m b1 q hb1
theorem m_nil (q : QL [] n) : ME wNil env n QL := fun b P hb k => k [] n b q hb
theorem m_cons {tl : WL} (h : ME ta env n fun x m => ME tl env m fun xs m' => QL (x :: xs) m') : ME (wCons ta tl) env n QL :=
  fun b P hb k => h b _ hb fun x m b1 hx hb1 => hx b1 _ hb1 fun xs m' b2 q hb2 => k _ m' b2 q hb2
theorem m_tup {tl : WL} (h : ME tl env n fun xs m => xs.length ≤ sizeLine ∧ Q (.tuple xs) m) : ME (wTup tl) env n Q :=
  fun b P hb k => h b _ hb fun xs m b1 ⟨l, q⟩ hb1 => ⟨l, k _ m b1 q hb1⟩
theorem m_lst {tl : WL} (h : ME tl env n fun xs m => xs.length ≤ sizeLine ∧ QL xs m) : ME (wLst tl) env n QL :=
  fun b P hb k => h b _ hb fun xs m b1 ⟨l, q⟩ hb1 => ⟨l, k _ m b1 q hb1⟩
theorem m_aNil {QA : List Sl → Nat → Prop} (q : QA [] n) : ME wANil env n QA := fun b P hb k => k [] n b q hb
theorem m_aCons {QA : List Sl → Nat → Prop} {tl : WA} (h : ME ta env n fun x m => ME tl env m fun xs m' => QA (.d x :: xs) m') : ME (wACons ta tl) env n QA :=
  fun b P hb k => h b _ hb fun x m b1 hx hb1 => hx b1 _ hb1 fun xs m' b2 q hb2 => k _ m' b2 q hb2
/-- what a name hands on -/
def handed : Option (Option Sl) → Option Sl
  | some (some .p) => some .p
  | some (some (.d x)) => some (.d x)
  | some (some (.l ys)) => some (.r ys)
  | some (some (.r ys)) => some (.r ys)
  | _ => none
theorem m_aName {QA : List Sl → Nat → Prop} {tl : WA} {i : Nat} {s : Sl} (hs : handed env[i]? = some s) (h : ME tl env n fun xs m' => QA (s :: xs) m') : ME (wAName i tl) env n QA := fun b P hb k => by
  unfold wAName
  split
  all_goals first
    | (rename_i e; rw [e] at hs; cases hs; exact h b _ hb fun xs m' b2 q hb2 => k _ m' b2 q hb2)
    | (rename_i x e; rw [e] at hs; cases hs; exact h b _ hb fun xs m' b2 q hb2 => k _ m' b2 q hb2)
    | skip
  rename_i h1 h2 h3 h4
  exfalso
  revert hs
  cases e : env[i]? with
  | none => intro z; cases z
  | some o => cases o with
    | none => intro z; cases z
    | some s' => cases s' with
      | p => exact absurd e h1
      | d x => exact absurd e (h2 x)
      | l x => exact absurd e (h3 x)
      | r x => exact absurd e (h4 x)
      | k x => intro z; cases z
theorem m_call {f : WD} {tl : WA} (h : ME tl env n fun ss m => MD f ss m Q) : ME (wCall f tl) env n Q :=
  fun b P hb k => h b _ hb fun ss m b1 q hb1 => q b1 P hb1 k
theorem m_noPart {QO : Option Int → Nat → Prop} (q : QO none n) : ME wNoPart env n QO := fun b P hb k => k none n b q hb
theorem m_part {QO : Option Int → Nat → Prop} (h : ME ta env n fun x m => ∃ i, x = .int i ∧ QO (some i) m) : ME (wPart ta) env n QO :=
  fun b P hb k => h b _ hb fun x m b1 ⟨i, e, q⟩ hb1 => by subst e; exact k _ m b1 q hb1
theorem sl_run {lo hi : Option Int} {x r : PyData} {P : PyData → Prop} (h : eSl lo hi x = some r) (k : P r) : pSl lo hi x P := by
  cases x <;> first | (cases h; exact k) | (obtain ⟨c, e⟩ := ite_some h; subst e; exact ⟨c, k⟩) | cases h
theorem m_sl {tl th : WO} (h : ME ta env n fun x m => ME tl env m fun lo m1 => ME th env m1 fun hi m2 => ∃ z, eSl lo hi x = some z ∧ Q z m2) : ME (wSl ta tl th) env n Q :=
  fun b P hb k => h b _ hb fun x m b1 hx hb1 => hx b1 _ hb1 fun lo m1 b2 hl hb2 => hl b2 _ hb2 fun hi m2 b3 ⟨z, e, q⟩ hb3 => sl_run e (k z m2 b3 q hb3)
theorem m_slL {tl th : WO} (h : ME ta env n fun x m => ME tl env m fun lo m1 => ME th env m1 fun hi m2 => ∃ xs, x = .list xs ∧ QL (cutD xs lo hi) m2) : ME (wSlL ta tl th) env n QL :=
  fun b P hb k => h b _ hb fun x m b1 hx hb1 => hx b1 _ hb1 fun lo m1 b2 hl hb2 => hl b2 _ hb2 fun hi m2 b3 ⟨xs, e, q⟩ hb3 => by subst e; exact k _ m2 b3 q hb3
theorem m_ch {p p' : P2} {e e' : PyData → PyData → Option PyData} (hp : H2 p e) (hp' : H2 p' e')
    (h : ME ta env n fun x m => ME tb env m fun y m1 => ∃ c, e x y = some (.bool c) ∧ (c = true → ME tc env m1 fun w m2 => ∃ z, e' y w = some z ∧ Q z m2) ∧ (c = false → Q (.bool false) m1)) : ME (wCh p p' ta tb tc) env n Q :=
  fun b P hb k => h b _ hb fun x m b1 hx hb1 => hx b1 _ hb1 fun y m1 b2 ⟨c, e1, q1, q2⟩ hb2 => hp x y _ _ e1 (by
    cases c with
    | true => exact q1 rfl b2 _ hb2 fun w m2 b3 ⟨z, e2, q⟩ hb3 => hp' y w _ z e2 (k z m2 b3 q hb3)
    | false => exact k _ m1 b2 (q2 rfl) hb2)
theorem m_seq (h : ME ta env n fun x m => ∃ xs, seqOf x = some xs ∧ QL xs m) : ME (wSeq ta) env n QL :=
  fun b P hb k => h b _ hb fun x m b1 ⟨xs, e, q⟩ hb1 => by
    show (match seqOf x with | some xs => P xs b1 | none => False)
    rw [e]
    exact k xs m b1 q hb1
theorem m_rng1 (h : ME ta env n fun x m => ∃ j, x = .int j ∧ -(2 ^ 62) ≤ j ∧ j < 2 ^ 62 ∧ QL (rngD 0 j.toNat) m) : ME (wRng1 ta) env n QL :=
  fun b P hb k => h b _ hb fun x m b1 ⟨j, e, l1, l2, q⟩ hb1 => by subst e; exact ⟨l1, l2, k _ m b1 q hb1⟩
theorem m_zip (h : ME ta env n fun x m => ME tb env m fun y m1 => ∃ xs ys, (x = .list xs ∧ y = .list ys ∨ x = .tuple xs ∧ y = .tuple ys) ∧ QL (zipD xs ys) m1) : ME (wZip ta tb) env n QL :=
  fun b P hb k => h b _ hb fun x m b1 hx hb1 => hx b1 _ hb1 fun y m1 b2 ⟨xs, ys, e, q⟩ hb2 => by
    rcases e with ⟨e1, e2⟩ | ⟨e1, e2⟩ <;> subst e1 <;> subst e2 <;> exact k _ m1 b2 q hb2
/-- a comprehension, by what holds of the rest, what is made, the draws left -/
theorem lc_inv {g : Tg} {own : List Nat} {PL : List PyData → Nat → Prop} (J : List PyData → List PyData → Nat → Prop)
    (step : ∀ x rest acc m, J (x :: rest) acc m → ∃ e', setT g x (wipeE env own) = some e' ∧ ME tt e' m fun c m1 => (c = true → ME ta e' m1 fun y m2 => J rest (acc ++ [y]) m2) ∧ (c = false → J rest acc m1))
    (done : ∀ acc m b, J [] acc m → m ≤ b → PL acc b) : ∀ (xs : List PyData) (b : Nat) (acc : List PyData) (m : Nat), J xs acc m → m ≤ b → wLc g tt ta own env xs b acc PL
  | [], b, acc, m, j, hb => by unfold wLc; exact done acc m b j hb
  | x :: xs, b, acc, m, j, hb => by
    obtain ⟨e', h1, h2⟩ := step x xs acc m j
    unfold wLc
    rw [h1]
    refine h2 b _ hb fun c m1 b1 ⟨q1, q2⟩ hb1 => ?_
    cases c with
    | true => exact q1 rfl b1 _ hb1 fun y m2 b2 q hb2 => lc_inv J step done xs b2 (acc ++ [y]) m2 q hb2
    | false => exact lc_inv J step done xs b1 acc m1 (q2 rfl) hb1
theorem m_lc {ti : WI} {g : Tg} {own : List Nat} (h : ME ti env n fun xs m => xs.length < sizeLine ∧ ∃ J : List PyData → List PyData → Nat → Prop, J xs [] m ∧
      (∀ x rest acc m, J (x :: rest) acc m → ∃ e', setT g x (wipeE env own) = some e' ∧ ME tt e' m fun c m1 => (c = true → ME ta e' m1 fun y m2 => J rest (acc ++ [y]) m2) ∧ (c = false → J rest acc m1)) ∧
      ∀ acc m, J [] acc m → QL acc m) : ME (fLc ti g tt ta own) env n QL :=
  fun b P hb k => h b _ hb fun xs m b1 ⟨l, J, j0, step, done⟩ hb1 => ⟨l, lc_inv J step (fun acc m b' j hb' => k acc m b' (done acc m j) hb') xs b1 [] m j0 hb1⟩
/-- one that draws nothing: a filter and a map -/
theorem m_lcF {ti : WI} {g : Tg} {own : List Nat} (c : PyData → Bool) (y : PyData → PyData) (h : ME ti env n fun xs m => xs.length < sizeLine ∧
      (∀ x ∈ xs, ∃ e', setT g x (wipeE env own) = some e' ∧ (∀ m, ME tt e' m fun k m1 => k = c x ∧ m1 = m) ∧ (c x = true → ∀ m, ME ta e' m fun d m1 => d = y x ∧ m1 = m)) ∧
      QL ((xs.filter c).map y) m) : ME (fLc ti g tt ta own) env n QL :=
  m_lc (h.imp fun xs m ⟨l, each, q⟩ => ⟨l, fun rest acc m1 => m1 = m ∧ ∃ pre, xs = pre ++ rest ∧ acc = (pre.filter c).map y, ⟨rfl, [], rfl, rfl⟩, fun x rest acc m1 ⟨em, pre, e1, e2⟩ => by
    subst em
    obtain ⟨e', h1, h2, h3⟩ := each x (by rw [e1]; simp)
    refine ⟨e', h1, (h2 m1).imp fun k m2 ⟨ek, em⟩ => ?_⟩
    subst ek em
    refine ⟨fun ck => (h3 ck m2).imp fun d m3 ⟨ed, em⟩ => ?_, fun ck => ?_⟩
    · subst ed em
      exact ⟨rfl, pre ++ [x], by rw [e1]; simp, by rw [e2, List.filter_append, List.map_append]; simp [ck]⟩
    · exact ⟨rfl, pre ++ [x], by rw [e1]; simp, by rw [e2, List.filter_append, List.map_append]; simp [ck]⟩, fun acc m1 ⟨em, pre, e1, e2⟩ => by
    subst em
    rw [List.append_nil] at e1
    subst e1
    rw [e2]
    exact q⟩)
end
section
variable {t u tb : WS} {ta tc : WE} {tt : WT} {tf : WF} {ti : WI} {env : En} {n i j : Nat} {g : Tg} {N : En → Nat → Prop} {R : PyData → Nat → Prop} {B C : En → Nat → Prop}
theorem n_next (q : N env n) : MS sNext env n N R B C := fun PD b hb kn kr kb kc => kn env n b q hb
theorem n_seq (h : MS t env n (fun e m => MS u e m N R B C) R B C) : MS (sSeq t u) env n N R B C :=
  fun PD b hb kn kr kb kc => h _ b hb (fun e m b' q hm => q PD b' hm kn kr kb kc) kr kb kc
theorem n_ret (h : ME ta env n R) : MS (sRet ta) env n N R B C := fun PD b hb kn kr kb kc => h b _ hb kr
theorem n_if (h : ME tt env n fun c m => (c = true → MS t env m N R B C) ∧ (c = false → MS u env m N R B C)) : MS (sIf tt t u) env n N R B C :=
  fun PD b hb kn kr kb kc => h b _ hb fun c m b1 ⟨q1, q2⟩ hb1 => by
    cases c with
    | true => exact q1 rfl PD b1 hb1 kn kr kb kc
    | false => exact q2 rfl PD b1 hb1 kn kr kb kc
theorem n_cont (q : C env n) : MS sCont env n N R B C := fun PD b hb kn kr kb kc => kc env n b q hb
theorem n_asg (h : ME ta env n fun d m => ∃ e', setT g d env = some e' ∧ N e' m) : MS (sAsg ta g) env n N R B C :=
  fun PD b hb kn kr kb kc => h b _ hb fun d m b1 ⟨e', e, q⟩ hb1 => by
    show (match setT g d env with | some env' => PD.nx env' b1 | none => False)
    rw [e]
    exact kn e' m b1 q hb1
theorem n_set (h : ME ta env n fun d m => N (env.set i (some (.d d))) m) : MS (sSet ta i) env n N R B C := fun PD b hb kn kr kb kc => h b _ hb fun d m b1 q hb1 => kn _ m b1 q hb1
theorem n_setL (h : ME tf env n fun d m => N (env.set i (some (.l d))) m) : MS (sSetL tf i) env n N R B C := fun PD b hb kn kr kb kc => h b _ hb fun d m b1 q hb1 => kn _ m b1 q hb1
theorem n_app {xs : List PyData} (hx : env[i]? = some (some (.l xs))) (h : ME ta env n fun d m => xs.length < sizeLine ∧ N (env.set i (some (.l (xs ++ [d])))) m) : MS (sApp i ta) env n N R B C :=
  fun PD b hb kn kr kb kc => by
    unfold sApp
    rw [hx]
    exact h b _ hb fun d m b1 ⟨l, q⟩ hb1 => ⟨l, kn _ m b1 q hb1⟩
theorem n_par (h : ME ta env n fun x m => ME tc env m fun y m1 => N ((env.set i (some (.d x))).set j (some (.d y))) m1) : MS (sPar i j ta tc) env n N R B C :=
  fun PD b hb kn kr kb kc => h b _ hb fun x m b1 hx hb1 => hx b1 _ hb1 fun y m1 b2 q hb2 => kn _ m1 b2 q hb2
theorem n_parL (h : ME ta env n fun x m => ME tf env m fun y m1 => N ((env.set i (some (.d x))).set j (some (.l y))) m1) : MS (sParL i j ta tf) env n N R B C :=
  fun PD b hb kn kr kb kc => h b _ hb fun x m b1 hx hb1 => hx b1 _ hb1 fun y m1 b2 q hb2 => kn _ m1 b2 q hb2
theorem for_inv {PD : PEnds} (I : List PyData → En → Nat → Prop)
    (step : ∀ x rest e m, I (x :: rest) e m → ∃ e', setT g x e = some e' ∧ MS tb e' m (fun e2 m2 => I rest e2 m2) R N (fun e2 m2 => I rest e2 m2))
    (done : ∀ e m, I [] e m → N e m) (kn : ∀ e m b', N e m → m ≤ b' → PD.nx e b') (kr : ∀ r m b', R r m → m ≤ b' → PD.rt r b') :
    ∀ (xs : List PyData) (e : En) (m b : Nat), I xs e m → m ≤ b → wFor g tb PD xs e b
  | [], e, m, b, j, hb => by unfold wFor; exact kn e m b (done e m j) hb
  | x :: xs, e, m, b, j, hb => by
    obtain ⟨e', h1, h2⟩ := step x xs e m j
    unfold wFor
    rw [h1]
    exact h2 _ b hb (fun e2 m2 b2 q h => for_inv I step done kn kr xs e2 m2 b2 q h) kr kn (fun e2 m2 b2 q h => for_inv I step done kn kr xs e2 m2 b2 q h)
theorem n_for (h : ME ti env n fun xs m => ∃ I : List PyData → En → Nat → Prop, I xs env m ∧
      (∀ x rest e m, I (x :: rest) e m → ∃ e', setT g x e = some e' ∧ MS tb e' m (fun e2 m2 => I rest e2 m2) R N (fun e2 m2 => I rest e2 m2)) ∧ ∀ e m, I [] e m → N e m) : MS (sFor ti g tb) env n N R B C :=
  fun PD b hb kn kr kb kc => h b _ hb fun xs m b1 ⟨I, i0, step, done⟩ hb1 => for_inv I step done kn kr xs env m b1 i0 hb1
end
abbrev noEnd : En → Nat → Prop := fun _ _ => False
theorem md_def {np nn : Nat} {t : WS} {ss : List Sl} {n : Nat} {Q : PyData → Nat → Prop} {env : En} (hl : ss.length = np) (he : env0 nn ss = env) (h : MS t env n (fun _ m => Q .none m) Q noEnd noEnd) : MD (wDef np nn t) ss n Q :=
  fun b P hb k => ⟨hl, by subst he; exact h _ b hb (fun e m b' q hm => k _ m b' q hm) k (fun _ _ _ q => q.elim) (fun _ _ _ q => q.elim)⟩
end Pu
namespace PySem
open Sem (wp)
set_option maxHeartbeats 4000000 in
theorem enum1_newB {v : Value} {o : Obj} {H : Heap → Prop} (B : Begins v o H) :
    Meets (Builtin.«enumerate.__new__» ⟨[.type "enumerate", v], []⟩) (fun _ R s => H s.heap ∧
      R (.ok (.ret (.ref (s.heap.push o).objs.size))) { s with heap := (s.heap.push o).push { cls := .type "enumerate", data := .fields #[.none, .bool false, .ref s.heap.objs.size, rawInt 0, .none, .none] } }) :=
  .of_wp fun prog w A R s h => by
    obtain ⟨hp, g, d, tk, os⟩ := s
    obtain ⟨h1, h⟩ := h
    have hsub := sub_enumerate
    have q1 : ∀ {A' : Around} {E : Value → Shared → Prop} {Q : Value → Shared → Prop}, Q (.ref hp.objs.size) ⟨hp.push o, g, d, tk, os⟩ → wpAny (model prog w) A' (pyIter v) Q E ⟨hp, g, d, tk, os⟩ :=
      fun q => B.iter prog w _ _ ⟨hp, g, d, tk, os⟩ _ h1 q
    wp_walk using q1
    refine wpAny_stack_any fun st => wpAny_pure ?_
    split
    · rename_i c _ _ _ _ _
      cases (c == Value.type "enumerate")
      · wp_walk using q1
        exact ⟨_, rfl, h⟩
      · wp_walk using q1
        exact ⟨_, rfl, h⟩
    · wp_walk using q1
      exact ⟨_, rfl, h⟩
section
variable {prog : Program} {w : World} {A : Around} {E : Value → Shared → Prop} {s : Shared}
theorem call_enum1 {v : Value} {o : Obj} {H : Heap → Prop} {Q : Value → Shared → Prop} (B : Begins v o H) (h1 : H s.heap)
    (h : ∀ h', IsEnum h' (s.heap.objs.size + 1) s.heap.objs.size 0 .none → h'.get? s.heap.objs.size = some o → h'.objs.size = s.heap.objs.size + 2 →
      (∀ b o, s.heap.get? b = some o → h'.get? b = some o) → Q (.ref (s.heap.objs.size + 1)) { s with heap := h' }) :
    wpAny (model prog w) A (call (.type "enumerate") [v]) Q E s := by
  refine callType_new F.called_enumerate (by decide) (F.typeCall_enumerate_1 _) (F.newCall_enumerate_1 _) (fun obj => F.args_object_init_2 obj _) F.entry_enumerate_new
    (enum1_newB B) ⟨h1, ?_⟩
  have hz : (s.heap.push o).objs.size = s.heap.objs.size + 1 := Heap.size_push ..
  show _ ∧ _
  rw [hz]
  have he : IsEnum ((s.heap.push o).push { cls := .type "enumerate", data := .fields #[.none, .bool false, .ref s.heap.objs.size, rawInt 0, .none, .none] }) (s.heap.objs.size + 1) s.heap.objs.size 0 .none := by
    have := Heap.get?_push_size (s.heap.push o) (o := { cls := .type "enumerate", data := .fields #[.none, .bool false, .ref s.heap.objs.size, rawInt 0, .none, .none] }) rfl
    rw [hz] at this
    exact this
  exact ⟨⟨_, he, rfl⟩, h _ he (Heap.get?_push_of_some _ (Heap.get?_push_size _ B.free)) (by rw [Heap.size_push, hz]) fun b o x => Heap.get?_push_of_some _ (Heap.get?_push_of_some _ x)⟩
theorem wpAny_pyNext_enum_endT {e it t : Addr} {i : Nat} {items : Array Value} {old : Value} {Q : Option Value → Shared → Prop} (hh : A.handled = none)
    (he : IsEnum s.heap e it i old) (hit : s.heap.IsTupleIter it t i) (ht : s.heap.IsTuple t items) (hx : items[i]? = none)
    (hQ : ∀ h', Heap.ExtBut it s.heap h' → Q none { s with heap := h' }) : wpAny (model prog w) A (pyNext (.ref e)) Q E s := by
  have hT : s.TypeIs (.ref e) "enumerate" := ⟨_, he, rfl⟩
  unfold pyNext
  refine wpAny_bind (wpAny_attempt (wpAny_callSpecial?_slot (name := Str.ofString "__next__") hT F.slot_enumerate_next
    (wpAny_call_entry F.slot_enumerate_next hT F.entry_enumerate_next ?_ (F.args_enumerate_next_1 _))))
  show wpAny _ _ (field (.ref e) 2 >>= _) _ _ _
  refine wpAny_bind (wpAny_field he rfl (x := .ref it) rfl ?_)
  refine wpAny_bind (wpAny_nextOf_tuple_end hh hit ht hx fun h' x he' hx' => ?_)
  obtain ⟨o, ho, hc⟩ := hx'
  refine wpAny_bind (wpAny_isInstance (T := "StopIteration") (b := true) ⟨o, ho, hc⟩ isSubtype_stop ?_)
  exact wpAny_pure (hQ _ he')
theorem wpAny_pyNext_enum_endS {e it : Addr} {x : Str} {t : Tok} {i : Nat} {old : Value} {Q : Option Value → Shared → Prop} (hh : A.handled = none)
    (he : IsEnum s.heap e it i old) (hit : s.heap.IsStrIter it (strIterType x) x t i) (hx : x.cps[i]? = none)
    (hQ : ∀ h', Heap.ExtBut it s.heap h' → Q none { s with heap := h' }) : wpAny (model prog w) A (pyNext (.ref e)) Q E s := by
  have hT : s.TypeIs (.ref e) "enumerate" := ⟨_, he, rfl⟩
  unfold pyNext
  refine wpAny_bind (wpAny_attempt (wpAny_callSpecial?_slot (name := Str.ofString "__next__") hT F.slot_enumerate_next
    (wpAny_call_entry F.slot_enumerate_next hT F.entry_enumerate_next ?_ (F.args_enumerate_next_1 _))))
  show wpAny _ _ (field (.ref e) 2 >>= _) _ _ _
  refine wpAny_bind (wpAny_field he rfl (x := .ref it) rfl ?_)
  cases ha : x.cps.all (· < 128)
  · rw [show strIterType x = "str_iterator" by simp [strIterType, ha]] at hit
    refine wpAny_bind (wpAny_nextOf_wide_end hh hit hx fun h' y he' hx' => ?_)
    obtain ⟨o, ho, hc⟩ := hx'
    refine wpAny_bind (wpAny_isInstance (T := "StopIteration") (b := true) ⟨o, ho, hc⟩ isSubtype_stop ?_)
    exact wpAny_pure (hQ _ he')
  · rw [show strIterType x = "str_ascii_iterator" by simp [strIterType, ha]] at hit
    refine wpAny_bind (wpAny_nextOf_ascii_end hh hit hx fun h' y he' hx' => ?_)
    obtain ⟨o, ho, hc⟩ := hx'
    refine wpAny_bind (wpAny_isInstance (T := "StopIteration") (b := true) ⟨o, ho, hc⟩ isSubtype_stop ?_)
    exact wpAny_pure (hQ _ he')
end
end PySem
namespace Pu
open PySem PySem.Spec PyProof.Rows L2 SeqAt PuS
def IteS (x : Str) : It :=
  ⟨fun i _ => i < x.cps.size, fun i H v H' => ∃ T c, v = .ref T ∧ H T = none ∧ H' = upd H T (.tup [.int (i : Nat), .str ⟨#[c]⟩]) ∧ x.cps[i]? = some c, fun i _ => x.cps.size ≤ i⟩
theorem turn_enumS {P : Program} {w : World} {K : PySem.W.Frag} {elts : List Expr} {kk : Nat} {tpos : Pos} (x : Str) (t : Tok) (e it : Addr) :
    Turn P w K (.Tuple elts kk tpos) (IteS x) [e, it] e (fun i h => (∃ old, IsEnum h e it ((i : Nat) : Int) old) ∧ h.IsStrIter it (strIterType x) x t i ∧ e ≠ it) where
  mem := by simp
  obj := fun i h st b hb => by
    obtain ⟨⟨old, he⟩, ⟨o, ho, hc, hd⟩, _⟩ := st
    have e' : b = e ∨ b = it := by simpa using hb
    rcases e' with z | z
    · rw [z]; exact ⟨_, he, fun v q => nomatch q⟩
    · rw [z]; exact ⟨o, ho, fun v q => by rw [hd] at q; cases q⟩
  keep := fun i h h' st k => let ⟨⟨old, he⟩, ⟨o, ho, r⟩, hne⟩ := st; ⟨⟨old, k e (by simp) _ he⟩, ⟨o, k it (by simp) o ho, r⟩, hne⟩
  item := by
    intro X hP hw hK hc i pins s σ H E I hf st hg
    subst hP hw hK
    obtain ⟨⟨old, he⟩, hit, hne⟩ := st
    have hlt : i < x.cps.size := hg
    have hel : e < s.heap.objs.size := Heap.lt_size he
    have hil : it < s.heap.objs.size := by obtain ⟨_, q, _⟩ := hit; exact Heap.lt_size q
    refine wpAny_pyNext_enum_itemD (Draws.text (A := X.A.in1) (I.ok.hd hc) it x t) he hit hlt hne (by simp [hne]) fun y h' tk hy ho hst hT hsz hk => ?_
    obtain ⟨c, u, hcx, rfl⟩ := hy
    refine ⟨_, rfl, wpAny_letOwnedTupleGo_enum (s := { s with heap := h', toks := tk + 1 }) ho fun h'' he' sb => ?_⟩
    have hT2 : h''.get? s.heap.objs.size = some { cls := .type "tuple", data := .seq #[.int i tk, .str ⟨#[c]⟩ u] } := (sb.2 _ (Nat.ne_of_gt hel)).trans hT
    have new : ObjOk X.prog X.w (upd H s.heap.objs.size (.tup [.int (i : Nat), .str ⟨#[c]⟩])) h'' s.heap.objs.size (.tup [.int (i : Nat), .str ⟨#[c]⟩]) :=
      ⟨by show 2 ≤ sizeLine; decide, [.int i tk, .str ⟨#[c]⟩ u], .cons ⟨_, rfl⟩ (.cons ⟨_, rfl⟩ .nil), ⟨_, hT2, rfl, _, rfl⟩⟩
    have I1 : Inv X pins σ (upd H s.heap.objs.size (.tup [.int (i : Nat), .str ⟨#[c]⟩])) { s with heap := h'', toks := tk + 1 } :=
      I.turnedNew (ch := [e, it]) (fun b ob hb q => (sb.2 b (fun z => hb (by simp [z]))).trans (hk b ob (fun z => hb (by simp [z])) (fun z => hb (by simp [z])) q)) hf (Nat.le_refl _) new
    refine ⟨.ref s.heap.objs.size, _, I1, rfl, ⟨_, c, rfl, I.hok.fresh (Nat.le_refl _), rfl, hcx⟩, ⟨⟨.str ⟨#[c]⟩ u, ?_⟩, ?_, hne⟩, fun b hb => ?_⟩
    · have e1 : ((i + 1 : Nat) : Int) = (i : Int) + 1 := by omega
      rw [e1]; exact he'
    · obtain ⟨o, ho2, r⟩ := hst
      exact ⟨o, (sb.2 it (Ne.symm hne)).trans ho2, r⟩
    · have hb' : b < s.heap.objs.size := by
        have e' : b = e ∨ b = it := by simpa using hb
        rcases e' with z | z
        · rw [z]; exact hel
        · rw [z]; exact hil
      rw [upd_ne (Nat.ne_of_lt hb')]
      exact (hf b hb).1
  done := by
    intro X hP hw hK hc i pins s σ H E I hf st hg
    subst hP hw hK
    obtain ⟨⟨old, he⟩, hit, hne⟩ := st
    obtain ⟨f0, f1, f2, f3, f4, f5⟩ := hf it (by simp)
    exact wpAny_pyNext_enum_endS (I.ok.hd hc) he hit (Array.getElem?_eq_none hg) fun h' eb => ⟨rfl, I.turned (t' := s.toks) (fun b o hb q => eb b o hb q) f0 f1 f3 f4 f5⟩
  self := fun A i s Q E st h => let ⟨⟨_, he⟩, _⟩ := st; wpAny_pyIter_enum he h
def IteT (K : PySem.W.Frag) (a : Addr) : It :=
  ⟨fun i H => ∃ (xs : List V) (x : V), SqT K H a xs ∧ xs[i]? = some x, fun i H v H' => ∃ T x, v = .ref T ∧ H T = none ∧ H' = upd H T (.tup [.int (i : Nat), x]) ∧ ∀ xs, SqT K H a xs → xs[i]? = some x, fun i H => ∃ xs : List V, SqT K H a xs ∧ xs.length ≤ i⟩
theorem tuple_inj {X : Cx} {pins : List (Addr × Obj)} {σ : L2.St} {H : Hp} {s : Shared} (I : Inv X pins σ H s) {a : Addr} {xs ys : List V} (h1 : SqT X.K H a xs) (h2 : SqT X.K H a ys) : ys = xs := I.tuple_inj h2 h1
theorem turn_enumT {P : Program} {w : World} {K : PySem.W.Frag} {elts : List Expr} {kk : Nat} {tpos : Pos} (a e it : Addr) (na : a ≠ e) (nb : a ≠ it) :
    Turn P w K (.Tuple elts kk tpos) (IteT K a) [e, it] e (fun i h => (∃ old, IsEnum h e it ((i : Nat) : Int) old) ∧ h.IsTupleIter it a i ∧ e ≠ it) where
  mem := by simp
  obj := fun i h st b hb => by
    obtain ⟨⟨old, he⟩, ⟨o, ho, hc, hd⟩, _⟩ := st
    have e' : b = e ∨ b = it := by simpa using hb
    rcases e' with z | z
    · rw [z]; exact ⟨_, he, fun v q => nomatch q⟩
    · rw [z]; exact ⟨o, ho, fun v q => by rw [hd] at q; cases q⟩
  keep := fun i h h' st k => let ⟨⟨old, he⟩, hi, hne⟩ := st; ⟨⟨old, k e (by simp) _ he⟩, hi.at fun o q => k it (by simp) o q, hne⟩
  item := by
    intro X hP hw hK hc i pins s σ H E I hf st hg
    subst hP hw hK
    obtain ⟨⟨old, he⟩, hit, hne⟩ := st
    obtain ⟨xs, x, hq, hx⟩ := hg
    obtain ⟨its, rv, p, hz⟩ := I.tuple hq
    obtain ⟨u, hu, ru⟩ := rv.get hx
    have hel : e < s.heap.objs.size := Heap.lt_size he
    have hil : it < s.heap.objs.size := by obtain ⟨_, q, _⟩ := hit; exact Heap.lt_size q
    have hlt : i < its.toArray.size := by
      have := (List.getElem?_eq_some_iff.mp hu).1
      simpa using this
    refine wpAny_pyNext_enum_itemD (Draws.tuple (A := X.A.in1) (I.ok.hd hc) it a nb its.toArray) he ⟨hit, p⟩ hlt hne (by simp [hne, Ne.symm na]) fun y h' tk hy ho hst hT hsz hk => ?_
    have ey : y = u := by
      have : its.toArray[i]? = some u := by simpa using hu
      rw [this] at hy
      exact (Option.some.inj hy).symm
    subst ey
    refine ⟨_, rfl, wpAny_letOwnedTupleGo_enum (s := { s with heap := h', toks := tk + 1 }) ho fun h'' he' sb => ?_⟩
    have hT2 : h''.get? s.heap.objs.size = some { cls := .type "tuple", data := .seq #[.int i tk, y] } := (sb.2 _ (Nat.ne_of_gt hel)).trans hT
    have new : ObjOk X.prog X.w (upd H s.heap.objs.size (.tup [.int (i : Nat), x])) h'' s.heap.objs.size (.tup [.int (i : Nat), x]) :=
      ⟨by show 2 ≤ sizeLine; decide, [.int i tk, y], .cons ⟨_, rfl⟩ (.cons ru .nil), ⟨_, hT2, rfl, _, rfl⟩⟩
    have I1 : Inv X pins σ (upd H s.heap.objs.size (.tup [.int (i : Nat), x])) { s with heap := h'', toks := tk + 1 } :=
      I.turnedNew (ch := [e, it]) (fun b ob hb q => (sb.2 b (fun z => hb (by simp [z]))).trans (hk b ob (fun z => hb (by simp [z])) (fun z => hb (by simp [z])) q)) hf (Nat.le_refl _) new
    refine ⟨.ref s.heap.objs.size, _, I1, rfl, ⟨_, x, rfl, I.hok.fresh (Nat.le_refl _), rfl, fun ys hy => by rw [I.tuple_inj hy hq]; exact hx⟩, ⟨⟨y, ?_⟩, hst.1.at fun o q => (sb.2 it (Ne.symm hne)).trans q, hne⟩, fun b hb => ?_⟩
    · have e1 : ((i + 1 : Nat) : Int) = (i : Int) + 1 := by omega
      rw [e1]; exact he'
    · have hb' : b < s.heap.objs.size := by
        have e' : b = e ∨ b = it := by simpa using hb
        rcases e' with z | z
        · rw [z]; exact hel
        · rw [z]; exact hil
      rw [upd_ne (Nat.ne_of_lt hb')]
      exact (hf b hb).1
  done := by
    intro X hP hw hK hc i pins s σ H E I hf st hg
    subst hP hw hK
    obtain ⟨⟨old, he⟩, hit, hne⟩ := st
    obtain ⟨xs, hq, hx⟩ := hg
    obtain ⟨its, rv, p, hz⟩ := I.tuple hq
    obtain ⟨f0, f1, f2, f3, f4, f5⟩ := hf it (by simp)
    have hl := rv.length
    -- the place of the iterator is at the end or behind it
    exact wpAny_pyNext_enum_endT (I.ok.hd hc) he hit p (by simp; omega) fun h' eb => ⟨rfl, I.turned (t' := s.toks) (fun b o hb q => eb b o hb q) f0 f1 f3 f4 f5⟩
  self := fun A i s Q E st h => let ⟨⟨_, he⟩, _⟩ := st; wpAny_pyIter_enum he h
def iEnumT (K : PySem.W.Frag) (ta : TA) : TI := fun σ H R => ta σ H fun vs H1 => (∃ a, vs = [.ref a] ∧ ((∃ xs, SqL K H1 a xs ∧ R (Ite K a) H1) ∨ ∃ xs, SqT K H1 a xs ∧ R (IteT K a) H1)) ∨ ∃ z : Str, vs = [.str z] ∧ R (IteS z) H1
theorem pi_enumT {X : Cx} {e : Expr} {ta : TA} {p pos tpos : Pos} {elts : List Expr} {kk : Nat} (hg : Gl X "enumerate") (hm : X.mg "enumerate" = none) (ha : PA X [e] ta) (hs : starEach [e] X.env = [(false, eval e X.env)] := by rfl) :
    PI X (.Tuple elts kk tpos) (.Call (.Name "enumerate" p) [e] [] pos) (iEnumT X.K ta) := by
  refine ⟨fun pins s σ H R I h => ?_⟩
  refine Call_ (ld_blt I hg hm boot_enumerate (PyProof.Rows.callWith_type1 (thn (ha.run pos pins s σ H _ I h) fun us s1 ⟨vs, H1, I1, r1, q1⟩ => ?_) hs rfl))
  rcases q1 with ⟨a, ex, q1⟩ | ⟨z, ex, q⟩
  rotate_left
  · subst ex
    obtain ⟨u, eu, ⟨tk, rfl⟩⟩ := vals1 r1
    subst eu
    have two : ∀ b, b ∈ [s1.heap.objs.size + 1, s1.heap.objs.size] → s1.heap.objs.size ≤ b := fun b hb => by
      have e' : b = s1.heap.objs.size + 1 ∨ b = s1.heap.objs.size := by simpa using hb
      rcases e' with z | z
      · rw [z]; exact Nat.le_add_right _ _
      · rw [z]; exact Nat.le_refl _
    refine call_enum1 (begins_text z tk) trivial fun h' he hit hsz hk => wpAny_pyIter_enum he ?_
    have I2 : Inv X pins σ H1 { s1 with heap := h' } := I1.kept (t' := s1.toks) hk
    exact ⟨s1.heap.objs.size + 1, [s1.heap.objs.size + 1, s1.heap.objs.size], _, _, H1, rfl, I2, turn_enumS z tk (s1.heap.objs.size + 1) s1.heap.objs.size, ⟨⟨.none, he⟩, ⟨_, hit, rfl, rfl⟩, Nat.succ_ne_self _⟩, fun b hb => I1.fpOk (two b hb) (I1.hok.fresh (two b hb)), q⟩
  subst ex
  cases r1 with
  | cons r rr =>
    cases rr
    cases r
    have two : ∀ b, b ∈ [s1.heap.objs.size + 1, s1.heap.objs.size] → s1.heap.objs.size ≤ b := fun b hb => by
      have e' : b = s1.heap.objs.size + 1 ∨ b = s1.heap.objs.size := by simpa using hb
      rcases e' with z | z
      · rw [z]; exact Nat.le_add_right _ _
      · rw [z]; exact Nat.le_refl _
    rcases q1 with ⟨xs, hq, q⟩ | ⟨xs, hq, q⟩
    · obtain ⟨its, rv, p', hz⟩ := I1.list hq
      refine call_enumerate_list p'.isList fun h' he hit hsz hk => wpAny_pyIter_enum he ?_
      have I2 : Inv X pins σ H1 { s1 with heap := h' } := I1.kept (t' := s1.toks) hk
      exact ⟨s1.heap.objs.size + 1, [s1.heap.objs.size + 1, s1.heap.objs.size], _, _, H1, rfl, I2, turn_enum a (s1.heap.objs.size + 1) s1.heap.objs.size, ⟨⟨.none, he⟩, hit, Nat.succ_ne_self _⟩, fun b hb => I1.fpOk (two b hb) (I1.hok.fresh (two b hb)), q⟩
    · obtain ⟨its, rv, p', hz⟩ := I1.tuple hq
      refine call_enum1 (begins_tuple a its.toArray) p' fun h' he hit hsz hk => wpAny_pyIter_enum he ?_
      have I2 : Inv X pins σ H1 { s1 with heap := h' } := I1.kept (t' := s1.toks) hk
      have al : a < s1.heap.objs.size := by obtain ⟨_, z, _⟩ := p'; exact Heap.lt_size z
      exact ⟨s1.heap.objs.size + 1, [s1.heap.objs.size + 1, s1.heap.objs.size], _, _, H1, rfl, I2, turn_enumT a (s1.heap.objs.size + 1) s1.heap.objs.size (Nat.ne_of_lt (Nat.lt_succ_of_lt al)) (Nat.ne_of_lt al), ⟨⟨.none, he⟩, ⟨_, hit, rfl, rfl⟩, Nat.succ_ne_self _⟩, fun b hb => I1.fpOk (two b hb) (I1.hok.fresh (two b hb)), q⟩
def wEnumT (t : WE) : WI := fun env b P => t env b fun x b1 => match x with
  | .list xs => P (enumD xs) b1
  | .tuple xs => P (enumD xs) b1
  | .str z => P (enumD (chS z)) b1
  | _ => False
theorem it_enumS {K : PySem.W.Frag} {pn : Pn} {C : Hp → Hp → Prop} {z : Str} : ItOk K pn false C (IteS z) (enumD (chS z)) := fun i F H b o c => by
  have hl : (enumD (chS z)).length = z.cps.size := by simp [enumD, chS]
  refine ⟨fun hi => by rw [hl] at hi; exact hi, fun hi => by rw [hl] at hi; exact hi, fun x H' y hi => ?_⟩
  obtain ⟨T, ch, rfl, nT, rfl, hc⟩ := y
  have e : (chS z)[i]? = some (.str ⟨#[ch]⟩) := by
    unfold chS
    rw [List.getElem?_map, Array.getElem?_toList, hc]
    rfl
  exact ⟨_, _, enumD_at e, .inr ⟨rfl, T, _, _, rfl, rfl, SqT.of upd_same, .cons (.int _) (.one (.str _))⟩, o.new nT, .new o nT⟩
theorem it_enumT {K : PySem.W.Frag} {pn : Pn} {C : Hp → Hp → Prop} {a : Addr} {items : List PyData} (h : ∀ F H b, Ok pn b F H → C F H → ∃ vs, SqT K H a vs ∧ RVs K F vs items) : ItOk K pn false C (IteT K a) (enumD items) := fun i F H b o c => by
  obtain ⟨vs, ha, r⟩ := h F H b o c
  have hl : (enumD items).length = items.length := by simp [enumD]
  refine ⟨fun hi => ?_, fun hi => ⟨vs, ha, by rw [r.len, ← hl]; exact hi⟩, fun x H' y hi => ?_⟩
  · obtain ⟨v, hv, _⟩ := r.at' (List.getElem?_eq_getElem (by rw [← hl]; exact hi))
    exact ⟨vs, v, ha, hv⟩
  · obtain ⟨T, w, rfl, nT, rfl, y1⟩ := y
    have l1 : i < items.length := by rw [← hl]; exact hi
    obtain ⟨v, hv, rv⟩ := r.at' (List.getElem?_eq_getElem l1)
    have e1 := y1 vs ha
    rw [hv] at e1
    cases e1
    exact ⟨_, _, enumD_at (List.getElem?_eq_getElem l1), .inr ⟨rfl, T, _, _, rfl, rfl, SqT.of upd_same, .cons (.int _) (.one (rv.mono (same_new (o.free nT))))⟩, o.new nT, .new o nT⟩
theorem i_enumT {X : Cx} {a : Expr} {t : WE} {p pos tpos : Pos} {elts : List Expr} {kk : Nat} (m : Bool) (hg : Gl X "enumerate") (hm : X.mg "enumerate" = none) (ha : EE X a t) (hs : starEach [a] X.env = [(false, eval a X.env)] := by rfl) :
    PI X (.Tuple elts kk tpos) (.Call (.Name "enumerate" p) [a] [] pos) (lI X.K m false (wEnumT t)) :=
  PI.imp (pi_enumT hg hm (pa_cons ha pa_nil hs) hs) fun σ H R ⟨pn, F, env, b, P, rep, w, k⟩ => by
    refine ⟨pn, F, env, b, _, rep, w, fun v x F1 H1 b1 o1 e1 rv t1 => ?_⟩
    cases rv with
    | lst h r => exact .inl ⟨_, rfl, .inl ⟨_, SqL.of (o1.sub _ _ h), k _ F1 H1 b1 _ o1 e1 (it_enum fun F H b o c => ⟨_, o.sub _ _ (c.same _ _ h), r.mono c.same⟩) t1⟩⟩
    | tup h r => exact .inl ⟨_, rfl, .inr ⟨_, Same.tup o1.sub h.sq, k _ F1 H1 b1 _ o1 e1 (it_enumT fun F H b o c => ⟨_, Same.tup (c.same.trans o.sub) h.sq, r.mono c.same⟩) t1⟩⟩
    | str z => exact .inr ⟨z, rfl, k _ F1 H1 b1 _ o1 e1 it_enumS t1⟩
    | _ => exact t1.elim
theorem m_enumS {ta : WE} {env : En} {n : Nat} {QL : List PyData → Nat → Prop} (h : ME ta env n fun x m => ∃ z, x = .str z ∧ QL (enumD (chS z)) m) : ME (wEnumT ta) env n QL :=
  fun b P hb k => h b _ hb fun x m b1 ⟨xs, e, q⟩ hb1 => by subst e; exact k _ m b1 q hb1
theorem m_enumT {ta : WE} {env : En} {n : Nat} {QL : List PyData → Nat → Prop} (h : ME ta env n fun x m => ∃ xs, (x = .list xs ∨ x = .tuple xs) ∧ QL (enumD xs) m) : ME (wEnumT ta) env n QL :=
  fun b P hb k => h b _ hb fun x m b1 ⟨xs, e, q⟩ hb1 => by rcases e with e | e <;> subst e <;> exact k _ m b1 q hb1
end Pu
namespace Pu
open PySem PySem.Spec PyProof.Rows L2 SeqAt PuS
def revS (z : Str) : Str := ⟨z.cps.toList.reverse.toArray⟩
theorem sliceBy_rev (z : Str) : Txt.sliceBy z none none (-1, 0) = revS z := by
  have h := step_rev_list z 0
  refine PySem.W.str_of_cps ?_
  rw [h]
  unfold revS
  rw [List.toList_toArray]
  refine List.ext_getElem (by simp [Str.length]) fun i h1 h2 => ?_
  rw [List.getElem_map, List.getElem_range, List.getElem_reverse]
  have hz : i < z.cps.size := by simpa using h2
  rw [Array.getElem_toList]
  simp [Array.getD, Str.length]
  rw [dif_pos (by omega)]
def pRevE : P1
  | .list xs, P => P (.list xs.reverse)
  | .tuple xs, P => P (.tuple xs.reverse)
  | .str z, P => z.length ≤ sizeLine ∧ P (.str (revS z))
  | _, _ => False
section
variable {prog : Program} {w : World} {A : Around} {E : Value → Shared → Prop} {s : Shared}
theorem applied_rev {sl : Addr} {vs : Value} {n : Nat} {Q : Int × Int × Nat → Shared → Prop} (hs : s.heap.IsSliceOf sl .none .none vs) (ps : IsPart vs (some (-1)))
    (h : Q ((n : Int) - 1, -1, n) s) : wpAny (model prog w) A (Builtin.Slice.sliceApplied (.ref sl) (pure (n : Int))) Q E s := by
  obtain ⟨os, hos, hcs, hds⟩ := id hs
  unfold Builtin.Slice.sliceApplied Builtin.Slice.sliceFields
  refine wpAny_bind (wpAny_bind (wpAny_field hos hds (x := .none) rfl (wpAny_bind (wpAny_field hos hds (x := .none) rfl (wpAny_bind (wpAny_field hos hds (x := vs) rfl (wpAny_pure ?_)))))))
  refine wpAny_bind (HT.slicePart_ ps ?_)
  show wpAny _ _ (if ((-1 : Int) == 0) = true then _ else _) _ _ s
  rw [if_neg (by decide)]
  refine wpAny_bind (PyProof.Rows.slicePart_none (wpAny_bind (PyProof.Rows.slicePart_none (wpAny_bind (wpAny_pure ?_)))))
  have e1 : Builtin.Slice.sliceAdjust none none (-1) (n : Int) = ((n : Int) - 1, -1) := by
    unfold Builtin.Slice.sliceAdjust
    simp
  have e2 : Builtin.Slice.slicePlaces ((n : Int) - 1) (-1) (-1) = n := by
    unfold Builtin.Slice.slicePlaces
    simp
    omega
  show wpAny _ _ (match Builtin.Slice.sliceAdjust none none (-1) (n : Int) with | (lo, hi) => pure (lo, (-1 : Int), Builtin.Slice.slicePlaces lo hi (-1))) _ _ s
  rw [e1]
  show wpAny _ _ (pure ((n : Int) - 1, (-1 : Int), Builtin.Slice.slicePlaces ((n : Int) - 1) (-1) (-1))) _ _ s
  rw [e2]
  exact wpAny_pure h
theorem fm_congr {α β : Type} (f g : α → Option β) : ∀ (l : List α), (∀ x ∈ l, f x = g x) → l.filterMap f = l.filterMap g
  | [], _ => rfl
  | x :: r, h => by
    rw [List.filterMap_cons, List.filterMap_cons, h x List.mem_cons_self, fm_congr f g r fun y hy => h y (List.mem_cons_of_mem _ hy)]
theorem pick_rev (xs : Array Value) : ((List.range xs.size).filterMap fun (k : Nat) => xs[(((xs.size : Int) - 1) + (k : Int) * (-1)).toNat]?).toArray = xs.toList.reverse.toArray := by
  have e : ∀ l : List Nat, (∀ k ∈ l, k < xs.size) → (l.filterMap fun (k : Nat) => xs[(((xs.size : Int) - 1) + (k : Int) * (-1)).toNat]?) = l.filterMap fun k => xs.toList.reverse[k]? := fun l hl => by
    refine fm_congr _ _ l fun k hk => ?_
    have h1 := hl k hk
    have h2 : (((xs.size : Int) - 1) + (k : Int) * (-1)).toNat = xs.size - 1 - k := by omega
    rw [h2, List.getElem?_reverse (by simpa using h1)]
    simp
  rw [e _ fun k hk => List.mem_range.mp hk]
  have h3 : ∀ (l : List Value), ((List.range l.length).filterMap fun k => l[k]?) = l := fun l => by
    refine List.ext_getElem? fun i => ?_
    have : (List.range l.length).filterMap (fun k => l[k]?) = (List.range l.length).map fun k => l.getD k .none := by
      rw [← List.filterMap_eq_map]
      refine fm_congr _ _ _ fun k hk => ?_
      have := List.mem_range.mp hk
      simp [List.getD, List.getElem?_eq_getElem this]
    rw [this, List.getElem?_map]
    by_cases hi : i < l.length
    · simp [hi, List.getD]
    · simp [hi]
  have := h3 xs.toList.reverse
  rw [List.length_reverse, Array.length_toList] at this
  rw [this]
theorem getItem_tuple_rev {t sl : Addr} {items : Array Value} {vs : Value} {Q : Value → Shared → Prop} (ht : IsTup s.heap t items) (hs : s.heap.IsSliceOf sl .none .none vs) (ps : IsPart vs (some (-1)))
    (h : Q (.ref s.heap.objs.size) { s with heap := s.heap.push { cls := .type "tuple", data := .seq items.toList.reverse.toArray } })
    (hsz : items.size ≤ sizeLine) : wpAny (model prog w) A (getItem (.ref t) (.ref sl)) Q E s := by
  have htake : sizeOk (.seq items.toList.reverse.toArray) := by
    show items.toList.reverse.toArray.size ≤ sizeLine
    simpa using hsz
  obtain ⟨os, hos, hcs, hds⟩ := id hs
  have hTs : s.TypeIs (.ref sl) "slice" := ⟨os, hos, hcs⟩
  unfold getItem
  try with_reducible refine wpAny_holding ?_
  first | refine wpAny_bind (wpAny_pure ?_) | skip
  refine wpAny_bind (wpAny_sequenceKey ht.typeIs (by decide) ?_)
  refine wpAny_bind (wpAny_callSpecial?_slot (name := Str.ofString "__getitem__") ht.typeIs PyProof.Rows.slot_tuple_getitem
    (wpAny_call_entry PyProof.Rows.slot_tuple_getitem ht.typeIs PyProof.Rows.entry_tuple_getitem ?_ (PyProof.Rows.args_tuple_getitem _ _)))
  show wpAny _ _ (Builtin.Tuple.tupleItemsOf (.ref t) >>= _) _ _ s
  refine wpAny_bind (PyProof.Rows.tupleItemsOf_ ht ?_)
  refine wpAny_bind (wpAny_typeOf hTs ?_)
  rw [if_pos (by decide)]
  refine wpAny_bind (applied_rev hs ps ?_)
  have hno : ¬ ((((items.size : Int) - 1) == 0 && (-1 : Int) == 1 && items.size == items.size) = true) := by
    intro q
    rw [Bool.and_eq_true, Bool.and_eq_true] at q
    exact absurd q.1.2 (by decide)
  show wpAny _ _ (if (((items.size : Int) - 1) == 0 && (-1 : Int) == 1 && items.size == items.size) = true then _ else _) _ _ s
  rw [if_neg hno, pick_rev]
  first
    | exact wpAny_bind (m := Builtin.Tuple.tupleExact _) (wpAny_newObj_type (wpAny_pure ⟨_, rfl, wpAny_pure h⟩) htake)
    | exact wpAny_bind (m := Builtin.Tuple.tupleExact _) (wpAny_newObj_type (wpAny_bind (wpAny_pure (wpAny_pure ⟨_, rfl, wpAny_pure h⟩))) htake)
    | exact wpAny_bind (wpAny_bind (m := Builtin.Tuple.tupleExact _) (wpAny_newObj_type (wpAny_pure (wpAny_pure ⟨_, rfl, wpAny_pure h⟩)) htake))
    | exact wpAny_bind (wpAny_bind (m := Builtin.Tuple.tupleExact _) (wpAny_newObj_type (wpAny_pure ⟨_, rfl, wpAny_pure h⟩) htake))
end
def tRevE (K : PySem.W.Frag) (te : TE) : TE := fun σ H Q => te σ H fun x H1 =>
  (∃ a xs, x = .ref a ∧ SqL K H1 a xs ∧ ∀ p, H1 p = none → Q (.ref p) (upd H1 p (.lst xs.reverse))) ∨
  (∃ a xs, x = .ref a ∧ SqT K H1 a xs ∧ NewT H1 Q xs.reverse) ∨
  ∃ z, x = .str z ∧ z.length ≤ sizeLine ∧ Q (.str (revS z)) H1
section
variable {X : Cx} {e : Expr}
theorem pe_revE {te : TE} {k : Nat} {p1 p2 p3 pos : Pos} (he : PE X e te) : PE X (.Subscript e (.Slice none none (some (.UnaryOp .USub (.Constant (.int 1) k p1) p2)) p3) pos) (tRevE X.K te) := by
  refine ⟨fun pins s σ H Q I h => ?_⟩
  refine Subscript_ (thn (he.run pins s σ H _ I h) fun v s1 ⟨x, H1, I1, r1, q1⟩ => ?_)
  have hst : PO X (some (.UnaryOp .USub (.Constant (.int 1) k p1) p2)) (tPart (tUn (rU fun i => .int (-i)) (tC (.int 1)))) := po_some (pe_un un_neg pe_int)
  refine wpAny_Slice (thn (po_none.run pins s1 σ H1 (fun o H2 => o = none ∧ H2 = H1) I1 ⟨rfl, rfl⟩) fun vl s2 ⟨l, H2, I2, pl, el, e2⟩ => ?_)
  subst el e2
  refine thn (po_none.run pins s2 σ H2 (fun o H3 => o = none ∧ H3 = H2) I2 ⟨rfl, rfl⟩) fun vu s3 ⟨u, H3, I3, pu, eu, e3⟩ => ?_
  subst eu e3
  refine thn (hst.run pins s3 σ H3 (fun o H4 => o = some (-1) ∧ H4 = H3) I3 ⟨1, rfl, -1, rfl, rfl, rfl⟩) fun vs s4 ⟨o, H4, I4, ps, eo, e4⟩ => ?_
  subst eo e4
  have I5 : Inv X pins σ H4 { s4 with heap := s4.heap.push { cls := .type "slice", data := .fields #[vl, vu, vs] } } := I4.kept (t' := s4.toks) fun b ob q => Heap.get?_push_of_some _ q
  have vl0 : vl = .none := by
    obtain ⟨l', e1, e2⟩ := IsPart.raw pl
    cases l' with
    | none => exact e1
    | some q => cases e2
  have vu0 : vu = .none := by
    obtain ⟨l', e1, e2⟩ := IsPart.raw pu
    cases l' with
    | none => exact e1
    | some q => cases e2
  show wpAny (model X.prog X.w) X.A (subscriptTail e (.Slice none none (some (.UnaryOp .USub (.Constant (.int 1) k p1) p2)) p3) v (.ref s4.heap.objs.size)) (EP X pins σ Q) X.xe { s4 with heap := s4.heap.push { cls := .type "slice", data := .fields #[vl, vu, vs] } }
  rcases q1 with ⟨a, xs, ex, hx, q⟩ | ⟨a, xs, ex, hx, q⟩ | ⟨z, ex, hz, q⟩
  · subst ex
    cases r1
    obtain ⟨its, r, ht, hz⟩ := I5.list hx
    have hlen := r.length
    refine tail_any (ops := [.ref a, .ref s4.heap.objs.size]) ht.isList.typeIs (PySem.slot_list_getitem.lookup) ?_ (by with_unfolding_all rfl)
    refine wpAny_getItem_list_slice ht.isList (Heap.IsSliceOf.new _ vl vu vs) pl pu ps (by decide) ?_ (by rw [List.size_toArray]; omega)
    rw [PySem.W.krv_pick]
    refine ⟨.ref _, _, I5.laid (t' := s4.toks) (o := .lst xs.reverse) (fun b ob q => Heap.get?_push_of_some _ q) (Nat.le_refl _) ?_, rfl, q _ (I5.hok.fresh (Nat.le_refl _))⟩
    exact ⟨by rw [List.length_reverse]; exact hz, _, 0, r.reverse, Heap.get?_push_size _ rfl⟩
  · subst ex
    cases r1
    obtain ⟨its, r, ht, hz⟩ := I5.tuple hx
    have hlen := r.length
    have hsl : (s4.heap.push { cls := .type "slice", data := .fields #[vl, vu, vs] }).IsSliceOf s4.heap.objs.size .none .none vs := by
      have := Heap.IsSliceOf.new s4.heap vl vu vs
      rw [vl0, vu0] at this ⊢
      exact this
    refine tail_any (ops := [.ref a, .ref s4.heap.objs.size]) ht.typeIs PyProof.Rows.slot_tuple_getitem.lookup ?_ (by with_unfolding_all rfl)
    refine getItem_tuple_rev ht hsl ps ?_ (by rw [List.size_toArray]; omega)
    exact ⟨.ref _, _, laidT I5 r.reverse (by rw [List.length_reverse]; exact hz), rfl, newT I5 q⟩
  · subst ex
    obtain ⟨t, rfl⟩ := r1
    obtain ⟨l1, e1, e2⟩ := IsPart.raw ps
    obtain ⟨os, hos, hcs, hds⟩ := Heap.IsSliceOf.new s4.heap vl vu vs
    cases l1 with
    | none => cases e2
    | some pr =>
      obtain ⟨j, tj⟩ := pr
      have ej : j = -1 := by cases e2; rfl
      subst ej
      refine tail_any (ops := [.str z t, .ref s4.heap.objs.size]) (typeIs_str _ _ _) F.slot_str_getitem.lookup ?_ (by with_unfolding_all rfl)
      refine wpAny_getItem_str_slice (l := none) (u := none) (st := some (-1, tj)) ⟨os, hos, hcs, by rw [hds, vl0, vu0, e1]; rfl⟩ rfl ?_
      have hs : Txt.sliceBy z none none (-1, tj) = revS z := by
        rw [← sliceBy_rev]
        rfl
      have hl : (revS z).length ≤ sizeLine := by
        have : (revS z).length = z.length := by simp [revS, Str.length]
        omega
      have no : ¬ ((((some ((-1 : Int), tj)).map (·.1)).getD 1 == 1 && ((slicePicked z none none (some (-1, tj))).length == z.length)) = true) := by
        intro q
        rw [Bool.and_eq_true] at q
        exact absurd (show ((-1 : Int) == 1) = true from q.1) (by decide)
      unfold sliceMade
      rw [if_neg no]
      unfold Txt.sliceBy at hs
      rw [if_neg no] at hs
      rw [hs]
      exact ⟨hl, .str _, H4, I5.tok _, ⟨_, rfl⟩, q⟩
theorem e_rev {te : WE} {k : Nat} {p1 p2 p3 pos : Pos} (he : EB X e te) : EE X (.Subscript e (.Slice none none (some (.UnaryOp .USub (.Constant (.int 1) k p1) p2)) p3) pos) (w1 pRevE te) :=
  PE.imp (pe_revE he) fun σ H Q ⟨pn, F, env, b, P, rep, t, k⟩ => by
    refine ⟨pn, F, env, b, _, rep, t, fun v x F1 H1 b1 o1 e1 bv t1 => ?_⟩
    have go : Go X.K pn b1 F1 H1 (fun z => P z b1) Q := fun w z F' H' o4 e4 rv q => k w z F' H' b1 o4 (e1.trans e4) rv q
    match x, t1 with
    | .list xs, q =>
      obtain ⟨a, vs, rfl, h1, r1⟩ := bv.list o1
      exact .inl ⟨a, vs, rfl, SqL.of h1, go.lst o1 r1.rev q⟩
    | .tuple xs, q =>
      obtain ⟨a, vs, rfl, h1, r1⟩ := bv.tup o1
      exact .inr (.inl ⟨a, vs, rfl, h1, go.tup o1 r1.rev q⟩)
    | .str z, ⟨hl, q⟩ => exact .inr (.inr ⟨z, bv.str, hl, k _ _ F1 H1 b1 o1 e1 (.str _) q⟩)
end
def eRevE : PyData → Option PyData
  | .list xs => some (.list xs.reverse)
  | .tuple xs => some (.tuple xs.reverse)
  | .str z => if z.length ≤ sizeLine then some (.str (revS z)) else none
  | _ => none
theorem h1_revE : H1 pRevE eRevE := fun x P r q k => by
  cases x <;> first | (cases q; exact k) | (obtain ⟨c, e⟩ := ite_some q; subst e; exact ⟨c, k⟩) | cases q
end Pu
namespace Pu
open PySem PySem.Spec PyProof.Rows L2 SeqAt PuS
def tx (l : List Nat) : Str := ⟨l.toArray⟩
def Ls (z : Str) : List Nat := z.cps.toList
abbrev sg (c : Nat) : PyData := .str ⟨#[c]⟩
theorem Ls_tx (l : List Nat) : Ls (tx l) = l := by simp [tx, Ls]
theorem str_inj {x y : Str} (h : Ls x = Ls y) : x = y := PySem.W.str_of_cps h
theorem len_Ls (z : Str) : z.length = (Ls z).length := by simp [Ls, Str.length]
theorem seq_str (z : Str) : seqOf (.str z) = some ((Ls z).map sg) := rfl
theorem chS_eq (z : Str) : chS z = (Ls z).map sg := rfl
def isS (s : Str) : PyData → Bool
  | .str w => decide (w = s)
  | _ => false
def isOf (ws : List Str) (x : PyData) : Bool := ws.any fun s => isS s x
theorem beq_dec (x y : Str) : (x == y) = decide (x = y) := rfl
theorem eqv_str (x : PyData) (s : Str) : PyData.eqv x (.str s) = isS s x := by cases x <;> simp [PyData.eqv, isS, beq_dec]
theorem eqv_strL (x : PyData) (s : Str) : PyData.eqv (.str s) x = isS s x := by cases x <;> simp [PyData.eqv, isS, beq_dec, eq_comm]
theorem eq_str (x : PyData) (s : Str) : eEq x (.str s) = some (.bool (isS s x)) := by
  unfold eEq
  rw [if_pos (by simp [dfree, PyData.depth]), eqv_str]
theorem dfree_strs : ∀ ws : List Str, dfreeAll (ws.map .str) = true
  | [] => rfl
  | w :: ws => by simp [dfreeAll, dfree, dfree_strs ws]
theorem depth_strs : ∀ ws : List Str, PyData.depthAll (ws.map .str) = 0
  | [] => rfl
  | w :: ws => by simp [PyData.depthAll, PyData.depth, depth_strs ws]
theorem any_strs (x : PyData) : ∀ ws : List Str, ((ws.map PyData.str).any fun z => PyData.eqv z x) = isOf ws x
  | [] => rfl
  | w :: ws => by
    have := any_strs x ws
    simp only [List.map_cons, List.any_cons, isOf] at this ⊢
    rw [this, eqv_strL]
theorem inL_strs {neg : Bool} {x y : PyData} {ws : List Str} (h : itemsD y = some (ws.map .str)) : eInL neg x y = some (.bool (neg ^^ isOf ws x)) := by
  unfold eInL
  rw [h]
  show (if _ then _ else _) = _
  rw [if_pos (by simp [dfree_strs, depth_strs]), any_strs]
theorem in_lst {neg : Bool} (ws : List Str) (x : PyData) : eIn neg x (.list (ws.map .str)) = some (.bool (neg ^^ isOf ws x)) := by
  have e : eIn neg x (.list (ws.map .str)) = eInL neg x (.list (ws.map .str)) := by cases x <;> rfl
  rw [e, inL_strs rfl]
theorem in_sg {neg : Bool} (c : Nat) (z : Str) : eIn neg (sg c) (.str z) = some (.bool (neg ^^ decide (c ∈ Ls z))) := by
  show some (PyData.bool (neg ^^ !(Builtin.Str.occurrences z ⟨#[c]⟩ 0 z.length 1).isEmpty)) = _
  rw [StrLaws.found_one]
  rfl
def oneIn (K : List Nat) (w : Str) : Bool := match Ls w with
  | [c] => decide (c ∈ K)
  | _ => false
theorem one_eq {w : Str} {c : Nat} : w = (⟨#[c]⟩ : Str) ↔ Ls w = [c] := ⟨fun h => by subst h; rfl, fun h => str_inj (by rw [h]; rfl)⟩
theorem oneIn_true {K : List Nat} {w : Str} : oneIn K w = true ↔ ∃ c, w = ⟨#[c]⟩ ∧ c ∈ K := by
  unfold oneIn
  constructor
  · intro h
    split at h
    · rename_i c e; exact ⟨c, one_eq.mpr e, of_decide_eq_true h⟩
    · cases h
  · rintro ⟨c, e, h⟩
    rw [one_eq] at e
    rw [e]
    simpa using h
theorem isOf_one (K : List Nat) (w : Str) : isOf (K.map fun c => (⟨#[c]⟩ : Str)) (.str w) = oneIn K w := by
  rw [Bool.eq_iff_iff, oneIn_true]
  simp [isOf, isS]
  constructor
  · rintro ⟨c, h, e⟩; exact ⟨c, e, h⟩
  · rintro ⟨c, e, h⟩; exact ⟨c, h, e⟩
theorem map_sg (K : List Nat) : K.map sg = (K.map fun c => (⟨#[c]⟩ : Str)).map .str := by simp
theorem in_chs {neg : Bool} (K : List Nat) (w : Str) : eIn neg (.str w) (.list (K.map sg)) = some (.bool (neg ^^ oneIn K w)) := by
  rw [map_sg, in_lst, isOf_one]
theorem len_str {z : Str} (h : (Ls z).length ≤ 1000) : eLen (.str z) = some (.int (Ls z).length) := by
  show (if z.length ≤ sizeLine then some (PyData.int z.length) else none) = _
  rw [len_Ls, if_pos (by rw [sizeLine_eq]; omega)]
theorem tru_str {z : Str} (h : (Ls z).length ≤ 1000) : eTru (.str z) = some (!(Ls z).isEmpty) := by
  show (if z.length ≤ sizeLine then some ((z.length : Int) != 0) else none) = _
  rw [len_Ls, if_pos (by rw [sizeLine_eq]; omega)]
  cases Ls z with
  | nil => rfl
  | cons c r => simp; omega
theorem strsOf_map : ∀ ws : List Str, strsOf (ws.map .str) = some ws
  | [] => rfl
  | w :: ws => by simp [strsOf, strsOf_map ws]
theorem joinL_ones : ∀ l : List Nat, TL.joinL [] (l.map fun c => [c]) = l
  | [] => rfl
  | [c] => rfl
  | c :: d :: r => by
    have := joinL_ones (d :: r)
    simp only [List.map_cons] at this ⊢
    show [c] ++ ([] ++ TL.joinL [] ([d] :: r.map fun c => [c])) = _
    rw [this]
    rfl
theorem sum_ones : ∀ l : List Nat, ((l.map fun c => (⟨#[c]⟩ : Str)).map (·.length)).sum = l.length
  | [] => rfl
  | c :: l => by
    have := sum_ones l
    simp only [List.map_cons, List.sum_cons, List.length_cons, this]
    show 1 + l.length = _
    omega
theorem join_sg {l : List Nat} (h : l.length ≤ 1000) : eJoin "" (.list (l.map sg)) = some (.str (tx l)) := by
  rw [map_sg]
  show ((strsOf (List.map PyData.str _)).bind _) = _
  rw [strsOf_map]
  have e0 : (Str.ofString "").length = 0 := rfl
  have e : Txt.join "" (l.map fun c => (⟨#[c]⟩ : Str)) = tx l := by
    refine str_inj ?_
    rw [TL.join_eq]
    show TL.tl _ = _
    rw [TL.tl_join, Ls_tx]
    have : (l.map fun c => (⟨#[c]⟩ : Str)).map TL.tl = l.map fun c => [c] := by simp [TL.tl]
    rw [this]
    exact joinL_ones l
  show (if _ then _ else _) = _
  rw [if_pos (by rw [sum_ones, e0]; omega), e]
theorem bools_map {α : Type} (f : α → Bool) : ∀ xs : List α, boolsOf (xs.map fun x => .bool (f x)) = some (xs.map f)
  | [] => rfl
  | x :: xs => by simp [boolsOf, bools_map f xs]
theorem all_map {α : Type} (f : α → Bool) (xs : List α) : eAll (.list (xs.map fun x => .bool (f x))) = some (.bool (xs.all f)) := by
  show (boolsOf _).map _ = _
  rw [bools_map]
  simp
theorem snoc_ind {α : Type} {P : List α → Prop} (h0 : P []) (h1 : ∀ l k, P l → P (l ++ [k])) (l : List α) : P l := by
  have : ∀ r : List α, P r.reverse := fun r => by
    induction r with
    | nil => exact h0
    | cons x r ih => rw [List.reverse_cons]; exact h1 _ _ ih
  have := this l.reverse
  rwa [List.reverse_reverse] at this
theorem mem_distA {κ : Type} [DecidableEq κ] (l : List κ) : ∀ x : κ, x ∈ dist l ↔ x ∈ l := by
  induction l using snoc_ind with
  | h0 => simp [dist]
  | h1 l k ih =>
    intro x
    rw [dist_snoc]
    unfold dstep
    split
    · rename_i h
      rw [ih] at h
      rw [ih]
      simp
      intro e
      subst e
      exact h
    · simp [ih]
theorem mem_dist {κ : Type} [DecidableEq κ] {x : κ} (l : List κ) : x ∈ dist l ↔ x ∈ l := mem_distA l x
theorem dist_nodup {κ : Type} [DecidableEq κ] (l : List κ) : (dist l).length = l.length ↔ l.Nodup := by
  induction l using snoc_ind with
  | h0 => simp [dist]
  | h1 l k ih =>
    rw [dist_snoc]
    have h1 := dist_len l
    unfold dstep
    split
    · rename_i h
      rw [mem_dist] at h
      rw [List.length_append]
      constructor
      · intro e; simp at e; omega
      · intro nd
        rw [List.nodup_append] at nd
        exact absurd rfl (nd.2.2 k h k (by simp))
    · rename_i h
      rw [mem_dist] at h
      rw [List.length_append, List.length_append]
      constructor
      · intro e
        have := ih.mp (by simpa using e)
        rw [List.nodup_append]
        exact ⟨this, by simp, fun a ha b hb => by simp at hb; subst hb; intro e; subst e; exact h ha⟩
      · intro nd
        rw [List.nodup_append] at nd
        have := ih.mpr nd.1
        simp [this]
theorem ofStr_eq (z : Str) : ofStr z = (Ls z).map fun c => (Sum.inr (⟨#[c]⟩ : Str) : Key) := rfl
theorem nodup_ofStr (z : Str) : (ofStr z).Nodup ↔ (Ls z).Nodup := by
  rw [ofStr_eq]
  show List.Pairwise _ _ ↔ List.Pairwise _ _
  rw [List.pairwise_map]
  simp
/-- len(set(z)) == len(z) -/
theorem nodup_eq (z : Str) : eEq (.int (dist (ofStr z)).length) (.int (Ls z).length) = some (.bool (decide (Ls z).Nodup)) := by
  show some (PyData.bool (((dist (ofStr z)).length : Int) == ((Ls z).length : Int))) = _
  refine congrArg (fun b => some (PyData.bool b)) ?_
  rw [Bool.eq_iff_iff]
  simp
  rw [← nodup_ofStr, ← dist_nodup (ofStr z), ofStr_eq, List.length_map]
  omega
theorem one_lt {a b : Nat} : sLt (⟨#[a]⟩ : Str) ⟨#[b]⟩ ↔ a < b := by
  show [a] < [b] ↔ _
  rw [List.cons_lt_cons_iff]
  simp
theorem asc_of : ∀ {l : List Str}, l.Pairwise sLt → asc l = l
  | [], _ => rfl
  | x :: r, h => by
    obtain ⟨h1, h2⟩ := List.pairwise_cons.mp h
    show insS x (asc r) = _
    rw [asc_of h2]
    cases r with
    | nil => rfl
    | cons y r =>
      have hl := h1 y List.mem_cons_self
      unfold insS
      rw [if_neg (fun e => sLt_irrefl y (by rw [e] at hl; exact hl)), if_pos hl]
theorem asc_ones (l : List Nat) : (l.map fun c => (⟨#[c]⟩ : Str)) = asc (l.map fun c => (⟨#[c]⟩ : Str)) ↔ l.Pairwise (· < ·) := by
  have e : (l.map fun c => (⟨#[c]⟩ : Str)).Pairwise sLt ↔ l.Pairwise (· < ·) := by
    rw [List.pairwise_map]
    exact ⟨fun h => h.imp fun {a b} q => one_lt.mp q, fun h => h.imp fun {a b} q => one_lt.mpr q⟩
  rw [← e]
  exact ⟨fun h => by rw [h]; exact asc_asc _, fun h => (asc_of h).symm⟩
theorem eqv_strs : ∀ as bs : List Str, PyData.eqvAll (as.map .str) (bs.map .str) = decide (as = bs)
  | [], [] => rfl
  | [], _ :: _ => rfl
  | _ :: _, [] => rfl
  | a :: as, b :: bs => by
    simp only [List.map_cons, PyData.eqvAll, PyData.eqv, eqv_strs as bs, beq_dec]
    rw [Bool.eq_iff_iff]
    simp
theorem eq_strs (as bs : List Str) : eEq (.list (as.map .str)) (.list (bs.map .str)) = some (.bool (decide (as = bs))) := by
  unfold eEq
  rw [if_pos (by simp [dfree, dfree_strs, PyData.depth, depth_strs])]
  simp only [PyData.eqv, eqv_strs]
/-- list(z) == sorted(set(z)) -/
theorem sorted_eq (z : Str) : eEq (.list ((Ls z).map sg)) (.list ((asc ((Ls z).map fun c => (⟨#[c]⟩ : Str))).map .str)) = some (.bool (decide ((Ls z).Pairwise (· < ·)))) := by
  rw [map_sg, eq_strs]
  refine congrArg (fun b => some (PyData.bool b)) ?_
  rw [Bool.eq_iff_iff]
  simp [asc_ones]
theorem eq_nilL (xs : List PyData) : eEq (.list xs) (.list []) = some (.bool xs.isEmpty) := by
  unfold eEq
  rw [if_pos (by simp [dfree, dfreeAll, PyData.depth, PyData.depthAll]; try omega)]
  cases xs <;> simp [PyData.eqv, PyData.eqvAll]
def isT0 : PyData → Bool
  | .tuple [] => true
  | _ => false
theorem eq_tup0 (x : PyData) : eEq x (.tuple []) = some (.bool (isT0 x)) := by
  unfold eEq
  rw [if_pos (by simp [dfree, dfreeAll, PyData.depth, PyData.depthAll]; try omega)]
  cases x with
  | tuple xs => cases xs <;> simp [PyData.eqv, PyData.eqvAll, isT0]
  | _ => simp [PyData.eqv, isT0]
theorem shaped_str {z : Str} (h : PyData.strOk z = true) : SeqAt.shaped (.str z) = true := by simp [SeqAt.shaped, PyData.canLay0, PyData.depth, h]
theorem cut_to (l : List Nat) (k : Nat) (h : k ≤ l.length) : cutS (tx l) none (some (k : Int)) = tx (l.take k) := by
  unfold cutS
  have e : (tx l).length = l.length := by simp [tx, Str.length]
  rw [HT.sIx_none, HT.sIx_nat, e, Nat.min_eq_left h]
  simp [tx]
theorem cutD_to (l : List PyData) (k : Nat) : cutD l none (some (k : Int)) = l.take k := by
  unfold cutD
  rw [HT.sIx_none, HT.sIx_nat]
  by_cases h : k ≤ l.length
  · rw [Nat.min_eq_left h]; simp
  · rw [Nat.min_eq_right (by omega)]
    simp
    rw [List.take_of_length_le (by omega)]
end Pu
namespace Pu
open PySem PySem.Spec PyProof.Rows L2 SeqAt PuS
theorem eq_int (i j : Int) : eEq (.int i) (.int j) = some (.bool (decide (i = j))) := by
  have : (i == j) = decide (i = j) := by rw [Bool.eq_iff_iff]; simp
  show some (PyData.bool (i == j)) = _
  rw [this]
theorem ne_int (i j : Int) : eNe (.int i) (.int j) = some (.bool (!decide (i = j))) := by
  have : (i == j) = decide (i = j) := by rw [Bool.eq_iff_iff]; simp
  show some (PyData.bool (!(i == j))) = _
  rw [this]
def okS (z : Str) : Prop := (Ls z).length ≤ 1000 ∧ ∀ c ∈ Ls z, c < 0x110000
mutual
def okR : PyData → Prop
  | .str z => okS z
  | .list xs => okRs xs
  | .tuple xs => okRs xs
  | _ => True
def okRs : List PyData → Prop
  | [] => True
  | x :: xs => okR x ∧ okRs xs
end
theorem okS_str {z : Str} (h : okS z) : PyData.strOk z = true := by
  unfold PyData.strOk
  rw [Array.all_eq_true']
  intro c hc
  simpa using h.2 c (by unfold Ls; simpa using hc)
def isPl : PyData → Bool
  | .int _ => true
  | _ => false
theorem nodup_len : ∀ {l K : List Nat}, l.Nodup → (∀ c ∈ l, c ∈ K) → l.length ≤ K.length
  | [], _, _, _ => Nat.zero_le _
  | c :: r, K, nd, h => by
    obtain ⟨h1, h2⟩ := List.nodup_cons.mp nd
    have hc := h c List.mem_cons_self
    have ih := nodup_len (l := r) (K := K.erase c) h2 fun d hd => by
      have ne : d ≠ c := fun e => h1 (e ▸ hd)
      exact (List.mem_erase_of_ne ne).mpr (h d (List.mem_cons_of_mem _ hd))
    rw [List.length_erase_of_mem hc] at ih
    have : 0 < K.length := List.length_pos_of_mem hc
    simp only [List.length_cons]
    omega
theorem asc_nodup {l : List Nat} (h : l.Pairwise (· < ·)) : l.Nodup := h.imp fun {a b} q => Nat.ne_of_lt q
end Pu
namespace Pu
open PySem PySem.Spec PyProof.Rows L2 SeqAt PuS
theorem ix_t0 (a : PyData) (r : List PyData) : eIx (.tuple (a :: r)) (.int 0) = some a := atI_nat (j := 0) (xs := a :: r) rfl
theorem ix_t1 (a b : PyData) (r : List PyData) : eIx (.tuple (a :: b :: r)) (.int 1) = some b := atI_nat (j := 1) (xs := a :: b :: r) rfl
theorem ix_t2 (a b c : PyData) (r : List PyData) : eIx (.tuple (a :: b :: c :: r)) (.int 2) = some c := atI_nat (j := 2) (xs := a :: b :: c :: r) rfl
end Pu
namespace Pu
open PySem PySem.Spec PyProof.Rows L2 SeqAt PuS
theorem add_str {s t : Str} (h : (Ls s).length + (Ls t).length ≤ 100000) : eAdd (.str s) (.str t) = some (.str (tx (Ls s ++ Ls t))) := by
  show (if s.length + t.length ≤ sizeLine then some (PyData.str (s ++ t)) else none) = _
  rw [if_pos (by rw [len_Ls, len_Ls, sizeLine_eq]; omega)]
  have : s ++ t = tx (Ls s ++ Ls t) := str_inj (by rw [Ls_tx]; exact TL.tl_append s t)
  rw [this]
theorem sl_to {l : List Nat} {k : Nat} (h : l.length ≤ 1000) (hk : k ≤ l.length) : eSl none (some (k : Int)) (.str (tx l)) = some (.str (tx (l.take k))) := by
  show (if (tx l).length ≤ sizeLine then some (PyData.str (cutS (tx l) none (some (k : Int)))) else none) = _
  rw [if_pos (by rw [len_Ls, Ls_tx, sizeLine_eq]; omega), cut_to l k hk]
theorem add_lst {xs ys : List PyData} (h : xs.length + ys.length ≤ 100000) : eAdd (.list xs) (.list ys) = some (.list (xs ++ ys)) := if_pos (by rw [sizeLine_eq]; omega)
theorem mul_def (xs : List PyData) (k : Int) : eMul (.list xs) (.int k) = if -(2 ^ 63) ≤ k ∧ k < 2 ^ 63 ∧ xs.length * k.toNat ≤ sizeLine then some (.list (List.replicate k.toNat xs).flatten) else none := rfl
theorem mul_nat {xs : List PyData} (k : Nat) (h : xs.length * k ≤ 100000) (hk : k ≤ 1000) : eMul (.list xs) (.int (k : Int)) = some (.list (List.replicate k xs).flatten) := by
  have z := sizeLine_eq
  rw [mul_def, if_pos ⟨by omega, by omega, by rw [Int.toNat_natCast]; omega⟩, Int.toNat_natCast]
/-- x * int(test) -/
theorem mul_tst {xs : List PyData} (c : Bool) (h : xs.length ≤ 100000) : eMul (.list xs) (.int (if c then 1 else 0)) = some (.list (if c then xs else [])) := by
  cases c with
  | false =>
    have := mul_nat (xs := xs) 0 (by omega) (by omega)
    exact this
  | true =>
    have := mul_nat (xs := xs) 1 (by omega) (by omega)
    rw [show (List.replicate 1 xs).flatten = xs by simp] at this
    exact this
theorem replL_one (c : Nat) : ∀ l : List Nat, StrLaws.replL [c] [] l = l.filter fun d => decide (d ≠ c)
  | [] => StrLaws.replL_nil
  | d :: r => by
    by_cases e : d = c
    · subst e
      rw [StrLaws.replL_hit (by simp) (by simp)]
      show [] ++ StrLaws.replL [d] [] r = _
      rw [replL_one d r, List.filter_cons]
      simp
    · rw [StrLaws.replL_miss (by simpa using e), replL_one c r, List.filter_cons]
      simp [e]
theorem replace_one (z : Str) (c : Nat) : Txt.replace z ⟨#[c]⟩ Str.empty = tx ((Ls z).filter fun d => decide (d ≠ c)) := by
  refine str_inj ?_
  rw [Ls_tx]
  show (Txt.replace z ⟨#[c]⟩ Str.empty).cps.toList = _
  rw [StrLaws.replace_list (by show 1 ≤ 1; omega)]
  exact replL_one c (Ls z)
theorem n_pick {ic ip ir il : Nat} {wt wg : WD} {u : WS} {env : En} {n : Nat} {N : En → Nat → Prop} {R : PyData → Nat → Prop} {B C : En → Nat → Prop} {z : Str} (hc : env[ic]? = some (some (.d (.str z)))) (hp : env[ip]? = some (some .p)) (hl : (Ls z).length ≤ 1000)
    (h : MD wt [.p, .d (.int (Ls z).length)] n fun y m => ∃ i c, y = .int i ∧ atI (Ls z) i = some c ∧ MD wg [.p, .d (.str (tx ((Ls z).filter fun d => decide (d ≠ c))))] m fun d m2 => MS u ((env.set ir (some (.d (sg c)))).set il (some (.d d))) m2 N R B C) :
    MS (sPick ic ip ir il wt wg u) env n N R B C := fun PD b hb kn kr kb kc => by
  unfold sPick
  rw [hc, hp]
  refine ⟨by rw [len_Ls]; omega, ?_⟩
  rw [len_Ls]
  refine h b _ hb fun y m b1 ⟨i, c, ey, hat, hg⟩ hb1 => ?_
  subst ey
  show (match atI (Ls z) i with | some c => _ | none => False)
  rw [hat]
  show wg [.p, .d (.str (Txt.replace z ⟨#[c]⟩ Str.empty))] b1 _
  rw [replace_one]
  exact hg b1 _ hb1 fun d m2 b2 q hb2 => q PD b2 hb2 kn kr kb kc
end Pu
namespace Pu
open PySem PySem.Spec PyProof.Rows L2 SeqAt PuS
abbrev Rule : Type := List Nat × Nat
def ruD (p : Rule) : PyData := .tuple [.str (tx p.1), sg p.2]
def keD (k : List Nat) : PyData := .str (tx k)
def schD (K : List Nat) (rules : List Rule) (keys : List (List Nat)) : PyData := .tuple [.str (tx K), .tuple (rules.map ruD), .tuple (keys.map keD)]
structure ColsOk (K : List Nat) : Prop where
  asc : K.Pairwise (· < ·)
  few : K.length ≤ 5
  some : K ≠ []
  low : ∀ c ∈ K, c < 128
structure RulesOk (K : List Nat) (rules : List Rule) : Prop where
  one : ∀ p ∈ rules, p.1.Sublist K ∧ p.2 ∈ K ∧ p.2 ∉ p.1
  nodup : rules.Nodup
  few : rules.length ≤ 6
structure KeysOk (K : List Nat) (keys : List (List Nat)) : Prop where
  one : ∀ k ∈ keys, k.Sublist K ∧ k ≠ []
  nodup : keys.Nodup
  few : keys.length ≤ 4
theorem tx_inj {a b : List Nat} (h : tx a = tx b) : a = b := by
  have := congrArg Ls h
  rwa [Ls_tx, Ls_tx] at this
theorem sg_inj {a b : Nat} (h : (⟨#[a]⟩ : Str) = ⟨#[b]⟩) : a = b := by
  have := congrArg Ls h
  have : [a] = [b] := this
  exact List.head_eq_of_cons_eq this
theorem eqv_ru (p q : Rule) : PyData.eqv (ruD p) (ruD q) = decide (p = q) := by
  obtain ⟨a, b⟩ := p
  obtain ⟨c, d⟩ := q
  rw [Bool.eq_iff_iff, decide_eq_true_eq]
  show (decide (tx a = tx c) && (decide ((⟨#[b]⟩ : Str) = ⟨#[d]⟩) && true)) = true ↔ _
  rw [Bool.and_true, Bool.and_eq_true, decide_eq_true_eq, decide_eq_true_eq]
  constructor
  · rintro ⟨h1, h2⟩; rw [tx_inj h1, sg_inj h2]
  · intro h; cases h; exact ⟨rfl, rfl⟩
theorem dfree_ru : ∀ rules : List Rule, dfreeAll (rules.map ruD) = true
  | [] => rfl
  | p :: r => by simp [dfreeAll, dfree, ruD, dfree_ru r]
theorem depth_ru : ∀ rules : List Rule, PyData.depthAll (rules.map ruD) ≤ 1
  | [] => Nat.zero_le _
  | p :: r => by
    have := depth_ru r
    simp only [List.map_cons, PyData.depthAll, ruD, PyData.depth]
    simp
    omega
theorem in_rules {neg : Bool} (p : Rule) (rules : List Rule) : eIn neg (ruD p) (.list (rules.map ruD)) = some (.bool (neg ^^ decide (p ∈ rules))) := by
  show eInL neg (ruD p) (.list (rules.map ruD)) = _
  unfold eInL
  show (if _ then _ else _) = _
  have hd : ((dfreeAll (rules.map ruD) || dfree (ruD p)) && decide (min (PyData.depthAll (rules.map ruD)) (ruD p).depth ≤ 60)) = true := by
    have h1 := depth_ru rules
    have h2 : min (PyData.depthAll (rules.map ruD)) (ruD p).depth ≤ 60 := Nat.le_trans (Nat.min_le_left _ _) (by omega)
    rw [dfree_ru, Bool.true_or, Bool.true_and, decide_eq_true h2]
  rw [if_pos hd]
  refine congrArg (fun b => some (PyData.bool (neg ^^ b))) ?_
  rw [Bool.eq_iff_iff, List.any_eq_true, decide_eq_true_eq]
  constructor
  · rintro ⟨x, hx, e⟩
    obtain ⟨q, hq, rfl⟩ := List.mem_map.mp hx
    rw [eqv_ru, decide_eq_true_eq] at e
    exact e ▸ hq
  · intro h
    exact ⟨ruD p, List.mem_map.mpr ⟨p, h, rfl⟩, by rw [eqv_ru]; simp⟩
theorem in_keys {neg : Bool} (k : List Nat) (keys : List (List Nat)) : eIn neg (.str (tx k)) (.list (keys.map keD)) = some (.bool (neg ^^ decide (k ∈ keys))) := by
  have e : keys.map keD = (keys.map tx).map .str := by simp [keD]
  rw [e, in_lst]
  refine congrArg (fun b => some (PyData.bool (neg ^^ b))) ?_
  rw [Bool.eq_iff_iff, decide_eq_true_eq]
  simp [isOf, isS]
  constructor
  · rintro ⟨q, hq, e⟩; exact tx_inj e ▸ hq
  · intro h; exact ⟨k, h, rfl⟩
theorem ix_nat {xs : List PyData} {k : Nat} (h : k < xs.length) : eIx (.list xs) (.int (k : Int)) = some xs[k] := atI_nat (List.getElem?_eq_getElem h)
theorem ix_natT {xs : List PyData} {k : Nat} (h : k < xs.length) : eIx (.tuple xs) (.int (k : Int)) = some xs[k] := atI_nat (List.getElem?_eq_getElem h)
/-- a written list of numbers at a drawn place -/
theorem ix_ints {ns : List Int} {k : Nat} (h : k < ns.length) : eIx (.list (ns.map .int)) (.int (k : Int)) = some (.int ns[k]) := by
  rw [ix_nat (by simpa using h)]
  simp
/-- a sign of a text -/
theorem ix_str {l : List Nat} {k : Nat} (h : k < l.length) (hl : l.length ≤ 1000) : eIx (.str (tx l)) (.int (k : Int)) = some (sg l[k]) := by
  show (if (tx l).length ≤ sizeLine then _ else _) = _
  rw [len_Ls, Ls_tx, if_pos (by rw [sizeLine_eq]; omega)]
  have : atI (tx l).cps.toList (k : Int) = some l[k] := by
    show atI (Ls (tx l)) _ = _
    rw [Ls_tx]
    exact atI_nat (List.getElem?_eq_getElem h)
  rw [this]
  rfl
/-- .. the last one -/
theorem ix_last {l : List Nat} (h : l ≠ []) (hl : l.length ≤ 1000) : eIx (.str (tx l)) (.int (-1)) = some (sg (l.getLast h)) := by
  show (if (tx l).length ≤ sizeLine then _ else _) = _
  rw [len_Ls, Ls_tx, if_pos (by rw [sizeLine_eq]; omega)]
  have hp : 0 < l.length := List.length_pos_iff.mpr h
  have : atI (tx l).cps.toList (-1) = some (l.getLast h) := by
    show atI (Ls (tx l)) _ = _
    rw [Ls_tx]
    unfold atI ixN
    rw [if_neg (by decide), if_pos (by omega)]
    have e : ((l.length : Int) + (-1)).toNat = l.length - 1 := by omega
    show l[((-1 : Int) + (l.length : Int)).toNat]? = _
    rw [show ((-1 : Int) + (l.length : Int)).toNat = l.length - 1 by omega, List.getLast_eq_getElem]
    exact List.getElem?_eq_getElem _
  rw [this]
  rfl
end Pu
namespace PuT
open PySem PySem.Spec PyProof.Rows L2
open AutoSeq1 (wpAny_loadPart')
section
variable {prog : Program} {w : World} {A : Around} {E : Value → Shared → Prop} {s : Shared}
theorem code_tuple_str {Q₁ : Value → Shared → Prop} (hh : A.handled = none) (x : Str) (t : Tok) (hn : x.cps.size ≤ sizeLine)
    (h : ∀ (h' : Heap) (tk : Nat) (acc : Array Value), (∀ b o, s.heap.get? b = some o → h'.get? b = some o) → ItemsOf (SignAt x) acc x.cps.size →
      Q₁ (.ref h'.objs.size) { s with heap := h'.push { cls := .type "tuple", data := .seq acc }, toks := tk }) :
    codeAny (model prog w) A (.call (.builtin "tuple.__new__") ⟨[.type "tuple", .str x t], []⟩) (wants Q₁ E) s := by
  refine codeAny_of_tree ?_
  show wpAny _ A.in1 (do checkBuiltinCall "tuple.__new__" ⟨[.type "tuple", .str x t], []⟩; again (.builtin "tuple.__new__" ⟨[.type "tuple", .str x t], []⟩)) _ _ s
  refine wpAny_bind (wpAny_of_eq (F.newCall_tuple_1 _) (wpAny_pure ⟨plainId_quiet F.plain_tuple_new _, codeAny_builtin F.entry_tuple_new ?_⟩))
  rw [Around.under_plainId F.plain_tuple_new _]
  have hsub := sub_tuple_self
  have hinit := init_tuple_lookup
  have hmh := madeHere_tuple
  have hTI : s.TypeIs (.str x t) "str" := rfl
  have hh1 : A.in1.handled = none := hh
  have col : ∀ {Q : List Value → Shared → Prop} {E' : Value → Shared → Prop}, (∀ h' tk acc, (∀ b o, s.heap.get? b = some o → h'.get? b = some o) → ItemsOf (SignAt x) acc x.cps.size → Q acc.toList { s with heap := h', toks := tk }) → wpAny (model prog w) A.in1 (collect (.str x t)) Q E' s := fun {Q E'} hQ =>
    wpAny_collect_str hh1 x t (fun s' acc k1 k2 k3 k4 hi => by
      obtain ⟨h', g', d', tk', os'⟩ := s'
      simp only at k1 k2 k3 k4
      subst k2 k3 k4
      exact hQ h' tk' acc k1 hi) hn
  wp_walk using wpAny_typeOf hTI, col
  intro h' tk acc hk hacc
  show wpAny _ _ (Builtin.Tuple.tupleExact acc.toList.toArray >>= fun v => ret v) _ _ _
  unfold Builtin.Tuple.tupleExact
  refine wpAny_bind (wpAny_newObj_type ?_ (by show acc.toList.toArray.size ≤ sizeLine; simp only [Array.toArray_toList]; rw [hacc.1]; exact hn))
  refine wpAny_pure ?_
  have e : acc.toList.toArray = acc := by simp
  rw [e]
  exact h h' tk acc hk hacc
theorem call_tuple_text {Q : Value → Shared → Prop} (hh : A.handled = none) (x : Str) (t : Tok) (hn : x.cps.size ≤ sizeLine)
    (hQ : ∀ (h' : Heap) (tk : Nat) (acc : Array Value), (∀ b o, s.heap.get? b = some o → h'.get? b = some o) → ItemsOf (SignAt x) acc x.cps.size →
      Q (.ref h'.objs.size) { s with heap := h'.push { cls := .type "tuple", data := .seq acc }, toks := tk }) :
    wpAny (model prog w) A (call (.type "tuple") [.str x t]) Q E s := by
  refine callType_codes (Q₁ := fun obj s₁ => s₁.TypeIs obj "tuple" ∧ Q obj s₁) F.called_tuple (F.typeCall_tuple_1 _) F.entry_object_init
    (code_tuple_str (A := A.in1) hh x t hn fun h' tk acc hk hacc => ⟨⟨_, Heap.get?_push_size _ rfl, rfl⟩, hQ h' tk acc hk hacc⟩) fun obj s₁ h₁ => ?_
  exact ⟨h₁.1, F.args_object_init_2 obj _, object_init_meets F.called_tuple.init.lookup F.called_tuple.made (by decide) prog w A.in1 _ s₁ ⟨h₁.1, rfl, h₁.2⟩⟩
end
end PuT
namespace Pu
open PySem PySem.Spec PyProof.Rows L2 SeqAt PuS PuT
def rTupS : List V → Hp → VK → Prop := fun xs H Q => ∃ z, xs = [.str z] ∧ z.length ≤ sizeLine ∧ NewT H Q (chV z)
theorem call_tupS {X : Cx} (hc : X.calm = true) : CallR X (.type "tuple") rTupS := by
  intro pins s σ H xs us Q I r h
  obtain ⟨z, e, hl, q⟩ := h
  subst e
  obtain ⟨u, eu, rx⟩ := vals1 r
  subst eu
  obtain ⟨t, rfl⟩ := rx
  have lz : (chV z).length = z.cps.size := by simp [chV]
  refine call_tuple_text (I.ok.hd hc) z t hl fun h' tk acc hk hi => ?_
  have vs : Vals (chV z) acc.toList := by
    refine vals_of_at (by rw [lz, Array.length_toList, hi.1]) fun j x u h1 h2 => ?_
    obtain ⟨c, tk, e1, rfl⟩ := hi.2 j u (by rw [← h2, Array.getElem?_toList])
    unfold chV at h1
    rw [List.getElem?_map, Array.getElem?_toList, e1] at h1
    cases h1
    exact ⟨tk, rfl⟩
  have I1 : Inv X pins σ H { s with heap := h', toks := tk } := I.kept hk
  cases acc with
  | mk l => exact ⟨.ref h'.objs.size, _, laidT I1 (its := l) vs (by rw [lz]; exact hl), rfl, newT I1 q⟩
def pTupA : P1
  | .list xs, P => P (.tuple xs)
  | .tuple xs, P => P (.tuple xs)
  | .str z, P => z.length ≤ sizeLine ∧ P (.tuple (chS z))
  | _, _ => False
def rTupA (K : PySem.W.Frag) : List V → Hp → VK → Prop := fun xs H Q => (∃ p ys, xs = [.ref p] ∧ ((SqL K H p ys ∧ NewT H Q ys) ∨ (SqT K H p ys ∧ Q (.ref p) H))) ∨ rTupS xs H Q
theorem call_tupA {X : Cx} (hc : X.calm = true) : CallR X (.type "tuple") (rTupA X.K) := fun pins s σ H xs us Q I r h => h.elim (fun h => call_tupleP pins s σ H xs us Q I r h) fun h => call_tupS hc pins s σ H xs us Q I r h
theorem c_tupA {X : Cx} : Cl1 X.K (rTupA X.K) pTupA := by
  intro pn b F H v x P Q o bv q k
  match x, q with
  | .list xs, q =>
    obtain ⟨a, vs, rfl, h1, r1⟩ := bv.list o
    exact .inl ⟨_, vs, rfl, .inl ⟨SqL.of h1, k.tup o r1 q⟩⟩
  | .tuple xs, q =>
    rcases bv with bv | ⟨_, e, _⟩
    · cases bv with
      | tup h r => exact .inl ⟨_, _, rfl, .inr ⟨Same.tup o.sub h.sq, k _ _ F H o .refl (.tup h r) q⟩⟩
    · cases e
  | .str z, ⟨hl, q⟩ =>
    rw [bv.str]
    exact .inr ⟨z, rfl, hl, k.tup o (rvs_ch z) q⟩
def eTupA : PyData → Option PyData
  | .list xs => some (.tuple xs)
  | .tuple xs => some (.tuple xs)
  | .str z => if z.length ≤ sizeLine then some (.tuple (chS z)) else none
  | _ => none
theorem h1_tupA : H1 pTupA eTupA := fun x P r q k => by
  cases x <;> first | (cases q; exact k) | (obtain ⟨c, e⟩ := ite_some q; subst e; exact ⟨c, k⟩) | cases q
def pMulT : P2
  | .int i, .int j, P => CMul i j ∧ P (.int (i * j))
  | .list xs, .int k, P => -(2 ^ 63) ≤ k ∧ k < 2 ^ 63 ∧ xs.length * k.toNat ≤ sizeLine ∧ P (.list (List.replicate k.toNat xs).flatten)
  | _, _, _ => False
def rMulT (K : PySem.W.Frag) : R2 := fun x y H Q => rMulA x y H Q
theorem opr_mulT {X : Cx} : OpR X (binaryOp .Mult) (rMulT X.K) := opr_mul
theorem o_mulT {K : PySem.W.Frag} : Op2 K (rMulT K) pMulT := by
  intro pn b F H v u x y P Q o bv bu q k
  match x, y, q with
  | .int i, .int j, ⟨c, q⟩ => exact .inl ⟨i, j, bv.int, bu.int, c, k _ _ F H o .refl (.int _) q⟩
  | .list xs, .int n, ⟨z1, z2, z3, q⟩ =>
    obtain ⟨a, vs, rfl, h1, r1⟩ := bv.list o
    exact .inr ⟨a, n, vs, rfl, bu.int, h1, z1, z2, by rw [r1.len]; exact z3, k.lst o (r1.rep _) q⟩
def eMulT : PyData → PyData → Option PyData
  | .tuple _, _ => none
  | x, y => eMul x y
theorem h2_mulT : H2 pMulT eMulT := fun x y P r q k => by
  cases x with
  | tuple xs => cases y with
    | _ => cases q
  | int i => cases y with
    | int j => exact h2_mul (.int i) (.int j) P r q k
    | _ => cases q
  | list xs => cases y with
    | int j => exact h2_mul (.list xs) (.int j) P r q k
    | _ => cases q
  | _ => cases y <;> cases q
abbrev ePow := eI (fun i j => decide (0 ≤ j) && (decide (j ≤ 1000000) && decide (i.natAbs < 2 ^ 64))) fun i j => .int (i ^ j.toNat)
theorem h2_pow : H2 pPow ePow := h2_i fun i j h => by
  obtain ⟨h1, h⟩ := Bool.and_eq_true_iff.mp h
  obtain ⟨h2, h3⟩ := Bool.and_eq_true_iff.mp h
  exact ⟨of_decide_eq_true h1, of_decide_eq_true h2, of_decide_eq_true h3⟩
end Pu
namespace Pu
open PySem PySem.Spec PyProof.Rows L2 SeqAt PuS
theorem mulT_list (xs : List PyData) (k : Int) : eMulT (.list xs) (.int k) = eMul (.list xs) (.int k) := rfl
theorem mulT_nat {xs : List PyData} (k : Nat) (h : xs.length * k ≤ 100000) (hk : k ≤ 1000) : eMulT (.list xs) (.int (k : Int)) = some (.list (List.replicate k xs).flatten) := by rw [mulT_list, mul_nat k h hk]
theorem mulT_tst {xs : List PyData} (c : Bool) (h : xs.length ≤ 100000) : eMulT (.list xs) (.int (if c then 1 else 0)) = some (.list (if c then xs else [])) := by rw [mulT_list, mul_tst c h]
structure Fit (B D : Nat) (d : PyData) : Prop where
  shw : d.showable = true
  leaf : d.leavesShort 60 = true
  ok : okR d
  bulk : d.bulk ≤ B
  deep : d.depth ≤ D
structure FitS (B D : Nat) (xs : List PyData) : Prop where
  shw : PyData.showableAll xs = true
  leaf : PyData.leavesShortAll 60 xs = true
  ok : okRs xs
  bulk : PyData.bulkAll xs ≤ B
  deep : PyData.depthAll xs ≤ D
section
variable {B C D E : Nat} {d : PyData} {xs ys : List PyData}
theorem Fit.le (h : Fit B D d) (hB : B ≤ C) (hD : D ≤ E) : Fit C E d := ⟨h.shw, h.leaf, h.ok, Nat.le_trans h.bulk hB, Nat.le_trans h.deep hD⟩
theorem FitS.le (h : FitS B D xs) (hB : B ≤ C) (hD : D ≤ E) : FitS C E xs := ⟨h.shw, h.leaf, h.ok, Nat.le_trans h.bulk hB, Nat.le_trans h.deep hD⟩
theorem FitS.nil : FitS 0 0 [] := ⟨rfl, rfl, trivial, Nat.le_refl _, Nat.le_refl _⟩
theorem FitS.cons (h : Fit B D d) (hs : FitS C D xs) : FitS (B + 1 + C) D (d :: xs) := by
  refine ⟨?_, ?_, ⟨h.ok, hs.ok⟩, ?_, ?_⟩
  · simp [PyData.showableAll, h.shw, hs.shw]
  · simp [PyData.leavesShortAll, h.leaf, hs.leaf]
  · have := h.bulk; have := hs.bulk; simp only [PyData.bulkAll]; omega
  · have := h.deep; have := hs.deep; simp only [PyData.depthAll]; omega
theorem FitS.uncons (h : FitS B D (d :: xs)) : ∃ B1 B2, Fit B1 D d ∧ FitS B2 D xs ∧ B1 + 1 + B2 ≤ B := by
  have h1 := h.shw; have h2 := h.leaf; have h3 := h.bulk; have h4 := h.deep
  simp [PyData.showableAll] at h1
  simp [PyData.leavesShortAll] at h2
  simp only [PyData.bulkAll] at h3
  simp only [PyData.depthAll] at h4
  exact ⟨d.bulk, PyData.bulkAll xs, ⟨h1.1, h2.1, h.ok.1, Nat.le_refl _, by omega⟩, ⟨h1.2, h2.2, h.ok.2, Nat.le_refl _, by omega⟩, h3⟩
theorem FitS.mem : ∀ {xs : List PyData} {B : Nat}, FitS B D xs → ∀ d ∈ xs, Fit B D d
  | [], _, _, d, h => by cases h
  | x :: xs, B, hs, d, h => by
    obtain ⟨B1, B2, h1, h2, hb⟩ := hs.uncons
    rcases List.mem_cons.mp h with e | h
    · subst e; exact h1.le (by omega) (Nat.le_refl _)
    · exact (h2.mem d h).le (by omega) (Nat.le_refl _)
theorem FitS.len : ∀ {xs : List PyData} {B : Nat}, FitS B D xs → xs.length ≤ B
  | [], _, _ => Nat.zero_le _
  | x :: xs, B, hs => by
    obtain ⟨B1, B2, h1, h2, hb⟩ := hs.uncons
    have := h2.len
    simp only [List.length_cons]
    omega
theorem FitS.append : ∀ {xs : List PyData} {B : Nat}, FitS B D xs → FitS C D ys → FitS (B + C) D (xs ++ ys)
  | [], B, _, h => h.le (by omega) (Nat.le_refl _)
  | x :: xs, B, hs, h => by
    obtain ⟨B1, B2, h1, h2, hb⟩ := hs.uncons
    exact (FitS.cons h1 (h2.append h)).le (by omega) (Nat.le_refl _)
theorem FitS.sub : ∀ {ys xs : List PyData} {B : Nat}, FitS B D ys → xs.Sublist ys → FitS B D xs
  | _, _, B, hs, .slnil => hs.le (by omega) (Nat.le_refl _)
  | y :: ys, xs, B, hs, .cons _ s => by
    obtain ⟨B1, B2, h1, h2, hb⟩ := hs.uncons
    exact (h2.sub s).le (by omega) (Nat.le_refl _)
  | y :: ys, _ :: xs, B, hs, .cons₂ _ s => by
    obtain ⟨B1, B2, h1, h2, hb⟩ := hs.uncons
    exact (FitS.cons h1 (h2.sub s)).le (by omega) (Nat.le_refl _)
theorem FitS.take (h : FitS B D xs) (n : Nat) : FitS B D (xs.take n) := h.sub (List.take_sublist n xs)
theorem FitS.drop (h : FitS B D xs) (n : Nat) : FitS B D (xs.drop n) := h.sub (List.drop_sublist n xs)
theorem FitS.rev : ∀ {xs : List PyData} {B : Nat}, FitS B D xs → FitS B D xs.reverse
  | [], B, h => h
  | x :: xs, B, hs => by
    obtain ⟨B1, B2, h1, h2, hb⟩ := hs.uncons
    rw [List.reverse_cons]
    exact (h2.rev.append (FitS.cons h1 (FitS.nil.le (Nat.le_refl _) (Nat.zero_le _)))).le (by omega) (Nat.le_refl _)
theorem FitS.rep (h : FitS B D xs) : ∀ n, FitS (n * B) D (List.replicate n xs).flatten
  | 0 => FitS.nil.le (by omega) (Nat.zero_le _)
  | n + 1 => by
    rw [List.replicate_succ, List.flatten_cons]
    exact (h.append (h.rep n)).le (by rw [Nat.add_mul]; omega) (Nat.le_refl _)
theorem Fit.tup (h : FitS B D xs) : Fit B (D + 1) (.tuple xs) := ⟨by simp [PyData.showable, h.shw], by simp [PyData.leavesShort, h.leaf], h.ok, by have := h.bulk; simpa [PyData.bulk] using this, by have := h.deep; simpa [PyData.depth] using this⟩
theorem Fit.lst (h : FitS B D xs) : Fit B (D + 1) (.list xs) := ⟨by simp [PyData.showable, h.shw], by simp [PyData.leavesShort, h.leaf], h.ok, by have := h.bulk; simpa [PyData.bulk] using this, by have := h.deep; simpa [PyData.depth] using this⟩
theorem Fit.str {z : Str} (h : (Ls z).length ≤ 100) (h2 : ∀ c ∈ Ls z, c < 128) : Fit 100 0 (.str z) := by
  refine ⟨by simp [PyData.showable], ?_, ⟨by omega, fun c hc => by have := h2 c hc; omega⟩, ?_, by simp [PyData.depth]⟩
  · simp only [PyData.leavesShort, List.all_eq_true, decide_eq_true_eq]
    intro c hc
    have := h2 c hc
    omega
  · simp only [PyData.bulk]
    show z.cps.size ≤ 100
    have : z.cps.size = (Ls z).length := by simp [Ls]
    omega
theorem Fit.non : Fit 0 0 .none := ⟨rfl, rfl, trivial, Nat.le_refl _, Nat.le_refl _⟩
theorem Fit.bl (b : Bool) : Fit 0 0 (.bool b) := ⟨rfl, rfl, trivial, Nat.le_refl _, Nat.le_refl _⟩
theorem Fit.dct : Fit 0 1 (.dict []) := ⟨rfl, rfl, trivial, Nat.le_refl _, by simp [PyData.depth, PyData.depthKv]⟩
theorem lg_lt {n k : Nat} (h : n < 10 ^ 55) (hk : 183 ≤ k) : n.log2 < k := by
  by_cases e : n = 0
  · rw [e, show Nat.log2 0 = 0 from by decide]; omega
  · rw [Nat.log2_lt e]
    exact Nat.lt_of_lt_of_le (Nat.lt_trans h (show 10 ^ 55 < 2 ^ 183 by decide)) (Nat.pow_le_pow_right (by decide) hk)
theorem Fit.int {i : Int} (h : i.natAbs < 10 ^ 55) : Fit 0 0 (.int i) := by
  have hl : (toString i).length ≤ 55 + 1 := int_text_length_le10 (by decide) h
  have hg : i.natAbs.log2 < 1920 := lg_lt h (by decide)
  refine ⟨by simp [PyData.showable, hg], ?_, trivial, Nat.le_refl _, Nat.le_refl _⟩
  simp only [PyData.leavesShort, decide_eq_true_eq]
  show (Str.ofString (toString i)).length ≤ 60
  rw [Str.ofString_eq_toList]
  have : (toString i).toList.length = (toString i).length := by first | exact String.length_toList | rfl
  show ((toString i).toList.map Char.toNat).toArray.size ≤ 60
  rw [List.size_toArray, List.length_map]
  omega
/-- repr fits -/
theorem Fit.shown (h : Fit B D d) (hB : B ≤ 100000) : d.shown.length ≤ sizeLine := by
  have := PyData.shown_le_bulk 60 (by decide) d h.leaf
  have h2 := h.bulk
  rw [sizeLine_eq]
  omega
end
end Pu
namespace Pu
open PySem PySem.Spec PyProof.Rows L2 SeqAt PuS
def pNe2 : P2 := fun x y P => pNe x y P ∨ ∃ s t, x = .str s ∧ y = .str t ∧ P (.bool (!decide (s = t)))
def rNe2 (K : PySem.W.Frag) : R2 := fun x y H Q => rNeD K x y H Q ∨ rNe x y H Q
theorem opr_ne2 {X : Cx} (hu : X.A.units + 64 < cLine) : OpR X (compareOp .NotEq) (rNe2 X.K) := OpR.or (op_neD (by omega)) op_ne
theorem o_ne2 {K : PySem.W.Frag} : Op2 K (rNe2 K) pNe2 := by
  intro pn b F H v u x y P Q o bv bu q k
  rcases q with q | ⟨s, t, rfl, rfl, q⟩
  · exact .inl (o_ne pn b F H v u x y P Q o bv bu q k)
  · refine .inr ?_
    rw [bv.str, bu.str]
    refine ⟨rfl, ?_⟩
    have e : (decide (V.str s = V.str t)) = decide (s = t) := by rw [Bool.eq_iff_iff]; simp
    rw [e]
    exact k _ _ F H o .refl (.bl _) q
def eNe2 : PyData → PyData → Option PyData
  | .str s, .str t => some (.bool (!decide (s = t)))
  | x, y => eNe x y
theorem h2_ne2 : H2 pNe2 eNe2 := fun x y P r q k => by
  cases x with
  | str s => cases y with
    | str t => cases q; exact .inr ⟨s, t, rfl, rfl, k⟩
    | _ => exact .inl (h2_ne _ _ P r q k)
  | _ => exact .inl (h2_ne _ y P r (by cases y <;> exact q) k)
theorem ne2_str (s t : Str) : eNe2 (.str s) (.str t) = some (.bool (!decide (s = t))) := rfl
theorem ne2_int (i j : Int) : eNe2 (.int i) (.int j) = some (.bool (!decide (i = j))) := ne_int i j
theorem FitS.all {B D : Nat} : ∀ {xs : List PyData}, (∀ x ∈ xs, Fit B D x) → FitS ((B + 1) * xs.length) D xs
  | [], _ => FitS.nil.le (Nat.zero_le _) (Nat.zero_le _)
  | x :: xs, h => (FitS.cons (h x List.mem_cons_self) (FitS.all fun y hy => h y (List.mem_cons_of_mem _ hy))).le (by rw [List.length_cons, Nat.mul_add]; omega) (Nat.le_refl _)
end Pu
namespace Pu
open PySem PySem.Spec PyProof.Rows L2 SeqAt PuS
abbrev Ent := List Key × Addr × Value
structure DRaw (P : Program) (w : World) (a : Addr) (xs : List Ent) (h : Heap) : Prop where
  out : (a == sysModules) = false
  ex : ∃ (o : Obj) (es : Array DictEntry) (ep : Nat), h.get? a = some o ∧ o.ExactDict ∧ o.data = .dict es ep ∧ es.toList = xs.map (entryOfKey (tupleKind (mixKind P w))) ∧ (xs.map (·.1)).Nodup
def DOwn (P : Program) (w : World) (a : Addr) (xs : List Ent) : HO := .ext (DRaw P w a xs)
section
variable {P : Program} {w : World} {H : Hp} {h : Heap} {a : Addr} {xs : List Ent}
theorem dOwn_ok (r : DRaw P w a xs h) : ObjOk P w H h a (DOwn P w a xs) := by
  have ⟨o, es, ep, ho, q⟩ := r.ex
  refine ⟨r, ⟨o, ho⟩, fun h1 h2 p k => ?_⟩
  have ⟨o', es', ep', ho', q'⟩ := DRaw.ex p
  exact ⟨DRaw.out p, o', es', ep', k o' ho', q'⟩
theorem dOwn_new (h : Heap) (hb : sysModules < h.objs.size) : DRaw P w h.objs.size [] (h.push { cls := .type "dict", data := .dict #[] }) :=
  ⟨beq_eq_false_iff_ne.mpr (Ne.symm (Nat.ne_of_lt hb)), _, #[], 0, Heap.get?_push_size _ rfl, ⟨rfl, rfl, rfl⟩, rfl, rfl, List.nodup_nil⟩
end
section
variable {X : Cx} {pins : List (Addr × Obj)} {σ : L2.St} {H : Hp} {s : Shared} {a b c : Addr} {k : List Key} {A : Around} {E : Value → Shared → Prop} {xs : List Ent}
theorem keyT_of (I : L2.Inv X pins σ H s) (h : SqT X.K H b (k.map kV)) : (tupleKind (mixKind X.prog X.w)).is s.heap k b := by
  obtain ⟨its, r, ⟨o, h1, h2, n, h3⟩, _⟩ := I.tuple h
  exact ⟨o, its.toArray, n, h1, h2, h3, by simpa using items_are r⟩
theorem dOwn_at (I : L2.Inv X pins σ H s) (e : H a = some (DOwn X.prog X.w a xs)) : DRaw X.prog X.w a xs s.heap := (I.hok a _ e).1
theorem setd_own {Q : Value → Shared → Prop} (hu : A.units + 1 < cLine) (I : L2.Inv X pins σ H s) (e : H a = some (DOwn X.prog X.w a xs)) (eb : SqT X.K H b (k.map kV)) (ek : ∀ x ∈ xs, SqT X.K H x.2.1 (x.1.map kV)) (hl : xs.length < sizeLine)
    (h1 : ∀ p, atKey xs k = some p → ∀ s', L2.Inv X pins σ H s' → Q p.2 s')
    (h2 : atKey xs k = none → ∀ s', L2.Inv X pins σ (upd H a (DOwn X.prog X.w a (xs ++ [(k, b, .ref c)]))) s' → Q (.ref c) s') :
    wpAny (model X.prog X.w) A (call (.builtin "dict.setdefault") [.ref a, .ref b, .ref c]) Q E s := by
  obtain ⟨hd, o, es, ep, q1, q2, q3, q4, q5⟩ := dOwn_at I e
  have dd : s.heap.DictOfH (tupleKind (mixKind X.prog X.w)) a xs := ⟨o, es, ep, q1, q2, q3, q4, fun x hx => keyT_of I (ek x hx), q5⟩
  refine call_setdefault_heap (hsz := Nat.le_of_lt hl) (tupleKind_room_in1 hu) (keyT_of I eb) hd dd (fun p hp => h1 p hp _ (I.tok _)) fun hn h' dd' hs => ?_
  rw [storedH_new hn] at dd'
  obtain ⟨o', es', ep', ho', c1, c2, c3, _, c5⟩ := dd'
  exact h2 hn _ (d_write I (by rw [e]; exact True.intro) hs ⟨o', ho'⟩ (dOwn_ok ⟨hd, o', es', ep', ho', c1, c2, c3, c5⟩))
end
/-- {} -/
def tOwnD (P : Program) (w : World) : TE := fun _ H Q => ∀ p, H p = none → Q (.ref p) (upd H p (DOwn P w p []))
/-- d.setdefault(y, z) -/
def tSetdT (K : PySem.W.Frag) (P : Program) (w : World) (td ty tx : TE) : TE := fun σ H Q => td σ H fun x H1 => ∃ a xs0, x = .ref a ∧ H1 a = some (DOwn P w a xs0) ∧ ty σ H1 fun y H2 => tx σ H2 fun z H3 => ∃ (xs : List Ent) (b c : Addr) (k : List Key),
  H3 a = some (DOwn P w a xs) ∧ y = .ref b ∧ z = .ref c ∧ SqT K H3 b (k.map kV) ∧ (∀ x ∈ xs, SqT K H3 x.2.1 (x.1.map kV)) ∧ xs.length < sizeLine ∧
  (∀ p, atKey xs k = some p → ∃ c', p.2 = .ref c' ∧ Q (.ref c') H3) ∧ (atKey xs k = none → Q (.ref c) (upd H3 a (DOwn P w a (xs ++ [(k, b, .ref c)]))))
section
variable {X : Cx} {o e f : Expr} {td ty tx : TE} {apos cpos pos : Pos}
theorem pe_ownD : PE X (.Dict [] [] pos) (tOwnD X.prog X.w) := ⟨fun pins s σ H Q I h =>
  wpAny_Dict_empty ⟨.ref s.heap.objs.size, _, I.laid (a := s.heap.objs.size) (o := DOwn X.prog X.w s.heap.objs.size []) (t' := s.toks) (fun _ _ q => Heap.get?_push_of_some _ q) (Nat.le_refl _) (dOwn_ok (dOwn_new s.heap I.big)), rfl, h _ (I.hok.fresh (Nat.le_refl _))⟩⟩
theorem pe_setdT (hu : X.A.units + 4 < cLine) (ho : PE X o td) (he : PE X e ty) (hf : PE X f tx) (m : M2 X o "setdefault" apos e f cpos) : PE X (.Call (.Attribute o "setdefault" apos) [e, f] [] cpos) (tSetdT X.K X.prog X.w td ty tx) := by
  refine ⟨fun pins s σ H Q I h => ?_⟩
  refine wpAny_Call_method m.base m.few m.line PySem.F.plainAttrs_dict PySem.F.slot_dict_setdefault PySem.F.type_dict_setdefault (thn (ho.run pins s σ H _ I h) fun u s1 ⟨x, H1, I1, rx, a, xs0, ex, d, q1⟩ => ?_)
  subst ex
  obtain rfl : u = Value.ref a := rx
  obtain ⟨_, ob, _, _, r1, r2, _⟩ := dOwn_at I1 d
  refine ⟨⟨ob, r1, r2.1⟩, fun b q => by cases q; exact ⟨ob, r1, r2.2.1⟩, ?_⟩
  rw [m.trees]
  refine Calls.callWith_builtin rfl (Calls.evalArgs_plain (Calls.spliced_cons (thn (he.run pins s1 σ H1 _ I1 q1) fun iv s2 ⟨y, H2, I2, ry, q2⟩ =>
    Calls.spliced_cons (thn (hf.run pins s2 σ H2 _ I2 q2) fun fv s3 ⟨z, H3, I3, rz, xs, b, c, k, ea, ey, ez, eb, ek, hl, q3, q4⟩ => Calls.spliced_nil ?_))))
  subst ey ez
  obtain rfl : iv = Value.ref b := ry
  obtain rfl : fv = Value.ref c := rz
  refine setd_own ?_ I3 ea eb ek hl (fun p hp s4 I4 => ?_) fun hn s4 I4 => ⟨.ref c, _, I4, rfl, q4 hn⟩
  · show X.A.units + 1 < cLine
    omega
  · obtain ⟨c', e', q'⟩ := q3 p hp
    exact ⟨.ref c', _, I4, by rw [e']; exact rfl, q'⟩
end
end Pu
namespace Pu
open PySem PySem.Spec PyProof.Rows L2 SeqAt PuS
abbrev Kp := List Int × List Int
def keepB : (List Int → Option (List Int)) → List Kp → Bool
  | _, [] => true
  | s, p :: r => match s p.1 with
    | some u => if u = p.2 then keepB s r else false
    | none => keepB (fun x => if x = p.1 then some p.2 else s x) r
def pD (p : Kp) : PyData := .tuple [tI p.1, tI p.2]
def wKeep (i1 i2 : Nat) (PD : PEnds) : (List Int → Option (List Int)) → List Kp → En → Nat → Prop
  | _, [], env, b => PD.nx env b
  | s, p :: r, env, b => match s p.1 with
    | some u => if u = p.2 then wKeep i1 i2 PD s r (setAll [i1, i2] [tI p.1, tI p.2] env) b else PD.rt (.bool false) b
    | none => wKeep i1 i2 PD (fun x => if x = p.1 then some p.2 else s x) r (setAll [i1, i2] [tI p.1, tI p.2] env) b
def sKeep (ti : WI) (j i1 i2 : Nat) (tr : WS) : WS := fun PD env b => (j < env.length ∧ i1 < env.length ∧ i2 < env.length) ∧ ti (env.set j none) b fun xs b1 => xs.length < sizeLine ∧ ∃ ks : List Kp, xs = ks.map pD ∧ wKeep i1 i2 { PD with nx := tr PD } (fun _ => none) ks (env.set j none) b1
def SeenE (K : PySem.W.Frag) (F : Hp) (xs : List Ent) (s : List Int → Option (List Int)) : Prop :=
  ∀ ns : List Int, (atKey xs (ns.map Sum.inl) = none ∧ s ns = none) ∨ ∃ b c u, atKey xs (ns.map Sum.inl) = some (b, .ref c) ∧ s ns = some u ∧ RV K F (.ref c) (tI u)
theorem inl_inj {a b : List Int} (h : (a.map Sum.inl : List Key) = b.map Sum.inl) : a = b := by
  induction a generalizing b with
  | nil => cases b with
    | nil => rfl
    | cons => simp at h
  | cons x r ih => cases b with
    | nil => simp at h
    | cons y t =>
      simp only [List.map_cons, List.cons.injEq, Sum.inl.injEq] at h
      rw [h.1, ih h.2]
theorem SeenE.mono {K : PySem.W.Frag} {F G : Hp} {xs : List Ent} {s : List Int → Option (List Int)} (h : SeenE K F xs s) (e : Same F G) : SeenE K G xs s := fun ns =>
  (h ns).imp id fun ⟨b, c, u, h1, h2, r⟩ => ⟨b, c, u, h1, h2, r.mono e⟩
theorem atKey_snoc {xs : List Ent} {k j : List Key} {p : Addr × Value} (h : atKey xs k = none) : atKey (xs ++ [(k, p)]) j = if j = k then some p else atKey xs j := by
  unfold atKey at h ⊢
  rw [List.find?_append]
  by_cases e : j = k
  · subst e
    rw [if_pos rfl]
    rw [Option.map_eq_none_iff.mp h]
    simp
  · rw [if_neg e]
    have : ([(k, p)] : List Ent).find? (fun x => decide (x.1 = j)) = none := by simp [List.find?_cons, Ne.symm e]
    rw [this]
    simp
theorem SeenE.put {K : PySem.W.Frag} {F : Hp} {xs : List Ent} {s : List Int → Option (List Int)} (h : SeenE K F xs s) {g w : List Int} {b c : Addr} (n : atKey xs (g.map Sum.inl) = none) (r : RV K F (.ref c) (tI w)) :
    SeenE K F (xs ++ [(g.map Sum.inl, b, .ref c)]) (fun x => if x = g then some w else s x) := fun ns => by
  rw [atKey_snoc n]
  by_cases e : ns = g
  · subst e
    exact .inr ⟨b, c, w, if_pos rfl, if_pos rfl, r⟩
  · have e1 : ¬ (ns.map Sum.inl : List Key) = g.map Sum.inl := fun q => e (inl_inj q)
    rw [if_neg e1]
    rcases h ns with ⟨h1, h2⟩ | ⟨b', c', u, h1, h2, h3⟩
    · exact .inl ⟨h1, (if_neg e).trans h2⟩
    · exact .inr ⟨b', c', u, h1, (if_neg e).trans h2, h3⟩
theorem tI_vals {K : PySem.W.Frag} {F : Hp} {v : V} {ns : List Int} (r : RV K F v (tI ns)) : ∃ b, v = .ref b ∧ SqT K F b (ns.map V.int) := by
  cases r with
  | tup h t => exact ⟨_, rfl, by rw [← rvs_ints t]; exact h.sq⟩
theorem kV_inl : ∀ ns : List Int, ((ns.map Sum.inl : List Key).map kV) = ns.map V.int
  | [] => rfl
  | _ :: r => congrArg (V.int _ :: ·) (kV_inl r)
theorem vsAll_ne {j : Nat} : ∀ {is : List Nat} {vs : List V} {σ : L2.St}, j ∉ is → (vsAll is vs σ)[j]? = σ[j]?
  | [], _, _, _ => by simp [vsAll]
  | i :: is, [], _, _ => by simp [vsAll]
  | i :: is, v :: vs, σ, h => by
    rw [vsAll, vsAll_ne (fun q => h (List.mem_cons_of_mem _ q)), List.getElem?_set_ne (fun e => h (by rw [e]; exact List.mem_cons_self))]
theorem tI_shaped (ns : List Int) : SeqAt.shaped (tI ns) = true := by
  have a : PyData.canLayAll0 (ns.map PyData.int) = true := by
    induction ns with
    | nil => rfl
    | cons x r ih => simp [PyData.canLayAll0, PyData.canLay0, ih]
  have d : PyData.depthAll (ns.map PyData.int) = 0 := by
    clear a
    induction ns with
    | nil => rfl
    | cons x r ih => simp [PyData.depthAll, PyData.depth, ih]
  simp [SeqAt.shaped, tI, PyData.canLay0, PyData.depth, a, d]
theorem tI_eqv (u w : List Int) : PyData.eqv (tI u) (tI w) = decide (u = w) := by
  show PyData.eqv (.tuple _) (.tuple _) = _
  rw [PyData.eqv]
  induction u generalizing w with
  | nil => cases w <;> simp [PyData.eqvAll]
  | cons x r ih => cases w with
    | nil => simp [PyData.eqvAll]
    | cons y t =>
      rw [List.map_cons, List.map_cons, PyData.eqvAll, ih]
      have : PyData.eqv (.int x) (.int y) = decide (x = y) := by rw [PyData.eqv]; exact Bool.eq_iff_iff.mpr (by simp)
      rw [this, Bool.eq_iff_iff]
      simp
section
variable {K : PySem.W.Frag} {pn : Pn} {b : Nat} {F0 H0 F H : Hp} {σ : L2.St} {env : En} {j : Nat} {a : Addr} {P : Program} {w : World} {xs ys : List Ent}
theorem Rep.setN {v : Option V} (r : Rep K pn F H σ env b) : Rep K pn F H (σ.set j v) (env.set j none) b := by
  have get : ∀ (i : Nat) (s : Sl), (env.set j none)[i]? = some (some s) → i ≠ j ∧ env[i]? = some (some s) := fun i s h => by
    by_cases e : i = j
    · subst e
      have hl : i < env.length := by have := (List.getElem?_eq_some_iff.mp h).1; simpa using this
      rw [List.getElem?_set_self hl] at h
      cases h
    · rw [List.getElem?_set_ne (Ne.symm e)] at h
      exact ⟨e, h⟩
  refine ⟨r.ok, by simp [r.len], fun i s h => ?_, fun i k c us zs n h1 h2 h3 => ?_, r.tk⟩
  · obtain ⟨e, h⟩ := get i s h
    rw [List.getElem?_set_ne (Ne.symm e)]
    exact r.slot i s h
  · obtain ⟨e1, h1⟩ := get i _ h1
    rw [List.getElem?_set_ne (Ne.symm e1)] at h3
    rcases h2 with h2 | h2
    · obtain ⟨e2, h2⟩ := get k _ h2
      rw [List.getElem?_set_ne (Ne.symm e2)]
      exact r.apart i k c us zs n h1 (.inl h2) h3
    · obtain ⟨e2, h2⟩ := get k _ h2
      rw [List.getElem?_set_ne (Ne.symm e2)]
      exact r.apart i k c us zs n h1 (.inr h2) h3
theorem RepS.setN {v : Option V} (r : RepS K pn F0 H0 F H σ env b) : RepS K pn F0 H0 F H (σ.set j v) (env.set j none) b := by
  refine ⟨r.rep.setN, r.ext, fun i c us hq h1 h2 => ?_⟩
  by_cases e : i = j
  · subst e
    have hl : i < env.length := by have := (List.getElem?_eq_some_iff.mp h1).1; simpa using this
    rw [List.getElem?_set_self hl] at h1
    cases h1
  · rw [List.getElem?_set_ne (Ne.symm e)] at h1 h2
    exact r.own i c us hq h1 h2
theorem PenIs.apart (k : PenIs pn b F H) (h : H a = some (DOwn P w a xs)) : NotPen pn a ∧ NotCa pn a := by
  match pn, k with
  | none, _ => exact ⟨fun _ z => (nomatch z), fun _ z => (nomatch z)⟩
  | some q, ⟨_, _, _, tb, cells, at_, cur, h1, h2, _⟩ =>
    refine ⟨fun p e => ?_, fun p e z => ?_⟩
    · cases e
      refine ⟨fun z => (by rw [z, h1] at h; exact (nomatch h)), fun t ht z => ?_⟩
      obtain ⟨_, ps, hps, _⟩ := tb t ht
      rw [z, hps] at h; exact nomatch h
    · cases e; rw [z, h2] at h; exact nomatch h
theorem RepS.chg (r : RepS K pn F0 H0 F H σ env b) (h : H a = some (DOwn P w a xs)) (f : F a = none) (h0 : H0 a = none) : RepS K pn F0 H0 F (upd H a (DOwn P w a ys)) σ env b := by
  have own : ∀ {v : V} {us : List PyData}, OwnL K pn F H v us → OwnL K pn F (upd H a (DOwn P w a ys)) v us := fun ⟨c, vs, e, fc, p, q, hc, rc⟩ =>
    ⟨c, vs, e, fc, p, q, by rw [upd_ne (fun z => by rw [z, h] at hc; exact nomatch hc)]; exact hc, rc⟩
  refine ⟨⟨⟨fun c o q => ?_, ?_⟩, r.rep.len, fun i s hi => ?_, r.rep.apart, r.rep.tk⟩, ⟨r.ext.fsub, fun c o hc fc p => ?_⟩, r.own⟩
  · rw [upd_ne (fun z => by rw [z, f] at q; cases q)]; exact r.rep.ok.sub c o q
  · obtain ⟨np, nc⟩ := r.rep.ok.pen.apart h
    exact r.rep.ok.pen.wr np nc
  · obtain ⟨v, hv, sl⟩ := r.rep.slot i s hi
    refine ⟨v, hv, ?_⟩
    match s, sl with
    | .d x, sl => exact sl
    | .l zs, sl => exact own sl
    | .r zs, sl => exact own sl
    | .p, sl => exact sl
    | .k zs, ⟨c, us, e, fc, p, q, hc, rc⟩ => exact ⟨c, us, e, fc, p, q, by rw [upd_ne (fun z => by rw [z, h] at hc; exact nomatch hc)]; exact hc, rc⟩
  · obtain ⟨q1, q2⟩ := r.ext.keep c o hc fc p
    exact ⟨by rw [upd_ne (fun z => by rw [z, h0] at hc; cases hc)]; exact q1, q2⟩
end
section
variable {X : Cx} {j i1 i2 : Nat} {st1 : Stmt} {tg iter ef eg ew ev : Expr} {rest : List Stmt} {ti : WI} {tr : WS} {apos cpos pc pb pr pi pos : Pos} {jj : Nat}
theorem sb_keep {iw : Bool} (hu : X.A.units + 64 < cLine) (hp : PassesOwn (model X.prog X.w) X.A X.env X.xe) (hc : X.calm = true) (h1 : PS X st1 (tAsg (tOwnD X.prog X.w) (gName j))) (hi : PI X tg iter (lI X.K false iw ti)) (hg : PGt X tg (.tp [i1, i2]))
    (hf : PE X ef (tVar j)) (he1 : PE X eg (tVar i1)) (he2 : PE X ew (tVar i2)) (he3 : PE X ev (tVar i2)) (m : M2 X ef "setdefault" apos eg ew cpos) (hr : SB X rest tr) (n1 : j ≠ i1) (n2 : j ≠ i2) (n3 : i1 ≠ i2)
    (hs : ∀ x, foldedSetIterable iter X.env x = pure x := by intro _; rfl) :
    SB X (st1 :: .For tg iter [.If (.Compare (.Call (.Attribute ef "setdefault" apos) [eg, ew] [] cpos) [.NotEq] [ev] pc) [.Return (some (.Constant (.bool false) jj pb)) pr] [] pi] [] pos :: rest) (sKeep ti j i1 i2 tr) :=
  PSs.imp (pss_cons h1 (pss_cons (ps_for hp hc hi hg (pss_one (ps_if (pt_cmpR (opr_ne2 hu) (pe_setdT (by omega) hf he1 he2 m) he3 (nomark _)) (pss_one (ps_ret pe_bl)) pss_nil)) hs) hr))
    fun D σ H ⟨pn, F0, H0, F, env, b, PD, rep, ⟨⟨hj, hi1, hi2⟩, t⟩, k, r⟩ => by
  intro a ha
  have fa := rep.rep.ok.free ha
  have h0a : H0 a = none := (rep.fresh (v := .ref a) (fun c e => by cases e; exact ha) a rfl).1
  have rep1 : RepS X.K pn F0 H0 F (upd H a (DOwn X.prog X.w a [])) (σ.set j (some (.ref a))) (env.set j none) b := (rep.ext' (rep.rep.ok.own ha) (.own ha)).setN
  have lσ : j < σ.length := by rw [rep.rep.len]; exact hj
  show tSeq _ _ D (σ.set j (some (.ref a))) (upd H a (DOwn X.prog X.w a []))
  refine ⟨pn, F, env.set j none, b, _, rep1.rep, t, fun items F1 H1 b1 J o1 x1 it ⟨few, ks, ei, wk⟩ => ?_⟩
  have np0 := rep1.rep.ok.pen.apart (upd_same (H := H) (a := a) (o := DOwn X.prog X.w a []))
  obtain ⟨ha1, fa1⟩ := x1.keep a _ upd_same fa np0.1
  have lk : ks.length = items.length := by rw [ei, List.length_map]
  refine ⟨fun i m σ H => ∃ F env b xs seen, RepS X.K pn F0 H0 F H σ env b ∧ Same F1 F ∧ i + m = items.length ∧ env[j]? = some none ∧ σ[j]? = some (some (.ref a)) ∧ (i1 < env.length ∧ i2 < env.length) ∧ H a = some (DOwn X.prog X.w a xs) ∧ F a = none ∧
      (∀ x ∈ xs, SqT X.K F x.2.1 (x.1.map kV)) ∧ SeenE X.K F xs seen ∧ xs.length ≤ i ∧ wKeep i1 i2 { PD with nx := tr PD } seen (ks.drop i) env b,
    ⟨items.length, F1, env.set j none, b1, [], fun _ => none, rep1.ext' o1 x1, Same.refl _, by omega, List.getElem?_set_self hj, List.getElem?_set_self lσ, ⟨by rw [List.length_set]; exact hi1, by rw [List.length_set]; exact hi2⟩, ha1, fa1, fun x hx => (nomatch hx), fun ns => .inl ⟨rfl, rfl⟩, Nat.le_refl _, wk⟩, fun i m σ H hW => ?_⟩
  obtain ⟨F2, env2, b2, xs, seen, rep2, sm, em, ej, sj, ⟨l1, l2⟩, ha2, fa2, ents, sn, lx, w⟩ := hW
  obtain ⟨go, stop, yld⟩ := it i F2 H b2 rep2.rep.ok sm
  by_cases hi : i < items.length
  · refine .inr ⟨go hi, fun σ' H' => ∃ F env b xs seen, RepS X.K pn F0 H0 F H' σ' env b ∧ Same F1 F ∧ env[j]? = some none ∧ σ'[j]? = some (some (.ref a)) ∧ (i1 < env.length ∧ i2 < env.length) ∧ H' a = some (DOwn X.prog X.w a xs) ∧ F a = none ∧
        (∀ x ∈ xs, SqT X.K F x.2.1 (x.1.map kV)) ∧ SeenE X.K F xs seen ∧ xs.length ≤ i + 1 ∧ wKeep i1 i2 { PD with nx := tr PD } seen (ks.drop (i + 1)) env b, fun σ' H' hN => ?_, fun x H' hy => ?_⟩
    · obtain ⟨F', env', b', xs', seen', q1, q2, q3⟩ := hN
      exact ⟨m - 1, by omega, F', env', b', xs', seen', q1, q2, by omega, q3⟩
    · obtain ⟨F', d, hd, rv, o', x'⟩ := yld x H' hy hi
      have hik : i < ks.length := by omega
      rw [List.drop_eq_getElem_cons hik] at w
      generalize hp' : ks[i] = p at w
      have ed : d = pD p := by
        rw [ei, List.getElem?_map, List.getElem?_eq_getElem hik, hp'] at hd
        exact (Option.some.inj hd).symm
      subst ed
      obtain ⟨np2, _⟩ := rep2.rep.ok.pen.apart ha2
      obtain ⟨ha3, fa3⟩ := x'.keep a _ ha2 fa2 np2
      have rep3 := rep2.ext' o' x'
      have s3 := sm.trans x'.fsub
      have sn3 := sn.mono x'.fsub
      have ents3 : ∀ x ∈ xs, SqT X.K F' x.2.1 (x.1.map kV) := fun x hx => Same.tup x'.fsub (ents x hx)
      refine gT_run (F0 := F0) (H0 := H0) (env := env2) (env' := setAll [i1, i2] [tI p.1, tI p.2] env2) o' rv (.inr ⟨_, rfl⟩) rfl fun vs c1 _ => ?_
      have rep4 := c1 rep3
      have sj4 : (sT (.tp [i1, i2]) x vs σ)[j]? = some (some (.ref a)) := by
        show (vsAll [i1, i2] vs σ)[j]? = _
        rw [vsAll_ne (by simp [n1, n2])]
        exact sj
      generalize hσ : sT (.tp [i1, i2]) x vs σ = σ4 at rep4 sj4
      have ee : setAll [i1, i2] [tI p.1, tI p.2] env2 = (env2.set i1 (some (.d (tI p.1)))).set i2 (some (.d (tI p.2))) := rfl
      obtain ⟨v1, s1, r1⟩ := rep4.rep.slot i1 (.d (tI p.1)) (by rw [ee, List.getElem?_set_ne (Ne.symm n3), List.getElem?_set_self l1])
      obtain ⟨v2, s2, r2⟩ := rep4.rep.slot i2 (.d (tI p.2)) (by rw [ee, List.getElem?_set_self (by rw [List.length_set]; exact l2)])
      obtain ⟨g, eg, tg⟩ := tI_vals r1
      obtain ⟨c, ec, tc⟩ := tI_vals r2
      subst eg ec
      have ej4 : (setAll [i1, i2] [tI p.1, tI p.2] env2)[j]? = some none := by
        rw [ee, List.getElem?_set_ne (Ne.symm n2), List.getElem?_set_ne (Ne.symm n1)]
        exact ej
      have ll : i1 < (setAll [i1, i2] [tI p.1, tI p.2] env2).length ∧ i2 < (setAll [i1, i2] [tI p.1, tI p.2] env2).length := by
        rw [ee, List.length_set, List.length_set]
        exact ⟨l1, l2⟩
      have few' : xs.length < sizeLine := by omega
      refine ⟨.ref a, sj4, a, xs, rfl, ha3, .ref g, s1, .ref c, s2, xs, g, c, p.1.map Sum.inl, ha3, rfl, rfl, ?_, fun x hx => Same.tup o'.sub (ents3 x hx), few', fun q hq => ?_, fun hn => ?_⟩
      · rw [kV_inl]
        exact Same.tup o'.sub tg
      · -- there
        rcases sn3 p.1 with ⟨z, _⟩ | ⟨bb, c', u, z, su, ru⟩
        · rw [z] at hq; cases hq
        · rw [z] at hq
          cases hq
          refine ⟨c', rfl, .ref c, s2, ?_⟩
          unfold wKeep at w
          rw [su] at w
          have w : (if u = p.2 then wKeep i1 i2 { PD with nx := tr PD } seen (ks.drop (i + 1)) (setAll [i1, i2] [tI p.1, tI p.2] env2) b2 else PD.rt (.bool false) b2) := w
          refine o_ne2 pn b2 F' H' (.ref c') (.ref c) (tI u) (tI p.2) (fun z => z = .bool (!decide (u = p.2))) _ o' (.inl ru) (.inl r2) (.inl ⟨tI_shaped _, tI_shaped _, by rw [tI_eqv]⟩) fun y z F5 H5 o5 x5 rz ez => ?_
          subst ez
          cases rz
          refine ⟨_, rfl, ?_⟩
          have rep5 := rep4.ext' o5 x5
          obtain ⟨ha5, fa5⟩ := x5.keep a _ ha3 fa3 (o'.pen.apart ha3).1
          refine ite2 (fun h => ?_) (fun h => ?_)
          · have e : u ≠ p.2 := by simpa using h
            have w' : PD.rt (.bool false) b2 := by
              rw [if_neg e] at w
              exact w
            exact r.1 (.bl _) (.bool false) F5 H5 b2 o5 rep5.ext (.bl false) w'
          · have e : u = p.2 := by simpa using h
            have w' : wKeep i1 i2 { PD with nx := tr PD } seen (ks.drop (i + 1)) (setAll [i1, i2] [tI p.1, tI p.2] env2) b2 := by
              rw [if_pos e] at w
              exact w
            exact ⟨F5, _, b2, xs, seen, rep5, s3.trans x5.fsub, ej4, sj4, ll, ha5, fa5, fun x hx => Same.tup x5.fsub (ents3 x hx), sn3.mono x5.fsub, by omega, w'⟩
      · -- not there
        rcases sn3 p.1 with ⟨_, su⟩ | ⟨bb, c', u, z, _, _⟩
        · refine ⟨.ref c, s2, ?_⟩
          have w' : wKeep i1 i2 { PD with nx := tr PD } (fun x => if x = p.1 then some p.2 else seen x) (ks.drop (i + 1)) (setAll [i1, i2] [tI p.1, tI p.2] env2) b2 := by
            unfold wKeep at w
            rw [su] at w
            exact w
          have rep5 := rep4.chg (ys := xs ++ [(p.1.map Sum.inl, g, .ref c)]) ha3 fa3 h0a
          have ha5 : (upd H' a (DOwn X.prog X.w a (xs ++ [(p.1.map Sum.inl, g, .ref c)]))) a = some (DOwn X.prog X.w a (xs ++ [(p.1.map Sum.inl, g, .ref c)])) := upd_same
          refine o_ne2 pn b2 F' _ (.ref c) (.ref c) (tI p.2) (tI p.2) (fun z => z = .bool (!decide (p.2 = p.2))) _ rep5.rep.ok (.inl r2) (.inl r2) (.inl ⟨tI_shaped _, tI_shaped _, by rw [tI_eqv]⟩) fun y z F5 H5 o5 x5 rz ez => ?_
          subst ez
          cases rz
          refine ⟨_, rfl, ?_⟩
          obtain ⟨ha6, fa6⟩ := x5.keep a _ ha5 fa3 (rep5.rep.ok.pen.apart ha5).1
          refine ite2 (fun h => absurd h (by simp)) (fun h => ?_)
          refine ⟨F5, _, b2, _, _, rep5.ext' o5 x5, s3.trans x5.fsub, ej4, sj4, ll, ha6, fa6, fun x hx => ?_, (sn3.put hn r2).mono x5.fsub, by rw [List.length_append]; simp; omega, w'⟩
          rcases List.mem_append.mp hx with hx | hx
          · exact Same.tup x5.fsub (ents3 x hx)
          · rw [List.mem_singleton.mp hx, kV_inl]
            exact Same.tup x5.fsub tg
        · rw [z] at hn; cases hn
  · have e0 : ks.drop i = [] := List.drop_of_length_le (by omega)
    rw [e0] at w
    exact .inl ⟨stop (by omega), pn, F0, H0, F2, env2, b2, PD, rep2, w, k, r⟩
end
end Pu
namespace PuT
open PySem PySem.Spec PyProof.Rows L2
end PuT
namespace Pu
open PySem PySem.Spec PyProof.Rows L2 SeqAt PuT
end Pu
namespace Pu
open PySem PySem.Spec PyProof.Rows L2 SeqAt PuS
section
variable {ta tb tc : WE} {tt tu : WT} {tf : WF} {ti : WI} {env : En} {n : Nat} {i j i1 i2 : Nat} {tr : WS} {N : En → Nat → Prop} {R : PyData → Nat → Prop} {B C : En → Nat → Prop}
theorem keep_run {PD : PEnds} {b : Nat} (h1 : ∀ e, PD.nx e b) : ∀ (ks : List Kp) (s : List Int → Option (List Int)) (e : En), keepB s ks = true → wKeep i1 i2 PD s ks e b
  | [], s, e, _ => h1 e
  | p :: r, s, e, h => by
    unfold wKeep
    unfold keepB at h
    cases q : s p.1 with
    | none => rw [q] at h; exact keep_run h1 r _ _ h
    | some u =>
      rw [q] at h
      simp only at h ⊢
      by_cases c : u = p.2
      · rw [if_pos c] at h ⊢; exact keep_run h1 r _ _ h
      · rw [if_neg c] at h; cases h
theorem keep_runF {PD : PEnds} {b : Nat} (h1 : PD.rt (.bool false) b) : ∀ (ks : List Kp) (s : List Int → Option (List Int)) (e : En), keepB s ks = false → wKeep i1 i2 PD s ks e b
  | [], s, e, h => by cases h
  | p :: r, s, e, h => by
    unfold wKeep
    unfold keepB at h
    cases q : s p.1 with
    | none => rw [q] at h; exact keep_runF h1 r _ _ h
    | some u =>
      rw [q] at h
      simp only at h ⊢
      by_cases c : u = p.2
      · rw [if_pos c] at h ⊢; exact keep_runF h1 r _ _ h
      · rw [if_neg c]; exact h1
theorem n_keep (hl : j < env.length ∧ i1 < env.length ∧ i2 < env.length) (h : ME ti (env.set j none) n fun xs m => xs.length < sizeLine ∧ ∃ ks : List Kp, xs = ks.map pD ∧
    (keepB (fun _ => none) ks = true → ∀ e, MS tr e m N R B C) ∧ (keepB (fun _ => none) ks = false → R (.bool false) m)) : MS (sKeep ti j i1 i2 tr) env n N R B C := fun PD b hb kn kr kb kc =>
  ⟨hl, h b _ hb fun xs m b1 ⟨few, ks, e, h1, h2⟩ hb1 => ⟨few, ks, e, by
    cases q : keepB (fun _ => none) ks with
    | true => exact keep_run (PD := { PD with nx := tr PD }) (fun e' => h1 q e' PD b1 hb1 kn kr kb kc) ks _ _ q
    | false => exact keep_runF (PD := { PD with nx := tr PD }) (kr _ m b1 (h2 q) hb1) ks _ _ q⟩⟩
end
theorem index_sg {K : List Nat} {c : Nat} (hn : K.Nodup) (hc : c ∈ K) : eIndex (tx K) (sg c) = some (.int (K.idxOf c : Nat)) := by
  have h1 := StrLaws.found_one (tx K) c
  rw [show (tx K).cps.toList = K from Ls_tx K, decide_eq_true hc] at h1
  obtain ⟨f, ch⟩ := StrLaws.occ_chain (tx K) ⟨#[c]⟩ 1
  show (match Builtin.Str.occurrences (tx K) ⟨#[c]⟩ 0 (tx K).length 1 with | i :: _ => some (PyData.int (i : Nat)) | [] => none) = _
  cases e : Builtin.Str.occurrences (tx K) ⟨#[c]⟩ 0 (tx K).length 1 with
  | nil => rw [e] at h1; cases h1
  | cons i r =>
    rw [e] at ch
    have h2 := (StrLaws.subAt_one (tx K) c i).mp ch.2.1
    rw [show (tx K).cps.toList = K from Ls_tx K] at h2
    obtain ⟨hi, h3⟩ := List.getElem?_eq_some_iff.mp h2
    have h4 : K.idxOf c < K.length := List.idxOf_lt_length_iff.mpr hc
    have h5 : K[K.idxOf c] = c := List.getElem_idxOf h4
    have : i = K.idxOf c := (List.getElem_inj hn).mp (by rw [h3, h5])
    rw [this]
/-- the row's cells in these columns -/
def prj (K : List Nat) (part : List Nat) (r : List Int) : List Int := part.map fun c => r.getD (K.idxOf c) 0
def fitsB (K : List Nat) (rules : List (List Nat × Nat)) (keys : List (List Nat)) (r o : List Int) : Bool :=
  (rules.all fun p => !decide (prj K p.1 r = prj K p.1 o) || decide (prj K [p.2] r = prj K [p.2] o)) && keys.all fun k => !decide (prj K k r = prj K k o)
def ruleB (K : List Nat) (p : List Nat × Nat) (rows : List (List Int)) : Bool := keepB (fun _ => none) ((rows.map (prj K p.1)).zip (rows.map (prj K [p.2])))
def keyB (K : List Nat) (k : List Nat) (rows : List (List Int)) : Bool := decide ((dist (rows.map (prj K k))).length = rows.length)
def tabB (K : List Nat) (rules : List (List Nat × Nat)) (keys : List (List Nat)) (rows : List (List Int)) : Bool := (rules.all fun p => ruleB K p rows) && keys.all fun k => keyB K k rows
theorem keep_iff : ∀ (ks : List Kp) (s : List Int → Option (List Int)), keepB s ks = true ↔ (∀ p ∈ ks, ∀ u, s p.1 = some u → u = p.2) ∧ ks.Pairwise fun p q => p.1 = q.1 → p.2 = q.2
  | [], s => by simp [keepB]
  | p :: r, s => by
    unfold keepB
    cases q : s p.1 with
    | some u =>
      simp only
      by_cases c : u = p.2
      · rw [if_pos c, keep_iff r s, List.pairwise_cons]
        constructor
        · rintro ⟨h1, h2⟩
          refine ⟨fun x hx u' e => ?_, fun x hx e => ?_, h2⟩
          · rcases List.mem_cons.mp hx with z | hx
            · subst z; rw [q] at e; cases e; exact c
            · exact h1 x hx u' e
          · rw [← c]; exact h1 x hx u (by rw [← e]; exact q)
        · rintro ⟨h1, h2, h3⟩
          exact ⟨fun x hx => h1 x (List.mem_cons_of_mem _ hx), h3⟩
      · rw [if_neg c]
        constructor
        · intro h; cases h
        · rintro ⟨h1, _⟩
          exact absurd (h1 p List.mem_cons_self u q) c
    | none =>
      simp only
      rw [keep_iff r _, List.pairwise_cons]
      constructor
      · rintro ⟨h1, h2⟩
        refine ⟨fun x hx u' e => ?_, fun x hx e => ?_, h2⟩
        · rcases List.mem_cons.mp hx with z | hx
          · subst z; rw [q] at e; cases e
          · refine h1 x hx u' ?_
            rw [if_neg (fun z => by rw [z, q] at e; cases e)]
            exact e
        · exact h1 x hx p.2 (if_pos e.symm)
      · rintro ⟨h1, h2, h3⟩
        refine ⟨fun x hx u' e => ?_, h3⟩
        by_cases z : x.1 = p.1
        · rw [if_pos z] at e; cases e; exact h2 x hx z.symm
        · rw [if_neg z] at e; exact h1 x (List.mem_cons_of_mem _ hx) u' e
theorem zip_pw {α β : Type} {R : α × β → α × β → Prop} {γ : Type} (f : γ → α) (g : γ → β) : ∀ l : List γ, ((l.map f).zip (l.map g)).Pairwise R ↔ l.Pairwise fun x y => R (f x, g x) (f y, g y)
  | [] => by simp
  | x :: l => by
    rw [List.map_cons, List.map_cons, List.zip_cons_cons, List.pairwise_cons, List.pairwise_cons, zip_pw f g l]
    constructor
    · rintro ⟨h1, h2⟩
      exact ⟨fun y hy => h1 (f y, g y) (by rw [List.zip_map']; exact List.mem_map.mpr ⟨y, hy, rfl⟩), h2⟩
    · rintro ⟨h1, h2⟩
      refine ⟨fun p hp => ?_, h2⟩
      rw [List.zip_map'] at hp
      obtain ⟨y, hy, rfl⟩ := List.mem_map.mp hp
      exact h1 y hy
theorem ruleB_iff {K : List Nat} {p : List Nat × Nat} {rows : List (List Int)} : ruleB K p rows = true ↔ rows.Pairwise fun r o => prj K p.1 r = prj K p.1 o → prj K [p.2] r = prj K [p.2] o := by
  unfold ruleB
  rw [keep_iff, zip_pw]
  exact ⟨fun h => h.2, fun h => ⟨fun _ _ _ e => (nomatch e), h⟩⟩
theorem keyB_iff {K : List Nat} {k : List Nat} {rows : List (List Int)} : keyB K k rows = true ↔ rows.Pairwise fun r o => prj K k r ≠ prj K k o := by
  unfold keyB
  rw [decide_eq_true_eq]
  have := dist_nodup (rows.map (prj K k))
  rw [List.length_map] at this
  rw [this]
  unfold List.Nodup
  rw [List.pairwise_map]
theorem pw_all {α β : Type} (R : β → α → α → Prop) (l : List α) : ∀ bs : List β, (∀ b ∈ bs, l.Pairwise (R b)) ↔ l.Pairwise fun x y => ∀ b ∈ bs, R b x y
  | [] => ⟨fun _ => by
      induction l with
      | nil => exact .nil
      | cons x l ih => exact List.pairwise_cons.mpr ⟨fun _ _ _ h => (nomatch h), ih fun _ h => (nomatch h)⟩, fun _ _ h => (nomatch h)⟩
  | b :: bs => by
    rw [List.forall_mem_cons, pw_all R l bs, ← List.pairwise_and_iff]
    constructor
    · intro h
      exact h.imp fun h => List.forall_mem_cons.mpr h
    · intro h
      exact h.imp fun h => List.forall_mem_cons.mp h
theorem fitsB_iff {K : List Nat} {rules : List (List Nat × Nat)} {keys : List (List Nat)} {r o : List Int} : fitsB K rules keys r o = true ↔ (∀ p ∈ rules, prj K p.1 r = prj K p.1 o → prj K [p.2] r = prj K [p.2] o) ∧ ∀ k ∈ keys, prj K k r ≠ prj K k o := by
  unfold fitsB
  rw [Bool.and_eq_true, List.all_eq_true, List.all_eq_true]
  refine and_congr (forall_congr' fun p => forall_congr' fun _ => ?_) (forall_congr' fun k => forall_congr' fun _ => ?_)
  · by_cases e : prj K p.1 r = prj K p.1 o <;> by_cases f : prj K [p.2] r = prj K [p.2] o <;> simp [e, f]
  · by_cases e : prj K k r = prj K k o <;> simp [e]
theorem fitsB_symm {K : List Nat} {rules : List (List Nat × Nat)} {keys : List (List Nat)} {r o : List Int} : fitsB K rules keys r o = fitsB K rules keys o r := by
  rw [Bool.eq_iff_iff, fitsB_iff, fitsB_iff]
  exact ⟨fun h => ⟨fun p hp e => (h.1 p hp e.symm).symm, fun k hk e => h.2 k hk e.symm⟩, fun h => ⟨fun p hp e => (h.1 p hp e.symm).symm, fun k hk e => h.2 k hk e.symm⟩⟩
theorem tabB_iff {K : List Nat} {rules : List (List Nat × Nat)} {keys : List (List Nat)} {rows : List (List Int)} : tabB K rules keys rows = true ↔ rows.Pairwise fun o r => fitsB K rules keys r o = true := by
  unfold tabB
  rw [Bool.and_eq_true, List.all_eq_true, List.all_eq_true]
  have e1 : (∀ p ∈ rules, ruleB K p rows = true) ↔ ∀ p ∈ rules, rows.Pairwise fun r o => prj K p.1 r = prj K p.1 o → prj K [p.2] r = prj K [p.2] o := forall_congr' fun p => forall_congr' fun _ => ruleB_iff
  have e2 : (∀ k ∈ keys, keyB K k rows = true) ↔ ∀ k ∈ keys, rows.Pairwise fun r o => prj K k r ≠ prj K k o := forall_congr' fun k => forall_congr' fun _ => keyB_iff
  rw [e1, e2, pw_all (fun p r o => prj K p.1 r = prj K p.1 o → prj K [p.2] r = prj K [p.2] o) rows rules, pw_all (fun k r o => prj K k r ≠ prj K k o) rows keys, ← List.pairwise_and_iff]
  constructor
  · intro h
    exact h.imp fun h => by rw [fitsB_symm]; exact fitsB_iff.mpr h
  · intro h
    exact h.imp fun h => by rw [fitsB_symm] at h; exact fitsB_iff.mp h
end Pu
namespace Pu
open PySem PySem.Spec PyProof.Rows L2 SeqAt PuS
section
variable {ta : WE} {tt : WT} {ti : WI} {env : En} {n : Nat} {Q : PyData → Nat → Prop} {QL : List PyData → Nat → Prop} {g : Tg} {own : List Nat} {α : Type}
theorem m_lcM (zs : List α) (dz y : α → PyData) (h : ME ti env n fun xs m => xs = zs.map dz ∧ zs.length < sizeLine ∧
      (∀ z ∈ zs, ∃ e', setT g (dz z) (wipeE env own) = some e' ∧ ∀ m, ME ta e' m fun d m1 => d = y z ∧ m1 = m) ∧ QL (zs.map y) m) : ME (fLc ti g wYes ta own) env n QL :=
  m_lc (h.imp fun xs m ⟨ex, l, each, q⟩ => ⟨by rw [ex, List.length_map]; exact l, fun rest acc m1 => m1 = m ∧ ∃ pre post, zs = pre ++ post ∧ rest = post.map dz ∧ acc = pre.map y, ⟨rfl, [], zs, rfl, ex, rfl⟩, fun x rest acc m1 ⟨em, pre, post, e1, e2, e3⟩ => by
    subst em
    cases post with
    | nil => cases e2
    | cons z post =>
    rw [List.map_cons] at e2
    obtain ⟨rfl, rfl⟩ := List.cons.inj e2
    obtain ⟨e', h1, h3⟩ := each z (by rw [e1]; simp)
    refine ⟨e', h1, m_yes ⟨fun _ => (h3 m1).imp fun d m3 ⟨ed, em⟩ => ?_, fun h => Bool.noConfusion h⟩⟩
    subst ed em
    exact ⟨rfl, pre ++ [z], post, by rw [e1]; simp, rfl, by rw [e3]; simp⟩, fun acc m1 ⟨em, pre, post, e1, e2, e3⟩ => by
    subst em
    have e0 : post = [] := by cases post with | nil => rfl | cons c r => cases e2
    subst e0
    rw [List.append_nil] at e1
    subst e1
    rw [e3]
    exact q⟩)
theorem m_lcK (zs : List α) (dz y : α → PyData) (c : α → Bool) (h : ME ti env n fun xs m => xs = zs.map dz ∧ zs.length < sizeLine ∧
      (∀ z ∈ zs, ∃ e', setT g (dz z) (wipeE env own) = some e' ∧ (∀ m, ME tt e' m fun k m1 => k = c z ∧ m1 = m) ∧ ∀ m, ME ta e' m fun d m1 => d = y z ∧ m1 = m) ∧ QL ((zs.filter c).map y) m) : ME (fLc ti g tt ta own) env n QL :=
  m_lc (h.imp fun xs m ⟨ex, l, each, q⟩ => ⟨by rw [ex, List.length_map]; exact l, fun rest acc m1 => m1 = m ∧ ∃ pre post, zs = pre ++ post ∧ rest = post.map dz ∧ acc = (pre.filter c).map y, ⟨rfl, [], zs, rfl, ex, rfl⟩, fun x rest acc m1 ⟨em, pre, post, e1, e2, e3⟩ => by
    subst em
    cases post with
    | nil => cases e2
    | cons z post =>
    rw [List.map_cons] at e2
    obtain ⟨rfl, rfl⟩ := List.cons.inj e2
    obtain ⟨e', h1, h2, h3⟩ := each z (by rw [e1]; simp)
    refine ⟨e', h1, (h2 m1).imp fun k m2 ⟨ek, em⟩ => ?_⟩
    subst ek em
    refine ⟨fun ck => (h3 m2).imp fun d m3 ⟨ed, em⟩ => ?_, fun ck => ?_⟩
    · subst ed em
      exact ⟨rfl, pre ++ [z], post, by rw [e1]; simp, rfl, by rw [e3, List.filter_append, List.map_append]; simp [ck]⟩
    · exact ⟨rfl, pre ++ [z], post, by rw [e1]; simp, rfl, by rw [e3, List.filter_append, List.map_append]; simp [ck]⟩, fun acc m1 ⟨em, pre, post, e1, e2, e3⟩ => by
    subst em
    have e0 : post = [] := by cases post with | nil => rfl | cons c r => cases e2
    subst e0
    rw [List.append_nil] at e1
    subst e1
    rw [e3]
    exact q⟩)
end
end Pu
namespace Pu
section
variable {K : List Nat} {rules : List (List Nat × Nat)} {keys : List (List Nat)} {X f g : List Nat}
/-- all of the part are found -/
def inB (part found : List Nat) : Bool := part.all fun c => decide (c ∈ found)
theorem inB_iff {part found : List Nat} : inB part found = true ↔ ∀ c ∈ part, c ∈ found := by simp [inB]
structure Closed (K : List Nat) (rules : List (List Nat × Nat)) (keys : List (List Nat)) (S : Nat → Prop) : Prop where
  rule : ∀ p ∈ rules, (∀ c ∈ p.1, S c) → S p.2
  key : ∀ k ∈ keys, (∀ c ∈ k, S c) → ∀ c ∈ K, S c
/-- between the columns and each closed set that holds them -/
structure Btw (K : List Nat) (rules : List (List Nat × Nat)) (keys : List (List Nat)) (X f : List Nat) : Prop where
  low : ∀ c ∈ X, c ∈ f
  high : ∀ S, Closed K rules keys S → (∀ c ∈ X, S c) → ∀ c ∈ f, S c
theorem btw_one (h1 : Btw K rules keys X f) (h2 : Btw K rules keys X g) (c1 : Closed K rules keys (· ∈ f)) (c2 : Closed K rules keys (· ∈ g)) (c : Nat) : c ∈ f ↔ c ∈ g :=
  ⟨fun h => h1.high _ c2 h2.low c h, fun h => h2.high _ c1 h1.low c h⟩
/-- a round of the package's -/
def rnd (K : List Nat) (rules : List (List Nat × Nat)) (keys : List (List Nat)) (f : List Nat) : List Nat :=
  if keys.any (fun k => inB k f) = true then K else K.filter fun c => decide (c ∈ f ++ (rules.filter fun p => inB p.1 f).map (·.2))
def rnds (K : List Nat) (rules : List (List Nat × Nat)) (keys : List (List Nat)) : Nat → List Nat → List Nat
  | 0, f => f
  | n + 1, f => rnds K rules keys n (rnd K rules keys f)
theorem rnd_btw (hr : ∀ p ∈ rules, p.2 ∈ K) (hf : ∀ c ∈ f, c ∈ K) (h : Btw K rules keys X f) : Btw K rules keys X (rnd K rules keys f) := by
  unfold rnd
  by_cases a : keys.any (fun k => inB k f) = true
  · rw [if_pos a]
    obtain ⟨k, hk, hi⟩ := List.any_eq_true.mp a
    exact ⟨fun c hc => hf c (h.low c hc), fun S cl hX c hc => cl.key k hk (fun d hd => h.high S cl hX d (inB_iff.mp hi d hd)) c hc⟩
  · rw [if_neg a]
    refine ⟨fun c hc => List.mem_filter.mpr ⟨hf c (h.low c hc), by simp [h.low c hc]⟩, fun S cl hX c hc => ?_⟩
    have := of_decide_eq_true (List.mem_filter.mp hc).2
    rcases List.mem_append.mp this with hc | hc
    · exact h.high S cl hX c hc
    · obtain ⟨p, hp, rfl⟩ := List.mem_map.mp hc
      obtain ⟨hp, hi⟩ := List.mem_filter.mp hp
      exact cl.rule p hp fun d hd => h.high S cl hX d (inB_iff.mp hi d hd)
theorem rnd_in : ∀ c ∈ rnd K rules keys f, c ∈ K := fun c hc => by
  unfold rnd at hc
  split at hc
  · exact hc
  · exact (List.mem_filter.mp hc).1
theorem rnd_sub (f : List Nat) : (rnd K rules keys f).Sublist K := by
  unfold rnd
  split
  · exact List.Sublist.refl _
  · exact List.filter_sublist
theorem sub_filter : ∀ {K f : List Nat}, K.Nodup → f.Sublist K → K.filter (fun c => decide (c ∈ f)) = f
  | [], f, _, h => by rw [List.sublist_nil.mp h]; rfl
  | k :: K, f, nd, h => by
    obtain ⟨h1, h2⟩ := List.nodup_cons.mp nd
    cases h with
    | cons _ h =>
      have : k ∉ f := fun q => h1 (h.subset q)
      rw [List.filter_cons_of_neg (by simpa using this)]
      exact sub_filter h2 h
    | @cons_cons f _ _ h =>
      rw [List.filter_cons_of_pos (by simp)]
      have e : K.filter (fun c => decide (c ∈ k :: f)) = K.filter (fun c => decide (c ∈ f)) := List.filter_congr fun c hc => by
        have : c ≠ k := fun e => h1 (e ▸ hc)
        simp [this]
      rw [e, sub_filter h2 h]
theorem rnd_grow (nd : K.Nodup) (h : f.Sublist K) : f.Sublist (rnd K rules keys f) := by
  unfold rnd
  split
  · exact h
  · have e := sub_filter nd h
    have : (K.filter fun c => decide (c ∈ f)).Sublist (K.filter fun c => decide (c ∈ f ++ (rules.filter fun p => inB p.1 f).map (·.2))) := by
      have e2 : (K.filter fun c => decide (c ∈ f)) = (K.filter fun c => decide (c ∈ f ++ (rules.filter fun p => inB p.1 f).map (·.2))).filter fun c => decide (c ∈ f) := by
        rw [List.filter_filter]
        refine List.filter_congr fun c _ => ?_
        by_cases q : c ∈ f <;> simp [q]
      rw [e2]
      exact List.filter_sublist
    rw [e] at this
    exact this
theorem fix_closed (hr : ∀ p ∈ rules, p.2 ∈ K) (e : rnd K rules keys f = f) : Closed K rules keys (· ∈ f) := by
  constructor
  · intro p hp hc
    rw [← e]
    unfold rnd
    split
    · exact hr p hp
    · refine List.mem_filter.mpr ⟨hr p hp, decide_eq_true ?_⟩
      exact List.mem_append_right _ (List.mem_map.mpr ⟨p, List.mem_filter.mpr ⟨hp, inB_iff.mpr hc⟩, rfl⟩)
  · intro k hk hc c hK
    have a : keys.any (fun k => inB k f) = true := List.any_eq_true.mpr ⟨k, hk, inB_iff.mpr hc⟩
    rw [← e]
    unfold rnd
    rw [if_pos a]
    exact hK
theorem rnds_fix (e : rnd K rules keys f = f) : ∀ n, rnds K rules keys n f = f
  | 0 => rfl
  | n + 1 => by
    show rnds K rules keys n (rnd K rules keys f) = f
    rw [e]
    exact rnds_fix e n
theorem rnds_end (nd : K.Nodup) : ∀ (n : Nat) (f : List Nat), f.Sublist K → K.length ≤ f.length + n → rnd K rules keys (rnds K rules keys n f) = rnds K rules keys n f
  | 0, f, h, hn => by
    have e : f = K := h.eq_of_length (Nat.le_antisymm h.length_le hn)
    subst e
    show rnd f rules keys f = f
    exact (rnd_sub f).eq_of_length (Nat.le_antisymm (rnd_sub f).length_le (rnd_grow nd h).length_le)
  | n + 1, f, h, hn => by
    by_cases e : rnd K rules keys f = f
    · rw [rnds_fix e (n + 1)]
      exact e
    · have g1 := rnd_grow (rules := rules) (keys := keys) nd h
      have : f.length ≠ (rnd K rules keys f).length := fun q => e (g1.eq_of_length q).symm
      have := g1.length_le
      exact rnds_end nd n _ (rnd_sub f) (by omega)
theorem rnds_btw (hr : ∀ p ∈ rules, p.2 ∈ K) : ∀ (n : Nat) (f : List Nat), (∀ c ∈ f, c ∈ K) → Btw K rules keys X f → Btw K rules keys X (rnds K rules keys n f)
  | 0, _, _, h => h
  | n + 1, f, hf, h => rnds_btw hr n _ rnd_in (rnd_btw hr hf h)
theorem rnds_sub : ∀ (n : Nat) (f : List Nat), f.Sublist K → (rnds K rules keys n f).Sublist K
  | 0, _, h => h
  | n + 1, f, _ => rnds_sub n _ (rnd_sub f)
/-- the closure -/
def clos (K : List Nat) (rules : List (List Nat × Nat)) (keys : List (List Nat)) (X : List Nat) : List Nat := rnds K rules keys K.length X
theorem clos_spec (nd : K.Nodup) (hr : ∀ p ∈ rules, p.2 ∈ K) (h : X.Sublist K) : Btw K rules keys X (clos K rules keys X) ∧ Closed K rules keys (· ∈ clos K rules keys X) ∧ (clos K rules keys X).Sublist K :=
  ⟨rnds_btw hr _ _ (fun c hc => h.subset hc) ⟨fun c hc => hc, fun S _ hX c hc => hX c hc⟩, fix_closed hr (rnds_end nd _ _ h (by omega)), rnds_sub _ _ h⟩
/-- whatever stands between and is closed, is the closure -/
theorem clos_of (nd : K.Nodup) (hr : ∀ p ∈ rules, p.2 ∈ K) (h : X.Sublist K) (hb : Btw K rules keys X g) (hc : Closed K rules keys (· ∈ g)) : K.filter (fun c => decide (c ∈ g)) = clos K rules keys X := by
  obtain ⟨b1, b2, b3⟩ := clos_spec (keys := keys) nd hr h
  have e : K.filter (fun c => decide (c ∈ g)) = K.filter fun c => decide (c ∈ clos K rules keys X) := List.filter_congr fun c _ => by
    have := btw_one hb b1 hc b2 c
    simp [this]
  rw [e, sub_filter nd b3]
/-- one rule of the law's turn -/
def addR (f : List Nat) (p : List Nat × Nat) : List Nat := if inB p.1 f = true ∧ p.2 ∉ f then f ++ [p.2] else f
def turnL (K : List Nat) (rules : List (List Nat × Nat)) (keys : List (List Nat)) (f : List Nat) : List Nat :=
  if keys.any (fun k => inB k (rules.foldl addR f)) = true then K else rules.foldl addR f
theorem addR_len (f : List Nat) (p : List Nat × Nat) : f.length ≤ (addR f p).length := by
  unfold addR
  split
  · rw [List.length_append]; omega
  · exact Nat.le_refl _
theorem foldR_len : ∀ (rs : List (List Nat × Nat)) (f : List Nat), f.length ≤ (rs.foldl addR f).length
  | [], _ => Nat.le_refl _
  | p :: rs, f => Nat.le_trans (addR_len f p) (foldR_len rs _)
theorem foldR_same : ∀ (rs : List (List Nat × Nat)) (f : List Nat), (rs.foldl addR f).length = f.length → rs.foldl addR f = f ∧ ∀ p ∈ rs, (∀ c ∈ p.1, c ∈ f) → p.2 ∈ f
  | [], _, _ => ⟨rfl, fun _ h => (nomatch h)⟩
  | p :: rs, f, h => by
    have h1 := addR_len f p
    have h2 := foldR_len rs (addR f p)
    have h3 : (rs.foldl addR (addR f p)).length = f.length := h
    have e : addR f p = f ∧ ((∀ c ∈ p.1, c ∈ f) → p.2 ∈ f) := by
      have hl : (addR f p).length = f.length := by omega
      unfold addR at hl ⊢
      by_cases c : inB p.1 f = true ∧ p.2 ∉ f
      · rw [if_pos c, List.length_append] at hl
        simp at hl
      · rw [if_neg c]
        refine ⟨rfl, fun hc => ?_⟩
        by_cases q : p.2 ∈ f
        · exact q
        · exact absurd ⟨inB_iff.mpr hc, q⟩ c
    have h4 : rs.foldl addR (addR f p) = rs.foldl addR f := by rw [e.1]
    obtain ⟨i1, i2⟩ := foldR_same rs f (by rw [← h4]; exact h3)
    refine ⟨h4.trans i1, fun q hq => ?_⟩
    rcases List.mem_cons.mp hq with z | hq
    · subst z; exact e.2
    · exact i2 q hq
end
end Pu
namespace Pu
open PySem PySem.Spec PyProof.Rows L2 SeqAt PuS
/-- while, by a number that each turn makes smaller -/
theorem n_while {c : WT} {body : WS} {env : En} {n k0 : Nat} {N : En → Nat → Prop} {R : PyData → Nat → Prop} {B C : En → Nat → Prop} (I : Nat → En → Nat → Prop) (h0 : I k0 env n)
    (step : ∀ k e m, I k e m → ME c e m fun t m1 => (t = true → ∃ k', k = k' + 1 ∧ MS body e m1 (fun e2 m2 => I k' e2 m2) R N (fun e2 m2 => I k' e2 m2)) ∧ (t = false → N e m1)) : MS (sWhile c body) env n N R B C := fun PD b hb kn kr kb kc => by
  have run : ∀ (k : Nat) (e : En) (m b : Nat), I k e m → m ≤ b → wWhile c body PD (k + 1) e b := by
    intro k
    induction k with
    | zero =>
      intro e m b hI hb
      show c e b _
      refine step 0 e m hI b _ hb fun t m1 b1 ⟨h1, h2⟩ hb1 => ?_
      cases t with
      | true => obtain ⟨k', e, _⟩ := h1 rfl; exact absurd e (by omega)
      | false => exact kn e m1 b1 (h2 rfl) hb1
    | succ k ih =>
      intro e m b hI hb
      show c e b _
      refine step (k + 1) e m hI b _ hb fun t m1 b1 ⟨h1, h2⟩ hb1 => ?_
      cases t with
      | true =>
        obtain ⟨k', ek, hm⟩ := h1 rfl
        have : k' = k := by omega
        subst this
        exact hm _ b1 hb1 (fun e2 m2 b2 q h => ih e2 m2 b2 q h) kr kn (fun e2 m2 b2 q h => ih e2 m2 b2 q h)
      | false => exact kn e m1 b1 (h2 rfl) hb1
  exact ⟨k0 + 1, run k0 env n b h0 hb⟩
end Pu
namespace Pu
open PySem PySem.Spec PyProof.Rows L2 SeqAt PuS
end Pu
namespace PuT
open PySem PySem.Spec PyProof.Rows L2 PuS Pu
section
variable {P : Program} {w : World} {A : Around} {E : Value → Shared → Prop} {s : Shared}
abbrev TKy (P : Program) (w : World) (h : Heap) (k : List Key) (a : Addr) : Prop := IsTupleKey (mixKind P w) h k a
abbrev hsh (P : Program) (w : World) (k : List Key) : Int := tupleKeyHash (mixKind P w) k
/-- an int or a text -/
def Sm (v : Value) : Prop := (∃ i t, v = .int i t) ∨ ∃ z t, v = .str z t
theorem items_sm {k : List Key} {vs : List Value} (h : ItemsAre (mixKind P w) k vs) : ∀ u ∈ vs, Sm u := by
  induction h with
  | nil => exact fun u hu => absurd hu List.not_mem_nil
  | cons h1 _ ih =>
    refine fun u hu => (List.mem_cons.mp hu).elim (fun e => ?_) (ih u)
    subst e
    rcases keyIs_shape h1 with ⟨i, t, _, q⟩ | ⟨z, t, _, q⟩
    · exact .inl ⟨i, t, q⟩
    · exact .inr ⟨z, t, q⟩
theorem cls_sm {u : Value} (h : Sm u) (n : Nat) : ofAClassStatement n u = pure false := by
  rcases h with ⟨i, t, rfl⟩ | ⟨z, t, rfl⟩ <;> cases n <;> rfl
theorem hbv_sm {u : Value} (h : Sm u) (n : Nat) : hashByValue n u = pure (plainKind u) := hashByValue_scannable n (by rcases h with ⟨i, t, rfl⟩ | ⟨z, t, rfl⟩ <;> rfl)
theorem cls_tky {k : List Key} {b : Addr} {Q : Bool → Shared → Prop} (x : TKy P w s.heap k b) (q : Q false s) : wpAny (model P w) A (ofAClassStatement 8 (.ref b)) Q E s := by
  have ty := x.typeIs
  obtain ⟨o, its, n, e1, e2, e3, e4⟩ := x
  have sm := items_sm e4
  unfold ofAClassStatement
  refine wpAny_bind (wpAny_typeOf ty ?_)
  dsimp only
  simp only [show (("tuple" : String) == "tuple") = true from by decide, if_true, Bool.not_true, Bool.false_eq_true, if_false]
  try refine wpAny_bind (wpAny_pure ?_)
  try simp only [Bool.not_true, Bool.false_eq_true, if_false]
  refine wpAny_bind (m := seqItems? (.ref b)) (wpAny_seqItems e1 e3 ?_)
  dsimp only
  refine wpAny_bind ?_
  show wpAny (model P w) A (forIn its _ _) _ _ _
  rw [← Array.forIn_toList]
  refine wpAny_forIn_list _ (fun todo acc s2 => (s2 = s ∧ acc.1 = none) ∧ ∀ u ∈ todo, Sm u) _ (fun u todo acc s2 z => ?_) (fun acc s2 z => ?_) _ _ ⟨⟨rfl, rfl⟩, sm⟩
  · obtain ⟨⟨rfl, _⟩, each⟩ := z
    rw [cls_sm (each u List.mem_cons_self)]
    refine wpAny_bind (wpAny_pure ?_)
    simp only [Bool.false_eq_true, if_false]
    exact wpAny_pure ⟨⟨rfl, rfl⟩, fun y hy => each y (List.mem_cons_of_mem _ hy)⟩
  · obtain ⟨a1, a2⟩ := acc
    obtain ⟨⟨rfl, z1⟩, _⟩ := z
    cases z1
    exact wpAny_pure q
theorem hbv_tky {k : List Key} {b : Addr} {Q : Bool → Shared → Prop} (x : TKy P w s.heap k b) (q : ∀ r, Q r s) : wpAny (model P w) A (hashByValue 8 (.ref b)) Q E s := by
  have ty := x.typeIs
  obtain ⟨o, its, n, e1, e2, e3, e4⟩ := x
  have sm := items_sm e4
  unfold hashByValue
  refine wpAny_bind (wpAny_specialOf ty F.slot_tuple_hash.lookup ?_)
  refine wpAny_bind (m := seqItems? (.ref b)) (wpAny_seqItems e1 e3 ?_)
  refine wpAny_bind ?_
  show wpAny (model P w) A (forIn its _ _) _ _ _
  rw [← Array.forIn_toList]
  refine wpAny_forIn_list _ (fun todo acc s2 => (s2 = s ∧ acc.1 = none) ∧ ∀ u ∈ todo, Sm u) _ (fun u todo acc s2 z => ?_) (fun acc s2 z => ?_) _ _ ⟨⟨rfl, rfl⟩, sm⟩
  · obtain ⟨⟨rfl, _⟩, each⟩ := z
    rw [hbv_sm (each u List.mem_cons_self)]
    refine wpAny_bind (wpAny_pure ?_)
    cases plainKind u with
    | true =>
      simp only [Bool.not_true, Bool.false_eq_true, if_false]
      exact wpAny_pure ⟨⟨rfl, rfl⟩, fun y hy => each y (List.mem_cons_of_mem _ hy)⟩
    | false =>
      simp only [Bool.not_false, if_true]
      exact wpAny_pure (wpAny_pure (q false))
  · obtain ⟨a1, a2⟩ := acc
    obtain ⟨⟨rfl, z1⟩, _⟩ := z
    cases z1
    exact wpAny_pure (q true)
theorem byv {α : Type} {k : List Key} {b : Addr} {k2 : Bool → Sem α} {Q : α → Shared → Prop} (fl : Bool) (x : TKy P w s.heap k b) (q : ∀ r, wpAny (model P w) A (k2 r) Q E s) :
    wpAny (model P w) A (if fl = true then hashByValue 8 (.ref b) >>= k2 else pure true >>= k2) Q E s := by
  cases fl with
  | true => exact wpAny_bind (hbv_tky x q)
  | false => exact wpAny_bind (wpAny_pure (q true))
theorem _root_.L2.TabOk.same {t t2 : SetTable} {hs : List Int} (T : TabOk t hs) (e1 : t2.place = t.place) (e2 : t2.dummies = t.dummies) (e3 : t2.mask = t.mask) : TabOk t2 hs :=
  ⟨by rw [e1]; exact T.ris, e2.trans T.dm, by rw [e1]; exact T.sz, by rw [e3]; exact T.mok, by rw [e1, e3]; exact T.bd, by rw [e1, e3]; exact T.reach⟩
/-- nobody sees a search among tuples -/
theorem unseen {k : List Key} {b : Addr} {Q : Bool → Shared → Prop} (x : TKy P w s.heap k b) {us : List Value} (hu : ∀ u ∈ us, ∃ k2 c, TKy P w s.heap k2 c ∧ u = .ref c) (q : Q false s) : wpAny (model P w) A (searchCouldBeSeen (.ref b) us) Q E s := by
  unfold searchCouldBeSeen
  refine wpAny_bind (wpAny_forIn_list _ (fun todo acc s2 => (s2 = s ∧ acc.1 = none) ∧ ∀ u ∈ todo, ∃ k2 c, TKy P w s.heap k2 c ∧ u = .ref c) _ (fun u todo acc s2 z => ?_) (fun acc s2 z => ?_) _ _ ⟨⟨rfl, rfl⟩, hu⟩)
  · obtain ⟨⟨rfl, _⟩, each⟩ := z
    obtain ⟨k2, c, y, rfl⟩ := each u List.mem_cons_self
    have next : ∀ u ∈ todo, ∃ k2 c, TKy P w s2.heap k2 c ∧ u = .ref c := fun y hy => each y (List.mem_cons_of_mem _ hy)
    dsimp only
    rcases Bool.eq_false_or_eq_true (b == c || (carriedByValue (.ref b) && carriedByValue (.ref c))) with g | g
    · exact wp_if_pos g (wpAny_pure ⟨⟨rfl, rfl⟩, next⟩)
    · refine wp_if_neg (by rw [g]; exact Bool.false_ne_true) (wpAny_bind (wpAny_eqIsQuiet_tuple x ?_))
      simp only [Bool.not_true, Bool.false_eq_true, if_false]
      refine wpAny_bind (wpAny_eqIsQuiet_tuple y ?_)
      simp only [Bool.not_true, Bool.false_eq_true, if_false]
      refine wpAny_bind (cls_tky x ?_)
      simp only [Bool.false_eq_true, if_false]
      refine wpAny_bind (cls_tky y ?_)
      simp only [Bool.false_eq_true, if_false]
      exact wpAny_pure ⟨⟨rfl, rfl⟩, next⟩
  · obtain ⟨a1, a2⟩ := acc
    obtain ⟨⟨rfl, z1⟩, _⟩ := z
    cases z1
    exact wpAny_pure q
def rowOf (P : Program) (w : World) (q : Addr × List Key) : Int × Value := (hsh P w q.2, .ref q.1)
/-- the set at b: its members m (where, what), row for row -/
structure Lies (P : Program) (w : World) (h : Heap) (b : Addr) (m : List (Addr × List Key)) (rows : Array (Int × Value)) (e : Nat) (t : SetTable) : Prop where
  obj : ∃ o, h.get? b = some o ∧ o.ExactSet ∧ o.data = .set rows e t
  eqs : rows.toList = m.map (rowOf P w)
  good : TabOk t (m.map fun q => hsh P w q.2)
  once : (m.map (·.2)).Nodup
  each : ∀ q ∈ m, TKy P w h q.2 q.1
  ledg : w.params.followText "set-order" = true ∨ t.led = true
  air : m.length * 5 < t.mask * 3
  most : m.length < 64
variable {b : Addr} {m : List (Addr × List Key)} {rows : Array (Int × Value)} {e : Nat} {t : SetTable}
theorem eqs_len (h : rows.toList = m.map (rowOf P w)) : rows.size = m.length := by
  rw [← Array.length_toList, h, List.length_map]
theorem fit_of (sz : t.place.size = rows.size) (dm : t.dummies = #[]) (le : rows.size ≤ t.mask) : t.fits rows.size = true := by
  unfold SetTable.fits SetTable.fill
  rw [dm]
  simp only [Bool.and_eq_true, beq_iff_eq, decide_eq_true_eq, List.size_toArray, List.length_nil]
  exact ⟨sz, by omega⟩
theorem Lies.place (R : Lies P w s.heap b m rows e t) : t.place.size = m.length := R.good.sz.trans (List.length_map _)
theorem Lies.fit (R : Lies P w s.heap b m rows e t) : t.fits rows.size = true := fit_of (R.place.trans (eqs_len R.eqs).symm) R.good.dm (by have := eqs_len R.eqs; have := R.air; omega)
theorem row_at (h : rows.toList = m.map (rowOf P w)) {i : Nat} {q : Addr × List Key} (hi : m[i]? = some q) : rows[i]? = some (rowOf P w q) := by
  rw [← Array.getElem?_toList, h, List.getElem?_map, hi, Option.map_some]
theorem Lies.sound (R : Lies P w s.heap b m rows e t) : ¬ t.gaveWay = true := by
  show ¬ (t.mask % 2 == 0) = true
  rw [mask_odd R.good.mok]
  decide
end
end PuT
namespace PuT
open PySem PySem.Spec PyProof.Rows L2 PuS Pu
section
variable {P : Program} {w : World} {A : Around} {E : Value → Shared → Prop} {s : Shared} {b : Addr} {m : List (Addr × List Key)} {rows : Array (Int × Value)} {e : Nat} {t : SetTable}
theorem nth_plain (mk : Nat) : ∀ (n : Nat) (p : SetTable.Probe), p.dummy = none → (nth mk p n).dummy = none
  | 0, _, h => h
  | n + 1, p, h => nth_plain mk n (adv mk p) (by unfold adv; split <;> exact h)
/-- the search, as adding asks for it: the tuple is there, or the first free slot on its way -/
theorem look (R : Lies P w s.heap b m rows e t) {x : Addr} {k : List Key} (hx : TKy P w s.heap k x) (hu : A.units < cLine) {Q : SetFound → Shared → Prop} (inn : k ∈ m.map (·.2) → Q (.there none) s)
    (out : ∀ K, k ∉ m.map (·.2) → way t.mask (hsh P w k) K ∉ t.place.toList → (∀ c, c < K → way t.mask (hsh P w k) c ∈ t.place.toList) → Q (.free (way t.mask (hsh P w k) K) false) s) :
    wpAny (model P w) A (setSearch b (.ref x) (hsh P w k) true) Q E s := by
  have air := R.air
  obtain ⟨K, lim, nK, occ⟩ := R.good.first (by rw [List.length_map]; omega) (hsh P w k)
  have out := fun z => out K z nK occ
  have small : 10 * SetTable.turns t.mask ≤ 99000 := by
    unfold SetTable.turns
    rcases R.good.mok with z | z | z <;> omega
  have siz := R.place
  -- where a member of this key stands: on the way, ahead of K
  have ahead : ∀ (i : Nat) (q : Addr × List Key), m[i]? = some q → q.2 = k → ∃ c, c < K ∧ t.place.toList[i]? = some (way t.mask (hsh P w k) c) := fun i q hq hk => by
    have il : i < t.place.toList.length := by
      rw [Array.length_toList, siz]
      exact (List.getElem?_eq_some_iff.mp hq).1
    obtain ⟨c, c1, c2⟩ := R.good.before (i := i) nK (by rw [List.getElem?_map, hq, ← hk]; rfl) (List.getElem?_eq_getElem il)
    exact ⟨c, c1, by rw [c2]; exact List.getElem?_eq_getElem il⟩
  obtain ⟨o, ho, hex, hd⟩ := R.obj
  suffices walk : ∀ (f c : Nat) (at_ : Option SetTable.Probe), at_.getD (t.probeStart (hsh P w k)) = nth t.mask (t.probeStart (hsh P w k)) c → c ≤ K → K - c < f →
      (∀ (i : Nat) (q : Addr × List Key), m[i]? = some q → q.2 = k → ∃ c2, c ≤ c2 ∧ c2 < K ∧ t.place.toList[i]? = some (way t.mask (hsh P w k) c2)) →
      wpAny (model P w) A (setSearchFrom b (.ref x) (hsh P w k) true f at_) Q E s by
    unfold setSearch
    exact walk 100000 0 none rfl (Nat.zero_le K) (by omega) fun i q hq hk => let ⟨c, c1, c2⟩ := ahead i q hq hk; ⟨c, Nat.zero_le c, c1, c2⟩
  intro f
  induction f with
  | zero => exact fun c _ _ _ z => absurd z (Nat.not_lt_zero _)
  | succ f ih =>
    intro c at_ ea le lt on
    rw [setSearchFrom_succ]
    refine wpAny_bind (wpAny_setState_of ho hd R.fit ?_)
    dsimp only
    refine wp_if_neg R.sound ?_
    try refine wpAny_bind (wpAny_pure ?_)
    have wj : ∀ n, (nth t.mask (t.probeStart (hsh P w k)) n).j = way t.mask (hsh P w k) n := fun _ => rfl
    have hv : ∀ (i : Nat) (q : Addr × List Key), m[i]? = some q → (rows[i]?.map (·.1)).getD 0 = hsh P w q.2 := fun i q hq => by
      rw [row_at R.eqs hq]
      rfl
    have sp := go_spec t R.good.ris R.good.dm (fun i => (rows[i]?.map (·.1)).getD 0) (hsh P w k) (10 * SetTable.turns t.mask) (K - c) (nth t.mask (t.probeStart (hsh P w k)) c) (nth_plain _ _ _ rfl) (by omega)
      (fun n hn => by rw [← nth_add, wj]; exact occ _ (by omega)) (by rw [← nth_add, wj, show c + (K - c) = K by omega]; exact nK)
    simp only [← nth_add, wj] at sp
    rcases sp with ⟨n, i, s1, s2, s3, s4, s5⟩ | ⟨s4, s5⟩
    · have pr : t.probe (fun i => (rows[i]?.map (·.1)).getD 0) (hsh P w k) (at_.getD (t.probeStart (hsh P w k))) = _ := (congrArg (t.probe _ _) ea).trans s5
      rw [pr]
      dsimp only
      have il : i < m.length := by
        rw [← siz, ← Array.length_toList]
        exact (List.getElem?_eq_some_iff.mp s2).1
      obtain ⟨q, hq⟩ : ∃ q, m[i]? = some q := ⟨_, List.getElem?_eq_getElem il⟩
      have qm := List.mem_of_getElem? hq
      have slot := slot_live R.good.ris s2
      have tail : wpAny (model P w) A (searchRest b (.ref x) (hsh P w k) true f rows t (way t.mask (hsh P w k) (c + n)) i (nth t.mask (t.probeStart (hsh P w k)) (c + (n + 1)))) Q E s := by
        unfold searchRest
        rw [row_at R.eqs hq]
        dsimp only [rowOf]
        refine wpAny_bind (wpAny_holding (wpAny_eqBool_tuple hu (R.each q qm) hx (wpAny_bind (wpAny_setState_of ho hd R.fit ?_))))
        dsimp only
        by_cases same : q.2 = k
        · exact wp_if_pos (by simp [same]) (wpAny_pure (inn (List.mem_map.mpr ⟨q, qm, same⟩)))
        · refine wp_if_neg (by simp [same]) ?_
          try refine wpAny_bind (wpAny_pure ?_)
          rw [sameMem]
          dsimp only
          simp only [if_true, slot, row_at R.eqs hq, rowOf]
          refine wpAny_bind (wpAny_isSame_ref_self (wpAny_bind (wpAny_pure ?_)))
          simp only [if_true]
          refine wp_if_neg (by simp [same]) (ih (c + (n + 1)) _ rfl (by omega) (by omega) fun i2 q2 h2 k2 => ?_)
          obtain ⟨c2, g1, g2, g3⟩ := on i2 q2 h2 k2
          refine ⟨c2, ?_, g2, g3⟩
          rcases Nat.lt_trichotomy c2 (c + n) with z | z | z
          · refine absurd ((hv i2 q2 h2).trans (by rw [k2])) (s4 (c2 - c) i2 (by omega) ?_)
            rw [show c + (c2 - c) = c2 by omega]
            exact g3
          · rw [z] at g3
            have two := (slot_live R.good.ris g3).symm.trans slot
            injection two with two
            rw [two, hq] at h2
            injection h2 with h2
            exact absurd (by rw [h2]; exact k2) same
          · omega
      by_cases hl : t.led = true
      · refine wp_if_neg (by rw [hl]; decide) ?_
        try refine wpAny_bind (wpAny_pure ?_)
        exact tail
      · refine wp_if_pos (by simp [hl]) (wpAny_bind (unseen hx (fun y hy => ?_) (wp_if_neg (by decide) ?_)))
        · obtain ⟨r, hr, rfl⟩ := List.mem_map.mp hy
          have r1 : r ∈ rows.toList := by
            have z : r ∈ rows ∧ r.1 = hsh P w k := by simpa using hr
            exact Array.mem_toList_iff.mpr z.1
          rw [R.eqs] at r1
          obtain ⟨q2, h2, rfl⟩ := List.mem_map.mp r1
          exact ⟨q2.2, q2.1, R.each q2 h2, rfl⟩
        · try refine wpAny_bind (wpAny_pure ?_)
          exact tail
    · have pr : t.probe (fun i => (rows[i]?.map (·.1)).getD 0) (hsh P w k) (at_.getD (t.probeStart (hsh P w k))) = _ := (congrArg (t.probe _ _) ea).trans s5
      rw [pr]
      dsimp only
      have eK : c + (K - c) = K := by omega
      rw [eK]
      refine wpAny_pure (out fun z => ?_)
      obtain ⟨q, qm, qk⟩ := List.mem_map.mp z
      obtain ⟨i, hi⟩ := List.getElem?_of_mem qm
      obtain ⟨c2, g1, g2, g3⟩ := on i q hi qk
      refine absurd ((hv i q hi).trans (by rw [qk])) (s4 (c2 - c) i (by omega) ?_)
      rw [show c + (c2 - c) = c2 by omega]
      exact g3
end
end PuT
namespace PuT
open PySem PySem.Spec PyProof.Rows L2 PuS Pu
section
variable {P : Program} {w : World} {A : Around} {E : Value → Shared → Prop} {s : Shared} {b : Addr} {m : List (Addr × List Key)} {rows : Array (Int × Value)} {e : Nat} {t : SetTable}
theorem tky_but {h h2 : Heap} {k : List Key} {a : Addr} {o : Obj} (x : TKy P w h k a) (ho : h.get? b = some o) (hd : o.data = .set rows e t) (sb : Heap.SameBut b h h2) : TKy P w h2 k a := by
  obtain ⟨o2, its, n, e1, e2, e3, e4⟩ := x
  refine ⟨o2, its, n, (sb.2 a fun z => ?_).trans e1, e2, e3, e4⟩
  rw [z, ho] at e1
  injection e1 with e1
  rw [← e1, hd] at e3
  cases e3
theorem all_range {α : Type} (l : List α) : (List.range l.length).filterMap (fun i => l[i]?) = l := by
  have h : (List.range l.length).map (fun i => l[i]?) = l.map some := by
    refine List.ext_getElem (by simp) fun i h1 h2 => ?_
    simp at h1
    simp [h1]
  have g : (List.range l.length).filterMap (fun i => l[i]?) = ((List.range l.length).map (fun i => l[i]?)).filterMap id := by
    rw [List.filterMap_map]
    rfl
  rw [g, h, List.filterMap_map]
  exact List.filterMap_some
theorem in_order (er : rows.toList = m.map (rowOf P w)) : ∀ l : List Nat, (∀ i ∈ l, i < m.length) →
    l.filterMap (fun i => rows[i]?) = (l.filterMap (fun i => m[i]?)).map (rowOf P w) ∧ (l.filterMap (fun i => m[i]?)).map (fun q => hsh P w q.2) = l.map fun i => (rows.map (·.1)).getD i 0
  | [], _ => ⟨rfl, rfl⟩
  | i :: l, h => by
    obtain ⟨g1, g2⟩ := in_order er l fun j hj => h j (List.mem_cons_of_mem _ hj)
    obtain ⟨q, hq⟩ : ∃ q, m[i]? = some q := ⟨_, List.getElem?_eq_getElem (h i List.mem_cons_self)⟩
    have hr := row_at er hq
    have hg : (rows.map (·.1)).getD i 0 = hsh P w q.2 := by
      rw [Array.getD_eq_getD_getElem?, Array.getElem?_map, hr]
      rfl
    rw [List.filterMap_cons_some hr, List.filterMap_cons_some hq, List.map_cons, List.map_cons, List.map_cons, g1, g2, hg]
    exact ⟨rfl, rfl⟩
theorem laid_anew {o : Obj} (ho : s.heap.get? b = some o) (hex : o.ExactSet) (hd : o.data = .set rows e t) (er : rows.toList = m.map (rowOf P w)) (sz : t.place.size = rows.size) (dm : t.dummies = #[]) (le : rows.size ≤ t.mask)
    (once : (m.map (·.2)).Nodup) (each : ∀ q ∈ m, TKy P w s.heap q.2 q.1) (ledg : w.params.followText "set-order" = true ∨ t.led = true) (most : m.length < 64) {want M : Nat} (ew : SetTable.sizeAbove want - 1 = M) (okM : MaskOk M)
    (cap : SetTable.sizeAbove want ≤ 128) (air : m.length * 5 < M * 3) {Q : Unit → Shared → Prop} (kq : ∀ h2 m2 rows2 e2 t2, Heap.SameBut b s.heap h2 → Lies P w h2 b m2 rows2 e2 t2 → m2.Perm m → Q () { s with heap := h2 }) :
    wpAny (model P w) A (setRelay b want) Q E s := by
  have rl := eqs_len er
  obtain ⟨t2, ord, e1, e2, e3, e4, e5, e6, e7⟩ := relaid_ok t (hs := rows.map (·.1)) (wanted := want) ew okM (by rw [Array.size_map, rl]; omega)
  rw [Array.size_map, rl] at e2
  obtain ⟨g1, g2⟩ := in_order er ord.toList fun i hi => List.mem_range.mp (e2.mem_iff.mp hi)
  have pm : (ord.toList.filterMap (fun i => m[i]?)).Perm m := by
    have := e2.filterMap (fun i => m[i]?)
    rwa [all_range] at this
  have g3 : (ord.filterMap (rows[·]?)).toList = (ord.toList.filterMap (fun i => m[i]?)).map (rowOf P w) := by rw [Array.toList_filterMap]; exact g1
  rw [← g2] at e3
  generalize ord.toList.filterMap (fun i => m[i]?) = m2 at pm g3 e3
  have zz : (ord.filterMap (rows[·]?)).size = rows.size := (eqs_len g3).trans (pm.length_eq.trans rl.symm)
  rw [setRelay_eq]
  refine wpAny_bind (wpAny_setState_of ho hd (fit_of sz dm le) ?_)
  dsimp only
  refine wp_if_neg (by rw [sizeLine_eq]; omega) ?_
  try refine wpAny_bind (wpAny_pure ?_)
  rw [e1]
  dsimp only
  refine wpAny_bind (wp_if_neg (by rw [zz]; simp) ?_)
  try refine wpAny_bind (wpAny_pure ?_)
  refine wpAny_pure ?_
  dsimp only
  have sb := Heap.SameBut.update s.heap b (Obj.putSet (ord.filterMap (rows[·]?)) t2)
  refine wpAny_storeSet_of ho hd (kq _ m2 (ord.filterMap (rows[·]?)) (e + 1) t2 sb ?_ pm) (by rw [zz, rl, sizeLine_eq]; omega)
  exact { obj := ⟨_, store_at ho hd, hex, rfl⟩, eqs := g3, good := e3, once := (pm.map (·.2)).nodup_iff.mpr once, each := fun q hq => tky_but (each q (pm.mem_iff.mp hq)) ho hd sb
          ledg := ledg.imp id fun z => e5.trans z, air := by rw [pm.length_eq, e4]; exact air, most := by rw [pm.length_eq]; exact most }
theorem put_in (R : Lies P w s.heap b m rows e t) {x : Addr} {k : List Key} (hx : TKy P w s.heap k x) (hu : A.units < cLine) (few : m.length + 1 < 64) {Q : Bool → Shared → Prop}
    (kq : ∀ r h2 m2 rows2 e2 t2, Heap.SameBut b s.heap h2 → Lies P w h2 b m2 rows2 e2 t2 → (k ∈ m.map (·.2) → m2 = m) → (k ∉ m.map (·.2) → m2.Perm ((x, k) :: m)) → Q r { s with heap := h2 }) :
    wpAny (model P w) A (setAddHashed b (.ref x) (hsh P w k)) Q E s := by
  obtain ⟨o, ho, hex, hd⟩ := R.obj
  have rl := eqs_len R.eqs
  have air := R.air
  unfold setAddHashed
  refine wpAny_holding ?_
  rw [show (100000 : Nat) = 99999 + 1 from rfl, setAddHashedIn_succ]
  refine wpAny_bind (wpAny_setState_of ho hd R.fit ?_)
  dsimp only
  refine wp_if_neg (by simp [byScan, Value.scannable]) ?_
  try refine wpAny_bind (wpAny_pure ?_)
  refine wpAny_bind (look R hx hu (fun inn => wpAny_pure (kq false s.heap m rows e t (Heap.SameBut.refl b s.heap) R (fun _ => rfl) fun z => absurd inn z)) fun K out nK occ => ?_)
  dsimp only
  refine wpAny_bind (wpAny_setState_of ho hd R.fit ?_)
  dsimp only
  obtain ⟨p1, p2, p3, p4, p5, -, -, -, p9⟩ := R.good.put nK occ
  rw [List.length_map] at p2 p9
  generalize t.put (way t.mask (hsh P w k) K) = tp at p1 p3 p4 p5 p9 ⊢
  obtain ⟨t1, at_⟩ := tp
  dsimp only at p1 p3 p4 p5 p9 ⊢
  rw [← p1] at p2 p3
  clear p1
  refine byv _ hx fun r => ?_
  generalize ht2 : (if r = true then t1 else { t1 with plain := false }) = t2
  have f1 : t2.place = t1.place := by subst ht2; cases r <;> rfl
  have f2 : t2.dummies = t1.dummies := by subst ht2; cases r <;> rfl
  have f3 : t2.mask = t1.mask := by subst ht2; cases r <;> rfl
  have f4 : t2.led = t1.led := by subst ht2; cases r <;> rfl
  replace p3 := p3.same f1 f2 f3
  replace p4 := f3.trans p4
  replace p5 := f4.trans p5
  replace p9 : t2.fill = m.length + 1 := by
    rw [← p9]
    show t2.place.size + t2.dummies.size = t1.place.size + t1.dummies.size
    rw [f1, f2]
  clear ht2 f1 f2 f3 f4
  clear r
  generalize t2 = t1 at p3 p4 p5 p9 ⊢
  have pm := put_perm m at_ (x, k)
  have q1 : (SetTable.insertAt rows at_ (hsh P w k, Value.ref x)).toList = (m.take at_ ++ (x, k) :: m.drop at_).map (rowOf P w) := by
    rw [SetTable.toList_insertAt, R.eqs, List.map_append, List.map_cons, List.map_take, List.map_drop]
    rfl
  have q2 : (m.map fun q => hsh P w q.2).take at_ ++ hsh P w k :: (m.map fun q => hsh P w q.2).drop at_ = (m.take at_ ++ (x, k) :: m.drop at_).map fun q => hsh P w q.2 := by
    rw [List.map_append, List.map_cons, List.map_take, List.map_drop]
  rw [q2] at p3
  generalize m.take at_ ++ (x, k) :: m.drop at_ = m1 at pm q1 p3
  generalize SetTable.insertAt rows at_ (hsh P w k, Value.ref x) = rows1 at q1 ⊢
  have l1 : m1.length = m.length + 1 := pm.length_eq
  have r1 := eqs_len q1
  have sb := Heap.SameBut.update s.heap b (Obj.putSet rows1 t1)
  have ho1 := store_at (es' := rows1) (t' := t1) ho hd
  refine wpAny_bind (wpAny_storeSet_of ho hd ?_ (by rw [r1, l1, sizeLine_eq]; omega))
  generalize s.heap.update b (Obj.putSet rows1 t1) = h1 at sb ho1 ⊢
  have once : (m1.map (·.2)).Nodup := (pm.map (·.2)).nodup_iff.mpr (by rw [List.map_cons]; exact List.nodup_cons.mpr ⟨out, R.once⟩)
  have each : ∀ q ∈ m1, TKy P w h1 q.2 q.1 := fun q hq => (List.mem_cons.mp (pm.mem_iff.mp hq)).elim (fun z => by rw [z]; exact tky_but hx ho hd sb) fun z => tky_but (R.each q z) ho hd sb
  have ledg : w.params.followText "set-order" = true ∨ t1.led = true := R.ledg.imp id fun z => p5.trans z
  have full : t1.tooFull = decide ((m.length + 1) * 5 ≥ t1.mask * 3) := by
    unfold SetTable.tooFull
    rw [p9]
  by_cases tf : t1.tooFull = true
  · first
      | (refine wpAny_bind ?_; refine wp_if_pos (by simp [tf]) ?_)
      | (refine wp_if_pos (by simp [tf]) ?_; refine wpAny_bind ?_)
    have tf2 := tf
    rw [full, decide_eq_true_eq, p4] at tf2
    rw [rl]
    have which : (t.mask = 7 ∧ m.length + 1 = 5) ∨ (t.mask = 31 ∧ m.length + 1 = 19) := by
      rcases R.good.mok with z | z | z <;> rw [z] at air tf2 <;> omega
    have le1 : rows1.size ≤ t1.mask := by
      rw [p4, r1, l1]
      omega
    have sz1 : t1.place.size = rows1.size := by rw [p3.sz, List.length_map, r1]
    have more : ∀ M, SetTable.sizeAbove (SetTable.grown (m.length + 1)) - 1 = M → MaskOk M → SetTable.sizeAbove (SetTable.grown (m.length + 1)) ≤ 128 → (m.length + 1) * 5 < M * 3 →
        wpAny (model P w) A (setRelay b (SetTable.grown (m.length + 1))) (fun _ s2 => wpAny (model P w) A (pure true) Q E s2) E { s with heap := h1 } := fun M z1 z2 z3 z4 =>
      laid_anew (s := { s with heap := h1 }) ho1 hex rfl q1 sz1 p3.dm le1 once each ledg (by omega) z1 z2 z3 (by rw [l1]; exact z4) fun h2 m2 rows2 e2 t2 sb2 R2 pm2 =>
        wpAny_pure (kq true h2 m2 rows2 e2 t2 (sb.trans sb2) R2 (fun z => absurd z out) fun _ => pm2.trans pm)
    rcases which with ⟨-, z⟩ | ⟨-, z⟩
    · exact more 31 (by rw [z, size_20]) (.inr (.inl rfl)) (by rw [z, size_20]; decide) (by omega)
    · exact more 127 (by rw [z, size_76]) (.inr (.inr rfl)) (by rw [z, size_76]; decide) (by omega)
  · first
      | refine wp_if_neg (by simp [tf]) ?_
      | (refine wpAny_bind ?_; refine wp_if_neg (by simp [tf]) ?_; refine wpAny_pure ?_)
    have tf2 := tf
    rw [full, decide_eq_true_eq] at tf2
    exact wpAny_pure (kq true h1 m1 rows1 (e + 1) t1 sb { obj := ⟨_, ho1, hex, rfl⟩, eqs := q1, good := p3, once := once, each := each, ledg := ledg, air := by omega, most := by omega } (fun z => absurd z out) fun _ => pm)
end
end PuT
namespace PuT
open PySem PySem.Spec PyProof.Rows L2 PuS Pu
section
variable {P : Program} {w : World} {A : Around} {E : Value → Shared → Prop} {s : Shared} {b : Addr} {m : List (Addr × List Key)} {rows : Array (Int × Value)} {e : Nat} {t : SetTable}
theorem Lies.on {h h2 : Heap} (R : Lies P w h b m rows e t) (ob : ∀ o, h.get? b = some o → h2.get? b = some o) (ea : ∀ q ∈ m, TKy P w h2 q.2 q.1) : Lies P w h2 b m rows e t :=
  { R with obj := let ⟨o, x, y⟩ := R.obj; ⟨o, ob o x, y⟩, each := ea }
theorem tky_up {h h2 : Heap} {k : List Key} {a : Addr} (x : TKy P w h k a) (u : ∀ c o, h.get? c = some o → h2.get? c = some o) : TKy P w h2 k a :=
  let ⟨o, its, n, e1, r⟩ := x; ⟨o, its, n, u _ _ e1, r⟩
/-- the set at S holds the first i of ks; what stood in h0 still stands -/
def Hold (P : Program) (w : World) (h0 : Heap) (S : Addr) (ks : List (Addr × List Key)) (i : Nat) (h : Heap) : Prop :=
  (∀ c o, h0.get? c = some o → h.get? c = some o) ∧ ∃ m rows e t, Lies P w h S m rows e t ∧ m.length ≤ i ∧ (∀ q ∈ m, q ∈ ks) ∧ ∀ z, z ∈ m.map (·.2) ↔ z ∈ (ks.take i).map (·.2)
theorem hold_new {h0 h : Heap} {S : Addr} {ks : List (Addr × List Key)} (u : ∀ c o, h0.get? c = some o → h.get? c = some o) (ho : h.get? S = some { cls := .type "set", dict := none, data := .set #[] 0 (.fresh 0 0 (!w.params.followText "set-order")) }) : Hold P w h0 S ks 0 h :=
  ⟨u, [], #[], 0, _, { obj := ⟨_, ho, ⟨rfl, rfl, rfl⟩, rfl⟩, eqs := rfl, good := ⟨List.Pairwise.nil, rfl, rfl, .inl rfl, fun x hx => absurd hx List.not_mem_nil, fun i h j hi => by simp at hi⟩, once := List.nodup_nil
                       each := fun q hq => absurd hq List.not_mem_nil, ledg := by show _ ∨ (!w.params.followText "set-order") = true; cases w.params.followText "set-order" <;> simp
                       air := by show 0 * 5 < 7 * 3; decide, most := by show 0 < 64; decide }, Nat.le_refl _, fun q hq => absurd hq List.not_mem_nil, fun z => by simp⟩
theorem loopT {R : Result → Shared → Prop} {I S : Addr} {fp wr : List Addr} {G : Array GenState → Array GenState → Prop} {n : Nat} {Pv : Nat → Value → Prop} {St : Nat → Shared → Prop} (W : WalksS P w A.in1 I fp wr G n Pv St) (nS : S ∉ fp)
    {h0 : Heap} {ks : List (Addr × List Key)} (hn : n = ks.length) (few : ks.length < 64) (hu : A.in1.units < cLine) (val : ∀ i v, Pv i v → ∃ q, ks[i]? = some q ∧ v = .ref q.1) (each : ∀ q ∈ ks, TKy P w h0 q.2 q.1) (S0 : h0.get? S = none)
    (wr0 : ∀ c ∈ wr, h0.get? c = none) :
    ∀ (m i : Nat) (s : Shared), n - i = m → i ≤ n → St i s → Hold P w h0 S ks i s.heap → (∀ s', Moved (S :: wr) G s s' → Hold P w h0 S ks n s'.heap → R (.ok (.ret .none)) s') →
      codeAny (model P w) A (.builtin "set.update.loop" ⟨[.ref S, .ref I], []⟩) R s := by
  have nw : S ∉ wr := fun z => nS (W.sub _ z)
  have up : ∀ b ∈ wr, b ∈ S :: wr := fun b z => List.mem_cons_of_mem _ z
  have mvd : ∀ {i : Nat} {s s' : Shared}, Moved wr G s s' → Hold P w h0 S ks i s.heap → Hold P w h0 S ks i s'.heap := fun mv ⟨a1, m, rows, e, t, a2, a3, a4, a5⟩ => by
    have k0 : ∀ c o, h0.get? c = some o → _ := fun c o z => mv.heap c o (fun zz => by rw [wr0 c zz] at z; cases z) (a1 c o z)
    exact ⟨k0, m, rows, e, t, a2.on (fun o z => mv.heap S o nw z) (fun q hq => tky_up (each q (a4 q hq)) k0), a3, a4, a5⟩
  intro m
  induction m with
  | zero =>
    intro i s e0 e1 st R0 hR
    obtain rfl : i = n := by omega
    refine codeAny_builtin F.entry_set_update_loop ?_
    rw [Around.under_plainId F.plain_set_update_loop _]
    exact wpAny_bind (W.done s _ _ st fun s' mv => wpAny_pure (hR s' (mv.mono up) (mvd mv R0)))
  | succ m ih =>
    intro i s e0 e1 st R0 hR
    refine codeAny_builtin F.entry_set_update_loop ?_
    rw [Around.under_plainId F.plain_set_update_loop _]
    refine wpAny_bind (W.item i s _ _ (by omega) st fun v s' pv st' mv => ?_)
    obtain ⟨q, hk, rfl⟩ := val i v pv
    obtain ⟨k0, mm, rows, e, t, r1, r2, r3, r4⟩ := mvd mv R0
    have qm := List.mem_of_getElem? hk
    have hx : TKy P w s'.heap q.2 q.1 := tky_up (each q qm) k0
    show wpAny _ A.in1 (holding [Value.ref q.1] (setAdd S (Value.ref q.1)) >>= _) _ _ s'
    unfold setAdd
    refine wpAny_bind (wpAny_holding (wpAny_holding (wpAny_bind (wpAny_pyHash_tuple hu hx (put_in (s := { s' with toks := s'.toks + (q.2.length + 1) }) r1 hx hu (by omega) fun rr h2 m2 rows2 e2 t2 sb R2 same more => ?_)))))
    have k2 : ∀ c o, h0.get? c = some o → h2.get? c = some o := fun c o z => (sb.2 c fun zz => by rw [zz, S0] at z; cases z).trans (k0 c o z)
    have R3 : Hold P w h0 S ks (i + 1) h2 := by
      refine ⟨k2, m2, rows2, e2, t2, R2, ?_, ?_, ?_⟩
      · by_cases c : q.2 ∈ mm.map (·.2)
        · rw [same c]; omega
        · rw [(more c).length_eq, List.length_cons]; omega
      · by_cases c : q.2 ∈ mm.map (·.2)
        · rw [same c]; exact r3
        · exact fun y hy => (List.mem_cons.mp ((more c).mem_iff.mp hy)).elim (fun z => by rw [z]; exact qm) (r3 y)
      · intro z
        rw [L2.take_next hk, List.map_append, List.mem_append, ← r4 z, List.map_singleton, List.mem_singleton]
        by_cases c : q.2 ∈ mm.map (·.2)
        · rw [same c]
          exact ⟨.inl, fun y => y.elim id fun y => by rw [y]; exact c⟩
        · rw [((more c).map (·.2)).mem_iff, List.map_cons, List.mem_cons]
          exact Or.comm
    refine wpAny_pure ⟨plainId_quiet F.plain_set_update_loop _, ih (i + 1) _ (by omega) (by omega) (W.frame _ s' _ _ st' (Nat.le_add_right _ _) fun b hb o e => ?_) R3 fun s'' mv' R4 => ?_⟩
    · exact (sb.2 b fun z => nS (by rw [← z]; exact hb)).trans e
    · exact hR s'' (Moved.trans W.gtrans ((mv.mono up).then_heap (Nat.le_add_right _ _) fun b o hb e => (sb.2 b fun z => hb (by rw [z]; exact List.mem_cons_self)).trans e) mv') R4
/-- what update makes of the new set -/
def UpdF (P : Program) (w : World) (A : Around) (s : Shared) (x : Value) (F : Heap → Prop) : Prop := ∀ (A' : Around) (E' : Value → Shared → Prop) (Q' : Unit → Shared → Prop), A'.handled = A.handled → A'.units ≤ A.units + 2 →
  (∀ h' tk, F h' → Q' () { s with heap := h', toks := tk }) → wpAny (model P w) A' (Builtin.Frozenset.updateFrom "set.__init__" s.heap.objs.size x) Q' E' { s with heap := nset w s }
set_option maxHeartbeats 3200000 in
theorem callF {x : Value} {F0 : Heap → Prop} {Q : Value → Shared → Prop} (U : UpdF P w A s x F0) (h : ∀ h' tk, F0 h' → Q (.ref s.heap.objs.size) { s with heap := h', toks := tk }) : wpAny (model P w) A (call (.type "set") [x]) Q E s := by
  obtain ⟨c, tl, hmro⟩ := F.called_set.mro
  have c1 := F.called_set.made
  have c2 := F.called_set.sub
  have c3 := F.called_set.notType
  have c4 := F.called_set.canCreate
  have c5 := F.typeCall_set_1 x
  refine wpAny_call (codeAny_of_tree ?_)
  show wpAny _ _ (callAny (.type "set") _) _ _ _
  refine wpAny_pure ⟨Code.quiet_builtin _ (by decide +kernel), codeAny_builtin F.entry_type_call ?_⟩
  rw [Around.under_plain (weight_type_call_type "set" [x] []) rfl]
  repeat (any_goals (first | assumption | wp_step))
  refine codeAny_mono (code_set_led1 x (E := E) (Q₁ := fun obj s₁ => obj = .ref s.heap.objs.size ∧ s₁ = { s with heap := nset w s }) ⟨rfl, rfl⟩) fun r s₁ hr => ?_
  cases r with
  | error e => exact hr
  | ok fl =>
    cases fl with
    | ret obj =>
      obtain ⟨rfl, rfl⟩ := hr
      have gS : (nset w s).get? s.heap.objs.size = some { cls := .type "set", dict := none, data := .set #[] 0 (.fresh 0 0 (!w.params.followText "set-order")) } := Heap.get?_push_size _ rfl
      have hT : Shared.TypeIs { s with heap := nset w s } (.ref s.heap.objs.size) "set" := ⟨_, gS, rfl⟩
      have c6 := F.called_set.init.lookup
      have c7 := F.called_set.init.bind (.ref s.heap.objs.size)
      repeat (any_goals (first | assumption | wp_step))
      refine codeAny_mono (codeAny_call_builtin (R := wants (fun r s₂ => r = .none ∧ ∃ h' tk, s₂ = { s with heap := h', toks := tk } ∧ F0 h') E) F.called_set.init.plain F.entry_set_init (check_set_init_1 hT ?_)) fun r₂ s₂ hr₂ => ?_
      · unfold Builtin.«set.__init__» noKeywords
        have u := fun (A' : Around) => U A'
        generalize Builtin.Frozenset.updateFrom = UF at u ⊢
        wp_walk
        refine u A.in1.in1 _ _ rfl (Nat.le_refl _) fun h' tk R => ?_
        exact wpAny_pure ⟨rfl, h', tk, rfl, R⟩
      · cases r₂ with
        | error e => exact hr₂
        | ok fl₂ =>
          cases fl₂ with
          | ret r =>
            obtain ⟨rfl, h', tk, rfl, R⟩ := hr₂
            repeat (any_goals (first | assumption | wp_step))
            exact h _ _ R
          | _ => exact hr₂.elim
    | _ => exact hr.elim
theorem endF {F0 : Heap → Prop} {o : Obj} {s' : Shared} {Q' : Unit → Shared → Prop} (hm : Moved [s.heap.objs.size, (nset w s).objs.size] (fun a b => b = a) { s with heap := (nset w s).push o } s') (R : F0 s'.heap)
    (q : ∀ h' tk, F0 h' → Q' () { s with heap := h', toks := tk }) : Q' () s' := by
  obtain ⟨h', g', d', tk', os'⟩ := s'
  have eg : g' = s.gens := hm.gens
  have ed : d' = s.drawn := hm.drawn
  have eo : os' = s.os := hm.os
  subst eg; subst ed; subst eo
  exact q h' tk' R
theorem none_at {h : Heap} {c : Addr} (le : h.objs.size ≤ c) : h.get? c = none := by
  cases z : h.get? c with
  | none => rfl
  | some o => exact absurd (Heap.lt_size z) (Nat.not_lt.mpr le)
theorem at_keys {items : Array Value} {ks : List (Addr × List Key)} (hi : items.toList = ks.map fun p => Value.ref p.1) {i : Nat} {v : Value} (h : items[i]? = some v) : ∃ q, ks[i]? = some q ∧ v = .ref q.1 := by
  rw [← Array.getElem?_toList, hi, List.getElem?_map] at h
  obtain ⟨q, h1, h2⟩ := Option.map_eq_some_iff.mp h
  exact ⟨q, h1, h2.symm⟩
set_option maxHeartbeats 3200000 in
theorem updT_list {l : Addr} {items : Array Value} {ks : List (Addr × List Key)} (hh : A.handled = none) (hu : A.units + 8 < cLine) (hl : s.heap.IsList l items) (hi : items.toList = ks.map fun p => Value.ref p.1) (each : ∀ q ∈ ks, TKy P w s.heap q.2 q.1) (few : ks.length < 64) :
    UpdF P w A s (.ref l) (Hold P w s.heap s.heap.objs.size ks ks.length) := fun A' E' Q' ha hw q => by
  have hA : A'.handled = none := ha.trans hh
  obtain ⟨ol, hol, hcl, nl, hdl⟩ := hl
  obtain ⟨ocls, odict, odata, oslots⟩ := ol
  simp only at hcl hdl
  subst hcl; subst hdl
  have d1 : (nset w s).get? l = some { cls := .type "list", dict := odict, data := .seq items nl, slots := oslots } := Heap.get?_push_of_some _ hol
  have d2 := F.sub_list_set
  have d3 := F.sub_list_frozenset
  have d4 : (Value.type "list" == Value.type "dict") = false := by decide
  have d5 : (nset w s).IsList l items := ⟨_, d1, rfl, nl, rfl⟩
  unfold Builtin.Frozenset.updateFrom
  generalize hPI : pyIter = PI
  wp_walk
  subst hPI
  have lt : l < s.heap.objs.size := Heap.lt_size hol
  have ne : l ≠ (nset w s).objs.size := by rw [nset_size]; exact Nat.ne_of_lt (Nat.lt_succ_of_lt lt)
  have sz : items.size = ks.length := by rw [← Array.length_toList, hi, List.length_map]
  refine wpAny_pyIter_list d5 (wpAny_bind (wpAny_runValue (loopT (h0 := s.heap) (ks := ks) ((Walks.list (by simp [hA]) _ l ne items).toS) ?_ sz few ?_ (fun i v hv => at_keys hi hv) each (none_at (Nat.le_refl _)) (fun c hc => none_at ?_) (items.size - 0) 0 _ (by omega) (Nat.zero_le _)
    ⟨⟨_, Heap.get?_push_size _ rfl, rfl, rfl⟩, d5.push _⟩ (hold_new (fun c o z => Heap.get?_push_of_some _ (Heap.get?_push_of_some _ z)) nset_get) fun s' hm R => ?_)))
  · simp only [List.mem_cons, List.mem_singleton, List.not_mem_nil, or_false, not_or, nset_size]
    exact ⟨Nat.ne_of_lt (Nat.lt_succ_self _), Nat.ne_of_gt lt⟩
  · first | (show A'.units + 1 + 1 < cLine; omega) | (show A'.units + 1 < cLine; omega) | (show A'.units < cLine; omega) | (show A'.units + 1 + 1 + 1 < cLine; omega)
  · rw [List.mem_singleton.mp hc, nset_size]
    omega
  · rw [sz] at R
    exact wpAny_pure (endF (F0 := Hold P w s.heap s.heap.objs.size ks ks.length) hm R q)
set_option maxHeartbeats 3200000 in
theorem updT_tuple {l : Addr} {items : Array Value} {ks : List (Addr × List Key)} (hh : A.handled = none) (hu : A.units + 8 < cLine) (hl : s.heap.IsTuple l items) (hi : items.toList = ks.map fun p => Value.ref p.1) (each : ∀ q ∈ ks, TKy P w s.heap q.2 q.1) (few : ks.length < 64) :
    UpdF P w A s (.ref l) (Hold P w s.heap s.heap.objs.size ks ks.length) := fun A' E' Q' ha hw q => by
  have hA : A'.handled = none := ha.trans hh
  obtain ⟨ol, hol, hcl, nl, hdl⟩ := hl
  obtain ⟨ocls, odict, odata, oslots⟩ := ol
  simp only at hcl hdl
  subst hcl; subst hdl
  have d1 : (nset w s).get? l = some { cls := .type "tuple", dict := odict, data := .seq items nl, slots := oslots } := Heap.get?_push_of_some _ hol
  have d2 := F.sub_tuple_set
  have d3 := F.sub_tuple_frozenset
  have d4 : (Value.type "tuple" == Value.type "dict") = false := by decide
  have d5 : (nset w s).IsTuple l items := ⟨_, d1, rfl, nl, rfl⟩
  unfold Builtin.Frozenset.updateFrom
  generalize hPI : pyIter = PI
  wp_walk
  subst hPI
  have lt : l < s.heap.objs.size := Heap.lt_size hol
  have ne : l ≠ (nset w s).objs.size := by rw [nset_size]; exact Nat.ne_of_lt (Nat.lt_succ_of_lt lt)
  have sz : items.size = ks.length := by rw [← Array.length_toList, hi, List.length_map]
  refine wpAny_pyIter_tuple d5 (wpAny_bind (wpAny_runValue (loopT (h0 := s.heap) (ks := ks) ((Walks.tuple (by simp [hA]) _ l ne items).toS) ?_ sz few ?_ (fun i v hv => at_keys hi hv) each (none_at (Nat.le_refl _)) (fun c hc => none_at ?_) (items.size - 0) 0 _ (by omega) (Nat.zero_le _)
    ⟨⟨_, Heap.get?_push_size _ rfl, rfl, rfl⟩, d5.push _⟩ (hold_new (fun c o z => Heap.get?_push_of_some _ (Heap.get?_push_of_some _ z)) nset_get) fun s' hm R => ?_)))
  · simp only [List.mem_cons, List.mem_singleton, List.not_mem_nil, or_false, not_or, nset_size]
    exact ⟨Nat.ne_of_lt (Nat.lt_succ_self _), Nat.ne_of_gt lt⟩
  · first | (show A'.units + 1 + 1 < cLine; omega) | (show A'.units + 1 < cLine; omega) | (show A'.units < cLine; omega) | (show A'.units + 1 + 1 + 1 < cLine; omega)
  · rw [List.mem_singleton.mp hc, nset_size]
    omega
  · rw [sz] at R
    exact wpAny_pure (endF (F0 := Hold P w s.heap s.heap.objs.size ks ks.length) hm R q)
theorem Lies.fitH {h : Heap} (R : Lies P w h b m rows e t) : t.fits rows.size = true := fit_of ((R.good.sz.trans (List.length_map _)).trans (eqs_len R.eqs).symm) R.good.dm (by have := eqs_len R.eqs; have := R.air; omega)
theorem Hold.count {h0 h : Heap} {S : Addr} {ks : List (Addr × List Key)} (H : Hold P w h0 S ks ks.length h) : ∃ o es ep t, h.get? S = some o ∧ o.ExactSet ∧ o.data = .set es ep t ∧ t.fits es.size = true ∧ es.size = (dist (ks.map (·.2))).length := by
  obtain ⟨_, m, rows, e, t, r1, r2, r3, r4⟩ := H
  obtain ⟨o, o1, o2, o3⟩ := r1.obj
  rw [List.take_length] at r4
  refine ⟨o, rows, e, t, o1, o2, o3, r1.fitH, ?_⟩
  rw [eqs_len r1.eqs, ← List.length_map (f := (·.2))]
  exact dist_count r1.once r4
end
section
variable {X : Cx} {pins : List (Addr × Obj)} {σ : L2.St} {H : Hp} {s : Shared} {a : Expr} {ta : TE} {p p2 q pos : Pos}
theorem items_vals {P : Program} {w : World} : ∀ {k : List Key} {us : List Value}, Vals (k.map kV) us → ItemsAre (mixKind P w) k us
  | [], _, .nil => .nil
  | _ :: _, _, .cons r t => .cons (kV_is r) (items_vals t)
theorem refsK : ∀ {ks : List (Addr × List Key)} {us : List Value}, Vals (ks.map fun p => V.ref p.1) us → us = ks.map fun p => Value.ref p.1
  | [], _, .nil => rfl
  | _ :: _, _, .cons r t => by
    cases r
    rw [refsK t]
    rfl
theorem tky_of (I : Inv X pins σ H s) {l : Addr} {k : List Key} (h : SqT X.K H l (k.map kV)) : TKy X.prog X.w s.heap k l := by
  obtain ⟨its, rv, ⟨o, e1, e2, n, e3⟩, _⟩ := I.tuple h
  exact ⟨o, its.toArray, n, e1, e2, e3, by simpa using items_vals rv⟩
def tLenSetU (K : PySem.W.Frag) (ta : TE) : TE := fun σ H Q => ta σ H fun x H1 => (∃ ks, KeysOfV K H1 x ks ∧ ks.length + 1 < scanBound ∧ Q (.int (dist ks).length) H1) ∨
  ∃ (l : Addr) (ks : List (Addr × List Key)), x = .ref l ∧ (SqL K H1 l (ks.map fun p => V.ref p.1) ∨ SqT K H1 l (ks.map fun p => V.ref p.1)) ∧ (∀ p ∈ ks, SqT K H1 p.1 (p.2.map kV)) ∧ ks.length < 64 ∧ Q (.int (dist (ks.map (·.2))).length) H1
theorem pe_lenSetU (hu : X.A.units + 64 < cLine) (hc : X.calm = true) (hg : Gl X "len") (hm : X.mg "len" = none) (hg2 : Gl X "set") (hm2 : X.mg "set" = none) (ha : PE X a ta)
    (na : starEach [a] X.env = (false, eval a X.env) :: starEach [] X.env := by rfl) : PE X (.Call (.Name "len" p) [.Call (.Name "set" p2) [a] [] q] [] pos) (tLenSetU X.K ta) := by
  refine ⟨fun pins s σ H Q I h => ?_⟩
  refine Call_ (ld_blt I hg hm boot_len (PyProof.Rows.callWith_builtin1 (PyProof.Rows.args_cons (Call_ (ld_blt I hg2 hm2 boot_set ?_)) rfl) rfl rfl))
  refine PyProof.Rows.callWith_type1 (PyProof.Rows.args_cons (thn (ha.run pins s σ H _ I h) fun v s1 ⟨x, H1, I1, r1, q1⟩ => PyProof.Rows.args_nil ?_) na) na rfl
  rcases q1 with ⟨ks, hk, room, q1⟩ | ⟨l, ks, rfl, hl, ht, few, q1⟩
  · refine callG (upd_of I1 hc r1 hk room) fun h' tk R k => PyProof.Rows.args_nil ?_
    obtain ⟨o, es, ep, t, ho, r⟩ := R
    have I2 : Inv X pins σ H1 { s1 with heap := h', toks := tk } := I1.kept fun b o e => k b o (Heap.lt_size e) e
    have lim := dist_len ks
    have sb : scanBound ≤ sizeLine := by rw [sizeLine_eq]; decide
    exact call_len_set ho r.ex r.dt r.fit (by rw [r.num]; unfold scanBound at room; omega) ⟨.int (dist ks).length, H1, I2.tok _, ⟨_, by rw [r.num]⟩, q1⟩
  · cases r1
    have each : ∀ p ∈ ks, TKy X.prog X.w s1.heap p.2 p.1 := fun p hp => tky_of I1 (ht p hp)
    have U : UpdF X.prog X.w X.A s1 (.ref l) (Hold X.prog X.w s1.heap s1.heap.objs.size ks ks.length) := by
      rcases hl with hl | hl
      · obtain ⟨its, rv, pl, hz⟩ := I1.list hl
        exact updT_list (I1.ok.hd hc) (by omega) pl.isList (by simpa using refsK rv) each few
      · obtain ⟨its, rv, pl, hz⟩ := I1.tuple hl
        exact updT_tuple (I1.ok.hd hc) (by omega) pl (by simpa using refsK rv) each few
    refine callF U fun h' tk R => PyProof.Rows.args_nil ?_
    have I2 : Inv X pins σ H1 { s1 with heap := h', toks := tk } := I1.kept fun b o e => R.1 b o e
    obtain ⟨o, es, ep, t, c1, c2, c3, c4, c5⟩ := R.count
    have lim := dist_len (ks.map (·.2))
    rw [List.length_map] at lim
    exact call_len_set c1 c2 c3 c4 (by rw [c5]; omega) ⟨.int (dist (ks.map (·.2))).length, H1, I2.tok _, ⟨_, by rw [c5]⟩, q1⟩
end
end PuT
namespace Pu
open PySem PySem.Spec PyProof.Rows L2 PuS PuT
def tK (k : List Key) : PyData := .tuple (k.map kD)
def pLenSet2 : P1 := fun x P => (∃ ks, KeysD x ks ∧ ks.length + 1 < scanBound ∧ P (.int (dist ks).length)) ∨ ∃ ns : List (List Key), (x = .list (ns.map tK) ∨ x = .tuple (ns.map tK)) ∧ ns.length < 64 ∧ P (.int (dist ns).length)
section
variable {K : PySem.W.Frag} {pn : Pn} {b : Nat} {F H : Hp} {v : V}
theorem rvs_ktups : ∀ {ns : List (List Key)} {vs : List V}, RVs K F vs (ns.map tK) → ∃ ks : List (Addr × List Key), vs = ks.map (fun p => V.ref p.1) ∧ ks.map (·.2) = ns ∧ ∀ p ∈ ks, SqT K F p.1 (p.2.map kV)
  | [], _, .nil => ⟨[], rfl, rfl, fun p h => absurd h List.not_mem_nil⟩
  | n :: ns, _, .cons r t => by
    obtain ⟨ks, e1, e2, e3⟩ := rvs_ktups t
    cases r with
    | tup h q =>
      rename_i a xs
      rw [rvs_keys q] at h
      exact ⟨(a, n) :: ks, by rw [e1]; rfl, by rw [← e2]; rfl, fun p hp => (List.mem_cons.mp hp).elim (fun e => by rw [e]; exact h.sq) (e3 p)⟩
end
section
variable {X : Cx} {a : Expr} {ta : WE} {p p2 q pos : Pos}
theorem e_lenSet2 (hu : X.A.units + 64 < cLine) (hc : X.calm = true) (hg : Gl X "len") (hm : X.mg "len" = none) (hg2 : Gl X "set") (hm2 : X.mg "set" = none) (ha : EB X a ta) (na : starEach [a] X.env = (false, eval a X.env) :: starEach [] X.env := by rfl) :
    EE X (.Call (.Name "len" p) [.Call (.Name "set" p2) [a] [] q] [] pos) (w1 pLenSet2 ta) := PE.imp (pe_lenSetU hu hc hg hm hg2 hm2 ha na) fun σ H Q h => by
  obtain ⟨pn, F, env, b, P, rep, t, k⟩ := h
  refine ⟨pn, F, env, b, _, rep, t, fun v x F1 H1 b1 o1 e1 bv t1 => ?_⟩
  rcases t1 with ⟨ks, hk, room, z⟩ | ⟨ns, hx, few, z⟩
  · exact .inl ⟨ks, bv.keys o1 hk, room, k _ _ F1 H1 b1 o1 e1 (.int _) z⟩
  · rcases hx with rfl | rfl
    · obtain ⟨a, vs, rfl, hx, r⟩ := bv.list o1
      obtain ⟨ks, e2, e3, e4⟩ := rvs_ktups r
      subst e3
      exact .inr ⟨a, ks, rfl, .inl (SqL.of (by rw [← e2]; exact hx)), fun p hp => Same.tup o1.sub (e4 p hp), by rw [List.length_map] at few; exact few, k _ _ F1 H1 b1 o1 e1 (.int _) z⟩
    · obtain ⟨a, vs, rfl, hx, r⟩ := bv.tup o1
      obtain ⟨ks, e2, e3, e4⟩ := rvs_ktups r
      subst e3
      exact .inr ⟨a, ks, rfl, .inr (by rw [← e2]; exact hx), fun p hp => Same.tup o1.sub (e4 p hp), by rw [List.length_map] at few; exact few, k _ _ F1 H1 b1 o1 e1 (.int _) z⟩
end
end Pu
namespace Pu
open PySem PySem.Spec PyProof.Rows L2
def pRepr2 : P1 := fun d P => d.showable = true ∧ d.depth ≤ 40 ∧ d.shown.length ≤ sizeLine ∧ P (.str d.shown)
section
variable {X : Cx} {e : Expr} {te : WE} {p pos : Pos}
theorem e_repr2 (N : NoSys X) (hu : X.A.units + 64 < cLine) (hg : Gl X "repr") (hm : X.mg "repr" = none) (ha : EE X e te) (na : starEach [e] X.env = (false, eval e X.env) :: starEach [] X.env := by rfl) : EE X (.Call (.Name "repr" p) [e] [] pos) (w1 pRepr2 te) := by
  refine ⟨fun pins s σ H Q I h => ?_⟩
  refine Call_ (ld_blt I hg hm boot_repr ?_)
  obtain ⟨pn, F, env, b, P, rep, t, k⟩ := h
  refine PyProof.Rows.callWith_builtin1 (PyProof.Rows.args_cons (thn (ha.run pins s σ H (fun v H1 => ∃ d F1 b1, Ok pn b1 F1 H1 ∧ Ext pn F H F1 H1 ∧ RV X.K F1 v d ∧ pRepr2 d fun z => P z b1) I ⟨pn, F, env, b, _, rep, t, fun v d F1 H1 b1 o1 e1 rv q => ⟨d, F1, b1, o1, e1, rv, q⟩⟩) fun v s1 ⟨x, H1, I1, r1, q1⟩ => PyProof.Rows.args_nil ?_) na) na rfl
  obtain ⟨d, F1, b1, o1, e1, rv, sh, dp, ln, q⟩ := q1
  have last : ∀ (u : Tok) (tk : Nat), EP X pins σ Q (.str d.shown u) { s1 with toks := tk } := fun u tk => ⟨.str d.shown, H1, I1.tok tk, ⟨_, rfl⟩, k _ _ F1 H1 b1 o1 e1 (.str _) q⟩
  have four : (∃ a, v = .ref a) ∨ (v = .none ∧ d = .none) ∨ (∃ b, v = .bool b ∧ d = .bool b) ∨ (∃ i t, v = .int i t ∧ d = .int i) ∨ ∃ z t, v = .str z t ∧ d = .str z := by
    cases rv with
    | lst _ _ => exact .inl ⟨_, r1⟩
    | tup _ _ => exact .inl ⟨_, r1⟩
    | dct _ => exact .inl ⟨_, r1⟩
    | non => exact .inr (.inl ⟨r1, rfl⟩)
    | bl b => exact .inr (.inr (.inl ⟨b, r1, rfl⟩))
    | int i =>
      obtain ⟨t, e⟩ := r1
      exact .inr (.inr (.inr (.inl ⟨i, t, e, rfl⟩)))
    | str z =>
      obtain ⟨t, e⟩ := r1
      exact .inr (.inr (.inr (.inr ⟨z, t, e, rfl⟩)))
  rcases four with ⟨a, rfl⟩ | ⟨rfl, rfl⟩ | ⟨b, rfl, rfl⟩ | ⟨i, t, rfl, rfl⟩ | ⟨z, t, rfl, rfl⟩
  · obtain ⟨as, ra, hn⟩ := reads_of I1 o1.sub rv r1
    exact repr_of_reads' ra sh (fun _ => hn (N.now I1)) N.gd (by omega) (fun _ _ e => e) (fun h' u tk hk => ⟨.str d.shown, H1, I1.kept hk, ⟨_, rfl⟩, k _ _ F1 H1 b1 o1 e1 (.str _) q⟩) ln
  · exact PySem.P.repr_of_none (last _ _)
  · exact PySem.P.repr_of_bool (last _ _)
  · exact PySem.P.repr_of_int (of_decide_eq_true sh) (last _ _)
  · exact PySem.P.repr_of_str (last _ _) ln
end
theorem m_repr2 {ta : WE} {env : En} {n : Nat} {Q : PyData → Nat → Prop} {B D : Nat} (hB : B ≤ 100000) (hD : D ≤ 40) (h : ME ta env n fun x m => Fit B D x ∧ Q (.str x.shown) m) : ME (w1 pRepr2 ta) env n Q :=
  fun b P hb k => h b _ hb fun x m b1 ⟨hf, q⟩ hb1 => ⟨hf.shw, Nat.le_trans hf.deep hD, hf.shown hB, k _ m b1 q hb1⟩
end Pu
namespace Pu
open PySem PySem.Spec PyProof.Rows L2
def sNever : WS := fun _ _ _ => False
theorem s_never {X : Cx} {st : Stmt} : SS X st sNever := ⟨fun pins s σ H D I h => by
  obtain ⟨pn, F0, H0, F, env, b, PD, rep, t, kk, r⟩ := h
  exact t.elim⟩
end Pu
namespace Pu
open PySem PySem.Spec PyProof.Rows L2 PuS
/-- rules and keys, as many as come when some are added -/
structure RulesOk2 (K : List Nat) (rules : List Rule) : Prop where
  one : ∀ p ∈ rules, p.1.Sublist K ∧ p.2 ∈ K ∧ p.2 ∉ p.1
  nodup : rules.Nodup
  few : rules.length ≤ 16
structure KeysOk2 (K : List Nat) (keys : List (List Nat)) : Prop where
  one : ∀ k ∈ keys, k.Sublist K ∧ k ≠ []
  nodup : keys.Nodup
  few : keys.length ≤ 16
theorem RulesOk.two {K : List Nat} {rules : List Rule} (h : RulesOk K rules) : RulesOk2 K rules := ⟨h.one, h.nodup, by have := h.few; omega⟩
theorem KeysOk.two {K : List Nat} {keys : List (List Nat)} (h : KeysOk K keys) : KeysOk2 K keys := ⟨h.one, h.nodup, by have := h.few; omega⟩
section
variable {K X Y f : List Nat} {rules : List (List Nat × Nat)} {keys : List (List Nat)} {p : List Nat × Nat} {k : List Nat} {S : Nat → Prop}
theorem clos_sub (nd : K.Nodup) (hr : ∀ p ∈ rules, p.2 ∈ K) (h : X.Sublist K) : (clos K rules keys X).Sublist K := (clos_spec nd hr h).2.2
theorem clos_cl (nd : K.Nodup) (hr : ∀ p ∈ rules, p.2 ∈ K) (h : X.Sublist K) : Closed K rules keys (· ∈ clos K rules keys X) := (clos_spec nd hr h).2.1
end
/-- a row with 0 in these columns and i in the others -/
def alikeR (K same : List Nat) (i : Int) : List Int := K.map fun c => if c ∈ same then 0 else i
section
variable {K same P : List Nat} {rules : List (List Nat × Nat)} {keys : List (List Nat)} {i j : Int}
theorem alike_at {c : Nat} (hc : c ∈ K) : (alikeR K same i).getD (K.idxOf c) 0 = if c ∈ same then 0 else i := by
  have h4 := List.idxOf_lt_length_of_mem hc
  unfold alikeR
  rw [List.getD_eq_getElem?_getD, List.getElem?_map, List.getElem?_eq_getElem h4, Option.map_some, Option.getD_some, List.getElem_idxOf h4]
theorem prj_alike (h : ∀ c ∈ P, c ∈ K) : prj K P (alikeR K same i) = P.map fun c => if c ∈ same then 0 else i := List.map_congr_left fun c hc => alike_at (h c hc)
theorem prj_same (h : ∀ c ∈ P, c ∈ K) (ne : i ≠ j) : prj K P (alikeR K same i) = prj K P (alikeR K same j) ↔ ∀ c ∈ P, c ∈ same := by
  rw [prj_alike h, prj_alike h, List.map_inj_left]
  constructor
  · intro z c hc
    by_cases q : c ∈ same
    · exact q
    · have := z c hc
      rw [if_neg q, if_neg q] at this
      exact absurd this ne
  · intro z c hc
    rw [if_pos (z c hc), if_pos (z c hc)]
theorem fits_alike (hr : ∀ p ∈ rules, (∀ c ∈ p.1, c ∈ K) ∧ p.2 ∈ K) (hk : ∀ k ∈ keys, ∀ c ∈ k, c ∈ K) (ne : i ≠ j) :
    fitsB K rules keys (alikeR K same i) (alikeR K same j) = true ↔ (∀ p ∈ rules, (∀ c ∈ p.1, c ∈ same) → p.2 ∈ same) ∧ ∀ k ∈ keys, ¬ ∀ c ∈ k, c ∈ same := by
  unfold fitsB
  rw [Bool.and_eq_true, List.all_eq_true, List.all_eq_true]
  refine and_congr ⟨fun h p hp => ?_, fun h p hp => ?_⟩ ⟨fun h k hk2 => ?_, fun h k hk2 => ?_⟩
  · intro hc
    have := h p hp
    rw [decide_eq_true ((prj_same (hr p hp).1 ne).mpr hc), Bool.not_true, Bool.false_or, decide_eq_true_eq, prj_same (fun c hc => by rw [List.mem_singleton] at hc; subst hc; exact (hr p hp).2) ne] at this
    exact this _ (List.mem_singleton.mpr rfl)
  · by_cases q : ∀ c ∈ p.1, c ∈ same
    · have : prj K [p.2] (alikeR K same i) = prj K [p.2] (alikeR K same j) := (prj_same (fun c hc => by rw [List.mem_singleton] at hc; subst hc; exact (hr p hp).2) ne).mpr fun c hc => by rw [List.mem_singleton] at hc; subst hc; exact h p hp q
      rw [decide_eq_true this, Bool.or_true]
    · rw [decide_eq_false (fun z => q ((prj_same (hr p hp).1 ne).mp z))]
      rfl
  · intro q
    have := h k hk2
    rw [decide_eq_true ((prj_same (hk k hk2) ne).mpr q)] at this
    cases this
  · rw [decide_eq_false (fun z => h k hk2 ((prj_same (hk k hk2) ne).mp z))]
    rfl
/-- the rows of an alike table -/
def alikeT (K same : List Nat) (n : Nat) : List (List Int) := (List.range n).map fun (i : Nat) => alikeR K same ((i : Nat) : Int)
theorem tab_alike (hr : ∀ p ∈ rules, (∀ c ∈ p.1, c ∈ K) ∧ p.2 ∈ K) (hk : ∀ k ∈ keys, ∀ c ∈ k, c ∈ K) {n : Nat} (hn : 2 ≤ n) :
    tabB K rules keys (alikeT K same n) = true ↔ (∀ p ∈ rules, (∀ c ∈ p.1, c ∈ same) → p.2 ∈ same) ∧ ∀ k ∈ keys, ¬ ∀ c ∈ k, c ∈ same := by
  rw [tabB_iff]
  unfold alikeT
  rw [List.pairwise_map]
  constructor
  · intro h
    have h2 := (List.pairwise_iff_getElem.mp h) 0 1 (by rw [List.length_range]; omega) (by rw [List.length_range]; omega) (by omega)
    rw [List.getElem_range, List.getElem_range] at h2
    exact (fits_alike hr hk (by decide)).mp h2
  · intro h
    refine List.Pairwise.imp (fun {a b} (ab : a < b) => (fits_alike hr hk (by omega)).mpr h) List.pairwise_lt_range
end
end Pu
namespace Pu
open PySem PySem.Spec PyProof.Rows L2 PuS
/-- what a sorted thing holds -/
def itemsOf : PyData → Option (List PyData)
  | .list ds => some ds
  | .tuple ds => some ds
  | .str z => some (chS z)
  | _ => none
/-- ds in ascending order, equal ones as they stood -/
def srt (ds : List PyData) : List PyData := ds.mergeSort (W.dataLe false id)
def pSort : PyData → (List PyData → Prop) → Prop := fun x P => ∃ ds, itemsOf x = some ds ∧ W.AllAlike ds ∧ W.Sortable ds ∧ ds.length ≤ 100000 ∧ (∀ d ∈ ds, d.depth ≤ 40) ∧ P (srt ds)
section
variable {X : Cx} {pins : List (Addr × Obj)} {σ : L2.St} {F H : Hp} {s : Shared}
/-- a value that stands for a datum -/
def Stands (K : PySem.W.Frag) (F : Hp) (u : Value) (d : PyData) : Prop := ∃ v, RelV v u ∧ RV K F v d
end
end Pu
namespace Pu
open PySem PySem.Spec PyProof.Rows L2 PuS
end Pu
namespace Pu
open PySem PySem.Spec PyProof.Rows L2 PuS
/-- what stands at a key -/
def lookS (xs : List (Str × PyData)) (s : Str) : Option PyData := (xs.find? fun p => decide (p.1 = s)).map (·.2)
def putS (xs : List (Str × PyData)) (s : Str) (d : PyData) : List (Str × PyData) := if (xs.any fun p => decide (p.1 = s)) = true then xs.map fun p => if p.1 = s then (p.1, d) else p else xs ++ [(s, d)]
def pairS (p : Str × PyData) : PyData := .tuple [.str p.1, p.2]
section
variable {K : PySem.W.Frag} {pn : Pn} {F H F0 H0 : Hp} {b : Nat} {env : En} {σ : L2.St}
theorem KVs.len : ∀ {vs : List (Key × V)} {xs : List (Str × PyData)}, KVs K F vs xs → vs.length = xs.length
  | _, _, .nil => rfl
  | _, _, .cons _ t => congrArg (· + 1) t.len
theorem KVs.get (s : Str) : ∀ {vs : List (Key × V)} {xs : List (Str × PyData)}, KVs K F vs xs → (∃ v d, valV vs (.inr s) = some v ∧ lookS xs s = some d ∧ RV K F v d) ∨ (valV vs (.inr s) = none ∧ lookS xs s = none)
  | _, _, .nil => .inr ⟨rfl, rfl⟩
  | _, _, .cons (x := x) (v := v) (d := d) r t => by
    by_cases e : x = s
    · subst e
      exact .inl ⟨v, d, by simp [valV, List.find?_cons], by simp [lookS, List.find?_cons], r⟩
    · have e1 : ¬ ((Sum.inr x : Key) = Sum.inr s) := fun z => e (Sum.inr.inj z)
      rcases t.get s with ⟨v', d', h1, h2, h3⟩ | ⟨h1, h2⟩
      · exact .inl ⟨v', d', by simpa [valV, List.find?_cons, e1, e] using h1, by simpa [lookS, List.find?_cons, e] using h2, h3⟩
      · exact .inr ⟨by simpa [valV, List.find?_cons, e] using h1, by simpa [lookS, List.find?_cons, e] using h2⟩
theorem KVs.any (s : Str) : ∀ {vs : List (Key × V)} {xs : List (Str × PyData)}, KVs K F vs xs → (vs.any fun kv => decide (kv.1 = .inr s)) = xs.any fun p => decide (p.1 = s)
  | _, _, .nil => rfl
  | _, _, .cons (x := x) r t => by
    rw [List.any_cons, List.any_cons, t.any s]
    congr 1
    exact decide_eq_decide.mpr ⟨fun z => Sum.inr.inj z, fun z => by rw [show x = s from z]⟩
theorem KVs.mapS {s : Str} {v : V} {d : PyData} (r : RV K F v d) : ∀ {vs : List (Key × V)} {xs : List (Str × PyData)}, KVs K F vs xs → KVs K F (vs.map fun kv => if kv.1 = .inr s then (kv.1, v) else kv) (xs.map fun p => if p.1 = s then (p.1, d) else p)
  | _, _, .nil => .nil
  | _, _, .cons (x := x) q t => by
    rw [List.map_cons, List.map_cons]
    by_cases e : x = s
    · subst e
      rw [if_pos rfl, if_pos rfl]
      exact .cons r (t.mapS r)
    · rw [if_neg (fun z => e (Sum.inr.inj z)), if_neg e]
      exact .cons q (t.mapS r)
theorem KVs.app {vs' : List (Key × V)} {xs' : List (Str × PyData)} (q : KVs K F vs' xs') : ∀ {vs : List (Key × V)} {xs : List (Str × PyData)}, KVs K F vs xs → KVs K F (vs ++ vs') (xs ++ xs')
  | _, _, .nil => q
  | _, _, .cons r t => .cons r (KVs.app q t)
theorem KVs.put {s : Str} {v : V} {d : PyData} (r : RV K F v d) {vs : List (Key × V)} {xs : List (Str × PyData)} (h : KVs K F vs xs) : KVs K F (putK vs (.inr s) v) (putS xs s d) := by
  unfold putK putS
  rw [h.any s]
  split
  · exact h.mapS r
  · exact KVs.app (.cons r .nil) h
theorem KVs.keys : ∀ {vs : List (Key × V)} {xs : List (Str × PyData)}, KVs K F vs xs → vs.map (fun kv => kV kv.1) = xs.map fun p => V.str p.1
  | _, _, .nil => rfl
  | _, _, .cons _ t => by rw [List.map_cons, List.map_cons, t.keys]; rfl
theorem RVs.keys : ∀ (xs : List (Str × PyData)), RVs K F (xs.map fun p => V.str p.1) (xs.map fun p => PyData.str p.1)
  | [] => .nil
  | p :: r => .cons (.str _) (RVs.keys r)
/-- other dicts are forgotten when one is written -/
def noK : Option Sl → Option Sl
  | some (.k _) => none
  | s => s
end
end Pu
namespace Pu
open PySem PySem.Spec PyProof.Rows L2 PuS
section
variable {K : PySem.W.Frag} {pn : Pn} {F H F0 H0 : Hp} {b : Nat} {env : En} {σ : L2.St}
theorem KVs.fsts : ∀ {vs : List (Key × V)} {xs : List (Str × PyData)}, KVs K F vs xs → vs.map (·.1) = xs.map fun p => Sum.inr p.1
  | _, _, .nil => rfl
  | _, _, .cons _ t => by rw [List.map_cons, List.map_cons, t.fsts]
theorem Ok.apartN (o : Ok pn b F H) {p : Addr} (hp : H p = none) : NotPen pn p ∧ NotCa pn p := o.pen.apartN hp
end
/-- dict(x), x a tuple of pairs -/
def dictOf (d : PyData) (kvs : List (Str × PyData)) : Prop := d = .tuple (kvs.map pairS) ∧ (kvs.map (·.1)).Nodup ∧ kvs.length ≤ 100000
def sDictK (t : WE) (i : Nat) : WS := fun PD env b => t env b fun d b' => ∃ kvs, dictOf d kvs ∧ PD.nx (env.set i (some (.k kvs))) b'
section
variable {X : Cx} {e : Expr} {te : WE} {p pos : Pos}
variable {i : Nat} {x : Str} {cpos spos pos' : Pos}
/-- x in d -/
def wKIn (te : WE) (i : Nat) (neg : Bool) : WE := fun env b P => te env b fun y b1 => match y, env[i]? with
  | .str s, some (some (.k kvs)) => P (.bool (neg ^^ (lookS kvs s).isSome)) b1
  | _, _ => False
/-- d[x] -/
def wKGet (te : WE) (i : Nat) : WE := fun env b P => match env[i]? with
  | some (some (.k kvs)) => te env b fun y b1 => match y with
    | .str s => (match lookS kvs s with | some d => P d b1 | none => False)
    | _ => False
  | _ => False
/-- d[x] = e -/
def sKSet (i : Nat) (tk te : WE) : WS := fun PD env b => match env[i]? with
  | some (some (.k xs)) => te env b fun d b1 => tk env b1 fun y b2 => match y with
    | .str s => xs.length < sizeLine ∧ PD.nx ((env.map noK).set i (some (.k (putS xs s d)))) b2
    | _ => False
  | _ => False
/-- list(d) -/
def wKList (i : Nat) : WF := fun env b P => match env[i]? with
  | some (some (.k xs)) => P (xs.map fun p => .str p.1) b
  | _ => False
/-- dict(x).get(c, z) -/
def wDGet (te tc tz : WE) : WE := fun env b P => te env b fun d b1 => ∃ kvs, dictOf d kvs ∧ tc env b1 fun y b2 => match y with
  | .str s => tz env b2 fun z b3 => P ((lookS kvs s).getD z) b3
  | _ => False
end
end Pu
namespace Pu
open PySem PySem.Spec PyProof.Rows L2 PuS
end Pu
namespace Pu
open PySem PySem.Spec PyProof.Rows L2 PuS
end Pu
namespace Pu
open PySem PySem.Spec PyProof.Rows L2 PuS
abbrev WDO := List Sl → Nat → (PyData → Nat → Prop) → (List PyData → Nat → Prop) → Prop
/-- return x, the list a name holds stays one's own -/
def sRetO (i : Nat) : WS := fun PD env b => match env[i]? with
  | some (some (.d x)) => PD.rt x b
  | some (some (.l xs)) => PD.rl xs b
  | _ => False
def sRetF (t : WF) : WS := fun PD env b => t env b PD.rl
def wDefO (np nn : Nat) (t : WS) : WDO := fun ss b P L => ss.length = np ∧ t { nx := fun _ b' => P .none b', rt := P, rl := L } (env0 nn ss) b
/-- .. and settled at once -/
def fzO (f : WDO) : WD := fun ss b P => f ss b P fun ds b' => P (.list ds) b'
def spO (K : PySem.W.Frag) (f : WDO) : Sp := fun vs H Q _ => ∃ pn F ss b P L, Ok pn b F H ∧ ArgsAre K pn F H vs ss ∧ f ss b P L ∧
  (∀ v d F' H' b', Ok pn b' F' H' → Ext pn F H F' H' → RV K F' v d → P d b' → Q v H') ∧
  (∀ v ds F' H' b', Ok pn b' F' H' → Ext pn F H F' H' → OwnL K pn F' H' v ds → (∀ a, v = .ref a → H a = none) → L ds b' → Q v H')
section
variable {X : Cx} {i : Nat} {x : Str} {p pos spos pos' : Pos} {tf : WF} {e : Expr}
theorem s_retO (h : PE X (.Name x p) (tVar i)) : SS X (.Return (some (.Name x p)) pos) (sRetO i) := PS.imp (ps_ret h) fun D σ H ⟨pn, F0, H0, F, env, b, PD, rep, t, k, r⟩ => by
  unfold sRetO at t
  split at t
  · rename_i y h
    obtain ⟨v, h1, h2⟩ := rep.rep.slot i _ h
    exact ⟨v, h1, r.1 v y F H b rep.rep.ok rep.ext h2 t⟩
  · rename_i ys h
    obtain ⟨v, h1, h2⟩ := rep.rep.slot i _ h
    exact ⟨v, h1, r.2 v ys F H b rep.rep.ok rep.ext h2 (fun a ea => rep.own i a _ rfl h (by rw [h1, ea])) t⟩
  · exact t.elim
theorem s_retF (he : EF X e tf) : SS X (.Return (some e) pos) (sRetF tf) := PS.imp (ps_ret he) fun D σ H ⟨pn, F0, H0, F, env, b, PD, rep, t, k, r⟩ =>
  ⟨pn, F, env, b, PD.rl, rep.rep, t, fun v d F' H' b' o x ow nw q => r.2 v d F' H' b' o (rep.ext.trans x) ow (fun a ea => rep.ext.bk rep.rep.ok (nw a ea)) q⟩
end
section
variable {P : Program} {w : World} {K : PySem.W.Frag} {mg : Str → Option Value} {base : Heap}
theorem ok_fnO {x qual : Str} {st : Stmt} {f : Addr} {fd : FuncData} {N ps : List Str} {k : Nat} {t : WS} (F : Fun K x qual st f fd) (S : FnScope N ps (defScope st))
    (body : ∀ (cdv : Value) (A : Around) (outer : List Env) (s : Shared) (H : Hp) (E : XK), Room k (A.deeper (envOfC qual (defScope st) s.heap.objs.size f cdv)) → SB (cxOf CX0 P w K mg base N qual (defScope st) f cdv A outer s H E).nox (defBody st) t) :
    FnOk P w K mg base CX0 (k + 1) f fd ps (spO K (wDefO ps.length N.length t)) := by
  refine F.ok S (fun vs H Q E h => ?_) (fun cdv A outer s H vs Q E hr h => ?_)
  · obtain ⟨pn, F, ss, b, P, L, o, ar, ⟨hl, _⟩, _⟩ := h
    rw [ar.len, hl]
  · obtain ⟨pn, F, ss, b, PP, L, o, ar, ⟨hl, q⟩, kk, kl⟩ := h
    exact ⟨lS K t, body cdv A outer s H E hr, pn, F, H, F, _, b, _, start_rep o ar, q,
      fun σ' F' H' env' b' rep' => ⟨fun q => kk .non .none F' H' b' rep'.rep.ok rep'.ext .non q, fun q => q, fun q => q⟩, ⟨fun v d F' H' b' o' x' rv q => kk v d F' H' b' o' x' rv q, fun v d F' H' b' o' x' ow nw q => kl v d F' H' b' o' x' ow nw q⟩⟩
theorem spO.fz {f : Addr} {fd : FuncData} {ps : List Str} {k : Nat} {t : WDO} (G : FnOk P w K mg base CX0 k f fd ps (spO K t)) : FnOk P w K mg base CX0 k f fd ps (spW K (fzO t)) :=
  G.imp fun vs H Q E ⟨pn, F, ss, b, PP, o, ar, q, kk⟩ => ⟨pn, F, ss, b, PP, _, o, ar, q, kk, fun v ds F' H' b' o' x ow nw q => by
    obtain ⟨a, us, rfl, f, n, nc, ha, rv⟩ := ow
    refine kk (.ref a) (.list ds) (upd F' a (.lst us)) H' b' (o'.settle ha f n nc) ⟨x.fsub.trans (same_new f), fun c u hc fc ncp => ?_⟩ (.lst upd_same (rv.mono (same_new f))) q
    obtain ⟨h1, f1⟩ := x.keep c u hc fc ncp
    exact ⟨h1, by rw [upd_ne (fun z => by rw [z, nw a rfl] at hc; cases hc)]; exact f1⟩⟩
end
/-- x = f(..), the list given back is one's own -/
def sSetO (f : WDO) (t : WA) (i : Nat) : WS := fun PD env b => t env b fun ss b1 => f ss b1 (fun d b2 => PD.nx (env.set i (some (.d d))) b2) (fun ds b2 => PD.nx (env.set i (some (.l ds))) b2)
section
variable {X : Cx} {e : Expr} {es : List Expr} {t : WA} {i : Nat} {x y : Str} {p pos spos pos' : Pos} {f : Addr} {fd : FuncData} {ps : List Str} {k : Nat} {w : WDO}
theorem s_setO (G : FnOk X.prog X.w X.K X.mg X.base CX0 k f fd ps (spO X.K w)) (hr : Room k X.A) (hg : Gl X x) (hm : X.mg x = some (.ref f)) (hk : PySem.W.keepIn X.K (.ref f) = true) (hb : Binds X.K fd ps []) (ha : EA X (e :: es) t)
    (hN : X.N.Nodup) (hi : X.N[i]? = some y) (hy : Loc X.env.scope y) (hdb : (x == ("__debug__" : Str)) = false := by decide)
    (he : starEach (e :: es) X.env = (false, eval e X.env) :: starEach es X.env := by rfl) (hpl : (backTo pos (starEach es X.env)).any (·.1) = false := by rfl) (hs : swapsWith (.Call (.Name x p) (e :: es) [] pos) (some (.Name y pos')) spos.line X.env = pure false := by rfl) (hf : X.fn y = true ∨ X.env.scope.names.lookup y = some .local := by first | exact .inl rfl | exact .inr rfl) :
    SS X (.Assign [.Name y pos'] (.Call (.Name x p) (e :: es) [] pos) spos) (sSetO w t i) := PS.imp (ps_set hN hi hy (pe_call G hr hg hm hk hb .nil pass0 ha hdb he hpl) hs hf) fun D σ H ⟨pn, F0, H0, F, env, b, PD, rep, t, k, r⟩ =>
  ⟨pn, F, env, b, _, rep.rep, t, fun vs ss F1 H1 b1 o1 e1 ar t1 => ⟨pn, F1, ss, b1, _, _, o1, by rw [List.append_nil]; exact ar, t1,
    fun v d F' H' b' o' e' rv q => (k _ F' H' _ b' (((rep.ext' o1 e1).ext' o' e').setD rv)).1 q,
    fun v d F' H' b' o' e' ow nw q => by
      have f1 := (rep.ext' o1 e1).fresh nw
      exact (k _ F' H' _ b' (((rep.ext' o1 e1).ext' o' e').setL ow f1)).1 q⟩⟩
end
def MDO (f : WDO) (ss : List Sl) (n : Nat) (R : PyData → Nat → Prop) (L : List PyData → Nat → Prop) : Prop :=
  ∀ (b : Nat) (P : PyData → Nat → Prop) (PL : List PyData → Nat → Prop), n ≤ b → (∀ r m b', R r m → m ≤ b' → P r b') → (∀ r m b', L r m → m ≤ b' → PL r b') → f ss b P PL
def MSO (t : WS) (env : En) (n : Nat) (N : En → Nat → Prop) (R : PyData → Nat → Prop) (L : List PyData → Nat → Prop) (B C : En → Nat → Prop) : Prop :=
  ∀ (PD : PEnds) (b : Nat), n ≤ b → (∀ e m b', N e m → m ≤ b' → PD.nx e b') → (∀ r m b', R r m → m ≤ b' → PD.rt r b') → (∀ r m b', L r m → m ≤ b' → PD.rl r b') →
    (∀ e m b', B e m → m ≤ b' → PD.bk e b') → (∀ e m b', C e m → m ≤ b' → PD.ct e b') → t PD env b
section
variable {t u tb : WS} {ta tc : WE} {tt : WT} {tf : WF} {ti : WI} {env : En} {n i j : Nat} {g : Tg} {N : En → Nat → Prop} {R : PyData → Nat → Prop} {L : List PyData → Nat → Prop} {B C : En → Nat → Prop}
theorem o_of (h : MS t env n N R B C) : MSO t env n N R L B C := fun PD b hb kn kr kl kb kc => h PD b hb kn kr kb kc
theorem o_seq (h : MS t env n (fun e m => MSO u e m N R L B C) R B C) : MSO (sSeq t u) env n N R L B C :=
  fun PD b hb kn kr kl kb kc => h _ b hb (fun e m b' q hm => q PD b' hm kn kr kl kb kc) kr kb kc
theorem o_seq' (h : MSO t env n (fun e m => MSO u e m N R L B C) R L B C) : MSO (sSeq t u) env n N R L B C :=
  fun PD b hb kn kr kl kb kc => h _ b hb (fun e m b' q hm => q PD b' hm kn kr kl kb kc) kr kl kb kc
theorem o_if (h : ME tt env n fun c m => (c = true → MSO t env m N R L B C) ∧ (c = false → MSO u env m N R L B C)) : MSO (sIf tt t u) env n N R L B C :=
  fun PD b hb kn kr kl kb kc => h b _ hb fun c m b1 ⟨q1, q2⟩ hb1 => by
    cases c with
    | true => exact q1 rfl PD b1 hb1 kn kr kl kb kc
    | false => exact q2 rfl PD b1 hb1 kn kr kl kb kc
theorem o_retO {xs : List PyData} (hx : env[i]? = some (some (.l xs))) (q : L xs n) : MSO (sRetO i) env n N R L B C :=
  fun PD b hb kn kr kl kb kc => by unfold sRetO; rw [hx]; exact kl _ n b q hb
theorem o_retF (h : ME tf env n L) : MSO (sRetF tf) env n N R L B C := fun PD b hb kn kr kl kb kc => h b _ hb kl
theorem mdo_def {np nn : Nat} {t : WS} {ss : List Sl} {n : Nat} {Q : PyData → Nat → Prop} {L : List PyData → Nat → Prop} {env : En} (hl : ss.length = np) (he : env0 nn ss = env) (h : MSO t env n (fun _ m => Q .none m) Q L noEnd noEnd) : MDO (wDefO np nn t) ss n Q L :=
  fun b P PL hb k kl => ⟨hl, by subst he; exact h _ b hb (fun e m b' q hm => k _ m b' q hm) k kl (fun _ _ _ q => q.elim) (fun _ _ _ q => q.elim)⟩
theorem md_fz {f : WDO} {ss : List Sl} {n : Nat} {Q : PyData → Nat → Prop} (h : MDO f ss n Q fun ds m => Q (.list ds) m) : MD (fzO f) ss n Q := fun b P hb k => h b P _ hb k fun r m b' q hm => k _ m b' q hm
theorem MDO.imp {f : WDO} {ss : List Sl} {n : Nat} {Q Q' : PyData → Nat → Prop} {L L' : List PyData → Nat → Prop} (h : MDO f ss n Q L) (i : ∀ r m, Q r m → Q' r m) (j : ∀ r m, L r m → L' r m) : MDO f ss n Q' L' :=
  fun b P PL hb k kl => h b P PL hb (fun r m b' q hm => k r m b' (i r m q) hm) fun r m b' q hm => kl r m b' (j r m q) hm
theorem n_setO {f : WDO} {tl : WA} (h : ME tl env n fun ss m => MDO f ss m (fun d m' => N (env.set i (some (.d d))) m') (fun ds m' => N (env.set i (some (.l ds))) m')) : MS (sSetO f tl i) env n N R B C :=
  fun PD b hb kn kr kb kc => h b _ hb fun ss m b1 q hb1 => q b1 _ _ hb1 (fun d m' b2 q hb2 => kn _ m' b2 q hb2) (fun d m' b2 q hb2 => kn _ m' b2 q hb2)
theorem n_dictK (h : ME ta env n fun d m => ∃ kvs, dictOf d kvs ∧ N (env.set i (some (.k kvs))) m) : MS (sDictK ta i) env n N R B C :=
  fun PD b hb kn kr kb kc => h b _ hb fun d m b1 ⟨kvs, hd, q⟩ hb1 => ⟨kvs, hd, kn _ m b1 q hb1⟩
theorem m_kin {kvs : List (Str × PyData)} {Q : PyData → Nat → Prop} {neg : Bool} (hx : env[i]? = some (some (.k kvs))) (h : ME ta env n fun d m => ∃ s, d = .str s ∧ Q (.bool (neg ^^ (lookS kvs s).isSome)) m) : ME (wKIn ta i neg) env n Q :=
  fun b P hb k => h b _ hb fun d m b1 ⟨s, e, q⟩ hb1 => by
    subst e
    rw [hx]
    exact k _ m b1 q hb1
theorem m_kget {kvs : List (Str × PyData)} {Q : PyData → Nat → Prop} (hx : env[i]? = some (some (.k kvs))) (h : ME ta env n fun d m => ∃ s z, d = .str s ∧ lookS kvs s = some z ∧ Q z m) : ME (wKGet ta i) env n Q :=
  fun b P hb k => by
    unfold wKGet
    rw [hx]
    refine h b _ hb fun d m b1 ⟨s, z, e, e2, q⟩ hb1 => ?_
    subst e
    show (match lookS kvs s with | some d => P d b1 | none => False)
    rw [e2]
    exact k _ m b1 q hb1
theorem n_kset {kvs : List (Str × PyData)} (hx : env[i]? = some (some (.k kvs))) (h : ME tc env n fun d m => ME ta env m fun y m' => ∃ s, y = .str s ∧ kvs.length < sizeLine ∧ N ((env.map noK).set i (some (.k (putS kvs s d)))) m') : MS (sKSet i ta tc) env n N R B C :=
  fun PD b hb kn kr kb kc => by
    unfold sKSet
    rw [hx]
    refine h b _ hb fun d m b1 hd hb1 => hd b1 _ hb1 fun y m' b2 ⟨s, e, l, q⟩ hb2 => ?_
    subst e
    exact ⟨l, kn _ m' b2 q hb2⟩
theorem m_klist {kvs : List (Str × PyData)} {QL : List PyData → Nat → Prop} (hx : env[i]? = some (some (.k kvs))) (q : QL (kvs.map fun p => .str p.1) n) : ME (wKList i) env n QL := fun b P hb k => by
  unfold wKList
  rw [hx]
  exact k _ n b q hb
theorem m_dget2 {te tz : WE} {Q : PyData → Nat → Prop} (h : ME te env n fun d m => ∃ kvs, dictOf d kvs ∧ ME ta env m fun y m1 => ∃ s, y = .str s ∧ ME tz env m1 fun z m2 => Q ((lookS kvs s).getD z) m2) : ME (wDGet te ta tz) env n Q :=
  fun b P hb k => h b _ hb fun d m b1 ⟨kvs, hd, h2⟩ hb1 => ⟨kvs, hd, h2 b1 _ hb1 fun y m1 b2 ⟨s, e, h3⟩ hb2 => by subst e; exact h3 b2 _ hb2 fun z m2 b3 q hb3 => k _ m2 b3 q hb3⟩
/-- sorted(x) -/
theorem m_sort {QL : List PyData → Nat → Prop} (h : ME ta env n fun d m => ∃ ds, itemsOf d = some ds ∧ W.AllAlike ds ∧ W.Sortable ds ∧ ds.length ≤ 100000 ∧ (∀ d ∈ ds, d.depth ≤ 40) ∧ QL (srt ds) m) : ME (w1L pSort ta) env n QL :=
  fun b P hb k => h b _ hb fun d m b1 ⟨ds, h1, h2, h3, h4, h5, q⟩ hb1 => ⟨ds, h1, h2, h3, h4, h5, k _ m b1 q hb1⟩
end
end Pu
namespace Pu
open PySem PySem.Spec PyProof.Rows L2 PuS
def pMulV : P2
  | .str s, .int n, P => -(2 ^ 63) ≤ n ∧ n ≤ 1 ∧ P (.str (Txt.mul s n))
  | x, y, P => pMulT x y P
def eMulV : PyData → PyData → Option PyData
  | .str s, .int n => if -(2 ^ 63) ≤ n ∧ n ≤ 1 then some (.str (Txt.mul s n)) else none
  | x, y => eMulT x y
theorem h2_mulV : H2 pMulV eMulV := fun x y P r q k => by
  unfold eMulV at q
  unfold pMulV
  split at q
  · obtain ⟨c, e⟩ := ite_some q
    subst e
    exact ⟨c.1, c.2, k⟩
  · rename_i h
    split
    · rename_i s n
      exact absurd rfl (h s n rfl)
    · exact h2_mulT _ _ P r q k
end Pu
namespace Pu
open PySem PySem.Spec PyProof.Rows L2 SeqAt PuS
theorem h1_lenSet2 : H1 pLenSet2 eLenSet := fun x P r q k => by
  obtain ⟨ks, h1, q⟩ := bnd q
  obtain ⟨c, e⟩ := ite_some q
  subst e
  exact .inl ⟨ks, keysF_ok h1, c, k⟩
section
variable {K : List Nat} {rules : List (List Nat × Nat)} {keys : List (List Nat)} {X f g : List Nat}
/-- how many columns are not found -/
def miss (K f : List Nat) : Nat := (K.filter fun c => !decide (c ∈ f)).length
theorem miss_add {c : Nat} (f : List Nat) : ∀ {K : List Nat}, K.Nodup → c ∈ K → c ∉ f → miss K (f ++ [c]) + 1 = miss K f
  | [], _, h, _ => nomatch h
  | k :: K, nd, h, hf => by
    obtain ⟨n1, n2⟩ := List.nodup_cons.mp nd
    unfold miss
    by_cases e : k = c
    · subst e
      rw [List.filter_cons_of_neg (by simp), List.filter_cons_of_pos (by simpa using hf), List.length_cons]
      refine congrArg (fun l : List Nat => l.length + 1) (List.filter_congr fun d hd => ?_)
      have : d ≠ k := fun z => n1 (z ▸ hd)
      simp [this]
    · have hc : c ∈ K := by
        rcases List.mem_cons.mp h with z | z
        · exact absurd z.symm e
        · exact z
      have ih := miss_add f n2 hc hf
      unfold miss at ih
      by_cases q : k ∈ f
      · rw [List.filter_cons_of_neg (by simp [q]), List.filter_cons_of_neg (by simp [q])]
        exact ih
      · rw [List.filter_cons_of_pos (by simp [q, e]), List.filter_cons_of_pos (by simp [q]), List.length_cons, List.length_cons]
        omega
theorem miss_le (K f : List Nat) : miss K f ≤ K.length := List.length_filter_le _ _
theorem miss_self : miss K K = 0 := by
  unfold miss
  rw [List.length_eq_zero_iff, List.filter_eq_nil_iff]
  intro c hc
  simp [hc]
structure LawG (K : List Nat) (rules : List (List Nat × Nat)) (keys : List (List Nat)) (X f : List Nat) : Prop where
  btw : Btw K rules keys X f
  sub : ∀ c ∈ f, c ∈ K
  len : f.length + miss K f ≤ 20
theorem addR_lawG {p : List Nat × Nat} (nd : K.Nodup) (hp : p ∈ rules) (hr : ∀ p ∈ rules, p.2 ∈ K) (h : LawG K rules keys X f) : LawG K rules keys X (addR f p) ∧ miss K (addR f p) + (addR f p).length = miss K f + f.length := by
  unfold addR
  split
  · rename_i c
    have m := miss_add f nd (hr p hp) c.2
    refine ⟨⟨⟨fun c hc => List.mem_append_left _ (h.btw.low c hc), fun S cl hX c' hc => ?_⟩, fun c' hc => ?_, ?_⟩, ?_⟩
    · rcases List.mem_append.mp hc with hc | hc
      · exact h.btw.high S cl hX c' hc
      · rw [List.mem_singleton.mp hc]
        exact cl.rule p hp fun d hd => h.btw.high S cl hX d (inB_iff.mp c.1 d hd)
    · rcases List.mem_append.mp hc with hc | hc
      · exact h.sub c' hc
      · rw [List.mem_singleton.mp hc]; exact hr p hp
    · have := h.len
      rw [List.length_append, List.length_singleton]
      omega
    · rw [List.length_append, List.length_singleton]
      omega
  · exact ⟨h, rfl⟩
theorem foldR_lawG (nd : K.Nodup) (hr : ∀ p ∈ rules, p.2 ∈ K) : ∀ (rs : List (List Nat × Nat)) (f : List Nat), (∀ p ∈ rs, p ∈ rules) → LawG K rules keys X f → LawG K rules keys X (rs.foldl addR f) ∧ miss K (rs.foldl addR f) + (rs.foldl addR f).length = miss K f + f.length
  | [], _, _, h => ⟨h, rfl⟩
  | p :: rs, f, hs, h => by
    obtain ⟨h1, h2⟩ := addR_lawG nd (hs p List.mem_cons_self) hr h
    obtain ⟨h3, h4⟩ := foldR_lawG nd hr rs _ (fun q hq => hs q (List.mem_cons_of_mem _ hq)) h1
    exact ⟨h3, h4.trans h2⟩
theorem turnL_lawG (nd : K.Nodup) (k5 : K.length ≤ 5) (hr : ∀ p ∈ rules, p.2 ∈ K) (h : LawG K rules keys X f) : LawG K rules keys X (turnL K rules keys f) := by
  obtain ⟨h1, _⟩ := foldR_lawG nd hr rules f (fun _ hp => hp) h
  unfold turnL
  by_cases a : keys.any (fun k => inB k (rules.foldl addR f)) = true
  · rw [if_pos a]
    obtain ⟨k, hk, hi⟩ := List.any_eq_true.mp a
    exact ⟨⟨fun c hc => h.sub c (h.btw.low c hc), fun S cl hX c hc => cl.key k hk (fun d hd => h1.btw.high S cl hX d (inB_iff.mp hi d hd)) c hc⟩, fun _ hc => hc, by rw [miss_self]; omega⟩
  · rw [if_neg a]; exact h1
theorem turnL_fixG (hr : ∀ p ∈ rules, p.2 ∈ K) (e : turnL K rules keys f = f) : Closed K rules keys (· ∈ f) := by
  unfold turnL at e
  by_cases a : keys.any (fun k => inB k (rules.foldl addR f)) = true
  · rw [if_pos a] at e
    subst e
    exact ⟨fun p hp _ => hr p hp, fun _ _ _ c hc => hc⟩
  · rw [if_neg a] at e
    obtain ⟨_, i2⟩ := foldR_same rules f (by rw [e])
    refine ⟨i2, fun k hk hc => ?_⟩
    have q : inB k (rules.foldl addR f) = true := inB_iff.mpr (by rw [e]; exact hc)
    exact absurd (List.any_eq_true.mpr ⟨k, hk, q⟩) a
def leftG (K f : List Nat) : Nat := if f = K then 0 else miss K f + 1
theorem leftG_less (nd : K.Nodup) (hr : ∀ p ∈ rules, p.2 ∈ K) (h : LawG K rules keys X f) (e : turnL K rules keys f ≠ f) : leftG K (turnL K rules keys f) < leftG K f := by
  obtain ⟨h1, hm⟩ := foldR_lawG nd hr rules f (fun _ hp => hp) h
  have hlen := foldR_len rules f
  have same : (rules.foldl addR f).length = f.length → rules.foldl addR f = f := fun q => (foldR_same rules f q).1
  have hfK : f ≠ K := fun q => by
    subst q
    have : miss f f = 0 := miss_self
    have i1 := same (by omega)
    apply e
    unfold turnL
    rw [i1]
    split <;> rfl
  unfold leftG
  rw [if_neg hfK]
  by_cases z : turnL K rules keys f = K
  · rw [if_pos z]; omega
  · rw [if_neg z]
    have a : ¬ keys.any (fun k => inB k (rules.foldl addR f)) = true := fun a => z (by unfold turnL; rw [if_pos a])
    have et : turnL K rules keys f = rules.foldl addR f := by unfold turnL; rw [if_neg a]
    rw [et] at e ⊢
    have : (rules.foldl addR f).length ≠ f.length := fun q => e (same q)
    omega
theorem btw_filter (h : Btw K rules keys X g) (hX : ∀ c ∈ X, c ∈ K) : Btw K rules keys (K.filter fun c => decide (c ∈ X)) g :=
  ⟨fun c hc => h.low c (of_decide_eq_true (List.mem_filter.mp hc).2), fun S cl hs c hc => h.high S cl (fun d hd => hs d (List.mem_filter.mpr ⟨hX d hd, decide_eq_true hd⟩)) c hc⟩
end
end Pu
namespace Pu
open PySem PySem.Spec PyProof.Rows L2 SeqAt PuS
abbrev CsT := List (Nat × Int)
def colsC (cs : CsT) : List Nat := cs.map (·.1)
def fixC (cs : CsT) (c : Nat) : Option Int := (cs.find? fun p => decide (p.1 = c)).map (·.2)
theorem fixC_none {cs : CsT} {c : Nat} : fixC cs c = none ↔ c ∉ colsC cs := by
  unfold fixC colsC
  rw [Option.map_eq_none_iff, List.find?_eq_none]
  constructor
  · intro h z
    obtain ⟨p, hp, e⟩ := List.mem_map.mp z
    exact h p hp (decide_eq_true e)
  · intro h p hp z
    exact h (List.mem_map.mpr ⟨p, hp, of_decide_eq_true z⟩)
def srtC (cs : CsT) : CsT := cs.mergeSort fun a b => decide (a.1 ≤ b.1)
theorem srtC_perm (cs : CsT) : (srtC cs).Perm cs := List.mergeSort_perm _ _
theorem srtC_asc {cs : CsT} (nd : (colsC cs).Nodup) : (colsC (srtC cs)).Pairwise (· < ·) := by
  have h := List.pairwise_mergeSort (le := fun a b : Nat × Int => decide (a.1 ≤ b.1)) (fun a b c h1 h2 => decide_eq_true (Nat.le_trans (of_decide_eq_true h1) (of_decide_eq_true h2))) (fun a b => by
    rcases Nat.le_total a.1 b.1 with z | z <;> simp [z]) cs
  have nd2 : (colsC (srtC cs)).Nodup := (((srtC_perm cs).map (·.1)).symm : (cs.map (·.1)).Perm ((srtC cs).map (·.1))).nodup nd
  have h2 : (colsC (srtC cs)).Pairwise (· ≤ ·) := by
    unfold colsC
    rw [List.pairwise_map]
    exact h.imp fun {a b} z => of_decide_eq_true z
  exact (h2.and nd2).imp fun {a b} z => Nat.lt_of_le_of_ne z.1 z.2
structure CsOk (K : List Nat) (cs : CsT) : Prop where
  asc : (colsC cs).Pairwise (· < ·)
  sub : ∀ c ∈ colsC cs, c ∈ K
inductive Stp where
  | whr (c : Nat) (v : Int)
  | srt (b : Bool) (p : List Nat)
  | cut (b : Bool) (n : Nat)
  | col (l : List Nat)
  | grp (w : Str) (r : List PyData)
def stpD : Stp → PyData
  | .whr c v => .tuple [.str "where", sg c, .int v]
  | .srt true p => .tuple [.str "stable", .str (tx p)]
  | .srt false p => .tuple [.str "sort", .str (tx p)]
  | .cut true n => .tuple [.str "first", .int (n : Nat)]
  | .cut false n => .tuple [.str "skip", .int (n : Nat)]
  | .col l => .tuple [.str "columns", .str (tx l)]
  | .grp w r => .tuple (.str w :: r)
def StpOk (K : List Nat) : Stp → Prop
  | .whr c _ => c ∈ K
  | .srt _ p => (∀ c ∈ p, c ∈ K) ∧ p.Nodup
  | .cut _ _ => True
  | .col l => l.Sublist K
  | .grp w _ => w = Str.ofString "count" ∨ w = Str.ofString "sum" ∨ w = Str.ofString "heads"
section
variable {K : List Nat} {rules : List Rule} {keys : List (List Nat)}
theorem CsOk.few (hK : ColsOk K) {cs : CsT} (h : CsOk K cs) : cs.length ≤ 5 := by
  have := nodup_len (asc_nodup h.asc) h.sub
  unfold colsC at this
  rw [List.length_map] at this
  have := hK.few
  omega
theorem CsOk.put {cs : CsT} {c : Nat} {v : Int} (h : CsOk K cs) (hc : c ∈ K) (hf : fixC cs c = none) : CsOk K (srtC (cs ++ [(c, v)])) ∧ (colsC (cs ++ [(c, v)])).Nodup := by
  have nd : (colsC (cs ++ [(c, v)])).Nodup := by
    unfold colsC
    rw [List.map_append, List.nodup_append]
    exact ⟨asc_nodup h.asc, by simp, fun a ha b hb => by
      have : b = c := by simpa using hb
      subst this
      exact fun e => fixC_none.mp hf (e ▸ ha)⟩
  refine ⟨⟨srtC_asc nd, fun d hd => ?_⟩, nd⟩
  have : d ∈ colsC (cs ++ [(c, v)]) := ((srtC_perm _).map (·.1)).mem_iff.mp hd
  unfold colsC at this
  rw [List.map_append] at this
  rcases List.mem_append.mp this with z | z
  · exact h.sub d z
  · have : d = c := by simpa using z
    rw [this]; exact hc
end
end Pu
namespace Pu
open PySem PySem.Spec PyProof.Rows L2
end Pu
namespace Pu
open PySem PySem.Spec PyProof.Rows L2 PuS
section
variable (X : Cx) (ir : Nat) (xr : Str)
/-- the name xr in slot ir holds a text that is not empty, its token known -/
structure Sign (y : Str) (tk : Tok) (σ : L2.St) (s : Shared) : Prop where
  at_ : σ[ir]? = some (some (.str y))
  raw : Raw X xr (.str y tk) s
  t0 : tk ≠ 0
  tl : tk < s.toks
  ny : (y == Str.empty) = false
def PER (e : Expr) (t : TE) : Prop := ∀ (pins : List (Addr × Obj)) (s : Shared) (σ : L2.St) (H : Hp) (Q : VK) (y : Str) (tk : Tok), Sign X ir xr y tk σ s → Inv X pins σ H s → t σ H Q → wpAny (model X.prog X.w) X.A (eval e X.env) (EP X pins σ Q) X.xe s
def PAR (es : List Expr) (t : TA) : Prop := ∀ (pos : Pos) (pins : List (Addr × Obj)) (s : Shared) (σ : L2.St) (H : Hp) (Q : List V → Hp → Prop) (y : Str) (tk : Tok), Sign X ir xr y tk σ s → Inv X pins σ H s → t σ H Q → wpAny (model X.prog X.w) X.A (spliced (backTo pos (starEach es X.env))) (AP X pins σ Q) X.xe s
def PSR (st : Stmt) (t : TS) : Prop := ∀ (pins : List (Addr × Obj)) (s : Shared) (σ : L2.St) (H : Hp) (D : Ends) (y : Str) (tk : Tok), Sign X ir xr y tk σ s → Inv X pins σ H s → t D σ H → wpAny (model X.prog X.w) X.A (exec st X.env) (SP X pins D) X.xe s
end
section
variable {X : Cx} {ir : Nat} {xr : Str} {e : Expr} {es : List Expr} {te : WE}
theorem PER.imp {t u : TE} (h : PER X ir xr e t) (i : ∀ σ H Q, u σ H Q → t σ H Q) : PER X ir xr e u := fun pins s σ H Q y tk sg I q => h pins s σ H Q y tk sg I (i _ _ _ q)
theorem PAR.imp {t u : TA} (h : PAR X ir xr es t) (i : ∀ σ H Q, u σ H Q → t σ H Q) : PAR X ir xr es u := fun pos pins s σ H Q y tk sg I q => h pos pins s σ H Q y tk sg I (i _ _ _ q)
theorem PSR.imp {st : Stmt} {t u : TS} (h : PSR X ir xr st t) (i : ∀ D σ H, u D σ H → t D σ H) : PSR X ir xr st u := fun pins s σ H D y tk sg I q => h pins s σ H D y tk sg I (i _ _ _ q)
end
end Pu
namespace Pu
open PySem PySem.Spec PyProof.Rows L2 PuS
end Pu
namespace Pu
open PySem PySem.Spec PyProof.Rows L2 SeqAt PuS
end Pu
namespace PuK
open PySem PySem.W PySem.Calls PyProof.Rows
section
variable {prog : Program} {w : World} {A : Around} {E : Value → Shared → Prop} {s : Shared} {a : Addr} {vs : List Value} {P : PySem.Fin → Shared → Prop} {kz : List PyData}
/-- the keys told so far are read, away from the list of keys at k -/
def KeysAt (k : Addr) (h : Heap) (ks : List Value) (ds : List PyData) : Prop := EachIs (fun v d => (∃ as, Reads h v d as ∧ k ∉ as) ∧ alike d d = true) ks ds
theorem KeysAt.len {k : Addr} {h : Heap} {ks : List Value} {ds : List PyData} (e : KeysAt k h ks ds) : ks.length = ds.length := e.length
theorem KeysAt.plain {k : Addr} {h : Heap} {ks : List Value} {ds : List PyData} (e : KeysAt k h ks ds) : EachIs (fun v d => ∃ as, Reads h v d as) ks ds := e.mono fun _ _ ⟨⟨as, r, _⟩, _⟩ => ⟨as, r⟩
end
end PuK
namespace Pu
open PySem PySem.Spec PyProof.Rows L2 LamX
/-- its names: the parameter x in slot ip, what its comprehensions store (own), captured ones, globals -/
structure Lam1 (N : List Str) (sc scope : Scope) (ip : Nat) (x : Str) (own : List Nat) : Prop where
  kind : scope.kind = .function
  co : scope.isCoroutine = false
  gen : scope.isGenerator = false
  nocell : ∀ y ∈ scope.names, y.2 ≠ .cell
  par : scope.names.lookup x = some .local
  at_ : N[ip]? = some x
  out : ip ∉ own
  loc : ∀ i y, N[i]? = some y → scope.names.lookup y = some .local → i = ip ∨ i ∈ own
  free : ∀ y ∈ scope.names, y.2 = .free → sc.names.lookup y.1 = some .cell ∨ sc.names.lookup y.1 = some .free
section
variable {X : Cx} {pins : List (Addr × Obj)} {σ : L2.St} {H : Hp} {s : Shared} {N : List Str} {scope : Scope} {ip : Nat} {x : Str} {own : List Nat}
theorem Lam1.has (L : Lam1 N X.env.scope scope ip x own) (ok : X.Ok) : ∀ y ∈ scope.names, y.2 = .free → ∃ c, X.env.cells.lookup y.1 = some c := fun y hy e => (L.free y hy e).elim (fun k => ok.has _ (.inl k)) fun k => ok.has _ (.inr k)
end
end Pu
namespace Pu
open PySem PySem.Spec PyProof.Rows L2 LamX
def markItems : List (Addr × Str) → List Value
  | [] => []
  | (a, q) :: r => .ref a :: .str q 0 :: markItems r
def markO (T : List (Addr × Str)) : Obj := { cls := .none, data := .seq (markItems T).toArray 0 }
def withT (K : PySem.W.Frag) (a : Addr) (T : List (Addr × Str)) : PySem.W.Frag := K ++ [(a, markO T)]
theorem tabPairs_mark : ∀ T, tabPairs (markItems T) = T
  | [] => rfl
  | (a, q) :: r => by
    show (a, q) :: tabPairs (markItems r) = _
    rw [tabPairs_mark r]
theorem tabF_with {K : PySem.W.Frag} {a : Addr} {T : List (Addr × Str)} : tabF (withT K a T) = T := by
  unfold tabF withT
  rw [List.getLast?_concat]
  show tabPairs (markItems T).toArray.toList = T
  exact tabPairs_mark T
theorem lookup_with {K : PySem.W.Frag} {a : Addr} {T : List (Addr × Str)} (h : ∃ o, K.lookup a = some o) (b : Addr) : (withT K a T).lookup b = K.lookup b := by
  unfold withT
  rw [List.lookup_append]
  cases e : K.lookup b with
  | some o => rfl
  | none =>
    have ne : b ≠ a := fun z => by
      obtain ⟨o, h⟩ := h
      rw [z, h] at e
      cases e
    show (match b == a with | true => some (markO T) | false => none) = none
    rw [beq_eq_false_iff_ne.mpr ne]
section
variable {K K' : PySem.W.Frag}
theorem codeIn_cong (e : ∀ b, K'.lookup b = K.lookup b) (v : Value) (q : Str) : PySem.W.codeIn K' v q = PySem.W.codeIn K v q := by
  unfold PySem.W.codeIn
  cases v <;> simp only [e]
theorem _root_.L2.Fun.cong (e : ∀ b, K'.lookup b = K.lookup b) {x qual : Str} {st : Stmt} {f : Addr} {fd : FuncData} (F : Fun K x qual st f fd) : Fun K' x qual st f fd := by
  obtain ⟨⟨oc, od, kV, doc, pm, an, cdv, ct, osl, h1, h2, h3⟩, _⟩ := F
  refine ⟨⟨oc, od, kV, doc, pm, an, cdv, ct, osl, h1, (e f).trans h2, (codeIn_cong e _ _).trans h3⟩, ?_⟩
  unfold PySem.W.keepIn
  simp only [e, h2]
theorem In.cong (e : ∀ b, K'.lookup b = K.lookup b) {h : Heap} (X : K.In h) : K'.In h := fun a o z => X a o ((e a).symm.trans z)
end
def SysT (h : Heap) : Prop := ∃ (o : Obj) (c : String), h.get? sysModules = some o ∧ o.cls = .type c ∧ c ≠ "list"
theorem sysT_ok {h : Heap} (e : sysB h.get? = true) : SysT h := by
  unfold sysB at e
  cases q : h.get? sysModules with
  | none => rw [q] at e; cases e
  | some o =>
    rw [q] at e
    obtain ⟨c, d, dt, sl⟩ := o
    cases c with
    | type n =>
      refine ⟨_, n, q, rfl, fun z => ?_⟩
      have e' : (!decide (n = "list")) = true := e
      simp [z] at e'
    | _ => cases e
abbrev TQ := List (He.Defn × Str)
def defsT (tq : TQ) : List He.Defn := tq.map (·.1)
def tabAt (K : PySem.W.Frag) (tq : TQ) : List (Addr × Str) := tq.map fun p => ((He.cT K p.1).2, p.2)
def apartB (K : PySem.W.Frag) (tq : TQ) : Bool := decide ((tabAt K tq).map (·.1)).Nodup
def obsHK (fa : List He.Fa) (fn : List He.DefD) (tb : Tbl) (tq : TQ) (g : Addr → Option Obj) (K : PySem.W.Frag) : Bool × Bool × He.AlD := (He.tabsB g (defsT tq) K && apartB K tq, obsC fa fn tb K)
def obsHG (n : Nat) (fa : List He.Fa) (fn : List He.DefD) (tb : Tbl) (tq : TQ) (g : Addr → Option Obj) : Bool × Bool × Bool × He.AlD := (sysB g, obsHK fa fn tb tq g (He.frT g (He.asD g n)))
structure SaysH (fa : List He.Fa) (fn : List He.DefD) (tb : Tbl) (tq : TQ) (h : Heap) (K : PySem.W.Frag) : Prop where
  c : SaysC fa fn tb K
  hd : ∀ p ∈ tq, PySem.W.codeHdIn K (He.cT K p.1).1 (He.cT K p.1).2 = true
  out : ∀ p ∈ tq, K.lookup (He.cT K p.1).2 = none
  empty : ∀ p ∈ tq, h.get? (He.cT K p.1).2 = some { cls := .none, data := .fields #[] }
  nd : ((tabAt K tq).map (·.1)).Nodup
theorem saysH_of {n : Nat} {fa : List He.Fa} {fn : List He.DefD} {tb : Tbl} {tq : TQ} {h : Heap} (e : obsHK fa fn tb tq h.get? (He.frT h.get? (He.asD h.get? n)) = (true, true, He.valD fn)) : SaysH fa fn tb tq h (He.frT h.get? (He.asD h.get? n)) := by
  have e2 : (He.tabsB h.get? (defsT tq) (He.frT h.get? (He.asD h.get? n)) && apartB (He.frT h.get? (He.asD h.get? n)) tq) = true := congrArg (fun z : Bool × Bool × He.AlD => z.1) e
  have e1 : obsC fa fn tb (He.frT h.get? (He.asD h.get? n)) = (true, He.valD fn) := congrArg (fun z : Bool × Bool × He.AlD => z.2) e
  obtain ⟨h2, h5⟩ := He.ba e2
  have key : ∀ p ∈ tq, PySem.W.codeHdIn (He.frT h.get? (He.asD h.get? n)) (He.cT (He.frT h.get? (He.asD h.get? n)) p.1).1 (He.cT (He.frT h.get? (He.asD h.get? n)) p.1).2 = true ∧ ∃ o, h.get? (He.cT (He.frT h.get? (He.asD h.get? n)) p.1).2 = some o ∧ He.emptyTab o = true := fun p hp => by
    obtain ⟨h3, h4⟩ := He.ba (List.all_eq_true.mp h2 p.1 (List.mem_map.mpr ⟨p, hp, rfl⟩))
    refine ⟨h3, ?_⟩
    cases q : h.get? (He.cT (He.frT h.get? (He.asD h.get? n)) p.1).2 with
    | none =>
      rw [q] at h4
      cases h4
    | some o =>
      rw [q] at h4
      exact ⟨o, rfl, h4⟩
  exact ⟨e1, fun p hp => (key p hp).1, fun p hp => by
    obtain ⟨_, o, q, z⟩ := key p hp
    exact He.frT_none q z, fun p hp => by
    obtain ⟨_, o, q, z⟩ := key p hp
    rw [q, He.emptyTab_eq z], of_decide_eq_true h5⟩
/-- the code objects and their tables -/
def codesT (K : PySem.W.Frag) (tq : TQ) : List (Addr × Addr) := tq.map fun p => He.cT K p.1
section
variable {fa : List He.Fa} {fn : List He.DefD} {tb : Tbl} {tq : TQ} {h : Heap} {K : PySem.W.Frag}
theorem SaysH.mem (x : SaysH fa fn tb tq h K) (i : Nat) {p : He.Defn} {q : Str} (e : tq[i]? = some (p, q) := by rfl) : ((He.cT K p).2, q) ∈ tabAt K tq := List.mem_map.mpr ⟨(p, q), List.mem_of_getElem? e, rfl⟩
end
theorem law_callH {P : Program} {w : World} {K : PySem.W.Frag} {mg mb : Str → Option Value} {k : Nat} {fa a : Addr} {cs : List (Addr × Addr)} {fd : FuncData} {x : Str} {sp : Sp} {s₁ : Shared} {vs : List Value} {ns : List Int}
    (KX : K.In s₁.heap) (hns : s₁.heap.Ns mainGlobals mg) (hb : s₁.heap.Ns builtinsNs mb) (hbb : ∀ x : Str, x ≠ "__name__" → mb x = bootBuiltins x) (hlim : s₁.heap.NoLimit) (hg : s₁.gens = #[]) (sy : SysT s₁.heap)
    (hT : ∀ p ∈ cs, s₁.heap.get? p.2 = some { cls := .none, data := .fields #[] }) (nT : ∀ p ∈ cs, K.lookup p.2 = none) (C : ∀ p ∈ cs, PySem.W.CodeHd s₁.heap p.1 p.2)
    (hbm : ∃ (bm : Addr) (ob : Obj), mg "__builtins__" = some (.ref bm) ∧ bm ≠ builtinsNs ∧ s₁.heap.get? bm = some ob ∧ ob.cls = .type "module" ∧ ob.dict = some builtinsNs ∧ ob.data = .plain)
    (ha : s₁.heap.get? a = some { cls := .type "list", data := .seq vs.toArray }) (hi : IntsAre vs ns) (hl : ns.length ≤ sizeLine) (hr : Room k callerA)
    (F : ∀ base : Heap, K.In base → base.Ns mainGlobals mg → (∀ p ∈ cs, TabB base mg p.1 p.2) → TopOk P w K mg base k fa fd [x] sp) (hbind : ∀ (s : Shared) (u : Value), BindsTo s fd ⟨[u], []⟩ [(x, u)])
    (hsp : ∀ H : Hp, (∀ p ∈ cs, H p.2 = some (.tbl #[])) → SqL K H a (ns.map V.int) → sp [.ref a] H (fun v _ => v = .bl true) fun _ _ _ => False) :
    codeAny (model P w) callerA (.call (.ref fa) ⟨[.ref a], []⟩) (fun r s' => r = .ok (.ret (.bool true)) ∧ OldK s₁.heap s'.heap ∧ s'.os = s₁.os ∧ AllBare s'.gens) s₁ := by
  have rv := vals_ints hi
  have lenV := hi.length
  have isT : ∀ b : Addr, b ∈ cs.map (·.2) → s₁.heap.get? b = some { cls := .none, data := .fields #[] } := fun b hb => by
    obtain ⟨p, hp, e⟩ := List.mem_map.mp hb
    rw [← e]
    exact hT p hp
  have aT : a ∉ cs.map (·.2) := fun z => by
    have q := isT a z
    rw [ha] at q
    have z' : Data.seq vs.toArray _ = Data.fields #[] := congrArg Obj.data (Option.some.inj q)
    cases z'
  have memT : ∀ p ∈ cs, p.2 ∈ cs.map (·.2) := fun p hp => List.mem_map.mpr ⟨p, hp, rfl⟩
  obtain ⟨os, sc, so, sk, sn⟩ := sy
  have nsA : sysModules ≠ a := fun z => by
    rw [z, ha] at so
    cases so
    exact sn (by injection sk with sk; exact sk.symm)
  have nsT : sysModules ∉ cs.map (·.2) := fun z => by
    have q := isT _ z
    rw [so] at q
    cases q
    cases sk
  -- from an abstract heap in which nothing but the script and the tables may be tracked
  have core : ∀ H : Hp, (∀ p ∈ cs, H p.2 = some (.tbl #[])) → (∀ b, H b = none ∨ b ∈ cs.map (·.2) ∨ ∃ o xs, H b = some (.frz o (.lst xs))) → SqL K H a (ns.map V.int) → HOk P w H s₁.heap → (∀ b, H b ≠ none → b = a ∨ b ∈ cs.map (·.2)) → (H a ≠ none → K.lookup a = none) →
      codeAny (model P w) callerA (.call (.ref fa) ⟨[.ref a], []⟩) (fun r s' => r = .ok (.ret (.bool true)) ∧ OldK s₁.heap s'.heap ∧ s'.os = s₁.os ∧ AllBare s'.gens) s₁ := by
    intro H hH hO hS hok hA hK
    have base_of : ∀ {b : Addr} {o : Obj}, s₁.heap.get? b = some o → H b = none → (hidT s₁.heap H).get? b = some o := fun e n => hidT_get e n
    have noD : ∀ {b : Addr} {o : Obj}, s₁.heap.get? b = some o → (∀ vs n, o.data ≠ .seq vs n) → o.data ≠ .fields #[] → H b = none := fun {b o} e h1 h2 => by
      cases q : H b with
      | none => rfl
      | some u =>
        rcases hA b (by rw [q]; simp) with e' | e'
        · rw [e', ha] at e
          cases e
          exact (h1 _ _ rfl).elim
        · rw [isT b e'] at e
          cases e
          exact (h2 rfl).elim
    have noA : ∀ {b : Addr} {o : Obj} {es : Array DictEntry} {ep : Nat}, s₁.heap.get? b = some o → o.data = .dict es ep → H b = none := fun {b o es ep} e d => by
      refine noD e (fun vs n z => ?_) fun z => ?_
      · rw [d] at z
        cases z
      · rw [d] at z
        cases z
    have nsK : ∀ {b : Addr} {m : Str → Option Value}, s₁.heap.Ns b m → (hidT s₁.heap H).Ns b m := fun {b m} ⟨o, es, ep, e, d, r⟩ => ⟨o, es, ep, base_of e (noA e d), d, r⟩
    have hKb : K.In (hidT s₁.heap H) := fun b o e => base_of (KX b o e) (by
      cases q : H b with
      | none => rfl
      | some u =>
        rcases hA b (by rw [q]; simp) with e' | e'
        · rw [e'] at e q
          rw [hK (by rw [q]; simp)] at e
          cases e
        · obtain ⟨p, hp, ep⟩ := List.mem_map.mp e'
          rw [← ep, nT p hp] at e
          cases e)
    have hM : L2.Mod K mg (hidT s₁.heap H) := ⟨hKb, nsK hns, ⟨mb, nsK hb, hbb⟩, let ⟨mc, h1, h2⟩ := hlim; ⟨mc, nsK h1, h2⟩⟩
    have TB : ∀ p ∈ cs, TabB (hidT s₁.heap H) mg p.1 p.2 := fun p hp => by
      have hTp := hT p hp
      refine ⟨?_, ?_, fun z => ?_⟩
      · obtain ⟨o, us, file, tf, flags, tg, inF, text, tt, e1, r1, r2, r3, r4, r5, r6, r7, r8, hne⟩ := C p hp
        refine ⟨o, us, file, tf, flags, tg, inF, text, tt, base_of e1 (noD e1 (fun vs n z => ?_) fun z => ?_), r1, r2, r3, r4, r5, r6, r7, r8, hne⟩
        · rw [r2] at z
          cases z
        · rw [r2] at z
          cases z
          simp at r3
      · obtain ⟨bm, ob, b1, b2, b3, b4, b5, b6⟩ := hbm
        have nG : bm ≠ mainGlobals := fun q => by
          obtain ⟨o, es, ep, e, hd, _⟩ := hns
          rw [q, e] at b3
          cases b3
          rw [hd] at b6
          cases b6
        have nP : bm ≠ p.2 := fun q => by
          rw [q, hTp] at b3
          cases b3
          cases b6
        refine ⟨bm, ob, b1, b2, nG, nP, base_of b3 (noD b3 (fun vs n z => ?_) fun z => ?_), b4, b5, b6⟩
        · rw [b6] at z
          cases z
        · rw [b6] at z
          cases z
      · obtain ⟨o, es, ep, e, hd, _⟩ := hns
        rw [z, hTp] at e
        cases e
        cases hd
    have hSys : H sysModules = none := by
      cases q : H sysModules with
      | none => rfl
      | some u =>
        rcases hA _ (by rw [q]; simp) with e' | e'
        · exact absurd e' nsA
        · exact absurd e' nsT
    have e0 : Env0 P w K mg (hidT s₁.heap H) callerA [] s₁ H := ⟨rfl, hM, fun b o e => of_hidT e, Nat.le_of_eq (hidT_size _ _), trivial, fun b hb => absurd (show b ∈ ([] : List Addr) from hb) (by simp), hok, .of_eq hg⟩
    refine codeAny_mono (F _ hKb (nsK hns) TB callerA [] s₁ H ⟨[.ref a], []⟩ [.ref a] [.ref a] _ _ hr rfl ⟨os, so⟩ hSys e0 (hbind s₁ (.ref a)) (.cons rfl .nil) (hsp H hH hS)) fun r s' h => ?_
    cases r with
    | error e => exact False.elim h
    | ok fl =>
      cases fl with
      | next => exact False.elim h
      | brk => exact False.elim h
      | cont => exact False.elim h
      | ret u =>
        obtain ⟨v, H', os', bare, un, hok', r', q⟩ := h
        have q' : v = .bl true := q
        subst q'
        obtain rfl : u = Value.bool true := r'
        have key : ∀ b o, b ∉ cs.map (·.2) → s₁.heap.get? b = some o → s'.heap.get? b = some o := fun b o nb e => by
          cases q : H b with
          | none => exact un.keep b o e q (by intro z; exact absurd (show b ∈ ([] : List Addr) from z) (by simp)) (by simp)
          | some u =>
            rcases hO b with z | z | ⟨ob, xs, z⟩
            · rw [q] at z; cases z
            · exact absurd z nb
            · have z2 := un.frzs b ob _ z
              obtain ⟨e1, _⟩ := hok b _ z
              obtain ⟨e2, _⟩ := hok' b _ z2
              rw [e] at e1; cases e1
              exact e2
        have grown : ∀ p ∈ cs, ∃ more : Array Value, s'.heap.get? p.2 = some { cls := .none, data := .fields more } := fun p hp => by
          obtain ⟨more, z⟩ := un.tbls p.2 #[] (hH p hp)
          exact ⟨_, hok' p.2 _ z⟩
        refine ⟨rfl, ⟨fun b o e => ?_, fun b o e => ?_⟩, os', bare⟩
        · by_cases hb : b ∈ cs.map (·.2)
          · obtain ⟨p, hp, ep⟩ := List.mem_map.mp hb
            obtain ⟨more, hm⟩ := grown p hp
            rw [← ep] at e ⊢
            rw [hT p hp] at e
            cases e
            exact .inr (.inl ⟨((C p hp).tab (hT p hp)).isCodeTable, rfl, #[], more, rfl, by rw [Array.empty_append]; exact hm⟩)
          · exact .inl (key b o hb e)
        · by_cases hb : b ∈ cs.map (·.2)
          · obtain ⟨p, hp, ep⟩ := List.mem_map.mp hb
            obtain ⟨more, hm⟩ := grown p hp
            rw [← ep]
            exact ⟨_, hm⟩
          · exact ⟨o, key b o hb e⟩
  cases hk : K.lookup a with
  | some o =>
    have e := KX a o hk
    rw [ha] at e
    cases e
    refine core (fun b => if b ∈ cs.map (·.2) then some (.tbl #[]) else none) (fun p hp => if_pos (memT p hp)) (fun b => ?_) (.inr ⟨_, vs.toArray, _, hk, rfl, rfl, rfl, by rw [List.size_toArray, lenV]; exact hl, by simpa using rv⟩) (fun b u z => ?_) (fun b z => ?_) fun z => absurd (show (if a ∈ cs.map (·.2) then some (HO.tbl #[]) else none) = none from if_neg aT) z
    · by_cases hb : b ∈ cs.map (·.2)
      · exact .inr (.inl hb)
      · exact .inl (if_neg hb)
    · by_cases hb : b ∈ cs.map (·.2)
      · have z' := (if_pos hb).symm.trans z
        cases z'
        exact isT b hb
      · have z' := (if_neg hb).symm.trans z
        cases z'
    · by_cases hb : b ∈ cs.map (·.2)
      · exact .inr hb
      · exact absurd (if_neg hb) z
  | none =>
    refine core (fun b => if b = a then some (.frz { cls := .type "list", data := .seq vs.toArray } (.lst (ns.map V.int))) else if b ∈ cs.map (·.2) then some (.tbl #[]) else none) (fun p hp => (if_neg (show ¬ p.2 = a from fun z => aT (by rw [← z]; exact memT p hp))).trans (if_pos (memT p hp))) (fun b => ?_)
      (.inl (.inr ⟨{ cls := .type "list", data := .seq vs.toArray }, if_pos rfl⟩)) (fun b u z => ?_) (fun b z => ?_) fun _ => hk
    · by_cases hb : b = a
      · exact .inr (.inr ⟨_, _, if_pos hb⟩)
      · by_cases hb2 : b ∈ cs.map (·.2)
        · exact .inr (.inl hb2)
        · exact .inl ((if_neg hb).trans (if_neg hb2))
    · by_cases hb : b = a
      · have z' := (if_pos hb).symm.trans z
        cases z'
        rw [hb]
        exact ⟨ha, by rw [List.length_map]; exact hl, vs, _, rv, ha⟩
      · have z1 := (if_neg hb).symm.trans z
        by_cases hb2 : b ∈ cs.map (·.2)
        · have z' := (if_pos hb2).symm.trans z1
          cases z'
          exact isT b hb2
        · have z' := (if_neg hb2).symm.trans z1
          cases z'
    · by_cases hb : b = a
      · exact .inl hb
      · by_cases hb2 : b ∈ cs.map (·.2)
        · exact .inr hb2
        · exact absurd ((if_neg hb).trans (if_neg hb2)) z
end Pu
namespace Pu
open PySem PySem.Spec PyProof.Rows L2 LamX
/-- the pen in the midst of its turn -/
structure PenAt (q : Pens) (b : Nat) (F0 H0 F H : Hp) (cells : List Int) (at_ cur : Int) : Prop where
  ne : q.pa ≠ q.ca
  sub : Same F H
  ext : Ext (some q) F0 H0 F H
  f1 : F q.pa = none
  f2 : F q.ca = none
  tabs : TabsIs q.tb F H
  pen : H q.pa = some (.lst [.ref q.ca, .int at_, .int cur])
  cellsAt : H q.ca = some (.lst (cells.map V.int))
  inv : PenInv cells at_ cur b
section
variable {q : Pens} {b b' : Nat} {F0 H0 F H F1 H1 : Hp} {cells : List Int} {at_ cur at' cur' : Int}
theorem PenAt.ok (p : PenAt q b F0 H0 F H cells at_ cur) : Ok (some q) b F H := ⟨p.sub, p.f1, p.f2, p.ne, p.tabs, cells, at_, cur, p.pen, p.cellsAt, p.inv⟩
theorem PenAt.of (o : Ok (some q) b F H) (x : Ext (some q) F0 H0 F H) : ∃ cells at_ cur, PenAt q b F0 H0 F H cells at_ cur := by
  obtain ⟨f1, f2, ne, tb, cells, at_, cur, h1, h2, i⟩ := o.pen
  exact ⟨cells, at_, cur, ne, o.sub, x, f1, f2, tb, h1, h2, i⟩
theorem PenAt.le (p : PenAt q b F0 H0 F H cells at_ cur) (h : b' ≤ b) : PenAt q b' F0 H0 F H cells at_ cur :=
  ⟨p.ne, p.sub, p.ext, p.f1, p.f2, p.tabs, p.pen, p.cellsAt, p.inv.at0, by have := p.inv.most; omega, p.inv.cur0, p.inv.few⟩
theorem PenAt.turn (p : PenAt q b F0 H0 F H cells at_ cur) (i : PenInv cells at' cur' b') : PenAt q b' F0 H0 F (upd H q.pa (.lst [V.ref q.ca, V.int at', V.int cur'])) cells at' cur' := by
  refine ⟨p.ne, fun a u e => ?_, ⟨p.ext.fsub, fun a u e f n => ?_⟩, p.f1, p.f2, p.tabs.to (Same.refl _) fun t ht => ⟨(p.tabs t ht).1, upd_ne fun z => ?_⟩, upd_same, by rw [upd_ne (Ne.symm p.ne)]; exact p.cellsAt, i⟩
  · rw [upd_ne fun z => by rw [z, p.f1] at e; cases e]
    exact p.sub a u e
  · rw [upd_ne (n q rfl).1]
    exact p.ext.keep a u e f n
  · obtain ⟨_, ps, e, _⟩ := p.tabs t ht
    rw [z, p.pen] at e
    cases e
theorem PenAt.trans (p : PenAt q b F0 H0 F H cells at_ cur) {b2 : Nat} (o : Ok (some q) b2 F1 H1) (x : Ext (some q) F H F1 H1) : ∃ cells at_ cur, PenAt q b2 F0 H0 F1 H1 cells at_ cur := PenAt.of o (p.ext.trans x)
end
/-- a new pen -/
def spOpen (K : PySem.W.Frag) : Sp := fun vs H Q _ => ∃ (a : Addr) (ns : List Int), vs = [.ref a] ∧ SqL K H a (ns.map V.int) ∧ ns.length ≤ 63 ∧
  ∀ (H' : Hp) (pa ca : Addr) (cells : List Int), Same H H' → pa ≠ ca → H pa = none → H ca = none → H' pa = some (.lst [.ref ca, .int 0, .int 0]) → H' ca = some (.lst (cells.map V.int)) → cells.length ≤ 12 → Q (.ref pa) H'
/-- the law's body: the pen, then the rest by its reading -/
def spLawTop (K : PySem.W.Frag) : Sp := fun vs H Q _ => ∃ (a : Addr) (ns : List Int), vs = [.ref a] ∧ SqL K H a (ns.map V.int) ∧ ns.length ≤ 63 ∧ (∀ p ∈ tabF K, H p.1 = some (.tbl #[])) ∧ ∀ H', Q (.bl true) H'
theorem tabs_new {K : PySem.W.Frag} {H : Hp} (h : ∀ p ∈ tabF K, H p.1 = some (.tbl #[])) : TabsIs (tabF K) (fun _ => none) H := fun p hp => ⟨rfl, #[], h p hp, True.intro, fun pos cv hc => by
  have z : codeAmong pos [] = some cv := hc
  simp [codeAmong] at z⟩
theorem law_rep {K : PySem.W.Frag} {pa ca a : Addr} {N : List Str} {ip : Nat} {H : Hp} {cells : List Int} (hN : 1 ≤ N.length) (ne : pa ≠ ca) (h1 : H pa = some (.lst [.ref ca, .int 0, .int 0])) (h2 : H ca = some (.lst (cells.map V.int))) (h3 : cells.length ≤ 12) (ht : ∀ p ∈ tabF K, H p.1 = some (.tbl #[])) :
    RepS K (some ⟨pa, ca, tabF K⟩) (fun _ => none) H (fun _ => none) H ((L2.start N [.ref a]).set ip (some (.ref pa))) ((List.replicate N.length none).set ip (some .p)) 2147483648 := by
  have get : ∀ (i : Nat) (s : Sl), ((List.replicate N.length none).set ip (some Sl.p))[i]? = some (some s) → i = ip ∧ s = .p ∧ i < N.length := fun i s h => by
    have hl : i < N.length := by have := (List.getElem?_eq_some_iff.mp h).1; simpa using this
    by_cases e : i = ip
    · subst e
      rw [List.getElem?_set_self (by simpa using hl)] at h
      cases h
      exact ⟨rfl, rfl, hl⟩
    · rw [List.getElem?_set_ne (Ne.symm e)] at h
      have := List.mem_of_getElem? h
      simp at this
  have ls : (L2.start N [V.ref a]).length = N.length := by simp [L2.start]; omega
  refine ⟨⟨⟨fun _ _ h => (nomatch h), rfl, rfl, ne, tabs_new ht, cells, 0, 0, h1, h2, by decide, by decide, by decide, h3⟩, by simp [ls], fun i s h => ?_, fun i j c xs ys _ q _ _ => ?_, ⟨_, rfl, rfl⟩⟩, .refl, fun i c xs hq q _ => ?_⟩
  · obtain ⟨rfl, rfl, hl⟩ := get i s h
    exact ⟨_, List.getElem?_set_self (by rw [ls]; exact hl), (), ⟨pa, ca, tabF K⟩, rfl, rfl⟩
  · cases (get i _ q).2.1
  · rw [(get i _ q).2.1] at hq; cases hq
theorem tab_codes {K : PySem.W.Frag} {tq : TQ} {H : Hp} (h : ∀ p ∈ codesT K tq, H p.2 = some (.tbl #[])) : ∀ p ∈ tabAt K tq, H p.1 = some (.tbl #[]) := fun p hp => by
  obtain ⟨z, hz, rfl⟩ := List.mem_map.mp hp
  exact h (He.cT K z.1) (List.mem_map.mpr ⟨z, hz, rfl⟩)
end Pu
namespace Pu
open PySem PySem.Spec PyProof.Rows L2 LamX
end Pu
namespace Pu
open PySem PySem.Spec PyProof.Rows L2 LamX
theorem Stands.mono {K : PySem.W.Frag} {F G : Hp} (e : Same F G) {u : Value} {d : PyData} : Stands K F u d → Stands K G u d := fun ⟨v, r, q⟩ => ⟨v, r, q.mono e⟩
end Pu
namespace Pu
open PySem PySem.Spec PyProof.Rows L2 LamX
end Pu
namespace Pu
open PySem PySem.Spec PyProof.Rows L2
end Pu
namespace Pu
open PySem PySem.Spec PyProof.Rows L2 SeqAt PuS
def keysOf (ks : List (List Int)) : List (List Int) := ks.foldl (fun acc k => if k ∈ acc then acc else acc ++ [k]) []
abbrev Gp := List Int × PyData
def rowsAt (ps : List Gp) (k : List Int) : List PyData := (ps.filter fun p => decide (p.1 = k)).map (·.2)
theorem rowsAt_hit (ps : List Gp) (p : Gp) : rowsAt (ps ++ [p]) p.1 = rowsAt ps p.1 ++ [p.2] := by
  unfold rowsAt
  rw [List.filter_append, List.map_append, List.filter_cons_of_pos (by simp)]
  rfl
theorem rowsAt_miss (ps : List Gp) (p : Gp) {k : List Int} (h : p.1 ≠ k) : rowsAt (ps ++ [p]) k = rowsAt ps k := by
  unfold rowsAt
  rw [List.filter_append, List.filter_cons_of_neg (by simp [h])]
  simp
/-- the dict's entries, what the lists at them hold -/
structure GAt (K : PySem.W.Frag) (pn : Pn) (F H0 H : Hp) (xs : List Ent) (ks : List (List Int)) (ps : List Gp) : Prop where
  len : xs.length = ks.length
  at_ : ∀ (i : Nat) (x : Ent) (k : List Int), xs[i]? = some x → ks[i]? = some k → x.1 = k.map Sum.inl ∧ RV K F (.ref x.2.1) (tI k) ∧
    ∃ c vs, x.2.2 = .ref c ∧ H c = some (.lst vs) ∧ F c = none ∧ H0 c = none ∧ NotPen pn c ∧ NotCa pn c ∧ RVs K F vs (rowsAt ps k)
  dis : ∀ (i k : Nat) (x y : Ent), xs[i]? = some x → xs[k]? = some y → x.2.2 = y.2.2 → i = k
section
variable {K : PySem.W.Frag} {pn : Pn} {F H0 H F' H' : Hp} {xs : List Ent} {ks : List (List Int)} {ps : List Gp}
theorem GAt.ext (g : GAt K pn F H0 H xs ks ps) (e : Ext pn F H F' H') : GAt K pn F' H0 H' xs ks ps :=
  ⟨g.len, fun i x k h1 h2 => by
    obtain ⟨q1, q2, c, vs, q3, q4, q5, q6, q7, q8, q9⟩ := g.at_ i x k h1 h2
    obtain ⟨z1, z2⟩ := e.keep c _ q4 q5 q7
    exact ⟨q1, q2.mono e.fsub, c, vs, q3, z1, z2, q6, q7, q8, q9.mono e.fsub⟩, g.dis⟩
/-- another thing is written -/
theorem GAt.put (g : GAt K pn F H0 H xs ks ps) {a : Addr} {o : HO} (h : ∀ (x : Ent) (c : Addr) (vs : List V), x ∈ xs → x.2.2 = .ref c → H c = some (.lst vs) → c ≠ a) : GAt K pn F H0 (upd H a o) xs ks ps :=
  ⟨g.len, fun i x k h1 h2 => by
    obtain ⟨q1, q2, c, vs, q3, q4, q5⟩ := g.at_ i x k h1 h2
    exact ⟨q1, q2, c, vs, q3, by rw [upd_ne (h x c vs (List.mem_of_getElem? h1) q3 q4)]; exact q4, q5⟩, g.dis⟩
theorem GAt.keyAt (g : GAt K pn F H0 H xs ks ps) {i : Nat} {x : Ent} (h : xs[i]? = some x) : ∃ k, ks[i]? = some k := by
  have hi : i < xs.length := (List.getElem?_eq_some_iff.mp h).1
  exact ⟨_, List.getElem?_eq_getElem (by rw [← g.len]; exact hi)⟩
theorem GAt.new (g : GAt K pn F H0 H xs ks ps) {p : Gp} {b c : Addr} {v : V} (hn : p.1 ∉ ks) (h0 : rowsAt ps p.1 = []) (hc : ∀ (x : Ent), x ∈ xs → x.2.2 ≠ .ref c) (fc : F c = none) (h0c : H0 c = none) (np : NotPen pn c) (nc : NotCa pn c) (hv : H c = some (.lst [v])) (rk : RV K F (.ref b) (tI p.1)) (rv : RV K F v p.2) :
    GAt K pn F H0 H (xs ++ [(p.1.map Sum.inl, b, .ref c)]) (ks ++ [p.1]) (ps ++ [p]) := by
  have old : ∀ (i : Nat) (x : Ent), (xs ++ [((p.1.map Sum.inl : List Key), b, Value.ref c)])[i]? = some x → (i < xs.length ∧ xs[i]? = some x) ∨ (i = xs.length ∧ x = (p.1.map Sum.inl, b, .ref c)) := fun i x h => by
    by_cases hi : i < xs.length
    · rw [List.getElem?_append_left hi] at h
      exact .inl ⟨hi, h⟩
    · rw [List.getElem?_append_right (by omega)] at h
      obtain ⟨z, e⟩ := List.getElem?_eq_some_iff.mp h
      simp at z
      have : i = xs.length := by omega
      subst this
      simp at e
      exact .inr ⟨rfl, e.symm⟩
  refine ⟨by rw [List.length_append, List.length_append, g.len]; rfl, fun i x k h1 h2 => ?_, fun i j x y h1 h2 e => ?_⟩
  · rcases old i x h1 with ⟨hi, h1⟩ | ⟨rfl, rfl⟩
    · rw [List.getElem?_append_left (by rw [← g.len]; exact hi)] at h2
      obtain ⟨q1, q2, d, us, q3, q4, q5, q6, q7, q8, q9⟩ := g.at_ i x k h1 h2
      refine ⟨q1, q2, d, us, q3, q4, q5, q6, q7, q8, ?_⟩
      rw [rowsAt_miss ps p fun z => hn (by rw [z]; exact List.mem_of_getElem? h2)]
      exact q9
    · rw [g.len, List.getElem?_append_right (Nat.le_refl _)] at h2
      simp at h2
      subst h2
      refine ⟨rfl, rk, c, [v], rfl, hv, fc, h0c, np, nc, ?_⟩
      rw [rowsAt_hit, h0]
      exact .one rv
  · rcases old i x h1 with ⟨hi, g1⟩ | ⟨rfl, rfl⟩ <;> rcases old j y h2 with ⟨hj, g2⟩ | ⟨rfl, rfl⟩
    · exact g.dis i j x y g1 g2 e
    · exact absurd e (hc x (List.mem_of_getElem? g1))
    · exact absurd e.symm (hc y (List.mem_of_getElem? g2))
    · rfl
theorem GAt.fsts (g : GAt K pn F H0 H xs ks ps) : xs.map (·.1) = ks.map fun k => k.map Sum.inl := by
  apply List.ext_getElem?
  intro i
  rw [List.getElem?_map, List.getElem?_map]
  cases h : xs[i]? with
  | none =>
    have : ks[i]? = none := by
      rw [List.getElem?_eq_none_iff] at h ⊢
      rw [← g.len]; exact h
    rw [this]; rfl
  | some x =>
    obtain ⟨k, hk⟩ := g.keyAt h
    rw [hk]
    exact congrArg some (g.at_ i x k h hk).1
theorem GAt.nodup (g : GAt K pn F H0 H xs ks ps) (nd : ks.Nodup) : (xs.map (·.1)).Nodup := by
  rw [g.fsts]
  exact nd.map _ fun a c n z => n (inl_inj z)
end
/-- no list of one's own in any slot -/
def plainE (env : En) : Prop := ∀ (i : Nat) (s : Sl), env[i]? = some (some s) → ∃ x, s = .d x
theorem plainE.set {env : En} (h : plainE env) {i : Nat} {x : PyData} : plainE (env.set i (some (.d x))) := fun j s e => by
  by_cases z : j = i
  · subst z
    have hl : j < env.length := by have := (List.getElem?_eq_some_iff.mp e).1; simpa using this
    rw [List.getElem?_set_self hl] at e
    cases e
    exact ⟨x, rfl⟩
  · rw [List.getElem?_set_ne (Ne.symm z)] at e
    exact h j s e
theorem plainE.setN {env : En} (h : plainE env) {i : Nat} : plainE (env.set i none) := fun j s e => by
  by_cases z : j = i
  · subst z
    have hl : j < env.length := by have := (List.getElem?_eq_some_iff.mp e).1; simpa using this
    rw [List.getElem?_set_self hl] at e
    cases e
  · rw [List.getElem?_set_ne (Ne.symm z)] at e
    exact h j s e
end Pu
namespace Pu
open PySem PySem.Spec PyProof.Rows L2 SeqAt PuS
end Pu
namespace Pu
open PySem PySem.Spec PyProof.Rows L2 SeqAt PuS
/-- no list of one's own in any slot, but perhaps the pen -/
def plainP (env : En) : Prop := ∀ (i : Nat) (s : Sl), env[i]? = some (some s) → (∃ x, s = .d x) ∨ s = .p
theorem plainP.set {env : En} (h : plainP env) {i : Nat} {o : Option Sl} (ho : ∀ s, o = some s → ∃ x, s = .d x) : plainP (env.set i o) := fun j s e => by
  by_cases z : j = i
  · subst z
    have hl : j < env.length := by have := (List.getElem?_eq_some_iff.mp e).1; simpa using this
    rw [List.getElem?_set_self hl] at e
    exact .inl (ho s (Option.some.inj e))
  · rw [List.getElem?_set_ne (Ne.symm z)] at e
    exact h j s e
theorem plainP.wipe {env : En} (h : plainP env) : ∀ own : List Nat, plainP (wipeE env own)
  | [] => h
  | v :: vs => (plainP.wipe h vs).set fun s e => by cases e
end Pu
namespace Pu
open PySem PySem.Spec PyProof.Rows L2 SeqAt PuS
end Pu
namespace PuT
open PySem PySem.Spec PyProof.Rows L2 Pu
open AutoSeq1 (wpAny_loadPart')
end PuT
namespace Pu
open PySem PySem.Spec PyProof.Rows L2 SeqAt PuT
end Pu
namespace Pu
open PySem PySem.Spec PyProof.Rows L2 SeqAt
end Pu
namespace PuZ
open PySem PySem.Spec PyProof.Rows L2
end PuZ
namespace Pu
open PySem PySem.Spec PyProof.Rows L2 SeqAt PuZ
end Pu
namespace Pu
open PySem PySem.Spec PyProof.Rows L2 PuS
/-- as Sign, by the names' record itself -/
structure SignN (X : Cx) (ir : Nat) (xr : Str) (y : Str) (tk : Tok) (σ : L2.St) (s : Shared) : Prop where
  at_ : σ[ir]? = some (some (.str y))
  ns : ∃ m, s.heap.Ns X.env.locals m ∧ m xr = some (.str y tk)
  kl : X.env.scope.names.lookup xr = some .local
  hd : (xr == ("__debug__" : Str)) = false
  t0 : tk ≠ 0
  tl : tk < s.toks
  ny : (y == Str.empty) = false
section
variable {X : Cx} {ir : Nat} {xr y : Str} {tk : Tok} {σ : L2.St} {s : Shared} {pins : List (Addr × Obj)} {H : Hp}
theorem SignN.keep {s' : Shared} (h : SignN X ir xr y tk σ s) (k : ∀ b o, s.heap.get? b = some o → s'.heap.get? b = some o) (l : s.toks ≤ s'.toks) : SignN X ir xr y tk σ s' := by
  obtain ⟨m, ns, e⟩ := h.ns
  exact ⟨h.at_, ⟨m, ns.keeps k, e⟩, h.kl, h.hd, h.t0, Nat.lt_of_lt_of_le h.tl l, h.ny⟩
end
section
variable (X : Cx) (ir : Nat) (xr : Str)
/-- an expression by which the sign stays known -/
def PERK (e : Expr) (t : TE) : Prop := ∀ (pins : List (Addr × Obj)) (s : Shared) (σ : L2.St) (H : Hp) (Q : VK) (y : Str) (tk : Tok), SignN X ir xr y tk σ s → Inv X pins σ H s → t σ H Q →
  wpAny (model X.prog X.w) X.A (eval e X.env) (fun v s1 => ∃ x H1, Inv X pins σ H1 s1 ∧ RelV x v ∧ Q x H1 ∧ SignN X ir xr y tk σ s1) X.xe s
/-- an expression, the sign known ahead of it -/
def PERN (e : Expr) (t : TE) : Prop := ∀ (pins : List (Addr × Obj)) (s : Shared) (σ : L2.St) (H : Hp) (Q : VK) (y : Str) (tk : Tok), SignN X ir xr y tk σ s → Inv X pins σ H s → t σ H Q → wpAny (model X.prog X.w) X.A (eval e X.env) (EP X pins σ Q) X.xe s
end
end Pu
namespace Pu
open PySem PySem.Spec PyProof.Rows L2 PuS SeqAt
section
variable {X : Cx} {ir : Nat} {xr : Str} {a c e : Expr} {ta tb te : WE} {pos : Pos}
theorem PERK.imp {t u : TE} (h : PERK X ir xr e t) (i : ∀ σ H Q, u σ H Q → t σ H Q) : PERK X ir xr e u := fun pins s σ H Q y tk sg I q => h pins s σ H Q y tk sg I (i _ _ _ q)
theorem PERN.imp {t u : TE} (h : PERN X ir xr e t) (i : ∀ σ H Q, u σ H Q → t σ H Q) : PERN X ir xr e u := fun pins s σ H Q y tk sg I q => h pins s σ H Q y tk sg I (i _ _ _ q)
theorem PST.imp {st : Stmt} {t u : TS} (h : PST X st t) (i : ∀ D σ H, u D σ H → t D σ H) : PST X st u := fun pins s σ H D h0 I q => h pins s σ H D h0 I (i _ _ _ q)
end
end Pu
namespace Pu
open PySem PySem.Spec PyProof.Rows L2 PuS
end Pu
namespace Pu
open PySem PySem.Spec PyProof.Rows L2 PuS SeqAt
end Pu
namespace Pu
open PySem PySem.Spec PyProof.Rows L2 PuS SeqAt
end Pu
namespace Pu
open PySem PySem.Spec PyProof.Rows L2 PuS SeqAt
end Pu
namespace Pu
open PySem PySem.Spec PyProof.Rows L2 PuS
end Pu
namespace Pu
open PySem PySem.Spec PyProof.Rows L2 PuS
section
variable {X : Cx} {CX : CXT} {k : Nat} {f : Addr} {fd : FuncData} {ps : List Str} {sp : Sp} {ds : List Value} {dvs : List V} {E : XK} {e : Expr} {es : List Expr} {x : Str} {p pos : Pos}
theorem PET.imp {e : Expr} {t u : TE} (h : PET X e t) (i : ∀ σ H Q, u σ H Q → t σ H Q) : PET X e u := fun pins s σ H Q h0 I q => h pins s σ H Q h0 I (i _ _ _ q)
/-- a test behind a token -/
def PTT (X : Cx) (e : Expr) (t : TT) : Prop := ∀ (pins : List (Addr × Obj)) (s : Shared) (σ : L2.St) (H : Hp) (Q : Bool → Hp → Prop), 1 ≤ s.toks → Inv X pins σ H s → t σ H Q → wpAny (model X.prog X.w) X.A (isTrue e X.env (eval e X.env)) (TP X pins σ Q) X.xe s
theorem PTT.imp {e : Expr} {t u : TT} (h : PTT X e t) (i : ∀ σ H Q, u σ H Q → t σ H Q) : PTT X e u := fun pins s σ H Q h0 I q => h pins s σ H Q h0 I (i _ _ _ q)
end
end Pu
namespace Pu
open PySem PySem.Spec PyProof.Rows L2 PuS SeqAt
end Pu
namespace Pu
open PySem PySem.Spec PyProof.Rows L2 PuS SeqAt
end Pu
namespace Pu
open PySem PySem.Spec PyProof.Rows L2 PuS
end Pu
namespace Pu
open PySem PySem.Spec PyProof.Rows L2 PuS
end Pu
namespace Pu
open PySem PySem.Spec PyProof.Rows L2 PuS
/-- what a def that raises does: a datum, a list of its own, or the error -/
abbrev WDX := List Sl → Nat → (PyData → Nat → Prop) → (List PyData → Nat → Prop) → (Nat → Prop) → Prop
def wDefX (np nn : Nat) (t : WS) : WDX := fun ss b P L E => ss.length = np ∧ t { nx := fun _ b' => P .none b', rt := P, rl := L, xr := fun _ b' => E b' } (env0 nn ss) b
def sRaise : WS := fun PD _ b => PD.xr Str.empty b
def spX (K : PySem.W.Frag) (c : Value) (f : WDX) : Sp := fun vs H Q E => ∃ pn F ss b P L XR, Ok pn b F H ∧ ArgsAre K pn F H vs ss ∧ f ss b P L XR ∧
  (∀ v d F' H' b', Ok pn b' F' H' → Ext pn F H F' H' → RV K F' v d → P d b' → Q v H') ∧
  (∀ v ds F' H' b', Ok pn b' F' H' → Ext pn F H F' H' → OwnL K pn F' H' v ds → (∀ a, v = .ref a → H a = none) → L ds b' → Q v H') ∧
  (∀ F' H' b', Ok pn b' F' H' → Ext pn F H F' H' → XR b' → E c none H')
/-- a statement of such a def: W is what is wished where the error is raised -/
def lX (W : Hp → Prop) (K : PySem.W.Frag) (t : WS) : TS := fun D σ H => ∃ pn F0 H0 F env b PD, RepS K pn F0 H0 F H σ env b ∧ t PD env b ∧
  (∀ σ' F' H' env' b', RepS K pn F0 H0 F' H' σ' env' b' → (PD.nx env' b' → D.nx σ' H') ∧ (PD.bk env' b' → D.bk σ' H') ∧ (PD.ct env' b' → D.ct σ' H')) ∧
  ((∀ v d F' H' b', Ok pn b' F' H' → Ext pn F0 H0 F' H' → RV K F' v d → PD.rt d b' → D.rt v H') ∧
  (∀ v ds F' H' b', Ok pn b' F' H' → Ext pn F0 H0 F' H' → OwnL K pn F' H' v ds → (∀ a, v = .ref a → H0 a = none) → PD.rl ds b' → D.rt v H')) ∧
  (∀ nm F' H' b', Ok pn b' F' H' → Ext pn F0 H0 F' H' → PD.xr nm b' → W H')
abbrev SSX (W : Hp → Prop) (X : Cx) (st : Stmt) (t : WS) : Prop := PS X st (lX W X.K t)
abbrev SBX (W : Hp → Prop) (X : Cx) (st : List Stmt) (t : WS) : Prop := PSs X st (lX W X.K t)
section
variable {W : Hp → Prop} {X : Cx} {st : Stmt} {rest : List Stmt} {t u : WS} {pos : Pos}
theorem xb_of (h : SB X.nox rest t) : SBX W X rest t := PSs.imp h.nox fun D σ H ⟨pn, F0, H0, F, env, b, PD, rep, t, k, r, _⟩ => ⟨pn, F0, H0, F, env, b, PD, rep, t, k, r⟩
theorem lX_in {K : PySem.W.Frag} {D : Ends} {σ : L2.St} {H : Hp} (h : lX W K (sSeq t u) D σ H) : tSeq (lX W K t) (lX W K u) D σ H := by
  obtain ⟨pn, F0, H0, F, env, b, PD, rep, w, k, r, x⟩ := h
  refine ⟨pn, F0, H0, F, env, b, { PD with nx := fun env' b' => u PD env' b' }, rep, w, fun σ' F' H' env' b' rep' => ⟨fun q => ?_, (k σ' F' H' env' b' rep').2.1, (k σ' F' H' env' b' rep').2.2⟩, r, x⟩
  exact ⟨pn, F0, H0, F', env', b', PD, rep', q, k, r, x⟩
theorem xb_cons (h1 : SSX W X st t) (h2 : SBX W X rest u) : SBX W X (st :: rest) (sSeq t u) := PSs.imp (pss_cons h1 h2) fun _ _ _ h => lX_in h
theorem xb_one (h1 : SSX W X st t) : SBX W X [st] t := pss_one h1
theorem x_if {c : Expr} {p q : List Stmt} {tc : WT} (hc : ET X c tc) (ha : SBX W X p t) (hb : SBX W X q u) : SSX W X (.If c p q pos) (sIf tc t u) := PS.imp (ps_if hc ha hb) fun D σ H ⟨pn, F0, H0, F, env, b, PD, rep, w, k, r, x⟩ => by
  refine ⟨pn, F, env, b, _, rep.rep, w, fun kc F1 H1 b1 o1 e1 t1 => ?_⟩
  cases kc with
  | true => exact ⟨pn, F0, H0, F1, env, b1, PD, rep.ext' o1 e1, t1, k, r, x⟩
  | false => exact ⟨pn, F0, H0, F1, env, b1, PD, rep.ext' o1 e1, t1, k, r, x⟩
/-- raise C('..') -/
theorem x_raise {C : Addr} {x m : Str} {j : Nat} {p p2 p3 : Pos} (hc : X.calm = true) (tk : Takes X fun cls d _ H => cls = .ref C ∧ d = none ∧ W H) (q : PySem.W.excIn X.K C He.veBase "ValueError.__new__" = true) (gC : X.mg x = some (.ref C))
    (kC : PySem.W.keepIn X.K (.ref C) = true) (r : Raises X (.ref C)) (hg : Gl X x) (hdb : (x == ("__debug__" : Str)) = false := by decide) : SSX W X (.Raise (some (.Call (.Name x p) [.Constant (.str m) j p2] [] p3)) none pos) sRaise :=
  PS.imp (ps_raise hc tk (pmk_own PySem.F.excBase_ValueError q gC kC r hg hdb)) fun D σ H ⟨pn, F0, H0, F, env, b, PD, rep, t, k, r, x⟩ => ⟨rfl, rfl, x _ F H b rep.rep.ok rep.ext t⟩
end
section
variable {P : Program} {w : World} {K : PySem.W.Frag} {mg : Str → Option Value} {base : Heap}
theorem ok_fnX {x qual : Str} {st : Stmt} {f : Addr} {fd : FuncData} {N ps : List Str} {k : Nat} {t : WS} {C : Addr} (F : Fun K x qual st f fd) (S : FnScope N ps (defScope st))
    (body : ∀ (cdv : Value) (A : Around) (outer : List Env) (s : Shared) (H : Hp) (E : XK), Room k (A.deeper (envOfC qual (defScope st) s.heap.objs.size f cdv)) → ∀ W : Hp → Prop, Takes (cxOf (L2.CX P w) P w K mg base N qual (defScope st) f cdv A outer s H E) (fun cls d _ H => cls = .ref C ∧ d = none ∧ W H) →
      SBX W (cxOf (L2.CX P w) P w K mg base N qual (defScope st) f cdv A outer s H E) (defBody st) t) :
    FnOk P w K mg base (L2.CX P w) (k + 1) f fd ps (spX K (.ref C) (wDefX ps.length N.length t)) := by
  refine F.okX S (fun vs H Q E h => ?_) (fun cdv A outer s H vs Q E hr h => ?_)
  · obtain ⟨pn, F, ss, b, P, L, XR, o, ar, ⟨hl, _⟩, _⟩ := h
    rw [ar.len, hl]
  · obtain ⟨pn, F, ss, b, PP, L, XR, o, ar, ⟨hl, q⟩, kk, kl, kx⟩ := h
    refine ⟨lX (fun H' => E (.ref C) none H') K t, body cdv A outer s H E hr _ ((takes_of rfl rfl rfl rfl).imp fun cls d σ H' h => ?_), pn, F, H, F, _, b, _, start_rep o ar, q,
      fun σ' F' H' env' b' rep' => ⟨fun q => kk .non .none F' H' b' rep'.rep.ok rep'.ext .non q, fun q => q, fun q => q⟩, ⟨fun v d F' H' b' o' x' rv q => kk v d F' H' b' o' x' rv q, fun v d F' H' b' o' x' ow nw q => kl v d F' H' b' o' x' ow nw q⟩, fun nm F' H' b' o' x' q => kx F' H' b' o' x' q⟩
    obtain ⟨rfl, rfl, h⟩ := h
    exact h
end
end Pu
namespace Pu
open PySem PySem.Spec PyProof.Rows L2 PuS
section
variable {X : Cx} {pins : List (Addr × Obj)} {σ : L2.St} {H : Hp} {s : Shared}
/-- the context that keeps a pin -/
abbrev pinned (X : Cx) (a : Addr) (oe : Obj) : Cx := { X with pn := (a, oe) :: X.pn }
theorem ok_pinned {a : Addr} {oe : Obj} (ok : X.Ok) : (pinned X a oe).Ok :=
  ⟨ok.mod, ok.kind, ok.glob, ok.blt, ok.above, ok.inj, ok.has, ok.cab, ok.hd, ok.frames, ok.stk, ok.exf, ok.bs, ok.bsz, ok.noex, ok.exfs, ok.funs, ok.frf⟩
theorem inv_pinned {a : Addr} {oe : Obj} (I : Inv X ((a, oe) :: pins) σ H s) : Inv (pinned X a oe) pins σ H s :=
  ⟨ok_pinned I.ok, I.os, I.bare, I.base, I.loc, I.cell, I.free, I.freeC, fun p hp => I.pin p (by
    rcases List.mem_append.mp hp with h | h
    · rcases List.mem_cons.mp h with h | h
      · exact List.mem_append_right _ (h ▸ List.mem_cons_self)
      · exact List.mem_append_left _ h
    · exact List.mem_append_right _ (List.mem_cons_of_mem _ h)), I.hok, I.len⟩
theorem inv_unpinned {a : Addr} {oe : Obj} (ok : X.Ok) (I : Inv (pinned X a oe) pins σ H s) : Inv X pins σ H s :=
  ⟨ok, I.os, I.bare, I.base, I.loc, I.cell, I.free, I.freeC, fun p hp => I.pin p (by
    rcases List.mem_append.mp hp with h | h
    · exact List.mem_append_left _ (List.mem_cons_of_mem _ h)
    · exact List.mem_append_right _ h), I.hok, I.len⟩
theorem sp_unpinned {a : Addr} {oe : Obj} {D : Ends} {f : Flow} (ok : X.Ok) (h : SP (pinned X a oe) pins D f s) : SP X pins D f s := by
  cases f with
  | next => obtain ⟨σ', H', J, q⟩ := h; exact ⟨σ', H', inv_unpinned ok J, q⟩
  | brk => obtain ⟨σ', H', J, q⟩ := h; exact ⟨σ', H', inv_unpinned ok J, q⟩
  | cont => obtain ⟨σ', H', J, q⟩ := h; exact ⟨σ', H', inv_unpinned ok J, q⟩
  | ret u => obtain ⟨v, σ', H', J, r, q⟩ := h; exact ⟨v, σ', H', inv_unpinned ok J, r, q⟩
theorem inv_keeps {a : Addr} {oe : Obj} (ok : X.Ok) (I : Inv (X.suite a ((a, oe) :: (X.pn ++ pins))) [] σ H s) : Inv X ((a, oe) :: pins) σ H s :=
  ⟨ok, I.os, I.bare, I.base, I.loc, I.cell, I.free, I.freeC, fun p hp => I.pin p (by
    show p ∈ (a, oe) :: (X.pn ++ pins) ++ []
    rw [List.append_nil]
    rcases List.mem_append.mp hp with h | h
    · exact List.mem_cons_of_mem _ (List.mem_append_left _ h)
    · rcases List.mem_cons.mp h with h | h
      · exact h ▸ List.mem_cons_self
      · exact List.mem_cons_of_mem _ (List.mem_append_right _ h)), I.hok, I.len⟩
/-- isinstance(e, c), e an error that is kept -/
theorem call_isK {a D : Addr} {oe : Obj} (C : ExcC X.K D) (hz : Zc (.ref D) none oe) (hf : ∃ vs, oe.data = .fields vs) : CallR (pinned X a oe) (.builtin "isinstance") (rIsE X.K D a) := by
  intro pins s σ H xs us Q I r h
  obtain ⟨c, cv, b, rfl, hcv, e, q⟩ := h
  cases r with
  | cons rx rr =>
    cases rr with
    | cons rt rr =>
      cases rr
      cases rx
      have ec := hcv _ rt
      subst ec
      obtain ⟨hget, _⟩ := I.pin (a, oe) (List.mem_append.mpr (.inl List.mem_cons_self))
      obtain ⟨vs, hv⟩ := hf
      have J : PySem.W.InstAt s.heap a oe D none := by
        obtain ⟨oc, od, oda, osl⟩ := oe
        obtain ⟨h1, h2⟩ := hz
        dsimp only at h1 h2 hv
        subst h1 h2 hv
        exact ⟨hget, rfl, rfl, trivial⟩
      exact PySem.W.kia_one (PySem.W.handS_kitx_exc C.hg C.hk C.hs C.hd C.ha C.hn C.ht C.hm) I.kIn J e (fun z => nomatch z) fun tk => ⟨.bl b, H, I.kept (t' := tk) fun _ _ z => z, rfl, q⟩
end
/-- what is wished of an error: it is kept by slot ic, the slot ie is emptied -/
def wHeld (K : PySem.W.Frag) (c : Value) (ie ic : Nat) (tx : Addr → Value → Option Addr → TS) (D : Ends) : WX := fun cls d σ H =>
  PySem.W.exmOne K cls c = some true ∧ ∀ a, H a = none → tx a cls d D (((σ.set ie (some (.ref a))).set ic (some (.ref a))).set ie none) H
section
variable {X : Cx} {x n y : Str} {c : Value} {ie ic : Nat} {body rest : List Stmt} {np pos pos' p1 p2 p3 : Pos} {tb : WX → TS} {tx : Addr → Value → Option Addr → TS} {u : TS}
theorem pss_try_keep (hs : X.stack = X.env :: X.outer) (hf : X.env.frame = some X.env.locals) (hN : X.N.Nodup) (hi : X.N[ie]? = some n) (hln : X.env.kindOf n = some .local) (hy : X.N[ic]? = some y) (hly : Loc X.env.scope y) (hfy : X.fn y = true ∨ X.env.scope.names.lookup y = some .local) (hn : Vis X.env.scope n) (dn : (n == ("__debug__" : Str)) = false) (cn : (n == ("__classdict__" : Str)) = false) (hc : Names X x c)
    (hb : ∀ (W : WX) (pn : List (Addr × Obj)) (xe : Value → Shared → Prop), Takes (X.tr pn xe) W → PassesOwn (model X.prog X.w) X.A X.env xe → PSs (X.tr pn xe) body (tb W))
    (hr : PSs X rest u) (hx : ∀ (a : Addr) (oe : Obj) (cls : Value) (d : Option Addr), Zc cls d oe → (∃ vs, oe.data = .fields vs) → PSs (pinned X a oe) rest (tx a cls d))
    (hsw : swapsWith (.Name n p2) (some (.Name y p1)) p3.line X.env = pure false) :
    PSs X (.Try body [.ExceptHandler (some (.Name x np)) (some n) [.Assign [.Name y p1] (.Name n p2) p3] pos'] [] [] pos :: rest) (fun D σ H => tb (wHeld X.K c ie ic tx D) { D with nx := u D } σ H) := by
  refine ⟨fun pins s σ H D I h => ?_⟩
  have ok := I.ok
  have hfr : X.A.frames = some (X.env :: X.outer) := by rw [ok.frames, hs]
  have hloc : Loc X.env.scope n := .inl hln
  refine wpAny_execs_cons (wpAny_Try_except ?_)
  refine wpAny_mono ((hb (wHeld X.K c ie ic tx D) (X.pn ++ pins) (fun e s₁ => wpAny (model X.prog X.w) X.A (noteFrame e X.env) (fun _ s₂ => wpAny (model X.prog X.w) X.A (setFlight e none) (fun _ s₃ =>
    wpAny (model X.prog X.w) X.A (handleBy e X.env [.ExceptHandler (some (.Name x np)) (some n) [.Assign [.Name y p1] (.Name n p2) p3] pos']) (fun f s' => match f with | .next => wpAny (model X.prog X.w) X.A (execs rest X.env) (SP X pins D) X.xe s' | f => SP X pins D f s') X.xe s₃) X.xe s₂) X.xe s₁) (fun v s' xx => ?_) PassesOwn.looking).run [] s σ H { D with nx := u D } (I.toTry _) h) (fun f s1 hsp => ?_) (fun e s1 he => he)
  · obtain ⟨a, B, sI, pins', σ', H', cls, d, rfl, J', nb, up, sky, na, os, ag, hm, hyes⟩ := xx
    have J : Inv X pins σ' H' sI := J'.ofTry ok
    have sky' : Sky B (X.env :: X.outer) a (Zc cls d) X.env.locals s'.heap := by rw [← hs]; exact sky
    show wpAny (model X.prog X.w) X.A (noteFrame (.ref a) X.env) _ _ _
    refine Sky.land Zc.steady hfr hf sky' fun h3 fl3 up3 => ?_
    have J3 : Inv X pins σ' H' { s' with heap := h3 } := J.landed nb fl3.1 (up.trans up3) os ag
    obtain ⟨oe3, vs3, he3, hz3, hd3⟩ := fl3.there
    have notFr : ∀ {h : Heap} {o : Obj} {vs : Array Value}, h.FunFrames B (X.env :: X.outer) → h.get? a = some o → o.data = .fields vs → a ∉ frs (X.env :: X.outer) := fun {h o vs} ff e dd hm => by
      obtain ⟨_, o', e', hnf⟩ := ff.mem hm
      rw [e] at e'; cases e'
      exact hnf _ dd
    have nfr := notFr fl3.2.2.1 he3 hd3
    have nL : a ≠ X.env.locals := fun z => nfr (List.mem_filterMap.mpr ⟨X.env, List.mem_cons_self, by rw [hf, z]⟩)
    have nF : a ∉ X.fs := fun hm => by
      obtain ⟨e, he, q⟩ := List.mem_filterMap.mp hm
      exact nfr (List.mem_filterMap.mpr ⟨e, List.mem_cons_of_mem _ he, q⟩)
    have S3 := J3.suite he3 hd3 na nL nF
    refine wpAny_handleBy_cons (codeAny_handlers_test ?_) (by intro q; cases q)
    have LT : PySem.W.Looks (model X.prog X.w) h3 (typeOf (.ref a)) cls := fun A Q E s k q => wpAny_typeOf_ref (k _ _ he3) (by rw [hz3.1]; exact q)
    have LM := PySem.W.exm_one (M := model X.prog X.w) (J3.kIn) LT hm
    have test : ∀ {Q : Value → Shared → Prop} {E : Value → Shared → Prop}, Q c { s' with heap := h3 } → wpAny (model X.prog X.w) (X.A.mark (some (.ref a))) (eval (.Name x np) X.env) Q E { s' with heap := h3 } := fun {Q E} q => by
      obtain ⟨hg, hdbg, hm | ⟨hm, hv, hnn⟩⟩ := hc
      · exact ld_glob (X := X.suite a ((a, oe3) :: (X.pn ++ pins))) S3 hg hm q hdbg
      · exact ld_blt (X := X.suite a ((a, oe3) :: (X.pn ++ pins))) S3 hg hm hv q hnn hdbg
    refine test (LM.here ?_)
    refine codeAny_handlers_suite_as ?_
    refine HandSPX.lands_againZ fl3 fun h4 fl4 up4 => ?_
    have J4 : Inv X pins σ' H' { s' with heap := h4 } := J.landed nb fl4.1 ((up.trans up3).trans up4) os ag
    obtain ⟨oe4, vs4, he4, hz4, hd4⟩ := fl4.there
    have S4 := J4.suite he4 hd4 na nL nF
    have bound : ie < σ'.length := J4.len.symm ▸ (List.getElem?_eq_some_iff.mp hi).1
    refine store_ok (X := X.suite a ((a, oe4) :: (X.pn ++ pins))) (v := .ref a) S4 hN hi hloc rfl (fun s5 S5 => ?_) (.inr hln)
    refine wpAny_execs_cons (wpAny_Assign_Name (raw_name (X := X.suite a ((a, oe4) :: (X.pn ++ pins))) hi hn S5 (List.getElem?_set_self bound) (fun v r => ?_) dn cn) hsw)
    have rv : RelV (.ref a) v := r
    refine store_ok (X := X.suite a ((a, oe4) :: (X.pn ++ pins))) (v := .ref a) S5 hN hy hly rv (fun s6 S6 => ?_) hfy
    refine wpAny_execs_nil ?_
    refine gone_ok (inv_keeps ok S6) hN hi hln fun s7 J7 => ?_
    exact thn ((hx a oe4 cls d hz4 ⟨_, hd4⟩).run pins s7 _ H' D (inv_pinned J7) (hyes a na)) fun f s8 q => sp_unpinned ok q
  · cases f with
    | next =>
      obtain ⟨σ', H', J', q⟩ := hsp
      exact wpAny_execs_nil (hr.run pins s1 σ' H' D (J'.ofTry ok) q)
    | brk =>
      obtain ⟨σ', H', J', q⟩ := hsp
      exact ⟨σ', H', J'.ofTry ok, q⟩
    | cont =>
      obtain ⟨σ', H', J', q⟩ := hsp
      exact ⟨σ', H', J'.ofTry ok, q⟩
    | ret u =>
      obtain ⟨v, σ', H', J', r, q⟩ := hsp
      exact ⟨v, σ', H', J'.ofTry ok, r, q⟩
end
end Pu
namespace Pu
open PySem PySem.Spec PyProof.Rows L2 PuS SeqAt
/-- an error's class beside the classes that it is asked for -/
structure Kin4 (X : Cx) (C : Addr) (x1 x2 x3 x4 : Str) : Prop where
  exc : ExcC X.K C
  k1 : ∃ D, X.mg x1 = some (.ref D) ∧ PySem.W.kitOne X.K (.ref C) (.ref D) = some true
  k2 : ∃ D, X.mg x2 = some (.ref D) ∧ PySem.W.kitOne X.K (.ref C) (.ref D) = some false
  k3 : ∃ D, X.mg x3 = some (.ref D) ∧ PySem.W.kitOne X.K (.ref C) (.ref D) = some false
  k4 : ∃ D, X.mg x4 = some (.ref D) ∧ PySem.W.kitOne X.K (.ref C) (.ref D) = some false
/-- what stands behind the try, where the error is kept -/
def Tail (X : Cx) (C : Addr) (ic is : Nat) (rest : List Stmt) (t : WS) : Prop := ∀ (a : Addr) (oe : Obj), Zc (.ref C) none oe → (∃ vs, oe.data = .fields vs) → PSs (pinned X a oe) rest (fun D σ H => is < σ.length ∧ σ[ic]? = some (some (.ref a)) ∧ lS X.K t D σ H)
def sWord : WS := fun PD _ b => PD.rt (.str ("none" : Str)) b
section
variable {X : Cx} {a C D : Addr} {oe : Obj} {ic : Nat} {b : Bool} {y x : Str} {p1 p2 p3 p4 : Pos}
/-- isinstance(caught, D) -/
theorem pe_isK (E : ExcC X.K C) (hz : Zc (.ref C) none oe) (hf : ∃ vs, oe.data = .fields vs) (hg : Gl X "isinstance") (hm : X.mg "isinstance" = none) (hy : X.N[ic]? = some y) (hv : Vis X.env.scope y) (hx : Gl X x) (hD : X.mg x = some (.ref D)) (hk : PySem.W.kitOne X.K (.ref C) (.ref D) = some b)
    (dy : (y == ("__debug__" : Str)) = false) (cy : (y == ("__classdict__" : Str)) = false) (dx : (x == ("__debug__" : Str)) = false)
    (he : starEach [.Name y p1, .Name x p2] X.env = (false, eval (.Name y p1) X.env) :: starEach [.Name x p2] X.env) (he2 : starEach [.Name x p2] X.env = (false, eval (.Name x p2) X.env) :: starEach [] X.env) :
    PE (pinned X a oe) (.Call (.Name "isinstance" p3) [.Name y p1, .Name x p2] [] p4) (fun σ H Q => σ[ic]? = some (some (.ref a)) ∧ Q (.bl b) H) :=
  PE.imp (pe_callB (X := pinned X a oe) (call_isK E hz hf) hg hm (by decide +kernel) (pa_cons (pe_var hy hv dy cy) (pa_cons (pe_glob (v := .ref D) hx hD rfl dx) pa_nil he2) he) (by decide) (by decide) he (by rw [show (backTo p4 (starEach [.Name x p2] X.env)) = (false, eval (.Name x p2) X.env) :: backTo p4 (starEach [] X.env) by rw [he2]; rfl]; rfl)) fun σ H Q ⟨h, q⟩ =>
    ⟨_, h, .ref D, .ref D, b, rfl, fun _ z => z, hk, q⟩
end
section
variable {X : Cx} {C : Addr} {ic it is : Nat} {yc yt ys x1 x2 x3 x4 : Str} {d1 d2 d3 d4 d5 d6 d7 d8 d9 d10 d11 d12 d13 d14 d15 d16 d17 d18 d19 d20 d21 d22 d23 d24 d25 d26 d27 d28 d29 d30 d31 d32 d33 d34 d35 d36 d37 : Pos} {j1 j2 j3 j4 j5 j6 : Nat}
theorem told_tail (hu : X.A.units + 64 < cLine) (T : Kin4 X C x1 x2 x3 x4) (nd : X.N.Nodup) (hc : X.N[ic]? = some yc) (hvc : Vis X.env.scope yc) (ht : X.N[it]? = some yt) (hvt : Vis X.env.scope yt) (hs : X.N[is]? = some ys) (hls : Loc X.env.scope ys) (hfs : X.fn ys = true ∨ X.env.scope.names.lookup ys = some .local) (hvs : Vis X.env.scope ys) (nsc : ic ≠ is)
    (hg : Gl X "isinstance") (hm : X.mg "isinstance" = none) (g1 : Gl X x1) (g2 : Gl X x2) (g3 : Gl X x3) (g4 : Gl X x4)
    (dc : (yc == ("__debug__" : Str)) = false := by decide) (cc : (yc == ("__classdict__" : Str)) = false := by decide) (dt : (yt == ("__debug__" : Str)) = false := by decide) (ct : (yt == ("__classdict__" : Str)) = false := by decide) (ds : (ys == ("__debug__" : Str)) = false := by decide) (cs : (ys == ("__classdict__" : Str)) = false := by decide)
    (e1 : (x1 == ("__debug__" : Str)) = false := by decide) (e2 : (x2 == ("__debug__" : Str)) = false := by decide) (e3 : (x3 == ("__debug__" : Str)) = false := by decide) (e4 : (x4 == ("__debug__" : Str)) = false := by decide)
    (m1 : behindInMarks .Is (.Constant .none j1 d2) = false := by rfl) (m2 : behindInMarks .Eq (.List [.Constant (.bool true) j2 d19, .Constant (.bool false) j3 d20, .Constant (.bool false) j4 d21] d22) = false := by rfl)
    (hsw : swapsWith (.List [.Call (.Name "isinstance" d6) [.Name yc d7, .Name x1 d8] [] d9, .Call (.Name "isinstance" d10) [.Name yc d11, .Name x2 d12] [] d13, .Call (.Name "isinstance" d14) [.Name yc d15, .Name x3 d16] [] d17] d18) (some (.Name ys d5)) d23.line X.env = pure false := by rfl)
    (s1 : starEach [.Name yc d7, .Name x1 d8] X.env = (false, eval (.Name yc d7) X.env) :: starEach [.Name x1 d8] X.env := by rfl) (s1' : starEach [.Name x1 d8] X.env = (false, eval (.Name x1 d8) X.env) :: starEach [] X.env := by rfl)
    (s2 : starEach [.Name yc d11, .Name x2 d12] X.env = (false, eval (.Name yc d11) X.env) :: starEach [.Name x2 d12] X.env := by rfl) (s2' : starEach [.Name x2 d12] X.env = (false, eval (.Name x2 d12) X.env) :: starEach [] X.env := by rfl)
    (s3 : starEach [.Name yc d15, .Name x3 d16] X.env = (false, eval (.Name yc d15) X.env) :: starEach [.Name x3 d16] X.env := by rfl) (s3' : starEach [.Name x3 d16] X.env = (false, eval (.Name x3 d16) X.env) :: starEach [] X.env := by rfl)
    (s4 : starEach [.Name yc d26, .Name x4 d27] X.env = (false, eval (.Name yc d26) X.env) :: starEach [.Name x4 d27] X.env := by rfl) (s4' : starEach [.Name x4 d27] X.env = (false, eval (.Name x4 d27) X.env) :: starEach [] X.env := by rfl)
    (q1 : starEach [.Call (.Name "isinstance" d6) [.Name yc d7, .Name x1 d8] [] d9, .Call (.Name "isinstance" d10) [.Name yc d11, .Name x2 d12] [] d13, .Call (.Name "isinstance" d14) [.Name yc d15, .Name x3 d16] [] d17] X.env = (false, eval (.Call (.Name "isinstance" d6) [.Name yc d7, .Name x1 d8] [] d9) X.env) :: starEach [.Call (.Name "isinstance" d10) [.Name yc d11, .Name x2 d12] [] d13, .Call (.Name "isinstance" d14) [.Name yc d15, .Name x3 d16] [] d17] X.env := by rfl)
    (q2 : starEach [.Call (.Name "isinstance" d10) [.Name yc d11, .Name x2 d12] [] d13, .Call (.Name "isinstance" d14) [.Name yc d15, .Name x3 d16] [] d17] X.env = (false, eval (.Call (.Name "isinstance" d10) [.Name yc d11, .Name x2 d12] [] d13) X.env) :: starEach [.Call (.Name "isinstance" d14) [.Name yc d15, .Name x3 d16] [] d17] X.env := by rfl)
    (q3 : starEach [.Call (.Name "isinstance" d14) [.Name yc d15, .Name x3 d16] [] d17] X.env = (false, eval (.Call (.Name "isinstance" d14) [.Name yc d15, .Name x3 d16] [] d17) X.env) :: starEach [] X.env := by rfl)
    (tr : ∀ whole, isTrue (.Call (.Name "isinstance" d25) [.Name yc d26, .Name x4 d27] [] d28) X.env whole = (do let v ← whole; standAt (Expr.pos (.Call (.Name "isinstance" d25) [.Name yc d26, .Name x4 d27] [] d28)); holding [v] (truthy v)) := by intro _; rfl) :
    Tail X C ic is [.If (.Compare (.Name yc d1) [.Is] [.Constant .none j1 d2] d3) [.Return (some (.Name yt d4)) d24] [] d36,
      .Assign [.Name ys d5] (.List [.Call (.Name "isinstance" d6) [.Name yc d7, .Name x1 d8] [] d9, .Call (.Name "isinstance" d10) [.Name yc d11, .Name x2 d12] [] d13, .Call (.Name "isinstance" d14) [.Name yc d15, .Name x3 d16] [] d17] d18) d23,
      .Return (some (.IfExp (.BoolOp .And [.Compare (.Name ys d29) [.Eq] [.List [.Constant (.bool true) j2 d19, .Constant (.bool false) j3 d20, .Constant (.bool false) j4 d21] d22] d30, .UnaryOp .Not (.Call (.Name "isinstance" d25) [.Name yc d26, .Name x4 d27] [] d28) d31] d32) (.Constant (.str "none") j5 d33) (.Constant (.str "odd") j6 d34) d35)) d37] sWord := by
  intro a oe hz hf
  obtain ⟨D1, h1, k1⟩ := T.k1
  obtain ⟨D2, h2, k2⟩ := T.k2
  obtain ⟨D3, h3, k3⟩ := T.k3
  obtain ⟨D4, h4, k4⟩ := T.k4
  refine PSs.imp (pss_cons (ps_if (pt_cmpR (X := pinned X a oe) opr_is (pe_var hc hvc dc cc) pe_non m1) (pss_one (ps_ret (pe_var ht hvt dt ct))) pss_nil)
    (pss_cons (ps_set (X := pinned X a oe) nd hs hls (pe_lst (pa_cons (pe_isK (b := true) T.exc hz hf hg hm hc hvc g1 h1 k1 dc cc e1 s1 s1') (pa_cons (pe_isK (b := false) T.exc hz hf hg hm hc hvc g2 h2 k2 dc cc e2 s2 s2') (pa_cons (pe_isK (b := false) T.exc hz hf hg hm hc hvc g3 h3 k3 dc cc e3 s3 s3') pa_nil q3) q2) q1)) hsw hfs)
    (pss_one (ps_ret (pe_ifExp (PW.pt (pw_and (pt_cmpR (X := pinned X a oe) (op_eq2 hu) (pe_var hs hvs ds cs) (pe_lst (pa_cons pe_bl (pa_cons pe_bl (pa_cons pe_bl pa_nil)))) m2) (pw_and1 (pt_not (pt_truth (pe_isK (b := false) T.exc hz hf hg hm hc hvc g4 h4 k4 dc cc e4 s4 s4') tr))))) pe_str pe_str))))) fun D σ H ⟨bound, hca, pn, F0, H0, F, env, b, PD, rep, t, k, r⟩ => ?_
  refine ⟨.ref a, hca, .inl ⟨rfl, false, rfl, ?_⟩⟩
  have rvs : RVs X.K F [.bl true, .bl false, .bl false] [.bool true, .bool false, .bool false] := .cons (.bl true) (.cons (.bl false) (.cons (.bl false) .nil))
  refine ⟨hca, hca, hca, by show 3 ≤ sizeLine; decide, fun p hp => ?_⟩
  have o0 := rep.rep.ok
  have o1 := o0.own (o := .lst [.bl true, .bl false, .bl false]) hp
  have x1 : Ext pn F H F (upd H p (.lst [.bl true, .bl false, .bl false])) := .own hp
  have ow : OwnL X.K pn F (upd H p (.lst [.bl true, .bl false, .bl false])) (.ref p) [.bool true, .bool false, .bool false] := ⟨p, _, rfl, o0.free hp, (o0.pen.apartN hp).1, (o0.pen.apartN hp).2, upd_same, rvs⟩
  have hca2 : (σ.set is (some (.ref p)))[ic]? = some (some (.ref a)) := by rw [List.getElem?_set_ne (Ne.symm nsc)]; exact hca
  refine ⟨.ref p, List.getElem?_set_self bound, by show 3 ≤ sizeLine; decide, fun p2 hp2 => ?_⟩
  have o2 := o1.own (o := .lst [.bl true, .bl false, .bl false]) hp2
  have x2 : Ext pn F (upd H p (.lst [.bl true, .bl false, .bl false])) F (upd (upd H p (.lst [.bl true, .bl false, .bl false])) p2 (.lst [.bl true, .bl false, .bl false])) := .own hp2
  have ow2 : OwnL X.K pn F (upd (upd H p (.lst [.bl true, .bl false, .bl false])) p2 (.lst [.bl true, .bl false, .bl false])) (.ref p2) [.bool true, .bool false, .bool false] := ⟨p2, _, rfl, o1.free hp2, (o1.pen.apartN hp2).1, (o1.pen.apartN hp2).2, upd_same, rvs⟩
  refine ⟨pn, _, F, _, _, o2, .inr ⟨_, rfl, ow.ext x2⟩, .inr ⟨_, rfl, ow2⟩, .inl (by simp [dfree, dfreeAll]), by simp [PyData.depth, PyData.depthAll], true, by simp [PyData.eqv, PyData.eqvAll], ?_⟩
  refine ⟨hca2, false, rfl, ?_⟩
  exact r.1 (.str _) (.str _) F _ _ o2 (rep.ext.trans (x1.trans x2)) (.str _) t
end
end Pu
namespace Pu
open PySem PySem.Spec PyProof.Rows L2 PuS SeqAt
/-- told = f(..), tried: where the error comes, the word "none" is given back -/
def sTry (w : WDX) (t : WA) (it ic is : Nat) (u : WS) : WS := fun PD env b => (ic < env.length ∧ is < env.length) ∧ t env b fun ss b1 => w ss b1 (fun d b2 => u PD (env.set it (some (.d d))) b2) (fun ds b2 => u PD (env.set it (some (.l ds))) b2) fun b2 => PD.rt (.str ("none" : Str)) b2
theorem rep_none {K : PySem.W.Frag} {pn : Pn} {F0 H0 F H : Hp} {b : Nat} {σ : L2.St} (o : Ok pn b F H) (x : Ext pn F0 H0 F H) (tk : ∃ q, pn = some q ∧ q.tb = tabF K) : RepS K pn F0 H0 F H σ (List.replicate σ.length none) b := by
  have no : ∀ (i : Nat) (s : Sl), (List.replicate σ.length (none : Option Sl))[i]? ≠ some (some s) := fun i s h => by
    have := List.mem_of_getElem? h
    simp at this
  exact ⟨⟨o, by simp, fun i s h => absurd h (no i s), fun i j a xs ys _ h _ _ => absurd h (no i _), tk⟩, x, fun i a s _ h _ => absurd h (no i s)⟩
section
variable {X : Cx} {f C : Addr} {fd : FuncData} {ps : List Str} {k : Nat} {w : WDX} {t : WA} {u : WS} {ie ic it is : Nat} {n yc yt ys x xo x1 x2 x3 x4 : Str} {c : Value} {e : Expr} {es : List Expr} {rest : List Stmt} {np pos pos' p1 p2 p3 pf pc pa pt : Pos}
theorem sb_try (hs : X.stack = X.env :: X.outer) (hf : X.env.frame = some X.env.locals) (nd : X.N.Nodup)
    (hie : X.N[ie]? = some n) (hln : X.env.kindOf n = some .local) (hvn : Vis X.env.scope n) (hic : X.N[ic]? = some yc) (hlc : Loc X.env.scope yc) (hfc : X.fn yc = true ∨ X.env.scope.names.lookup yc = some .local) (hit : X.N[it]? = some yt) (hlt : Loc X.env.scope yt) (hft : X.fn yt = true ∨ X.env.scope.names.lookup yt = some .local)
    (nec : ie ≠ ic) (hc : Names X xo c) (hm1 : PySem.W.exmOne X.K (.ref C) c = some true)
    (G : FnOk X.prog X.w X.K X.mg X.base (L2.CX X.prog X.w) k f fd ps (spX X.K (.ref C) w)) (hr : Room k X.A) (hg : Gl X x) (hm : X.mg x = some (.ref f)) (hk : PySem.W.keepIn X.K (.ref f) = true) (hb : Binds X.K fd ps [])
    (ha : ∀ (pn : List (Addr × Obj)) (xe : Value → Shared → Prop), EA (X.tr pn xe) (e :: es) t) (hrest : SB X rest u)
    (htail : Tail X C ic is rest sWord)
    (dn : (n == ("__debug__" : Str)) = false := by decide) (cn : (n == ("__classdict__" : Str)) = false := by decide) (dx : (x == ("__debug__" : Str)) = false := by decide)
    (he : starEach (e :: es) X.env = (false, eval e X.env) :: starEach es X.env := by rfl) (hpl : (backTo pc (starEach es X.env)).any (·.1) = false := by rfl)
    (hsw2 : swapsWith (.Call (.Name x pf) (e :: es) [] pc) (some (.Name yt pt)) pa.line X.env = pure false := by rfl)
    (hsw : swapsWith (.Name n p2) (some (.Name yc p1)) p3.line X.env = pure false := by rfl) :
    SB X (.Try [.Assign [.Name yt pt] (.Call (.Name x pf) (e :: es) [] pc) pa] [.ExceptHandler (some (.Name xo np)) (some n) [.Assign [.Name yc p1] (.Name n p2) p3] pos'] [] [] pos :: rest) (sTry w t it ic is u) := by
  refine PSs.imp (pss_try_keep (ie := ie) (ic := ic) (tx := fun a cls d D σ H => cls = .ref C ∧ d = none ∧ is < σ.length ∧ σ[ic]? = some (some (.ref a)) ∧ lS X.K sWord D σ H) hs hf nd hie hln hic hlc hfc hvn dn cn hc
    (tb := fun W => tAsg (tCallS (spX X.K (.ref C) w) (L2.WE W) (lA X.K t)) (gName it)) (fun W pn xe tk _ => pss_one (ps_set (X := X.tr pn xe) nd hit hlt (pe_callS (X := X.tr pn xe) G hr hg hm hk hb (fun σ => passAt tk σ) (ha pn xe) dx he hpl) hsw2 hft)) hrest (fun a oe cls d hz hf' => ⟨fun pins s σ H D I h => ?_⟩) hsw)
    fun D σ H ⟨pn, F0, H0, F, env, b, PD, rep, ⟨hl, t⟩, kk, r⟩ => ?_
  · obtain ⟨rfl, rfl, h⟩ := h
    exact (htail a oe hz hf').run pins s σ H D I h
  · refine ⟨pn, F, env, b, _, rep.rep, t, fun vs ss F1 H1 b1 o1 e1 ar t1 => ?_⟩
    have rep1 := rep.ext' o1 e1
    refine ⟨pn, F1, ss, b1, _, _, _, o1, ar, t1, fun v d F' H' b' o' x' rv q => ?_, fun v ds F' H' b' o' x' ow nw q => ?_, fun F' H' b' o' x' q => ⟨hm1, fun a na => ⟨rfl, rfl, ?_, ?_, ?_⟩⟩⟩
    · exact ⟨pn, F0, H0, F', _, b', PD, (rep1.ext' o' x').setD rv, q, kk, r⟩
    · exact ⟨pn, F0, H0, F', _, b', PD, (rep1.ext' o' x').setL ow (rep1.fresh nw), q, kk, r⟩
    · rw [List.length_set, List.length_set, List.length_set, rep.rep.len]
      exact hl.2
    · have bound : ic < σ.length := rep.rep.len ▸ hl.1
      rw [List.getElem?_set_ne nec, List.getElem?_set_self (by rw [List.length_set]; exact bound)]
    · exact ⟨pn, F0, H0, F', _, b', PD, rep_none o' (rep1.ext.trans x') rep.rep.tk, q, fun σ' F' H' env' b' rep' => kk σ' F' H' env' b' rep', r⟩
end
def MDX (f : WDX) (ss : List Sl) (n : Nat) (R : PyData → Nat → Prop) (L : List PyData → Nat → Prop) (E : Nat → Prop) : Prop :=
  ∀ (b : Nat) (P : PyData → Nat → Prop) (PL : List PyData → Nat → Prop) (PE : Nat → Prop), n ≤ b → (∀ r m b', R r m → m ≤ b' → P r b') → (∀ r m b', L r m → m ≤ b' → PL r b') → (∀ m b', E m → m ≤ b' → PE b') → f ss b P PL PE
theorem n_try {w : WDX} {t : WA} {it ic is : Nat} {u : WS} {env : En} {n : Nat} {N : En → Nat → Prop} {R : PyData → Nat → Prop} {L : List PyData → Nat → Prop} {B C : En → Nat → Prop} (hl : ic < env.length ∧ is < env.length)
    (h : ME t env n fun ss m => MDX w ss m (fun d m' => MSO u (env.set it (some (.d d))) m' N R L B C) (fun ds m' => MSO u (env.set it (some (.l ds))) m' N R L B C) (fun m' => R (.str ("none" : Str)) m')) : MSO (sTry w t it ic is u) env n N R L B C :=
  fun PD b hb kn kr kl kb kc => ⟨hl, h b _ hb fun ss m b1 q hb1 => q b1 _ _ _ hb1 (fun d m' b2 q hb2 => q PD b2 hb2 kn kr kl kb kc) (fun ds m' b2 q hb2 => q PD b2 hb2 kn kr kl kb kc) fun m' b2 q hb2 => kr _ m' b2 q hb2⟩
/-- a statement of a def that raises -/
def MSX (t : WS) (env : En) (n : Nat) (N : En → Nat → Prop) (R : PyData → Nat → Prop) (L : List PyData → Nat → Prop) (E : Nat → Prop) (B C : En → Nat → Prop) : Prop :=
  ∀ (PD : PEnds) (b : Nat), n ≤ b → (∀ e m b', N e m → m ≤ b' → PD.nx e b') → (∀ r m b', R r m → m ≤ b' → PD.rt r b') → (∀ r m b', L r m → m ≤ b' → PD.rl r b') → (∀ nm m b', E m → m ≤ b' → PD.xr nm b') →
    (∀ e m b', B e m → m ≤ b' → PD.bk e b') → (∀ e m b', C e m → m ≤ b' → PD.ct e b') → t PD env b
section
variable {t u : WS} {tt : WT} {env : En} {n : Nat} {N : En → Nat → Prop} {R : PyData → Nat → Prop} {L : List PyData → Nat → Prop} {E : Nat → Prop} {B C : En → Nat → Prop}
theorem x_of (h : MSO t env n N R L B C) : MSX t env n N R L E B C := fun PD b hb kn kr kl kx kb kc => h PD b hb kn kr kl kb kc
theorem x_seq (h : MSX t env n (fun e m => MSX u e m N R L E B C) R L E B C) : MSX (sSeq t u) env n N R L E B C :=
  fun PD b hb kn kr kl kx kb kc => h _ b hb (fun e m b' q hm => q PD b' hm kn kr kl kx kb kc) kr kl kx kb kc
theorem x_ifM (h : ME tt env n fun c m => (c = true → MSX t env m N R L E B C) ∧ (c = false → MSX u env m N R L E B C)) : MSX (sIf tt t u) env n N R L E B C :=
  fun PD b hb kn kr kl kx kb kc => h b _ hb fun c m b1 ⟨q1, q2⟩ hb1 => by
    cases c with
    | true => exact q1 rfl PD b1 hb1 kn kr kl kx kb kc
    | false => exact q2 rfl PD b1 hb1 kn kr kl kx kb kc
theorem x_raiseM (q : E n) : MSX sRaise env n N R L E B C := fun PD b hb kn kr kl kx kb kc => kx _ n b q hb
theorem mdx_def {np nn : Nat} {t : WS} {ss : List Sl} {n : Nat} {Q : PyData → Nat → Prop} {L : List PyData → Nat → Prop} {E : Nat → Prop} {env : En} (hl : ss.length = np) (he : env0 nn ss = env) (h : MSX t env n (fun _ m => Q .none m) Q L E noEnd noEnd) : MDX (wDefX np nn t) ss n Q L E :=
  fun b P PL PE hb k kl kx => ⟨hl, by subst he; exact h _ b hb (fun e m b' q hm => k _ m b' q hm) k kl (fun _ m b' q hm => kx m b' q hm) (fun _ _ _ q => q.elim) (fun _ _ _ q => q.elim)⟩
end
end Pu
namespace Pu
open PySem PySem.Spec PyProof.Rows L2 PuS LamX
inductive XF where
  | fa (f : He.Fa)
  | isc (x : Str)
  | kit (x y : Str) (b : Bool)
def XF.ok (K : PySem.W.Frag) : XF → Bool
  | .fa f => f.ok K
  | .isc x => He.eqO (PySem.W.findIn K (.ref (He.ga K x)) "__getattribute__") (some (some (.builtin "BaseException.__getattribute__"))) && (He.eqO (PySem.W.findIn K (.ref (He.ga K x)) "__getattr__") (some none) && (decide (PySem.W.subIn K (.ref (He.ga K x)) (.type "BaseException") = some true) && (PySem.W.hasDictIn K (He.ga K x) &&
      (He.eqO (PySem.W.findIn K (.ref (He.ga K x)) "__class__") (some (some (.builtin "object.__class__"))) && (He.eqO (PySem.W.specialIn K (.builtin "object.__class__") "__get__") (some (some (.builtin "getset_descriptor.__get__"))) && (decide (PySem.W.takesIn K (.builtin "object.__class__") = some true) && decide (PySem.W.mroIn K (He.ga K x) (.type "object") = some true)))))))
  | .kit x y b => decide (PySem.W.kitOne K (.ref (He.ga K x)) (.ref (He.ga K y)) = some b)
section
variable {K : PySem.W.Frag}
theorem isc_ok {x : Str} (c : (XF.isc x).ok K = true) : ExcC K (He.ga K x) := by
  have c0 : (_ && _) = true := c
  obtain ⟨c1, c⟩ := He.ba c0
  obtain ⟨c2, c⟩ := He.ba c
  obtain ⟨c3, c⟩ := He.ba c
  obtain ⟨c4, c⟩ := He.ba c
  obtain ⟨c5, c⟩ := He.ba c
  obtain ⟨c6, c⟩ := He.ba c
  obtain ⟨c7, c8⟩ := He.ba c
  exact ⟨He.eqO_ok c1, He.eqO_ok c2, of_decide_eq_true c3, c4, He.eqO_ok c5, He.eqO_ok c6, of_decide_eq_true c7, of_decide_eq_true c8⟩
theorem kit_ok {x y : Str} {b : Bool} (c : (XF.kit x y b).ok K = true) : PySem.W.kitOne K (.ref (He.ga K x)) (.ref (He.ga K y)) = some b := of_decide_eq_true c
theorem exm_ok {x y : Str} {b : Bool} (c : (XF.fa (.exm x y b)).ok K = true) : PySem.W.exmOne K (.ref (He.ga K x)) (.ref (He.ga K y)) = some b := of_decide_eq_true c
theorem exc_ok {x : Str} (c : (XF.fa (.exc x)).ok K = true) : PySem.W.excIn K (He.ga K x) He.veBase "ValueError.__new__" = true ∧ PySem.W.keepIn K (.ref (He.ga K x)) = true ∧ PySem.W.subIn K (.ref (He.ga K x)) (.type "BaseException") = some true ∧ PySem.W.typeIn K (.ref (He.ga K x)) = some (.type "type") := by
  have c0 : (_ && _) = true := c
  obtain ⟨c1, c⟩ := He.ba c0
  obtain ⟨c2, c⟩ := He.ba c
  obtain ⟨c3, c4⟩ := He.ba c
  exact ⟨c1, c2, of_decide_eq_true c3, of_decide_eq_true c4⟩
end
def xcB (xc : List XF) (tq : TQ) (K : PySem.W.Frag) : Bool := xc.all fun x => x.ok (withT K (He.ga K "law") (tabAt K tq))
def obsXG (n : Nat) (fa : List He.Fa) (fn : List He.DefD) (tb : Tbl) (tq : TQ) (xc : List XF) (g : Addr → Option Obj) : Bool × Bool × Bool × Bool × He.AlD := (xcB xc tq (He.frT g (He.asD g n)), obsHG n fa fn tb tq g)
def hookX (n : Nat) (fa : List He.Fa) (fn : List He.DefD) (tb : Tbl) (tq : TQ) (xc : List XF) : PySem.W.Hook where
  α := Bool × Bool × Bool × Bool × He.AlD
  obs := fun s => obsXG n fa fn tb tq xc s.heap.get?
  val := fun _ => (true, true, true, true, He.valD fn)
  says := fun _ h => SysT h ∧ ∃ K : PySem.W.Frag, K.In h ∧ SaysH fa fn tb tq h K ∧ xcB xc tq K = true
  of := fun _ _ e => ⟨sysT_ok (congrArg (fun z : Bool × Bool × Bool × Bool × He.AlD => z.2.1) e), _, He.frT_in, saysH_of (congrArg (fun z : Bool × Bool × Bool × Bool × He.AlD => z.2.2) e), congrArg (fun z : Bool × Bool × Bool × Bool × He.AlD => z.1) e⟩
  keeps := fun _ _ _ ⟨⟨o, c, e, e2, n⟩, K, hK, x, xk⟩ k => ⟨⟨o, c, k _ _ e, e2, n⟩, K, PySem.W.Frag.In.keeps hK k, ⟨x.c, x.hd, x.out, fun p hp => k _ _ (x.empty p hp), x.nd⟩, xk⟩
theorem obsXG_eq {n : Nat} {fa : List He.Fa} {fn : List He.DefD} {tb : Tbl} {tq : TQ} {xc : List XF} {g : Addr → Option Obj} {s : Shared} (h : ∀ a, g a = s.heap.get? a) : obsXG n fa fn tb tq xc g = (hookX n fa fn tb tq xc).obs s := by
  obtain rfl : g = s.heap.get? := funext h
  rfl
theorem xc_fact {xc : List XF} {tq : TQ} {K : PySem.W.Frag} (h : xcB xc tq K = true) (i : Nat) {x : XF} (e : xc[i]? = some x := by rfl) : x.ok (withT K (He.ga K "law") (tabAt K tq)) = true := List.all_eq_true.mp h x (List.mem_of_getElem? e)
theorem walk_ofX {l : PySem.W.OpenLaw} {n k : Nat} {q : Program} {loose : List Str} {XP : (Str → Option Value) → Heap → Prop} {fa : List He.Fa} {fn : List He.DefD} {tb : Tbl} {tq : TQ} {xc : List XF} {d : DefRec} {x : Str} (hn : l.most = some n) (hn2 : n ≤ sizeLine) (hdf : d.params.defaults = []) (hr : Room k callerA)
    (F : ∀ (w : World) (mg : Str → Option Value) (a : Addr) (h : Heap) (K : PySem.W.Frag), K.In h → SaysH fa fn tb tq h K → xcB xc tq K = true → h.Ns mainGlobals mg → mg d.name = some (.ref a) → ∃ (K' : PySem.W.Frag) (fd : FuncData) (sp : Sp), (∀ b, K'.lookup b = K.lookup b) ∧ (∀ (s : Shared) (u : Value), BindsTo s fd ⟨[u], []⟩ [(x, u)]) ∧
      (∀ (H : Hp) (a : Addr) (ns : List Int), ns.length ≤ n → (∀ p ∈ codesT K tq, H p.2 = some (.tbl #[])) → SqL K' H a (ns.map V.int) → sp [.ref a] H (fun v _ => v = .bl true) fun _ _ _ => False) ∧ ∀ base : Heap, K'.In base → base.Ns mainGlobals mg → (∀ p ∈ codesT K tq, TabB base mg p.1 p.2) → TopOk l.prog w K' mg base k a fd [x] sp) :
    PySem.W.WalkO q loose XP (fun w h => (hookX 4 fa fn tb tq xc).says w h) l.row.toRowW d [] (fun f vs => PySem.call f vs) := by
  refine Att.attach_call hn hdf fun w s₀ s₁ mg mb f o pm cd doc a vs ns G Y ho hd hcd hmg hobj hints hlen hg => ?_
  obtain ⟨sy, K, KX, c, xk⟩ := Y
  obtain ⟨K', fd, sp, ek, hb, hsp, run⟩ := F w mg f _ K KX c xk G.T.g hmg
  have mem : ∀ {p}, p ∈ codesT K tq → ∃ z ∈ tq, p = He.cT K z.1 := fun hp => let ⟨z, hz, e⟩ := List.mem_map.mp hp; ⟨z, hz, e.symm⟩
  refine law_callH (cs := codesT K tq) (In.cong ek KX) G.T.g G.T.b G.T.builtins G.T.nolimit hg sy (fun p hp => ?_) (fun p hp => ?_) (fun p hp => ?_) G.T.bmain hobj hints (Nat.le_trans hlen hn2) hr run hb fun H hH hS => hsp H a ns hlen hH hS
  · obtain ⟨z, hz, rfl⟩ := mem hp
    exact c.empty z hz
  · obtain ⟨z, hz, rfl⟩ := mem hp
    exact (ek _).trans (c.out z hz)
  · obtain ⟨z, hz, rfl⟩ := mem hp
    exact PySem.W.codeHd_of_K KX (c.hd z hz)
end Pu
namespace Pu
open PySem PySem.Spec PyProof.Rows L2 PuS SeqAt
/-- a loop where no name holds a list of one's own -/
def sForB (t : WI) (g : Tg) (body : WS) : WS := fun PD env b => (∀ (i : Nat) (q : Sl), env[i]? = some (some q) → q.isOwn = false) ∧ sFor t g body PD env b
section
variable {X : Cx} {pos : Pos} {tg iter : Expr} {g : Tg} {body : List Stmt} {ti : WI} {tb : WS}
theorem s_forB {iw : Bool} (hp : PassesOwn (model X.prog X.w) X.A X.env X.xe) (hc : X.calm = true) (hi : PI X tg iter (lI X.K true iw ti)) (hg : PGt X tg g) (hb : SB X body tb) (hs : ∀ x, foldedSetIterable iter X.env x = pure x := by intro _; rfl) (hw : iw = true ∨ ∃ is, g = .tp is := by first | exact .inl rfl | exact .inr ⟨_, rfl⟩) :
    SS X (.For tg iter body [] pos) (sForB ti g tb) := PS.imp (ps_for hp hc hi hg hb hs) fun D σ H ⟨pn, F0, H0, F, env, b, PD, rep, ⟨nown, t⟩, k, r⟩ => by
  refine ⟨pn, F, env, b, _, rep.rep, t, fun items F1 H1 b1 J o1 x1 it t1 => ?_⟩
  have rep1 := rep.ext' o1 x1
  have x01 := rep1.ext
  have up : ∀ {σ' F' H' env' b'}, RepS X.K pn F1 H1 F' H' σ' env' b' → RepS X.K pn F0 H0 F' H' σ' env' b' := fun r => ⟨r.rep, x01.trans r.ext, fun i a s hs h1 h2 => x01.bk o1 (r.own i a s hs h1 h2)⟩
  have rep0 : RepS X.K pn F1 H1 F1 H1 σ env b1 := ⟨rep1.rep, .refl, fun i a s hs h1 _ => by rw [nown i s h1] at hs; cases hs⟩
  refine ⟨fun i m σ H => ∃ F env b, RepS X.K pn F1 H1 F H σ env b ∧ i + m = items.length ∧ wFor g tb PD (items.drop i) env b, ⟨items.length, F1, env, b1, rep0, by omega, t1⟩, fun i m σ H hW => ?_⟩
  obtain ⟨F2, env2, b2, rep2, em, w⟩ := hW
  obtain ⟨go, stop, yld⟩ := it i F2 H b2 rep2.rep.ok rep2.ext
  by_cases hi : i < items.length
  · refine .inr ⟨go hi, fun σ' H' => ∃ F' env' b', RepS X.K pn F1 H1 F' H' σ' env' b' ∧ wFor g tb PD (items.drop (i + 1)) env' b', fun σ' H' hN => ?_, fun x H' hy => ?_⟩
    · obtain ⟨F', env', b', r', w'⟩ := hN
      exact ⟨m - 1, by omega, F', env', b', r', by omega, w'⟩
    · obtain ⟨F', d, hd, rv, o', x'⟩ := yld x H' hy hi
      rw [List.drop_eq_getElem_cons hi] at w
      have ed : items[i] = d := by
        rw [List.getElem?_eq_getElem hi] at hd
        exact Option.some.inj hd
      rw [ed] at w
      unfold wFor at w
      split at w
      · rename_i env' hset
        refine gT_run (F0 := F1) (H0 := H1) (env := env2) o' rv hw hset fun vs c1 _ => ?_
        have rep3 := c1 (rep2.ext' o' x')
        refine ⟨pn, F1, H1, F', env', b2, _, rep3, w, fun σ4 F4 H4 env4 b4 rep4 => ?_, ⟨fun v d F4 H4 b4 o4 x4 rv q => r.1 v d F4 H4 b4 o4 (x01.trans x4) rv q, fun v d F4 H4 b4 o4 x4 ow nw q => r.2 v d F4 H4 b4 o4 (x01.trans x4) ow (fun a ea => x01.bk o1 (nw a ea)) q⟩⟩
        exact ⟨fun q => ⟨F4, env4, b4, rep4, q⟩, fun q => (k σ4 F4 H4 env4 b4 (up rep4)).1 q, fun q => ⟨F4, env4, b4, rep4, q⟩⟩
      · exact w.elim
  · have e0 : items.drop i = [] := List.drop_of_length_le (by omega)
    rw [e0] at w
    exact .inl ⟨stop (by omega), (k σ F2 H env2 b2 (up rep2)).1 w⟩
/-- enumerate(x), x a datum or a list in hand -/
theorem i_enumB {a : Expr} {t : WE} {p tpos : Pos} {elts : List Expr} {kk : Nat} (hg : Gl X "enumerate") (hm : X.mg "enumerate" = none) (ha : EB X a t) (hs : starEach [a] X.env = [(false, eval a X.env)] := by rfl) :
    PI X (.Tuple elts kk tpos) (.Call (.Name "enumerate" p) [a] [] pos) (lI X.K true false (wEnumT t)) :=
  PI.imp (pi_enumT hg hm (pa_cons ha pa_nil hs) hs) fun σ H R ⟨pn, F, env, b, P, rep, w, k⟩ => by
    refine ⟨pn, F, env, b, _, rep, w, fun v x F1 H1 b1 o1 e1 bv t1 => ?_⟩
    rcases bv with rv | ⟨xs, rfl, a, vs, rfl, f, np, nc, ha, r⟩
    · cases rv with
      | lst h r => exact .inl ⟨_, rfl, .inl ⟨_, SqL.of (o1.sub _ _ h), k _ F1 H1 b1 _ o1 e1 (it_enum fun F H b o c => ⟨_, o.sub _ _ (c.fsub _ _ h), r.mono c.fsub⟩) t1⟩⟩
      | tup h r => exact .inl ⟨_, rfl, .inr ⟨_, Same.tup o1.sub h.sq, k _ F1 H1 b1 _ o1 e1 (it_enumT fun F H b o c => ⟨_, Same.tup (c.fsub.trans o.sub) h.sq, r.mono c.fsub⟩) t1⟩⟩
      | str z => exact .inr ⟨z, rfl, k _ F1 H1 b1 _ o1 e1 it_enumS t1⟩
      | _ => exact t1.elim
    · exact .inl ⟨a, rfl, .inl ⟨vs, SqL.of ha, k _ F1 H1 b1 _ o1 e1 (it_enum fun F H b o c => ⟨vs, (c.keep _ _ ha f np).1, r.mono c.fsub⟩) t1⟩⟩
end
section
variable {tb : WS} {ti : WI} {env : En} {n : Nat} {g : Tg} {N : En → Nat → Prop} {R : PyData → Nat → Prop} {B C : En → Nat → Prop}
theorem n_forB (ho : ∀ (i : Nat) (q : Sl), env[i]? = some (some q) → q.isOwn = false) (h : ME ti env n fun xs m => ∃ I : List PyData → En → Nat → Prop, I xs env m ∧
      (∀ x rest e m, I (x :: rest) e m → ∃ e', setT g x e = some e' ∧ MS tb e' m (fun e2 m2 => I rest e2 m2) R N (fun e2 m2 => I rest e2 m2)) ∧ ∀ e m, I [] e m → N e m) : MS (sForB ti g tb) env n N R B C :=
  fun PD b hb kn kr kb kc => ⟨ho, n_for h PD b hb kn kr kb kc⟩
end
end Pu
namespace Lw
open PySem PySem.Spec PyProof.Rows L2 Pu
def topS (i : Nat) : Stmt := PySem.Challenge.pw_openties_k04_alike_tables.main.body.getD i (.Pass ⟨0, 0, 0, 0⟩)
abbrev s__law_open : Stmt := topS 21
abbrev s__law_spread : Stmt := topS 22
abbrev s__law_take : Stmt := topS 23
abbrev s__law_subset : Stmt := topS 25
abbrev s__law_draw_schema : Stmt := topS 27
abbrev s_contains : Stmt := topS 9
abbrev s__has_key : Stmt := topS 15
abbrev s_common : Stmt := topS 8
abbrev s__closure_round : Stmt := topS 16
abbrev s_closure : Stmt := topS 11
abbrev s_is_unique : Stmt := topS 12
abbrev s_alike_table : Stmt := topS 14
abbrev s__law_told : Stmt := topS 38
abbrev s__law_all_in : Stmt := topS 31
abbrev s__law_closure : Stmt := topS 32
abbrev s__law_alike_right : Stmt := topS 39
abbrev s_projected : Stmt := topS 10
abbrev s__keeps_key : Stmt := topS 19
abbrev s_is_plain_integer : Stmt := topS 7
abbrev s__is_row : Stmt := topS 17
abbrev s__keeps_rule : Stmt := topS 18
abbrev s_is_table : Stmt := topS 13
abbrev s_law : Stmt := topS 40
end Lw
namespace Lw
open PySem PySem.Spec PyProof.Rows L2 Pu
def f__law_open : He.DefD := ⟨("_law_open", none), "_law_open", "_law_open", defArgs s__law_open, defBody s__law_open, defScope s__law_open, [], []⟩
def f__law_spread : He.DefD := ⟨("_law_spread", none), "_law_spread", "_law_spread", defArgs s__law_spread, defBody s__law_spread, defScope s__law_spread, [], []⟩
def f__law_take : He.DefD := ⟨("_law_take", none), "_law_take", "_law_take", defArgs s__law_take, defBody s__law_take, defScope s__law_take, [], []⟩
def f__law_subset : He.DefD := ⟨("_law_subset", none), "_law_subset", "_law_subset", defArgs s__law_subset, defBody s__law_subset, defScope s__law_subset, [], []⟩
def f__law_draw_schema : He.DefD := ⟨("_law_draw_schema", none), "_law_draw_schema", "_law_draw_schema", defArgs s__law_draw_schema, defBody s__law_draw_schema, defScope s__law_draw_schema, [], []⟩
def f_contains : He.DefD := ⟨("contains", none), "contains", "contains", defArgs s_contains, defBody s_contains, defScope s_contains, [], []⟩
def f__has_key : He.DefD := ⟨("_has_key", none), "_has_key", "_has_key", defArgs s__has_key, defBody s__has_key, defScope s__has_key, [], []⟩
def f_common : He.DefD := ⟨("common", none), "common", "common", defArgs s_common, defBody s_common, defScope s_common, [], []⟩
def f__closure_round : He.DefD := ⟨("_closure_round", none), "_closure_round", "_closure_round", defArgs s__closure_round, defBody s__closure_round, defScope s__closure_round, [], []⟩
def f_closure : He.DefD := ⟨("closure", none), "closure", "closure", defArgs s_closure, defBody s_closure, defScope s_closure, [], []⟩
def f_is_unique : He.DefD := ⟨("is_unique", none), "is_unique", "is_unique", defArgs s_is_unique, defBody s_is_unique, defScope s_is_unique, [], []⟩
def f_alike_table : He.DefD := ⟨("alike_table", none), "alike_table", "alike_table", defArgs s_alike_table, defBody s_alike_table, defScope s_alike_table, [], []⟩
def f__law_told : He.DefD := ⟨("_law_told", none), "_law_told", "_law_told", defArgs s__law_told, defBody s__law_told, defScope s__law_told, [], []⟩
def f__law_all_in : He.DefD := ⟨("_law_all_in", none), "_law_all_in", "_law_all_in", defArgs s__law_all_in, defBody s__law_all_in, defScope s__law_all_in, [], []⟩
def f__law_closure : He.DefD := ⟨("_law_closure", none), "_law_closure", "_law_closure", defArgs s__law_closure, defBody s__law_closure, defScope s__law_closure, [], []⟩
def f__law_alike_right : He.DefD := ⟨("_law_alike_right", none), "_law_alike_right", "_law_alike_right", defArgs s__law_alike_right, defBody s__law_alike_right, defScope s__law_alike_right, [], []⟩
def f_projected : He.DefD := ⟨("projected", none), "projected", "projected", defArgs s_projected, defBody s_projected, defScope s_projected, [], []⟩
def f__keeps_key : He.DefD := ⟨("_keeps_key", none), "_keeps_key", "_keeps_key", defArgs s__keeps_key, defBody s__keeps_key, defScope s__keeps_key, [], []⟩
def f_is_plain_integer : He.DefD := ⟨("is_plain_integer", none), "is_plain_integer", "is_plain_integer", defArgs s_is_plain_integer, defBody s_is_plain_integer, defScope s_is_plain_integer, [], []⟩
def f__is_row : He.DefD := ⟨("_is_row", none), "_is_row", "_is_row", defArgs s__is_row, defBody s__is_row, defScope s__is_row, [], []⟩
def f__keeps_rule : He.DefD := ⟨("_keeps_rule", none), "_keeps_rule", "_keeps_rule", defArgs s__keeps_rule, defBody s__keeps_rule, defScope s__keeps_rule, [], []⟩
def f_is_table : He.DefD := ⟨("is_table", none), "is_table", "is_table", defArgs s_is_table, defBody s_is_table, defScope s_is_table, [], []⟩
def f_law : He.DefD := ⟨("law", none), "law", "law", defArgs s_law, defBody s_law, defScope s_law, [], []⟩
def fn : List He.DefD := [f__law_open, f__law_spread, f__law_take, f__law_subset, f__law_draw_schema, f_contains, f__has_key, f_common, f__closure_round, f_closure, f_is_unique, f_alike_table, f__law_told, f__law_all_in, f__law_closure, f__law_alike_right, f_projected, f__keeps_key, f_is_plain_integer, f__is_row, f__keeps_rule, f_is_table, f_law]
def fa : List He.Fa := [.glo "_law_open", .glo "_law_spread", .glo "_law_take", .glo "_law_subset", .glo "_law_draw_schema", .glo "contains", .glo "_has_key", .glo "common", .glo "_closure_round", .glo "closure", .glo "is_unique", .glo "alike_table", .glo "_law_told", .glo "_law_all_in", .glo "_law_closure", .glo "_law_alike_right", .glo "projected", .glo "_keeps_key", .glo "is_plain_integer", .glo "_is_row", .glo "_keeps_rule", .glo "is_table", .glo "law", .free "all", .free "any", .free "bool", .free "enumerate", .free "int", .free "isinstance", .free "len", .free "list", .free "range", .free "repr", .free "set", .free "tuple", .free "zip"]
def tb : Tbl := []
def tq : TQ := []
def xc : List XF := [.fa (.glo "NoTable"), .fa (.glo "OpentiesError"), .fa (.glo "NoRun"), .fa (.glo "InvalidRow"), .fa (.glo "InvalidScript"), .fa (.exc "NoTable"), .isc "NoTable", .fa (.exm "NoTable" "OpentiesError" true), .kit "NoTable" "NoTable" true, .kit "NoTable" "NoRun" false, .kit "NoTable" "InvalidRow" false, .kit "NoTable" "InvalidScript" false]
def looseN : List PySem.Str := (["OpentiesError", "NoTable", "InvalidScript", "NoRun", "InvalidRow", "is_plain_integer", "common", "contains", "projected", "closure", "is_unique", "is_table", "alike_table", "_has_key", "_closure_round", "_is_row", "_keeps_rule", "_keeps_key", "_law_open", "_law_spread"] : List PySem.Str) ++ (["_law_take", "_law_same", "_law_subset", "_law_mixed", "_law_draw_schema", "_law_cells", "_law_fits", "_law_draw_table", "_law_all_in", "_law_closure", "_law_draw_step", "_law_draw_report", "_law_kept", "_law_ended", "_law_one_way", "_law_told", "_law_alike_right"] : List PySem.Str)
abbrev R : PySem.W.OpenRow := PySem.W.OpenLaw.row PySem.Challenge.rw_openties_k04_alike_tables
abbrev hk : PySem.W.Hook := hookX 4 fa fn tb tq xc
def ob (s : PySem.W.SharedT) : Bool × Bool × Bool × Bool × He.AlD := obsXG 4 fa fn tb tq xc (HandSHeadRun.getT s)
theorem ob_eq (s : PySem.W.SharedT) : ob s = hk.obs s.abs := obsXG_eq (HandSHeadRun.getT_eq s)
set_option maxHeartbeats 0 in
theorem run (w : World) : HandSHeadRun.RunEq R (PySem.W.view R.prog [40]) hk ob 4000 looseN w := by
  intro os
  kernel_rfl
end Lw
namespace Lw
open PySem PySem.Spec PyProof.Rows L2 Pu
def t__law_spread : WS := (sSeq (sIf (wTt (wOp pGe (wVar 0) (wOp pPow (wC (.int 10)) (wC (.int 18)))))
  (sRet (wVal 0))
  sNext)
  (sSeq (sSet (fz (wLst (wCons (wC (.int 2147483629)) (wCons (wC (.int 2147483587)) (wCons (wC (.int 2147483579)) (wCons (wC (.int 2147483563)) (wCons (wC (.int 2147483549)) (wCons (wC (.int 2147483543)) (wCons (wC (.int 2147483497)) (wCons (wC (.int 2147483489)) wNil)))))))))) 2)
  (sSeq (sSet (wOp pAdd (wVar 2) (fz (wLst (wCons (wC (.int 2147483477)) (wCons (wC (.int 2147483423)) (wCons (wC (.int 2147483399)) (wCons (wC (.int 2147483353)) (wCons (wC (.int 2147483323)) wNil)))))))) 2)
  (sSeq (sSet (wOp pMod (wOp pPow (wOp pAdd (wOp pAdd (wOp pMulT (wOp pMod (wVar 0) (wC (.int 1000000007))) (wOp pAdd (wOp pMulT (wC (.int 2)) (wVar 1)) (wC (.int 69069)))) (wOp pMulT (wVar 1) (wC (.int 40503)))) (wC (.int 977))) (wC (.int 3))) (wOp pIx (wVar 2) (wOp pMod (wVar 1) (wC (.int 13))))) 3)
  (sSeq (sSet (wOp pMod (wOp pPow (wOp pAdd (wOp pAdd (wOp pMulT (wVar 3) (wOp pAdd (wVar 1) (wC (.int 3)))) (wOp pMod (wVar 0) (wC (.int 65537)))) (wC (.int 5))) (wC (.int 5))) (wOp pIx (wVar 2) (wOp pMod (wOp pAdd (wVar 1) (wC (.int 5))) (wC (.int 13))))) 4)
  (sSeq (sSet (wOp pMod (wOp pPow (wOp pAdd (wOp pAdd (wVar 4) (wOp pMod (wVar 3) (wC (.int 1009)))) (wVar 1)) (wC (.int 3))) (wOp pIx (wVar 2) (wOp pMod (wOp pAdd (wVar 1) (wC (.int 7))) (wC (.int 13))))) 5)
  (sRet (wOp pAdd (wOp pMulT (wOp pAdd (wOp pMulT (wVar 3) (wC (.int 2147483647))) (wVar 4)) (wC (.int 2147483647))) (wVar 5)))))))))
def w__law_spread : WD := wDef 2 6 t__law_spread
/-- a draw: any number below the amount -/
def w__law_take : WD := fun ss b P => ∃ n : Int, ss = [.p, .d (.int n)] ∧ 0 < n ∧ n < 1073741824 ∧ 0 < b ∧ ∀ r : Int, 0 ≤ r → r < n → P (.int r) (b - 1)
def t__law_subset : WS := (sRet (wMS pJoin (wC (.str "")) (fz (fLc (wSeq (wVar 1)) (.nm 2) (wTt (wOp pEq2 (wCall w__law_take (wAName 0 (wACons (wC (.int 2)) wANil))) (wC (.int 0)))) (wVal 2) [2]))))
def w__law_subset : WD := wDef 2 3 t__law_subset
def t__law_draw_schema : WS := (sSeq (sSet (wOp pIx (fz (wLst (wCons (wC (.str "abcde")) (wCons (wC (.str "acxyz")) (wCons (wC (.str "bdeqz")) (wCons (wC (.str "hijkl")) (wCons (wC (.str "gnopr")) (wCons (wC (.str "rsuvw")) (wCons (wC (.str "fmtwy")) wNil))))))))) (wCall w__law_take (wAName 0 (wACons (wC (.int 7)) wANil)))) 2)
  (sSeq (sAsg (wTup (wCons (wSl (wVar 2) wNoPart (wPart (wOp pAdd (wC (.int 1)) (wCall w__law_take (wAName 0 (wAName 1 wANil)))))) (wCons (fz (wLst wNil)) (wCons (fz (wLst wNil)) wNil)))) (.tp [3, 4, 5]))
  (sSeq (sFor (wRng1 (wOp pIx (fz (wLst (wCons (wC (.int 0)) (wCons (wC (.int 0)) (wCons (wC (.int 1)) (wCons (wC (.int 2)) (wCons (wC (.int 3)) wNil))))))) (wCall w__law_take (wAName 0 (wACons (wC (.int 5)) wANil))))) (.nm 6)
  (sPick 3 0 7 8 w__law_take w__law_subset (sSet (wOp pAdd (wVar 4) (wOp pMulT (fz (wLst (wCons (wTup (wCons (wVal 8) (wCons (wVal 7) wNil))) wNil))) (w1 pInt (wOp (pIn2 true) (wTup (wCons (wVal 8) (wCons (wVal 7) wNil))) (wVar 4))))) 4)))
  (sSeq (sIf (wTt (wOp pEq2 (wCall w__law_take (wAName 0 (wACons (wC (.int 6)) wANil))) (wC (.int 0))))
  (sSeq (sSet (w1 pRevE (fz (fLc (wRng1 (wOp pSub (w1 pLen (wVar 3)) (wC (.int 1)))) (.nm 10) wYes (wTup (wCons (wOp pIx (wVar 3) (wVar 10)) (wCons (wOp pIx (wVar 3) (wOp pAdd (wVar 10) (wC (.int 1)))) wNil))) [10]))) 4)
  (sSet (wOp pAdd (wVar 4) (wOp pMulT (fz (wLst (wCons (wTup (wCons (wC (.str "")) (wCons (wOp pIx (wVar 3) (wC (.int 0))) wNil))) wNil))) (wCall w__law_take (wAName 0 (wACons (wC (.int 2)) wANil))))) 4))
  sNext)
  (sSeq (sFor (wRng1 (wOp pIx (fz (wLst (wCons (wC (.int 0)) (wCons (wC (.int 0)) (wCons (wC (.int 1)) (wCons (wC (.int 2)) wNil)))))) (wCall w__law_take (wAName 0 (wACons (wC (.int 4)) wANil))))) (.nm 6)
  (sSeq (sSet (wOrE (wCall w__law_subset (wAName 0 (wAName 3 wANil))) (wOp pIx (wVar 3) (wNeg (wC (.int 1))))) 9)
  (sSet (wOp pAdd (wVar 5) (wOp pMulT (fz (wLst (wCons (wVal 9) wNil))) (w1 pInt (wOp (pIn2 true) (wVar 9) (wVar 5))))) 5)))
  (sRet (wTup (wCons (wVal 3) (wCons (w1 pTupA (wVar 4)) (wCons (w1 pTupA (wVar 5)) wNil))))))))))
def w__law_draw_schema : WD := wDef 2 11 t__law_draw_schema
def t__law_all_in : WS := (sRet (wOp pEq2 (fz (fLc (wSeq (wVar 0)) (.nm 2) (wTt (wOp (pIn2 true) (wVar 2) (wVar 1))) (wVal 2) [2])) (fz (wLst wNil))))
def w__law_all_in : WD := wDef 2 3 t__law_all_in
def t__law_closure : WS := (sSeq (sAsg (wTup (wCons (wVal 1) (wCons (wC .none) wNil))) (.tp [2, 3]))
  (sSeq (sWhile (wTt (wOp pNe2 (wVar 2) (wVar 3)))
  (sSeq (sSet (wVal 2) 3)
  (sSeq (sFor (wSeq (wOp pIx (wVar 0) (wC (.int 1)))) (.tp [4, 5])
  (sIf (wAndT (wTru (wCall w__law_all_in (wAName 4 (wAName 2 wANil)))) (wTt (wOp (pIn2 true) (wVar 5) (wVar 2))))
  (sSet (wOp pAdd (wVar 2) (wVar 5)) 2)
  sNext))
  (sIf (wTt (wOp (pIn2 false) (wC (.bool true)) (fz (fLc (wSeq (wOp pIx (wVar 0) (wC (.int 2)))) (.nm 6) wYes (wCall w__law_all_in (wAName 6 (wAName 2 wANil))) [6]))))
  (sSet (wOp pIx (wVar 0) (wC (.int 0))) 2)
  sNext))))
  (sRet (wMS pJoin (wC (.str "")) (fz (fLc (wSeq (wOp pIx (wVar 0) (wC (.int 0)))) (.nm 7) (wTt (wOp (pIn2 false) (wVar 7) (wVar 2))) (wVal 7) [7]))))))
def w__law_closure : WD := wDef 2 8 t__law_closure
def t_contains : WS := (sRet (w1 pAll (fz (fLc (wSeq (wVar 1)) (.nm 2) wYes (wOp (pIn2 false) (wVar 2) (wVar 0)) [2]))))
def w_contains : WD := wDef 2 3 t_contains
def t__has_key : WS := (sRet (w1 pAny (fz (fLc (wSeq (wVar 1)) (.nm 2) wYes (wCall w_contains (wAName 0 (wAName 2 wANil))) [2]))))
def w__has_key : WD := wDef 2 3 t__has_key
def t_common : WS := (sRet (wMS pJoin (wC (.str "")) (fz (fLc (wSeq (wVar 0)) (.nm 2) (wTt (wOp (pIn2 false) (wVar 2) (wVar 1))) (wVal 2) [2]))))
def w_common : WD := wDef 2 3 t_common
def t__closure_round : WS := (sSeq (sAsg (wVal 0) (.tp [2, 3, 4]))
  (sSeq (sIf (wTru (wCall w__has_key (wAName 1 (wAName 4 wANil))))
  (sRet (wVal 2))
  sNext)
  (sSeq (sSet (fz (fLc (wSeq (wVar 3)) (.tp [6, 7]) (wTru (wCall w_contains (wAName 1 (wAName 6 wANil)))) (wVal 7) [6, 7])) 5)
  (sRet (wCall w_common (wAName 2 (wACons (wOp pAdd (wVar 1) (wMS pJoin (wC (.str "")) (wVar 5))) wANil)))))))
def w__closure_round : WD := wDef 2 8 t__closure_round
def t_closure : WS := (sSeq (sSet (wVal 1) 2)
  (sSeq (sFor (wSeq (wOp pIx (wVar 0) (wC (.int 0)))) (.nm 3)
  (sSet (wCall w__closure_round (wAName 0 (wAName 2 wANil))) 2))
  (sRet (wVal 2))))
def w_closure : WD := wDef 2 4 t_closure
def t_is_unique : WS := (sRet (wCall w__has_key (wACons (wCall w_closure (wAName 0 (wAName 1 wANil))) (wACons (wOp pIx (wVar 0) (wC (.int 2))) wANil))))
def w_is_unique : WD := wDef 2 2 t_is_unique
def t_is_plain_integer : WS := (sRet (wAndE (w1 (pIsi ["int"]) (wVar 0)) (wNotE (w1 (pIsi ["bool"]) (wVar 0)))))
def w_is_plain_integer : WD := wDef 1 1 t_is_plain_integer
def t_projected : WS := (sSeq (sSet (fz (fLc (wSeq (wVar 1)) (.nm 4) wYes (wMS pIndex (wVar 0) (wVar 4)) [4])) 3)
  (sRet (fz (fLc (wSeq (wVar 2)) (.nm 5) wYes (w1 pTupA (fz (fLc (wSeq (wVar 3)) (.nm 6) wYes (wOp pIx (wVar 5) (wVar 6)) [6]))) [5]))))
def w_projected : WD := wDef 3 7 t_projected
def t__keeps_key : WS := (sSeq (sSet (wCall w_projected (wAName 0 (wAName 1 (wAName 2 wANil)))) 3)
  (sRet (wOp pEq2 (w1 pLenSet2 (wVar 3)) (w1 pLen (wVar 3)))))
def w__keeps_key : WD := wDef 3 4 t__keeps_key
def t__is_row : WS := (sSeq (sIf (wOrT (wNotT (wTru (w1 (pIsi ["tuple"]) (wVar 1)))) (wTt (wOp pNe2 (w1 pLen (wVar 1)) (w1 pLen (wVar 0)))))
  (sRet (wC (.bool false)))
  sNext)
  (sRet (w1 pAll (fz (fLc (wSeq (wVar 1)) (.nm 2) wYes (wCall w_is_plain_integer (wAName 2 wANil)) [2])))))
def w__is_row : WD := wDef 2 3 t__is_row
def t__keeps_rule : WS := (sSeq (sAsg (wVal 1) (.tp [3, 4]))
  (sKeep (wZip (wCall w_projected (wAName 0 (wAName 3 (wAName 2 wANil)))) (wCall w_projected (wAName 0 (wAName 4 (wAName 2 wANil))))) 5 6 7
  (sRet (wC (.bool true)))))
def w__keeps_rule : WD := wDef 3 8 t__keeps_rule
def t_is_table : WS := (sSeq (sAsg (wVal 0) (.tp [2, 3, 4]))
  (sSeq (sIf (wNotT (wTru (w1 (pIsi ["list"]) (wVar 1))))
  (sRet (wC (.bool false)))
  sNext)
  (sSeq (sIf (wNotT (wTru (w1 pAll (fz (fLc (wSeq (wVar 1)) (.nm 5) wYes (wCall w__is_row (wAName 2 (wAName 5 wANil))) [5])))))
  (sRet (wC (.bool false)))
  sNext)
  (sSeq (sIf (wNotT (wTru (w1 pAll (fz (fLc (wSeq (wVar 3)) (.nm 6) wYes (wCall w__keeps_rule (wAName 2 (wAName 6 (wAName 1 wANil)))) [6])))))
  (sRet (wC (.bool false)))
  sNext)
  (sRet (w1 pAll (fz (fLc (wSeq (wVar 4)) (.nm 7) wYes (wCall w__keeps_key (wAName 2 (wAName 7 (wAName 1 wANil)))) [7]))))))))
def w_is_table : WD := wDef 2 8 t_is_table
def t_alike_table_x : WS := (sSeq (sIf (wAndT (wTt (wOp pGt (wVar 2) (wC (.int 1)))) (wTru (wCall w_is_unique (wAName 0 (wAName 1 wANil)))))
  sRaise
  sNext)
  (sSeq (sSet (wCall w_closure (wAName 0 (wAName 1 wANil))) 3)
  (sRetF (fLc (wRng1 (wVar 2)) (.nm 4) wYes (w1 pTupA (fz (fLc (wSeq (wOp pIx (wVar 0) (wC (.int 0)))) (.nm 5) wYes (wIfE (wTt (wOp (pIn2 false) (wVar 5) (wVar 3))) (wC (.int 0)) (wVal 4)) [5]))) [4]))))
def w_alike_table_x : WDX := wDefX 3 6 t_alike_table_x
def t__law_told : WS := (sSeq (sAsg (wTup (wCons (wC .none) (wCons (wC .none) wNil))) (.tp [3, 4]))
  (sTry w_alike_table_x (wAName 0 (wAName 1 (wAName 2 wANil))) 4 3 6
  (sSeq (sIf (wTt (wOp (pIs false) (wVar 3) (wC .none)))
  (sRetO 4)
  sNext)
  (sSeq sNever sNever))))
def w__law_told : WDO := wDefO 3 7 t__law_told
def t__law_alike_right : WS := (sSeq (sForB (wEnumT (wVar 2)) (.tp [3, 4])
  (sFor (wSeq (wSl (wVar 2) wNoPart (wPart (wVar 3)))) (.nm 5)
  (sSeq (sSet (wMS pJoin (wC (.str "")) (fz (fLc (wEnumT (wOp pIx (wVar 0) (wC (.int 0)))) (.tp [7, 8]) (wTt (wOp pEq2 (wOp pIx (wVar 4) (wVar 7)) (wOp pIx (wVar 5) (wVar 7)))) (wVal 8) [7, 8]))) 6)
  (sIf (wTt (wOp pNe2 (wVar 6) (wVar 1)))
  (sRet (wC (.bool false)))
  sNext))))
  (sRet (wC (.bool true))))
def w__law_alike_right : WD := wDef 3 9 t__law_alike_right
end Lw
namespace Lw
open PySem PySem.Spec PyProof.Rows L2 Pu SeqAt PuS
local macro_rules
  | `(tactic| walk_at "s") => `(tactic| first
    | with_reducible refine n_seq ?_
    | with_reducible refine n_set ?_
    | with_reducible refine n_setL ?_
    | with_reducible refine n_ret ?_
    | with_reducible refine n_if ?_
    | with_reducible refine n_par ?_
    | with_reducible refine n_parL ?_
    | with_reducible refine n_next ?_
    | with_reducible refine n_asg ?_
    | with_reducible refine m_c ?_
    | with_reducible refine m_d0 ?_
    | ((with_reducible apply m_var); (exact rfl))
    | ((with_reducible apply m_val); (exact rfl))
    | with_reducible refine m_z ?_
    | with_reducible refine m_op h2_add ?_
    | with_reducible refine m_op h2_mulT ?_
    | with_reducible refine m_op h2_eq ?_
    | with_reducible refine m_op h2_ne2 ?_
    | with_reducible refine m_op h2_in ?_
    | with_reducible refine m_op h2_is ?_
    | with_reducible refine m_op h2_ix ?_
    | with_reducible refine m_op h2_lt ?_
    | with_reducible refine m_op h2_le ?_
    | with_reducible refine m_op h2_gt ?_
    | with_reducible refine m_op h2_ge ?_
    | with_reducible refine m_op h2_sub ?_
    | with_reducible refine m_op h2_mod ?_
    | with_reducible refine m_opL h2_catL ?_
    | with_reducible refine m_opL h2_repL ?_
    | with_reducible refine m_1 h1_len ?_
    | with_reducible refine m_1 h1_tupA ?_
    | with_reducible refine m_op h2_pow ?_
    | with_reducible refine m_1 h1_int ?_
    | with_reducible refine m_1 h1_all ?_
    | with_reducible refine m_1 h1_any ?_
    | with_reducible refine m_1 h1_isi ?_
    | with_reducible refine m_1 h1_lenSet ?_
    | with_reducible refine m_1 h1_lenSet2 ?_
    | with_reducible refine m_op h2_mulV ?_
    | with_reducible refine m_sort ?_
    | with_reducible refine n_dictK ?_
    | ((with_reducible apply m_kin); (exact rfl))
    | ((with_reducible apply m_kget); (exact rfl))
    | ((with_reducible apply n_kset); (exact rfl))
    | ((with_reducible apply m_klist); (exact rfl))
    | with_reducible refine m_dget2 ?_
    | with_reducible refine m_1 h1_revE ?_
    | with_reducible refine m_1L h1_listA ?_
    | with_reducible refine m_1L h1_listL ?_
    | with_reducible refine m_1L h1_sortSet ?_
    | with_reducible refine m_ms hm_join ?_
    | with_reducible refine m_ms hm_index ?_
    | with_reducible refine m_tt ?_
    | with_reducible refine m_tru ?_
    | with_reducible refine m_notT ?_
    | with_reducible refine m_andT ?_
    | with_reducible refine m_orT ?_
    | with_reducible refine m_yes ?_
    | with_reducible refine m_ifE ?_
    | with_reducible refine m_andE ?_
    | with_reducible refine m_orE ?_
    | with_reducible refine m_notE ?_
    | with_reducible refine m_neg ?_
    | with_reducible refine m_nil ?_
    | with_reducible refine m_cons ?_
    | with_reducible refine m_tup ?_
    | with_reducible refine m_lst ?_
    | with_reducible refine m_aNil ?_
    | with_reducible refine m_aCons ?_
    | ((with_reducible apply m_aName); (exact rfl))
    | with_reducible refine m_call ?_
    | with_reducible refine m_noPart ?_
    | with_reducible refine m_part ?_
    | with_reducible refine m_sl ?_
    | with_reducible refine m_slL ?_
    | with_reducible refine m_ch h2_le h2_le ?_
    | with_reducible refine m_seq ?_
    | with_reducible refine m_rng1 ?_
    | with_reducible refine m_zip ?_
    | with_reducible refine m_enumT ?_)
local macro_rules
  | `(tactic| walk_at "e") => `(tactic| first
    | with_reducible refine ⟨_, eq_int _ _, ?_⟩
    | with_reducible refine ⟨_, ix_t0 _ _, ?_⟩
    | with_reducible refine ⟨_, ix_t1 _ _ _, ?_⟩
    | with_reducible refine ⟨_, ix_t2 _ _ _ _, ?_⟩
    | with_reducible refine ⟨_, ne2_int _ _, ?_⟩
    | with_reducible refine ⟨_, eq_str _ _, ?_⟩
    | with_reducible refine ⟨_, in_sg _ _, ?_⟩
    | with_reducible refine ⟨_, eq_tup0 _, ?_⟩
    | with_reducible refine ⟨_, in_chs _ _, ?_⟩
    | with_reducible refine ⟨_, nodup_eq _, ?_⟩
    | with_reducible refine ⟨_, sorted_eq _, ?_⟩
    | with_reducible refine ⟨_, rfl, ?_⟩)
local macro_rules
  | `(tactic| walk_at "r") => `(tactic| refine ⟨_, rfl, ?_⟩)
local macro_rules
  | `(tactic| walk_at "t") => `(tactic| refine ⟨fun _ => ?_, fun h => Bool.noConfusion (show true = false from h)⟩)
local macro_rules
  | `(tactic| walk_at "f") => `(tactic| refine ⟨fun h => Bool.noConfusion (show false = true from h), fun _ => ?_⟩)
theorem any_map {α : Type} (f : α → Bool) (xs : List α) : eAny (.list (xs.map fun x => .bool (f x))) = some (.bool (xs.any f)) := by
  show (boolsOf (xs.map fun x => PyData.bool (f x))).map _ = _
  rw [bools_map]
  simp
section
variable {n : Nat} {Q : PyData → Nat → Prop} {K f part X : List Nat} {rules : List Rule} {keys : List (List Nat)}
theorem contains_run (hl : part.length ≤ 1000) (q : Q (.bool (inB part f)) n) : MD w_contains [.d (.str (tx f)), .d (.str (tx part))] n Q := by
  refine md_def rfl rfl ?_
  unfold t_contains
  walk_at "s"; walk_at "s"; walk_at "s"
  refine m_lcM part sg (fun c => .bool (decide (c ∈ f))) ?_
  (repeat walk_at "s")
  refine ⟨_, seq_str _, by rw [Ls_tx], by rw [sizeLine_eq]; omega, fun c hc => ⟨_, rfl, fun m => ?_⟩, _, all_map _ part, q⟩
  (repeat walk_at "s")
  refine ⟨_, in_sg c (tx f), ?_, rfl⟩
  rw [Ls_tx]
  simp
theorem common_run (hl : K.length ≤ 1000) (q : Q (.str (tx (K.filter fun c => decide (c ∈ f)))) n) : MD w_common [.d (.str (tx K)), .d (.str (tx f))] n Q := by
  refine md_def rfl rfl ?_
  unfold t_common
  (repeat walk_at "s")
  refine ⟨_, rfl, ?_⟩
  (repeat walk_at "s")
  refine m_lcK K sg sg (fun c => decide (c ∈ f)) ?_
  (repeat walk_at "s")
  refine ⟨_, seq_str _, by rw [Ls_tx], by rw [sizeLine_eq]; omega, fun c hc => ⟨_, rfl, fun m => ?_, fun m => ?_⟩, ?_⟩
  · (repeat walk_at "s")
    refine ⟨_, in_sg c (tx f), _, rfl, ?_, rfl⟩
    rw [Ls_tx]
    simp
  · (repeat walk_at "s")
    exact ⟨rfl, rfl⟩
  · exact ⟨_, join_sg (Nat.le_trans (List.length_filter_le _ _) hl), q⟩
end
section
variable {n : Nat} {Q : PyData → Nat → Prop} {K f part X : List Nat} {rules : List Rule} {keys : List (List Nat)}
theorem in_true {α : Type} (g : α → Bool) (xs : List α) : eIn false (.bool true) (.list (xs.map fun x => .bool (g x))) = some (.bool (xs.any g)) := by
  show eInL false (.bool true) (.list _) = _
  unfold eInL
  show (if _ then _ else _) = _
  rw [if_pos (by simp [dfree, PyData.depth])]
  refine congrArg (fun b => some (PyData.bool b)) ?_
  rw [List.any_map]
  have : ((fun z => PyData.eqv z (.bool true)) ∘ fun x => PyData.bool (g x)) = g := by
    funext x
    show PyData.eqv (.bool (g x)) (.bool true) = _
    cases g x <;> simp [PyData.eqv]
  rw [this]
  simp
theorem all_in_run (hl : part.length ≤ 1000) (q : Q (.bool (inB part f)) n) : MD w__law_all_in [.d (.str (tx part)), .d (.str (tx f))] n Q := by
  refine md_def rfl rfl ?_
  unfold t__law_all_in
  walk_at "s"; walk_at "s"; walk_at "s"
  refine m_lcK part sg sg (fun c => !decide (c ∈ f)) ?_
  (repeat walk_at "s")
  refine ⟨_, seq_str _, by rw [Ls_tx], by rw [sizeLine_eq]; omega, fun c hc => ⟨_, rfl, fun m => ?_, fun m => ?_⟩, ?_⟩
  · (repeat walk_at "s")
    refine ⟨_, in_sg c (tx f), _, rfl, ?_, rfl⟩
    rw [Ls_tx]
    simp
  · (repeat walk_at "s")
    exact ⟨rfl, rfl⟩
  · (repeat walk_at "s")
    refine ⟨Nat.zero_le _, _, eq_nilL _, ?_⟩
    have e : inB part f = ((part.filter fun c => !decide (c ∈ f)).map sg).isEmpty := by
      rw [List.isEmpty_map, Bool.eq_iff_iff, List.isEmpty_iff, List.filter_eq_nil_iff, inB_iff]
      simp
    rw [e] at q
    exact q
theorem ne2_none {l : List Nat} (h : okS (tx l)) : eNe2 (.str (tx l)) .none = some (.bool true) := by
  show eNe (.str (tx l)) .none = _
  unfold eNe
  rw [if_pos (by rw [shaped_str (okS_str h)]; rfl)]
  rfl
end
section
variable {n : Nat} {Q : PyData → Nat → Prop} {K : Str} {a b c v : PyData} {sr : List PyData}
theorem take_run {k : Int} (h0 : 0 < k) (h1 : k < 1073741824) (hn : 1 ≤ n) (q : ∀ r : Int, 0 ≤ r → r < k → Q (.int r) (n - 1)) : MD w__law_take [.p, .d (.int k)] n Q :=
  fun b P hb kk => ⟨k, rfl, h0, h1, by omega, fun r r0 r1 => kk _ (n - 1) (b - 1) (q r r0 r1) (by omega)⟩
/-- .. of a natural number -/
theorem take_nat {k : Nat} (h0 : 0 < k) (h1 : k < 1073741824) (hn : 1 ≤ n) (q : ∀ r : Nat, r < k → Q (.int r) (n - 1)) : MD w__law_take [.p, .d (.int k)] n Q :=
  take_run (by omega) (by omega) hn fun r r0 r1 => by
    have := q r.toNat (by omega)
    rwa [Int.toNat_of_nonneg r0] at this
theorem subset_run {z : Str} (hz : (Ls z).length ≤ 1000) (hn : (Ls z).length ≤ n) (q : ∀ l m, l.Sublist (Ls z) → n ≤ m + (Ls z).length → Q (.str (tx l)) m) : MD w__law_subset [.p, .d (.str z)] n Q := by
  refine md_def rfl rfl ?_
  unfold t__law_subset
  (repeat walk_at "s")
  refine ⟨_, rfl, ?_⟩
  (repeat walk_at "s")
  refine m_lc ?_
  (repeat walk_at "s")
  refine ⟨_, seq_str z, by rw [List.length_map, sizeLine_eq]; omega, fun rest acc m => ∃ (rl done l : List Nat), Ls z = done ++ rl ∧ rest = rl.map sg ∧ acc = l.map sg ∧ l.Sublist done ∧ n ≤ m + done.length, ⟨Ls z, [], [], rfl, rfl, rfl, List.Sublist.refl _, by simp⟩, fun x rest acc m hJ => ?_, fun acc m hJ => ?_⟩
  · obtain ⟨rl, done, l, e1, e2, e3, sb, hm⟩ := hJ
    cases rl with
    | nil => cases e2
    | cons c rl =>
    rw [List.map_cons] at e2
    obtain ⟨rfl, rfl⟩ := List.cons.inj e2
    have hl := congrArg List.length e1
    rw [List.length_append, List.length_cons] at hl
    refine ⟨_, rfl, ?_⟩
    (repeat walk_at "s")
    refine take_run (by decide) (by decide) (by omega) fun r r0 r1 => ?_
    (repeat walk_at "s"); walk_at "e"; walk_at "r"
    refine ⟨fun h => ?_, fun h => ?_⟩
    · (repeat walk_at "s")
      exact ⟨rl, done ++ [c], l ++ [c], by rw [e1]; simp, rfl, by rw [e3]; simp, sb.append_right [c], by rw [List.length_append]; simp; omega⟩
    · exact ⟨rl, done ++ [c], l, by rw [e1]; simp, rfl, e3, sb.trans (List.sublist_append_left _ _), by rw [List.length_append]; simp; omega⟩
  · obtain ⟨rl, done, l, e1, e2, e3, sb, hm⟩ := hJ
    have e0 : rl = [] := by cases rl with | nil => rfl | cons c r => cases e2
    subst e0
    rw [List.append_nil] at e1
    rw [← e1] at sb hm
    subst e3
    exact ⟨_, join_sg (Nat.le_trans sb.length_le hz), q l m sb hm⟩
end
section
variable {n : Nat} {Q : PyData → Nat → Prop}
theorem letters_ok (r : Nat) (h : r < 7) : ∃ l : List Nat, ([.str "abcde", .str "acxyz", .str "bdeqz", .str "hijkl", .str "gnopr", .str "rsuvw", .str "fmtwy"] : List PyData)[r]'h = .str (tx l) ∧ l.length = 5 ∧ l.Pairwise (· < ·) ∧ ∀ c ∈ l, 97 ≤ c ∧ c < 123 := by
  match r, h with
  | 0, _ => exact ⟨[97, 98, 99, 100, 101], congrArg PyData.str (by decide +kernel), rfl, by decide, by decide⟩
  | 1, _ => exact ⟨[97, 99, 120, 121, 122], congrArg PyData.str (by decide +kernel), rfl, by decide, by decide⟩
  | 2, _ => exact ⟨[98, 100, 101, 113, 122], congrArg PyData.str (by decide +kernel), rfl, by decide, by decide⟩
  | 3, _ => exact ⟨[104, 105, 106, 107, 108], congrArg PyData.str (by decide +kernel), rfl, by decide, by decide⟩
  | 4, _ => exact ⟨[103, 110, 111, 112, 114], congrArg PyData.str (by decide +kernel), rfl, by decide, by decide⟩
  | 5, _ => exact ⟨[114, 115, 117, 118, 119], congrArg PyData.str (by decide +kernel), rfl, by decide, by decide⟩
  | 6, _ => exact ⟨[102, 109, 116, 119, 121], congrArg PyData.str (by decide +kernel), rfl, by decide, by decide⟩
theorem rng_len (j : Nat) : (rngD 0 j).length = j := by simp [rngD]
theorem _root_.Pu.RulesOk.add {K : List Nat} {rules : List Rule} {p : Rule} (h : RulesOk K rules) (hp : p.1.Sublist K ∧ p.2 ∈ K ∧ p.2 ∉ p.1) (hn : p ∉ rules) (few : rules.length ≤ 5) : RulesOk K (rules ++ [p]) := by
  refine ⟨fun q hq => ?_, ?_, by rw [List.length_append]; simp; omega⟩
  · rcases List.mem_append.mp hq with hq | hq
    · exact h.one q hq
    · rw [List.mem_singleton] at hq; subst hq; exact hp
  · rw [List.nodup_append]
    exact ⟨h.nodup, by simp, fun a ha b hb => by rw [List.mem_singleton] at hb; subst hb; intro e; subst e; exact hn ha⟩
theorem _root_.Pu.KeysOk.add {K : List Nat} {keys : List (List Nat)} {p : List Nat} (h : KeysOk K keys) (hp : p.Sublist K ∧ p ≠ []) (hn : p ∉ keys) (few : keys.length ≤ 1) : KeysOk K (keys ++ [p]) := by
  refine ⟨fun q hq => ?_, ?_, by rw [List.length_append]; simp; omega⟩
  · rcases List.mem_append.mp hq with hq | hq
    · exact h.one q hq
    · rw [List.mem_singleton] at hq; subst hq; exact hp
  · rw [List.nodup_append]
    exact ⟨h.nodup, by simp, fun a ha b hb => by rw [List.mem_singleton] at hb; subst hb; intro e; subst e; exact hn ha⟩
/-- rules one after another: each column determines the next -/
def chainR : List Nat → List Rule
  | a :: b :: r => ([a], b) :: chainR (b :: r)
  | _ => []
theorem chain_one : ∀ {K : List Nat}, K.Pairwise (· < ·) → ∀ p ∈ chainR K, ∃ a b, p = ([a], b) ∧ a ∈ K ∧ b ∈ K ∧ a < b
  | [], _, p, h => by cases h
  | [a], _, p, h => by cases h
  | a :: b :: r, hK, p, h => by
    obtain ⟨h1, h2⟩ := List.pairwise_cons.mp hK
    rcases List.mem_cons.mp h with e | h
    · exact ⟨a, b, e, by simp, by simp, h1 b (by simp)⟩
    · obtain ⟨x, y, e, hx, hy, l⟩ := chain_one h2 p h
      exact ⟨x, y, e, List.mem_cons_of_mem _ hx, List.mem_cons_of_mem _ hy, l⟩
theorem chain_nodup : ∀ {K : List Nat}, K.Pairwise (· < ·) → (chainR K).Nodup
  | [], _ => by simp [chainR]
  | [a], _ => by simp [chainR]
  | a :: b :: r, hK => by
    obtain ⟨h1, h2⟩ := List.pairwise_cons.mp hK
    refine List.nodup_cons.mpr ⟨fun h => ?_, chain_nodup h2⟩
    obtain ⟨x, y, e, hx, _, _⟩ := chain_one h2 _ h
    have : a = x := by simpa using congrArg Prod.fst e
    subst this
    have := h1 a hx
    omega
theorem chain_len : ∀ K : List Nat, (chainR K).length = K.length - 1
  | [] => rfl
  | [a] => rfl
  | a :: b :: r => by simp [chainR, chain_len (b :: r)]
theorem chain_get : ∀ {K : List Nat} {k : Nat} (h : k + 1 < K.length), (chainR K)[k]? = some ([K[k]], K[k + 1])
  | [], k, h => by simp at h
  | [a], k, h => by simp at h
  | a :: b :: r, 0, h => rfl
  | a :: b :: r, k + 1, h => by
    have := chain_get (K := b :: r) (k := k) (by simpa using h)
    simpa [chainR] using this
theorem chain_ok {K : List Nat} (hK : ColsOk K) (t : Nat) (ht : t ≤ 1) : RulesOk K ((chainR K).reverse ++ (List.replicate t [([], K.head hK.some)]).flatten) := by
  have h0 : RulesOk K (chainR K).reverse := by
    refine ⟨fun p hp => ?_, List.pairwise_reverse.mpr ((chain_nodup hK.asc).imp fun h => Ne.symm h), by rw [List.length_reverse, chain_len]; have := hK.few; omega⟩
    obtain ⟨a, b, rfl, ha, hb, l⟩ := chain_one hK.asc p (List.mem_reverse.mp hp)
    exact ⟨List.singleton_sublist.mpr ha, hb, by simp; omega⟩
  match t, ht with
  | 0, _ => simpa using h0
  | 1, _ =>
    have := h0.add (p := ([], K.head hK.some)) ⟨List.nil_sublist _, List.head_mem _, by simp⟩ (fun hp => by
      obtain ⟨a, b, e, _⟩ := chain_one hK.asc _ (List.mem_reverse.mp hp)
      simp at e) (by rw [List.length_reverse, chain_len]; have := hK.few; omega)
    simpa using this
theorem draw_schema_run {most : Nat} (hm : 1 ≤ most) (hm5 : most ≤ 5) (hn : 100 ≤ n) (q : ∀ K rules keys m, ColsOk K → (∀ c ∈ K, 97 ≤ c ∧ c < 123) → K.length ≤ most → RulesOk K rules → KeysOk K keys → n ≤ m + 100 → Q (schD K rules keys) m) : MD w__law_draw_schema [.p, .d (.int (most : Nat))] n Q := by
  refine md_def rfl rfl ?_
  unfold t__law_draw_schema
  (repeat walk_at "s")
  refine ⟨by show 7 ≤ sizeLine; decide, ?_⟩
  (repeat walk_at "s")
  refine take_nat (by decide) (by decide) (by omega) fun r1 h1 => ?_
  refine ⟨_, ix_nat h1, ?_⟩
  obtain ⟨ls, els, l5, lp, ll⟩ := letters_ok r1 h1
  rw [els]
  (repeat walk_at "s")
  refine take_nat (by omega) (by omega) (by omega) fun r2 h2 => ?_
  refine ⟨.int ((1 + r2 : Nat) : Int), by rw [Int.natCast_add]; rfl, ?_⟩
  refine ⟨_, rfl, ?_⟩
  refine ⟨_, sl_to (by omega) (by omega), ?_⟩
  generalize hK0 : ls.take (1 + r2) = K
  have hK : ColsOk K := by
    have hs : (ls.take (1 + r2)).Sublist ls := List.take_sublist _ _
    rw [hK0] at hs
    refine ⟨lp.sublist hs, Nat.le_trans hs.length_le (by omega), fun e => ?_, fun c hc => by have := ll c (hs.subset hc); omega⟩
    have : K.length = min (1 + r2) 5 := by rw [← hK0, List.length_take, l5]
    rw [e] at this
    simp at this
    omega
  have hLow : ∀ c ∈ K, 97 ≤ c ∧ c < 123 := fun c hc => by rw [← hK0] at hc; exact ll c ((List.take_sublist _ _).subset hc)
  have hKm : K.length ≤ most := by rw [← hK0, List.length_take]; omega
  have hK5 := hK.few
  have hKp : 0 < K.length := List.length_pos_iff.mpr hK.some
  (repeat walk_at "s")
  refine ⟨Nat.zero_le _, ?_⟩
  (repeat walk_at "s")
  refine ⟨Nat.zero_le _, ?_⟩
  (repeat walk_at "s")
  refine ⟨by show 3 ≤ sizeLine; decide, ?_⟩
  refine ⟨_, rfl, ?_⟩
  walk_at "s"
  refine n_for ?_
  (repeat walk_at "s")
  refine ⟨by show 5 ≤ sizeLine; decide, ?_⟩
  (repeat walk_at "s")
  refine take_nat (by decide) (by decide) (by omega) fun r3 h3 => ?_
  refine ⟨_, ix_ints (ns := [0, 0, 1, 2, 3]) h3, ?_⟩
  have hj : ∃ j : Nat, ([0, 0, 1, 2, 3] : List Int)[r3]'h3 = (j : Int) ∧ j ≤ 3 := by
    match r3, h3 with
    | 0, _ => exact ⟨0, rfl, by omega⟩
    | 1, _ => exact ⟨0, rfl, by omega⟩
    | 2, _ => exact ⟨1, rfl, by omega⟩
    | 3, _ => exact ⟨2, rfl, by omega⟩
    | 4, _ => exact ⟨3, rfl, by omega⟩
  obtain ⟨j, ej, hj⟩ := hj
  rw [ej]
  refine ⟨_, rfl, by omega, by omega, fun rest e m => ∃ (rules : List Rule) (x6 x7 x8 : Option Sl), rest.length + rules.length ≤ 3 ∧ RulesOk K rules ∧ n ≤ m + 3 + (3 - rest.length) * 10 ∧
      e = [some .p, some (.d (.int (most : Nat))), some (.d (.str (tx ls))), some (.d (.str (tx K))), some (.d (.list (rules.map ruD))), some (.d (.list [])), x6, x7, x8, none, none],
    ⟨[], none, none, none, by rw [Int.toNat_natCast, rng_len]; simpa using hj, ⟨by simp, by simp, by simp⟩, by omega, rfl⟩, fun x rest e m hI => ?_, fun e m hI => ?_⟩
  · obtain ⟨rules, x6, x7, x8, few, ok, hm, rfl⟩ := hI
    rw [List.length_cons] at few hm
    refine ⟨_, rfl, ?_⟩
    refine n_pick (z := tx K) rfl rfl (by rw [Ls_tx]; omega) ?_
    rw [Ls_tx]
    refine take_nat hKp (by omega) (by omega) fun i hi => ?_
    refine ⟨_, K[i], rfl, atI_nat (List.getElem?_eq_getElem hi), ?_⟩
    refine subset_run (by rw [Ls_tx]; exact Nat.le_trans (List.length_filter_le _ _) (by omega)) (by rw [Ls_tx]; have := List.length_filter_le (fun d => decide (d ≠ K[i])) K; omega) fun l m2 sl hm2 => ?_
    rw [Ls_tx] at sl hm2
    have hfl := List.length_filter_le (fun d => decide (d ≠ K[i])) K
    have pok : l.Sublist K ∧ K[i] ∈ K ∧ K[i] ∉ l := ⟨sl.trans List.filter_sublist, List.getElem_mem _, fun h => by
      have := (List.mem_filter.mp (sl.subset h)).2
      simp at this⟩
    (repeat walk_at "s")
    refine ⟨by show 2 ≤ sizeLine; decide, ?_⟩
    (repeat walk_at "s")
    refine ⟨by show 1 ≤ sizeLine; decide, ?_⟩
    (repeat walk_at "s")
    refine ⟨by show 2 ≤ sizeLine; decide, ?_⟩
    (repeat walk_at "s")
    refine ⟨_, in_rules (l, K[i]) rules, ?_⟩
    refine ⟨_, rfl, ?_⟩
    refine ⟨_, mulT_tst _ (by simp), ?_⟩
    rw [Bool.true_xor]
    by_cases hin : (l, K[i]) ∈ rules
    · rw [decide_eq_true hin]
      refine ⟨_, add_lst (by simp; omega), ?_⟩
      refine ⟨rules, _, _, _, by omega, ok, by omega, by rw [show (if (!true) = true then [PyData.tuple [.str (tx l), .str ⟨#[K[i]]⟩]] else []) = [] from rfl, List.append_nil]; rfl⟩
    · rw [decide_eq_false hin]
      refine ⟨_, add_lst (by simp; omega), ?_⟩
      refine ⟨rules ++ [(l, K[i])], some (.d x), some (.d (sg K[i])), some (.d (.str (tx l))), by rw [List.length_append]; simp; omega, ok.add pok hin (by omega), by omega, ?_⟩
      rw [List.map_append]
      rfl
  · obtain ⟨rules, x6, x7, x8, few, ok, hm, rfl⟩ := hI
    have hm0 : n ≤ m + 33 := by simpa using hm
    -- the keys, whatever the rules are
    have keysOf : ∀ (rules : List Rule) (m : Nat) (x6 x7 x8 x10 : Option Sl), RulesOk K rules → n ≤ m + 40 → MS (sSeq (sFor (wRng1 (wOp pIx (fz (wLst (wCons (wC (.int 0)) (wCons (wC (.int 0)) (wCons (wC (.int 1)) (wCons (wC (.int 2)) wNil)))))) (wCall w__law_take (wAName 0 (wACons (wC (.int 4)) wANil))))) (.nm 6)
        (sSeq (sSet (wOrE (wCall w__law_subset (wAName 0 (wAName 3 wANil))) (wOp pIx (wVar 3) (wNeg (wC (.int 1))))) 9)
        (sSet (wOp pAdd (wVar 5) (wOp pMulT (fz (wLst (wCons (wVal 9) wNil))) (w1 pInt (wOp (pIn2 true) (wVar 9) (wVar 5))))) 5)))
        (sRet (wTup (wCons (wVal 3) (wCons (w1 pTupA (wVar 4)) (wCons (w1 pTupA (wVar 5)) wNil))))))
        [some .p, some (.d (.int (most : Nat))), some (.d (.str (tx ls))), some (.d (.str (tx K))), some (.d (.list (rules.map ruD))), some (.d (.list [])), x6, x7, x8, none, x10] m (fun x m => Q PyData.none m) Q noEnd noEnd := fun rules m x6 x7 x8 x10 ok hm => by
      walk_at "s"
      refine n_for ?_
      (repeat walk_at "s")
      refine ⟨by show 4 ≤ sizeLine; decide, ?_⟩
      (repeat walk_at "s")
      refine take_nat (by decide) (by decide) (by omega) fun r4 h4 => ?_
      refine ⟨_, ix_ints (ns := [0, 0, 1, 2]) h4, ?_⟩
      have hj : ∃ j : Nat, ([0, 0, 1, 2] : List Int)[r4]'h4 = (j : Int) ∧ j ≤ 2 := by
        match r4, h4 with
        | 0, _ => exact ⟨0, rfl, by omega⟩
        | 1, _ => exact ⟨0, rfl, by omega⟩
        | 2, _ => exact ⟨1, rfl, by omega⟩
        | 3, _ => exact ⟨2, rfl, by omega⟩
      obtain ⟨j, ej, hj⟩ := hj
      rw [ej]
      refine ⟨_, rfl, by omega, by omega, fun rest e m => ∃ (keys : List (List Nat)) (x6 x9 : Option Sl), rest.length + keys.length ≤ 2 ∧ KeysOk K keys ∧ n ≤ m + 41 + (2 - rest.length) * 10 ∧
          e = [some .p, some (.d (.int (most : Nat))), some (.d (.str (tx ls))), some (.d (.str (tx K))), some (.d (.list (rules.map ruD))), some (.d (.list (keys.map keD))), x6, x7, x8, x9, x10],
        ⟨[], x6, none, by rw [Int.toNat_natCast, rng_len]; simpa using hj, ⟨by simp, by simp, by simp⟩, by omega, rfl⟩, fun x rest e m hI => ?_, fun e m hI => ?_⟩
      · obtain ⟨keys, x6, x9, few, okk, hm, rfl⟩ := hI
        rw [List.length_cons] at few hm
        refine ⟨_, rfl, ?_⟩
        have put : ∀ (l : List Nat) (m2 : Nat) (x6 : Option Sl), l.Sublist K → l ≠ [] → n ≤ m2 + 41 + (2 - rest.length) * 10 → MS (sSet (wOp pAdd (wVar 5) (wOp pMulT (fz (wLst (wCons (wVal 9) wNil))) (w1 pInt (wOp (pIn2 true) (wVar 9) (wVar 5))))) 5)
            [some .p, some (.d (.int (most : Nat))), some (.d (.str (tx ls))), some (.d (.str (tx K))), some (.d (.list (rules.map ruD))), some (.d (.list (keys.map keD))), x6, x7, x8, some (.d (.str (tx l))), x10] m2
            (fun e2 m2 => ∃ (keys : List (List Nat)) (x6 x9 : Option Sl), rest.length + keys.length ≤ 2 ∧ KeysOk K keys ∧ n ≤ m2 + 41 + (2 - rest.length) * 10 ∧
          e2 = [some .p, some (.d (.int (most : Nat))), some (.d (.str (tx ls))), some (.d (.str (tx K))), some (.d (.list (rules.map ruD))), some (.d (.list (keys.map keD))), x6, x7, x8, x9, x10])
            Q (fun e m => MS (sRet (wTup (wCons (wVal 3) (wCons (w1 pTupA (wVar 4)) (wCons (w1 pTupA (wVar 5)) wNil))))) e m (fun x m => Q PyData.none m) Q noEnd noEnd)
            (fun e2 m2 => ∃ (keys : List (List Nat)) (x6 x9 : Option Sl), rest.length + keys.length ≤ 2 ∧ KeysOk K keys ∧ n ≤ m2 + 41 + (2 - rest.length) * 10 ∧
          e2 = [some .p, some (.d (.int (most : Nat))), some (.d (.str (tx ls))), some (.d (.str (tx K))), some (.d (.list (rules.map ruD))), some (.d (.list (keys.map keD))), x6, x7, x8, x9, x10]) := fun l m2 x6 sl ne hm2 => by
          (repeat walk_at "s")
          refine ⟨by show 1 ≤ sizeLine; decide, ?_⟩
          (repeat walk_at "s")
          refine ⟨_, in_keys l keys, ?_⟩
          refine ⟨_, rfl, ?_⟩
          refine ⟨_, mulT_tst _ (by simp), ?_⟩
          rw [Bool.true_xor]
          by_cases hin : l ∈ keys
          · rw [decide_eq_true hin]
            refine ⟨_, add_lst (by simp; omega), ?_⟩
            refine ⟨keys, _, _, by omega, okk, by omega, by rw [show (if (!true) = true then [PyData.str (tx l)] else []) = [] from rfl, List.append_nil]; rfl⟩
          · rw [decide_eq_false hin]
            refine ⟨_, add_lst (by simp; omega), ?_⟩
            refine ⟨keys ++ [l], x6, some (.d (.str (tx l))), by rw [List.length_append]; simp; omega, okk.add ⟨sl, ne⟩ hin (by omega), by omega, ?_⟩
            rw [List.map_append]
            rfl
        walk_at "s"
        walk_at "s"
        (repeat walk_at "s")
        refine subset_run (by rw [Ls_tx]; omega) (by rw [Ls_tx]; omega) fun l m2 sl hm2 => ?_
        rw [Ls_tx] at sl hm2
        refine ⟨_, tru_str (by rw [Ls_tx]; have := sl.length_le; omega), fun h => ?_, fun h => ?_⟩
        · rw [Ls_tx] at h
          refine put l m2 _ sl (fun e => by subst e; cases h) (by omega)
        · (repeat walk_at "s")
          refine ⟨_, rfl, ?_⟩
          refine ⟨_, ix_last hK.some (by omega), ?_⟩
          exact put [K.getLast hK.some] m2 _ (List.singleton_sublist.mpr (List.getLast_mem _)) (by simp) (by omega)
      · obtain ⟨keys, x6, x9, few, okk, hm, rfl⟩ := hI
        (repeat walk_at "s")
        refine ⟨_, rfl, ?_⟩
        (repeat walk_at "s")
        refine ⟨_, rfl, ?_⟩
        (repeat walk_at "s")
        exact ⟨by show 3 ≤ sizeLine; decide, q K rules keys m hK hLow hKm ok okk (by simp at hm; omega)⟩
    (repeat walk_at "s")
    refine take_run (by decide) (by decide) (by omega) fun r r0 r1 => ?_
    (repeat walk_at "s"); walk_at "e"; walk_at "r"
    refine ⟨fun h => ?_, fun h => ?_⟩
    · (repeat walk_at "s")
      refine m_lcF (fun _ => true) (fun x => match x with | .int k => ruD ([K.getD k.toNat 0], K.getD (k.toNat + 1) 0) | _ => .none) ?_
      (repeat walk_at "s")
      refine ⟨_, len_str (by rw [Ls_tx]; omega), ?_⟩
      rw [Ls_tx]
      (repeat walk_at "s")
      refine ⟨.int ((K.length - 1 : Nat) : Int), by
        show some (PyData.int ((K.length : Int) - 1)) = _
        rw [Int.natCast_sub (by omega)]
        rfl, ?_⟩
      refine ⟨_, rfl, by omega, by omega, by rw [Int.toNat_natCast, rng_len, sizeLine_eq]; omega, fun x hx => ?_, ?_⟩
      · rw [Int.toNat_natCast] at hx
        obtain ⟨k, hk, rfl⟩ := List.mem_map.mp hx
        have hk' := List.mem_range.mp hk
        refine ⟨_, rfl, fun m => ?_, fun _ m => ?_⟩
        · walk_at "s"; exact ⟨rfl, rfl⟩
        · rw [Int.zero_add]
          (repeat walk_at "s")
          refine ⟨_, ix_str (k := k) (by omega) (by omega), ?_⟩
          (repeat walk_at "s")
          refine ⟨.int ((k + 1 : Nat) : Int), by rw [Int.natCast_add]; rfl, ?_⟩
          refine ⟨_, ix_str (k := k + 1) (by omega) (by omega), ?_⟩
          (repeat walk_at "s")
          refine ⟨by show 2 ≤ sizeLine; decide, ?_, rfl⟩
          show PyData.tuple [sg K[k], sg K[k + 1]] = PyData.tuple [.str (tx [K.getD (Int.toNat (k : Int)) 0]), sg (K.getD (Int.toNat (k : Int) + 1) 0)]
          rw [Int.toNat_natCast]
          have e1 : K.getD k 0 = K[k] := by simp [List.getD, List.getElem?_eq_getElem (show k < K.length by omega)]
          have e2 : K.getD (k + 1) 0 = K[k + 1] := by simp [List.getD, List.getElem?_eq_getElem (show k + 1 < K.length by omega)]
          rw [e1, e2]
          rfl
      · have el : ((rngD 0 ((K.length - 1 : Nat) : Int).toNat).filter fun _ => true).map (fun x => match x with | .int k => ruD ([K.getD k.toNat 0], K.getD (k.toNat + 1) 0) | _ => PyData.none) = (chainR K).map ruD := by
          rw [List.filter_eq_self.mpr fun _ _ => rfl, Int.toNat_natCast]
          refine List.ext_getElem? fun i => ?_
          rw [List.getElem?_map, List.getElem?_map]
          unfold rngD
          rw [List.getElem?_map]
          by_cases hi : i < K.length - 1
          · rw [List.getElem?_range hi, chain_get (by omega)]
            simp [List.getD, List.getElem?_eq_getElem (show i < K.length by omega), List.getElem?_eq_getElem (show i + 1 < K.length by omega)]
          · rw [List.getElem?_eq_none (by rw [List.length_range]; omega), List.getElem?_eq_none (by rw [chain_len]; omega)]
            rfl
        rw [el]
        refine ⟨_, rfl, ?_⟩
        (repeat walk_at "s")
        refine ⟨_, ix_str (k := 0) (by omega) (by omega), ?_⟩
        (repeat walk_at "s")
        refine ⟨by show 2 ≤ sizeLine; decide, ?_⟩
        (repeat walk_at "s")
        refine ⟨by show 1 ≤ sizeLine; decide, ?_⟩
        (repeat walk_at "s")
        refine take_nat (k := 2) (by decide) (by decide) (by omega) fun t ht => ?_
        refine ⟨_, mulT_nat t (by simp; omega) (by omega), ?_⟩
        refine ⟨_, add_lst (by
          have hcl := chain_len K
          match t, ht with
          | 0, _ => simp; omega
          | 1, _ => simp; omega), ?_⟩
        have e2 : ((chainR K).map ruD).reverse ++ (List.replicate t [PyData.tuple [.str "", sg (K[0]'hKp)]]).flatten = ((chainR K).reverse ++ (List.replicate t [([], K.head hK.some)]).flatten).map ruD := by
          rw [List.map_append, List.map_reverse]
          have hh : K.head hK.some = K[0]'hKp := by rw [List.head_eq_getElem]
          have he : PyData.tuple [.str "", sg (K[0]'hKp)] = ruD ([], K.head hK.some) := by rw [hh]; rfl
          match t, ht with
          | 0, _ => rfl
          | 1, _ => rw [he]; rfl
        rw [e2]
        refine keysOf _ _ _ _ _ _ (chain_ok hK t (by omega)) ?_
        omega
    · walk_at "s"
      refine keysOf rules _ _ _ _ _ ok ?_
      omega
end
section
variable {n : Nat} {Q : PyData → Nat → Prop} {K : List Nat} {rules : List Rule} {keys : List (List Nat)}
theorem cell_ix {c : Nat} {r : List Int} (hK : ColsOk K) (hr : r.length = K.length) (hc : c ∈ K) : eIx (tI r) (.int (K.idxOf c : Nat)) = some (.int (r.getD (K.idxOf c) 0)) := by
  have h4 : K.idxOf c < K.length := List.idxOf_lt_length_iff.mpr hc
  have h5 : K.idxOf c < (r.map PyData.int).length := by rw [List.length_map, hr]; exact h4
  have := ix_natT h5
  unfold tI
  rw [this, List.getElem_map, List.getD_eq_getElem?_getD, List.getElem?_eq_getElem (by rw [hr]; exact h4)]
  rfl
theorem cols_nodup (hK : ColsOk K) : K.Nodup := hK.asc.imp fun h => Nat.ne_of_lt h
end
section
variable {n : Nat} {Q : PyData → Nat → Prop} {K X f : List Nat} {rules : List Rule} {keys : List (List Nat)}
theorem has_key_run2 (hY : KeysOk2 K keys) (hK : ColsOk K) (q : Q (.bool (keys.any fun k => inB k f)) n) : MD w__has_key [.d (.str (tx f)), .d (.tuple (keys.map keD))] n Q := by
  have hK5 := hK.few
  refine md_def rfl rfl ?_
  unfold t__has_key
  walk_at "s"; walk_at "s"; walk_at "s"
  refine m_lcM keys keD (fun k => .bool (inB k f)) ?_
  (repeat walk_at "s")
  refine ⟨_, rfl, rfl, by rw [sizeLine_eq]; have := hY.few; omega, fun k hk => ⟨_, rfl, fun m => ?_⟩, _, any_map _ keys, q⟩
  (repeat walk_at "s")
  exact contains_run (Nat.le_trans (hY.one k hk).1.length_le (by omega)) ⟨rfl, rfl⟩
theorem round_run2 (hK : ColsOk K) (hR : RulesOk2 K rules) (hY : KeysOk2 K keys) (hf : f.length ≤ 5) (q : Q (.str (tx (rnd K rules keys f))) n) : MD w__closure_round [.d (schD K rules keys), .d (.str (tx f))] n Q := by
  have hK5 := hK.few
  have hR6 := hR.few
  refine md_def rfl rfl ?_
  unfold t__closure_round
  (repeat walk_at "s")
  refine ⟨_, rfl, ?_⟩
  (repeat walk_at "s")
  refine has_key_run2 hY hK ?_
  walk_at "r"
  refine ⟨fun h => ?_, fun h => ?_⟩
  · (repeat walk_at "s")
    unfold rnd at q
    rw [if_pos h] at q
    exact q
  · unfold rnd at q
    rw [if_neg (by rw [h]; exact Bool.false_ne_true)] at q
    walk_at "s"; walk_at "s"; walk_at "s"; walk_at "s"
    refine m_lcK rules ruD (fun p => sg p.2) (fun p => inB p.1 f) ?_
    (repeat walk_at "s")
    refine ⟨_, rfl, rfl, by rw [sizeLine_eq]; omega, fun p hp => ⟨_, rfl, fun m => ?_, fun m => ?_⟩, ?_⟩
    · (repeat walk_at "s")
      refine contains_run (Nat.le_trans (hR.one p hp).1.length_le (by omega)) ?_
      exact ⟨_, rfl, rfl, rfl⟩
    · (repeat walk_at "s")
      exact ⟨rfl, rfl⟩
    · have e : (rules.filter fun p => inB p.1 f).map (fun p => sg p.2) = ((rules.filter fun p => inB p.1 f).map (·.2)).map sg := by rw [List.map_map]; rfl
      have hl : ((rules.filter fun p => inB p.1 f).map (·.2)).length ≤ 16 := by rw [List.length_map]; exact Nat.le_trans (List.length_filter_le _ _) hR6
      rw [e]
      (repeat walk_at "s")
      refine ⟨_, rfl, ?_⟩
      (repeat walk_at "s")
      refine ⟨_, join_sg (by omega), ?_⟩
      refine ⟨_, add_str (by rw [Ls_tx, Ls_tx]; omega), ?_⟩
      rw [Ls_tx, Ls_tx]
      (repeat walk_at "s")
      exact common_run (by omega) q
theorem closure_run2 (hK : ColsOk K) (hR : RulesOk2 K rules) (hY : KeysOk2 K keys) (hX : X.Sublist K) (q : Q (.str (tx (clos K rules keys X))) n) : MD w_closure [.d (schD K rules keys), .d (.str (tx X))] n Q := by
  have hK5 := hK.few
  refine md_def rfl rfl ?_
  unfold t_closure
  walk_at "s"
  (repeat walk_at "s")
  refine n_for ?_
  (repeat walk_at "s"); walk_at "e"
  refine ⟨_, seq_str _, fun rest e m => m = n ∧ ∃ (f : List Nat) (x3 : Option Sl), f.Sublist K ∧ rnds K rules keys rest.length f = clos K rules keys X ∧ e = [some (.d (schD K rules keys)), some (.d (.str (tx X))), some (.d (.str (tx f))), x3],
    ⟨rfl, X, none, hX, by rw [List.length_map, Ls_tx]; rfl, rfl⟩, fun x rest e m hI => ?_, fun e m hI => ?_⟩
  · obtain ⟨rfl, f, x3, sf, ef, rfl⟩ := hI
    refine ⟨_, rfl, ?_⟩
    (repeat walk_at "s")
    refine round_run2 hK hR hY (Nat.le_trans sf.length_le hK5) ?_
    exact ⟨rfl, _, _, rnd_sub f, ef, rfl⟩
  · obtain ⟨rfl, f, x3, sf, ef, rfl⟩ := hI
    (repeat walk_at "s")
    have e : f = clos K rules keys X := ef
    rw [e]
    exact q
theorem turn_run2 {g : List Nat} {bf : PyData} {x4 x5 x6 : Option Sl} {N : En → Nat → Prop} {R : PyData → Nat → Prop} {B C : En → Nat → Prop} (hK : ColsOk K) (hR : RulesOk2 K rules) (hY : KeysOk2 K keys) (lg : LawG K rules keys X g)
    (q : ∀ x4 x5 x6, N [some (.d (schD K rules keys)), some (.d (.str (tx X))), some (.d (.str (tx (turnL K rules keys g)))), some (.d (.str (tx g))), x4, x5, x6, none] n) :
    MS (sSeq (sSet (wVal 2) 3) (sSeq (sFor (wSeq (wOp pIx (wVar 0) (wC (.int 1)))) (.tp [4, 5]) (sIf (wAndT (wTru (wCall w__law_all_in (wAName 4 (wAName 2 wANil)))) (wTt (wOp (pIn2 true) (wVar 5) (wVar 2)))) (sSet (wOp pAdd (wVar 2) (wVar 5)) 2) sNext)) (sIf (wTt (wOp (pIn2 false) (wC (.bool true)) (fz (fLc (wSeq (wOp pIx (wVar 0) (wC (.int 2)))) (.nm 6) wYes (wCall w__law_all_in (wAName 6 (wAName 2 wANil))) [6])))) (sSet (wOp pIx (wVar 0) (wC (.int 0))) 2) sNext))) [some (.d (schD K rules keys)), some (.d (.str (tx X))), some (.d (.str (tx g))), some (.d bf), x4, x5, x6, none] n N R B C := by
  have hK5 := hK.few
  have hr : ∀ p ∈ rules, p.2 ∈ K := fun p hp => (hR.one p hp).2.1
  have hle : ∀ {g : List Nat}, LawG K rules keys X g → g.length ≤ 20 := fun hg => by have := hg.len; omega
  walk_at "s"
  (repeat walk_at "s")
  refine n_for ?_
  (repeat walk_at "s"); walk_at "e"
  refine ⟨_, rfl, fun rest e m => m = n ∧ ∃ (post : List Rule) (f : List Nat) (x4 x5 : Option Sl), rest = post.map ruD ∧ (∀ p ∈ post, p ∈ rules) ∧ LawG K rules keys X f ∧ post.foldl addR f = rules.foldl addR g ∧
      e = [some (.d (schD K rules keys)), some (.d (.str (tx X))), some (.d (.str (tx f))), some (.d (.str (tx g))), x4, x5, x6, none],
    ⟨rfl, rules, g, x4, x5, rfl, fun _ h => h, lg, rfl, rfl⟩, fun x rest e m hI => ?_, fun e m hI => ?_⟩
  · obtain ⟨rfl, post, f, x4, x5, e2, hp, lf, ef, rfl⟩ := hI
    cases post with
    | nil => cases e2
    | cons p post =>
    rw [List.map_cons] at e2
    obtain ⟨rfl, rfl⟩ := List.cons.inj e2
    have hpr := hp p List.mem_cons_self
    have lf2 := (addR_lawG (hK.asc.imp fun h => Nat.ne_of_lt h) hpr hr lf).1
    have l5 := hle lf
    refine ⟨_, rfl, ?_⟩
    (repeat walk_at "s")
    refine all_in_run (Nat.le_trans (hR.one p hpr).1.length_le (by omega)) ?_
    walk_at "r"
    refine ⟨fun h => ?_, fun h => ?_⟩
    · (repeat walk_at "s")
      refine ⟨_, in_sg _ _, ?_⟩
      rw [Ls_tx]
      walk_at "r"
      refine ⟨fun h2 => ?_, fun h2 => ?_⟩
      · have h3 : p.2 ∉ f := by simpa using h2
        have e : addR f p = f ++ [p.2] := if_pos ⟨h, h3⟩
        (repeat walk_at "s")
        refine ⟨_, add_str (t := tx [p.2]) (by rw [Ls_tx, Ls_tx]; simp; omega), ?_⟩
        rw [Ls_tx, Ls_tx]
        rw [e] at lf2
        refine ⟨rfl, post, f ++ [p.2], _, _, rfl, fun q hq => hp q (List.mem_cons_of_mem _ hq), lf2, ?_, rfl⟩
        rw [← e]
        exact ef
      · have h3 : p.2 ∈ f := by simpa using h2
        have e : addR f p = f := if_neg fun z => z.2 h3
        (repeat walk_at "s")
        refine ⟨rfl, post, f, _, _, rfl, fun q hq => hp q (List.mem_cons_of_mem _ hq), lf, ?_, rfl⟩
        rw [← ef]
        show post.foldl addR f = post.foldl addR (addR f p)
        rw [e]
    · have e : addR f p = f := if_neg fun z => by rw [z.1] at h; cases h
      (repeat walk_at "s")
      refine ⟨fun h => Bool.noConfusion h, fun _ => ?_⟩
      (repeat walk_at "s")
      refine ⟨rfl, post, f, _, _, rfl, fun q hq => hp q (List.mem_cons_of_mem _ hq), lf, ?_, rfl⟩
      rw [← ef]
      show post.foldl addR f = post.foldl addR (addR f p)
      rw [e]
  · obtain ⟨rfl, post, f, x4, x5, e2, hp, lf, ef, rfl⟩ := hI
    have e0 : post = [] := by cases post with | nil => rfl | cons c r => cases e2
    subst e0
    have ef : f = rules.foldl addR g := ef
    (repeat walk_at "s")
    refine m_lcM keys keD (fun k => .bool (inB k f)) ?_
    (repeat walk_at "s"); walk_at "e"
    refine ⟨_, rfl, rfl, by rw [sizeLine_eq]; have := hY.few; omega, fun k hk => ⟨_, rfl, fun m => ?_⟩, _, in_true _ keys, ?_⟩
    · (repeat walk_at "s")
      exact all_in_run (Nat.le_trans (hY.one k hk).1.length_le (by omega)) ⟨rfl, rfl⟩
    · walk_at "r"
      have q' := q x4 x5 x6
      refine ⟨fun h => ?_, fun h => ?_⟩
      · (repeat walk_at "s"); walk_at "e"
        have e : turnL K rules keys g = K := if_pos (by rw [← ef]; exact h)
        rw [e] at q'
        exact q'
      · (repeat walk_at "s")
        have e : turnL K rules keys g = f := by
          rw [ef]
          exact if_neg (by rw [← ef, h]; exact Bool.false_ne_true)
        rw [e] at q'
        exact q'
theorem law_closure_run2 (hK : ColsOk K) (hR : RulesOk2 K rules) (hY : KeysOk2 K keys) (hX : ∀ c ∈ X, c ∈ K) (lX : X.length ≤ 15) (q : Q (.str (tx (clos K rules keys (K.filter fun c => decide (c ∈ X))))) n) : MD w__law_closure [.d (schD K rules keys), .d (.str (tx X))] n Q := by
  have hK5 := hK.few
  have nd : K.Nodup := hK.asc.imp fun h => Nat.ne_of_lt h
  have hr : ∀ p ∈ rules, p.2 ∈ K := fun p hp => (hR.one p hp).2.1
  have hle : ∀ {g : List Nat}, LawG K rules keys X g → g.length ≤ 20 := fun hg => by have := hg.len; omega
  have l0 : LawG K rules keys X X := ⟨⟨fun _ h => h, fun _ _ h => h⟩, hX, by have := miss_le K X; omega⟩
  refine md_def rfl rfl ?_
  unfold t__law_closure
  walk_at "s"
  (repeat walk_at "s")
  refine ⟨by show 2 ≤ sizeLine; decide, _, rfl, ?_⟩
  walk_at "s"
  refine n_while (k0 := 7) (fun k e m => m = n ∧ ∃ (g : List Nat) (bf : PyData) (x4 x5 x6 : Option Sl), LawG K rules keys X g ∧ (bf = .none ∨ ∃ h, bf = .str (tx h) ∧ LawG K rules keys X h ∧ g = turnL K rules keys h) ∧
      (bf ≠ .str (tx g) → leftG K g + 1 ≤ k) ∧ e = [some (.d (schD K rules keys)), some (.d (.str (tx X))), some (.d (.str (tx g))), some (.d bf), x4, x5, x6, none])
    ⟨rfl, X, .none, none, none, none, l0, .inl rfl, fun _ => by have := miss_le K X; unfold leftG; split <;> omega, rfl⟩ fun k e m hI => ?_
  obtain ⟨rfl, g, bf, x4, x5, x6, lg, hb, hk, rfl⟩ := hI
  have turn : bf ≠ .str (tx g) → ∃ k', k = k' + 1 ∧ leftG K g ≤ k' := fun h => ⟨k - 1, by have := hk h; omega, by have := hk h; omega⟩
  have okg : ∀ {h : List Nat}, LawG K rules keys X h → okS (tx h) := fun lh => ⟨by rw [Ls_tx]; have := hle lh; omega, fun c hc => by
    rw [Ls_tx] at hc
    exact Nat.lt_trans (hK.low c (lh.sub c hc)) (by decide)⟩
  have nx : bf ≠ .str (tx g) → ∃ k', k = k' + 1 ∧ ∀ B C, MS (sSeq (sSet (wVal 2) 3) (sSeq (sFor (wSeq (wOp pIx (wVar 0) (wC (.int 1)))) (.tp [4, 5]) (sIf (wAndT (wTru (wCall w__law_all_in (wAName 4 (wAName 2 wANil)))) (wTt (wOp (pIn2 true) (wVar 5) (wVar 2)))) (sSet (wOp pAdd (wVar 2) (wVar 5)) 2) sNext)) (sIf (wTt (wOp (pIn2 false) (wC (.bool true)) (fz (fLc (wSeq (wOp pIx (wVar 0) (wC (.int 2)))) (.nm 6) wYes (wCall w__law_all_in (wAName 6 (wAName 2 wANil))) [6])))) (sSet (wOp pIx (wVar 0) (wC (.int 0))) 2) sNext))) [some (.d (schD K rules keys)), some (.d (.str (tx X))), some (.d (.str (tx g))), some (.d bf), x4, x5, x6, none] m
      (fun e2 m2 => m2 = m ∧ ∃ (g : List Nat) (bf : PyData) (x4 x5 x6 : Option Sl), LawG K rules keys X g ∧ (bf = .none ∨ ∃ h, bf = .str (tx h) ∧ LawG K rules keys X h ∧ g = turnL K rules keys h) ∧
      (bf ≠ .str (tx g) → leftG K g + 1 ≤ k') ∧ e2 = [some (.d (schD K rules keys)), some (.d (.str (tx X))), some (.d (.str (tx g))), some (.d bf), x4, x5, x6, none]) (fun r m => Q r m) B C := fun h => by
    obtain ⟨k', ek, lk⟩ := turn h
    refine ⟨k', ek, fun B C => (turn_run2 (B := B) (C := C) (R := fun r m => Q r m) hK hR hY lg (N := fun e2 m2 => m2 = m ∧ ∃ (g : List Nat) (bf : PyData) (x4 x5 x6 : Option Sl), LawG K rules keys X g ∧ (bf = .none ∨ ∃ h, bf = .str (tx h) ∧ LawG K rules keys X h ∧ g = turnL K rules keys h) ∧
      (bf ≠ .str (tx g) → leftG K g + 1 ≤ k') ∧ e2 = [some (.d (schD K rules keys)), some (.d (.str (tx X))), some (.d (.str (tx g))), some (.d bf), x4, x5, x6, none]) fun x4 x5 x6 => ⟨rfl, turnL K rules keys g, .str (tx g), x4, x5, x6, turnL_lawG nd hK5 hr lg, .inr ⟨g, rfl, lg, rfl⟩, fun ne => ?_, rfl⟩)⟩
    have : turnL K rules keys g ≠ g := fun z => ne (by rw [z])
    have := leftG_less nd hr lg this
    omega
  (repeat walk_at "s")
  rcases hb with rfl | ⟨h, rfl, lh, eg⟩
  · refine ⟨_, ne2_none (okg lg), ?_⟩
    walk_at "r"
    refine ⟨fun _ => ?_, fun z => Bool.noConfusion z⟩
    obtain ⟨k', ek, hm⟩ := nx (fun z => nomatch z)
    exact ⟨k', ek, hm _ _⟩
  · refine ⟨_, ne2_str _ _, ?_⟩
    walk_at "r"
    refine ⟨fun z => ?_, fun z => ?_⟩
    · obtain ⟨k', ek, hm⟩ := nx fun e => by
        have : tx h = tx g := by injection e
        rw [this] at z
        simp at z
      exact ⟨k', ek, hm _ _⟩
    · have e : tx g = tx h := by simpa using z
      have e := tx_inj e
      subst e
      have cl := turnL_fixG hr eg.symm
      have ec := clos_of nd hr List.filter_sublist (btw_filter lg.btw hX) cl
      (repeat walk_at "s")
      refine ⟨_, rfl, ?_⟩
      (repeat walk_at "s")
      refine m_lcK K sg sg (fun c => decide (c ∈ g)) ?_
      (repeat walk_at "s"); walk_at "e"
      refine ⟨_, seq_str _, by rw [Ls_tx], by rw [sizeLine_eq]; omega, fun c hc => ⟨_, rfl, fun m => ?_, fun m => ?_⟩, ?_⟩
      · (repeat walk_at "s")
        refine ⟨_, in_sg c (tx g), _, rfl, ?_, rfl⟩
        rw [Ls_tx]
        simp
      · (repeat walk_at "s")
        exact ⟨rfl, rfl⟩
      · rw [ec]
        refine ⟨_, join_sg (by rw [← ec]; exact Nat.le_trans (List.length_filter_le _ _) (by omega)), q⟩
end
section
variable {n : Nat} {Q : PyData → Nat → Prop} {K : Str} {v : PyData}
theorem is_plain_run (q : Q (.bool (isPl v)) n) : MD w_is_plain_integer [.d v] n Q := by
  refine md_def rfl rfl ?_
  unfold t_is_plain_integer
  cases v with
  | int i =>
    walk_at "s"; walk_at "s"; walk_at "s"; walk_at "s"; walk_at "r"; walk_at "r"; walk_at "t"
    walk_at "s"; walk_at "s"; walk_at "s"; walk_at "r"; walk_at "r"
    exact q
  | bool i =>
    walk_at "s"; walk_at "s"; walk_at "s"; walk_at "s"; walk_at "r"; walk_at "r"; walk_at "t"
    walk_at "s"; walk_at "s"; walk_at "s"; walk_at "r"; walk_at "r"
    exact q
  | _ =>
    walk_at "s"; walk_at "s"; walk_at "s"; walk_at "s"; walk_at "r"; walk_at "r"; walk_at "f"
    exact q
end
theorem dist_inj {α β : Type} [DecidableEq α] [DecidableEq β] {g : α → β} (hg : ∀ x y, g x = g y → x = y) (l : List α) : dist (l.map g) = (dist l).map g := by
  suffices h : ∀ (l acc : List α), (l.map g).foldl dstep (acc.map g) = (l.foldl dstep acc).map g from h l []
  intro l
  induction l with
  | nil => exact fun acc => rfl
  | cons x r ih =>
    intro acc
    rw [List.map_cons, List.foldl_cons, List.foldl_cons, ← ih]
    congr 1
    unfold dstep
    by_cases hx : x ∈ acc
    · rw [if_pos hx, if_pos (List.mem_map.mpr ⟨x, hx, rfl⟩)]
    · rw [if_neg hx, if_neg (fun z => by obtain ⟨y, hy, e⟩ := List.mem_map.mp z; exact hx (hg _ _ e ▸ hy)), List.map_append]
      rfl
theorem tI_tK (r : List Int) : tI r = tK (r.map Sum.inl) := by
  show PyData.tuple (r.map PyData.int) = .tuple ((r.map Sum.inl).map kD)
  rw [List.map_map]
  rfl
theorem inl_inj (r s : List Int) (h : r.map (Sum.inl : Int → Key) = s.map Sum.inl) : r = s := by
  induction r generalizing s with
  | nil => cases s with
    | nil => rfl
    | cons _ _ => cases h
  | cons x r ih => cases s with
    | nil => cases h
    | cons y s =>
      rw [List.map_cons, List.map_cons] at h
      injection h with h1 h2
      injection h1 with h1
      rw [h1, ih s h2]
theorem m_lenSetT2 {ta : WE} {env : En} {n : Nat} {Q : PyData → Nat → Prop} (h : ME ta env n fun x m => ∃ ns : List (List Int), x = .list (ns.map tI) ∧ ns.length < 64 ∧ Q (.int (dist ns).length) m) : ME (w1 pLenSet2 ta) env n Q :=
  fun b P hb k => h b _ hb fun x m b1 ⟨ns, e, few, q⟩ hb1 => .inr ⟨ns.map fun r => r.map Sum.inl, .inl (by rw [e, List.map_map]; exact congrArg _ (List.map_congr_left fun r _ => tI_tK r)), by rw [List.length_map]; exact few, by
    rw [dist_inj inl_inj, List.length_map]
    exact k _ m b1 q hb1⟩
section
variable {n : Nat} {Q : PyData → Nat → Prop} {K : List Nat} {rules : List Rule} {keys : List (List Nat)} {v : PyData}
def rowB (len : Nat) : PyData → Bool
  | .tuple xs => decide (xs.length = len) && xs.all isPl
  | _ => false
theorem is_row_run (hK : ColsOk K) (q : Q (.bool (rowB K.length v)) n) : MD w__is_row [.d (.str (tx K)), .d v] n Q := by
  have hK5 := hK.few
  refine md_def rfl rfl ?_
  unfold t__is_row
  walk_at "s"; walk_at "s"
  cases v with
  | tuple xs =>
    (repeat walk_at "s")
    refine ⟨_, rfl, ?_⟩
    walk_at "r"; walk_at "f"
    (repeat walk_at "s")
    refine ⟨_, rfl, ?_⟩
    (repeat walk_at "s")
    refine ⟨_, len_str (by rw [Ls_tx]; omega), ?_⟩
    rw [Ls_tx]
    walk_at "e"; walk_at "r"
    refine ⟨fun h => ?_, fun h => ?_⟩
    · (repeat walk_at "s")
      have : ¬ xs.length = K.length := by
        have := h
        simp at this
        omega
      have e : rowB K.length (.tuple xs) = false := by simp [rowB, this]
      rw [e] at q
      exact q
    · have he : xs.length = K.length := by
        have := h
        simp at this
        omega
      (repeat walk_at "s")
      refine m_lcM xs id (fun x => .bool (isPl x)) ?_
      (repeat walk_at "s")
      refine ⟨_, rfl, (List.map_id xs).symm, by rw [sizeLine_eq]; omega, fun x hx => ⟨_, rfl, fun m => ?_⟩, ?_⟩
      · (repeat walk_at "s")
        exact is_plain_run ⟨rfl, rfl⟩
      · have e : rowB K.length (.tuple xs) = xs.all isPl := by simp [rowB, he]
        rw [e] at q
        exact ⟨_, all_map isPl xs, q⟩
  | _ =>
    (repeat walk_at "s")
    refine ⟨_, rfl, ?_⟩
    walk_at "r"; walk_at "t"
    walk_at "t"
    (repeat walk_at "s")
    exact q
theorem projected_runR {part : List Nat} {rows : List (List Int)} (hK : ColsOk K) (hr : ∀ r ∈ rows, r.length = K.length) (hp : ∀ c ∈ part, c ∈ K) (hl : part.length ≤ 1000) (few : rows.length < 1000) (q : Q (.list ((rows.map (prj K part)).map tI)) n) :
    MD w_projected [.d (.str (tx K)), .d (.str (tx part)), .r (rows.map tI)] n Q := by
  refine md_def rfl rfl ?_
  unfold t_projected
  walk_at "s"; walk_at "s"; walk_at "s"
  refine m_lcM part sg (fun c => .int (K.idxOf c : Nat)) ?_
  (repeat walk_at "s")
  refine ⟨_, seq_str _, by rw [Ls_tx], by rw [sizeLine_eq]; omega, fun c hc => ⟨_, rfl, fun m => ?_⟩, ?_⟩
  · (repeat walk_at "s")
    refine ⟨_, rfl, ?_⟩
    (repeat walk_at "s")
    exact ⟨_, index_sg (cols_nodup hK) (hp c hc), rfl, rfl⟩
  · walk_at "s"; walk_at "s"
    refine m_lcM rows tI (fun r => tI (prj K part r)) ?_
    (repeat walk_at "s")
    refine ⟨_, rfl, rfl, by rw [sizeLine_eq]; omega, fun r hrr => ⟨_, rfl, fun m => ?_⟩, ?_⟩
    · walk_at "s"; walk_at "s"
      refine m_lcM part (fun c => .int (K.idxOf c : Nat)) (fun c => .int (r.getD (K.idxOf c) 0)) ?_
      (repeat walk_at "s")
      refine ⟨_, rfl, rfl, by rw [sizeLine_eq]; omega, fun c hc => ⟨_, rfl, fun m => ?_⟩, ?_⟩
      · (repeat walk_at "s")
        exact ⟨_, cell_ix hK (hr r hrr) (hp c hc), rfl, rfl⟩
      · refine ⟨_, rfl, ?_, rfl⟩
        simp [tI, prj]
    · rw [List.map_map] at q
      exact q
theorem keeps_key_run {k : List Nat} {rows : List (List Int)} (hK : ColsOk K) (hr : ∀ r ∈ rows, r.length = K.length) (hp : ∀ c ∈ k, c ∈ K) (hl : k.length ≤ 1000) (few : rows.length < 64) (q : Q (.bool (keyB K k rows)) n) :
    MD w__keeps_key [.d (.str (tx K)), .d (keD k), .r (rows.map tI)] n Q := by
  refine md_def rfl rfl ?_
  unfold t__keeps_key
  (repeat walk_at "s")
  refine projected_runR hK hr hp hl (by omega) ?_
  refine n_ret ?_
  refine m_op h2_eq ?_
  refine m_lenSetT2 ?_
  (repeat walk_at "s")
  refine ⟨_, rfl, by rw [List.length_map]; exact few, ?_⟩
  (repeat walk_at "s")
  refine ⟨_, rfl, _, eq_int _ _, ?_⟩
  rw [List.length_map, List.length_map]
  have e : keyB K k rows = decide (((dist (rows.map (prj K k))).length : Int) = (rows.length : Int)) := by
    unfold keyB
    rw [Bool.eq_iff_iff]
    simp
    omega
  rw [e] at q
  exact q
theorem zip_pD (f g : List Int → List Int) : ∀ rows : List (List Int), zipD ((rows.map f).map tI) ((rows.map g).map tI) = ((rows.map f).zip (rows.map g)).map pD
  | [] => rfl
  | r :: rows => by
    simp only [List.map_cons, List.zip_cons_cons, zipD, zip_pD f g rows]
    rfl
theorem keeps_rule_run {p : Rule} {rows : List (List Int)} (hK : ColsOk K) (hr : ∀ r ∈ rows, r.length = K.length) (hp : ∀ c ∈ p.1, c ∈ K) (hp2 : p.2 ∈ K) (hl : p.1.length ≤ 1000) (few : rows.length < 64) (q : Q (.bool (ruleB K p rows)) n) :
    MD w__keeps_rule [.d (.str (tx K)), .d (ruD p), .r (rows.map tI)] n Q := by
  refine md_def rfl rfl ?_
  unfold t__keeps_rule
  walk_at "s"
  (repeat walk_at "s")
  refine ⟨_, rfl, ?_⟩
  refine n_keep ⟨by show 5 < 8; decide, by show 6 < 8; decide, by show 7 < 8; decide⟩ ?_
  refine m_zip ?_
  (repeat walk_at "s")
  refine projected_runR hK hr hp hl (by omega) ?_
  (repeat walk_at "s")
  refine projected_runR (part := [p.2]) hK hr (fun c hc => by rw [List.mem_singleton.mp hc]; exact hp2) (by simp) (by omega) ?_
  refine ⟨_, _, .inl ⟨rfl, rfl⟩, ?_⟩
  refine ⟨by rw [zip_pD, List.length_map, List.length_zip, List.length_map, List.length_map, sizeLine_eq]; omega, _, zip_pD _ _ _, fun h e => ?_, fun h => ?_⟩
  · (repeat walk_at "s")
    have h' : ruleB K p rows = true := h
    rw [h'] at q
    exact q
  · have h' : ruleB K p rows = false := h
    rw [h'] at q
    exact q
def asInts : PyData → List Int
  | .tuple xs => xs.map fun x => match x with | .int i => i | _ => 0
  | _ => []
theorem row_as {len : Nat} {x : PyData} (h : rowB len x = true) : x = tI (asInts x) ∧ (asInts x).length = len := by
  cases x with
  | tuple xs =>
    have h1 : xs.length = len ∧ xs.all isPl = true := by simpa [rowB] using h
    refine ⟨?_, by simp [asInts, h1.1]⟩
    unfold tI asInts
    rw [List.map_map]
    refine congrArg PyData.tuple ?_
    have : ∀ y ∈ xs, (PyData.int ∘ fun x => match x with | .int i => i | _ => 0) y = id y := fun y hy => by
      have := List.all_eq_true.mp h1.2 y hy
      cases y <;> first | rfl | cases this
    rw [List.map_congr_left this, List.map_id]
  | _ => cases h
theorem rows_as {len : Nat} {xs : List PyData} (h : xs.all (rowB len) = true) : xs = (xs.map asInts).map tI ∧ ∀ r ∈ xs.map asInts, r.length = len := by
  have h1 := List.all_eq_true.mp h
  refine ⟨?_, fun r hr => ?_⟩
  · rw [List.map_map]
    have : ∀ y ∈ xs, (tI ∘ asInts) y = id y := fun y hy => (row_as (h1 y hy)).1.symm
    rw [List.map_congr_left this, List.map_id]
  · obtain ⟨y, hy, rfl⟩ := List.mem_map.mp hr
    exact (row_as (h1 y hy)).2
def isTab (K : List Nat) (rules : List Rule) (keys : List (List Nat)) : PyData → Bool
  | .list xs => xs.all (rowB K.length) && tabB K rules keys (xs.map asInts)
  | _ => false
theorem is_table_runR {xs : List PyData} (hK : ColsOk K) (hR : RulesOk2 K rules) (hY : KeysOk2 K keys) (few : xs.length < 64) (q : Q (.bool (isTab K rules keys (.list xs))) n) : MD w_is_table [.d (schD K rules keys), .r xs] n Q := by
  refine md_def rfl rfl ?_
  unfold t_is_table
  (repeat walk_at "s")
  refine ⟨_, rfl, ?_⟩
  (repeat walk_at "s")
  refine ⟨_, rfl, ?_⟩
  walk_at "r"; walk_at "f"
  (repeat walk_at "s")
  refine m_lcM xs id (fun x => .bool (rowB K.length x)) ?_
  (repeat walk_at "s")
  refine ⟨_, rfl, (List.map_id xs).symm, by rw [sizeLine_eq]; omega, fun x hx => ⟨_, rfl, fun m => ?_⟩, ?_⟩
  · (repeat walk_at "s")
    exact is_row_run hK ⟨rfl, rfl⟩
  · refine ⟨_, all_map (rowB K.length) xs, ?_⟩
    walk_at "r"
    refine ⟨fun h => ?_, fun h => ?_⟩
    · (repeat walk_at "s")
      have e : isTab K rules keys (.list xs) = false := by
        have : xs.all (rowB K.length) = false := by simpa using h
        simp [isTab, this]
      rw [e] at q
      exact q
    · have ha : xs.all (rowB K.length) = true := by simpa using h
      obtain ⟨e1, hr⟩ := rows_as ha
      have e : isTab K rules keys (.list xs) = tabB K rules keys (xs.map asInts) := by simp [isTab, ha]
      rw [e] at q
      have few' : (xs.map asInts).length < 64 := by rw [List.length_map]; exact few
      generalize xs.map asInts = rows at e1 hr q few'
      subst e1
      (repeat walk_at "s")
      refine m_lcM rules ruD (fun p => .bool (ruleB K p rows)) ?_
      (repeat walk_at "s")
      refine ⟨_, rfl, rfl, by rw [sizeLine_eq]; have := hR.few; omega, fun p hp => ⟨_, rfl, fun m => ?_⟩, ?_⟩
      · (repeat walk_at "s")
        obtain ⟨p1, p2, p3⟩ := hR.one p hp
        exact keeps_rule_run hK hr (fun c hc => p1.subset hc) p2 (Nat.le_trans p1.length_le (by have := hK.few; omega)) few' ⟨rfl, rfl⟩
      · refine ⟨_, all_map _ rules, ?_⟩
        walk_at "r"
        refine ⟨fun h => ?_, fun h => ?_⟩
        · (repeat walk_at "s")
          have : (rules.all fun p => ruleB K p rows) = false := by simpa using h
          have e : tabB K rules keys rows = false := by
            unfold tabB
            rw [this]
            rfl
          rw [e] at q
          exact q
        · have : (rules.all fun p => ruleB K p rows) = true := by simpa using h
          have e : tabB K rules keys rows = keys.all fun k => keyB K k rows := by
            unfold tabB
            rw [this]
            rfl
          rw [e] at q
          (repeat walk_at "s")
          refine m_lcM keys keD (fun k => .bool (keyB K k rows)) ?_
          (repeat walk_at "s")
          refine ⟨_, rfl, rfl, by rw [sizeLine_eq]; have := hY.few; omega, fun k hk => ⟨_, rfl, fun m => ?_⟩, ?_⟩
          · (repeat walk_at "s")
            obtain ⟨p1, _⟩ := hY.one k hk
            exact keeps_key_run hK hr (fun c hc => p1.subset hc) (Nat.le_trans p1.length_le (by have := hK.few; omega)) few' ⟨rfl, rfl⟩
          · exact ⟨_, all_map _ keys, q⟩
end
section
variable {n : Nat} {Q : PyData → Nat → Prop} {K X Y : List Nat} {rules : List Rule} {keys : List (List Nat)}
theorem hr_of (hR : RulesOk2 K rules) : ∀ p ∈ rules, p.2 ∈ K := fun p hp => (hR.one p hp).2.1
theorem is_unique_run2 (hK : ColsOk K) (hR : RulesOk2 K rules) (hY : KeysOk2 K keys) (hX : X.Sublist K) (q : Q (.bool (keys.any fun k => inB k (clos K rules keys X))) n) : MD w_is_unique [.d (schD K rules keys), .d (.str (tx X))] n Q := by
  refine md_def rfl rfl ?_
  unfold t_is_unique
  (repeat walk_at "s")
  refine closure_run2 hK hR hY hX ?_
  (repeat walk_at "s")
  refine ⟨_, ix_t2 _ _ _ _, ?_⟩
  (repeat walk_at "s")
  exact has_key_run2 hY hK q
theorem asInts_tI : ∀ r : List Int, asInts (tI r) = r
  | [] => rfl
  | x :: r => congrArg (x :: ·) (asInts_tI r)
theorem isTab_tI {rows : List (List Int)} (h : ∀ r ∈ rows, r.length = K.length) : isTab K rules keys (.list (rows.map tI)) = tabB K rules keys rows := by
  have h1 : (rows.map tI).all (rowB K.length) = true := by
    rw [List.all_eq_true]
    intro x hx
    obtain ⟨r, hr, rfl⟩ := List.mem_map.mp hx
    have hp : (r.map PyData.int).all isPl = true := by
      rw [List.all_eq_true]
      intro y hy
      obtain ⟨z, _, rfl⟩ := List.mem_map.mp hy
      rfl
    show (decide ((r.map PyData.int).length = K.length) && _) = true
    rw [hp, List.length_map, decide_eq_true (h r hr)]
    rfl
  have h2 : (rows.map tI).map asInts = rows := by
    rw [List.map_map]
    have : ∀ r ∈ rows, (asInts ∘ tI) r = id r := fun r _ => asInts_tI r
    rw [List.map_congr_left this, List.map_id]
  show ((rows.map tI).all (rowB K.length) && tabB K rules keys ((rows.map tI).map asInts)) = _
  rw [h1, h2, Bool.true_and]
theorem alike_len {same : List Nat} {cnt : Nat} : ∀ r ∈ alikeT K same cnt, r.length = K.length := fun r hr => by
  obtain ⟨i, _, rfl⟩ := List.mem_map.mp hr
  exact List.length_map _
/-- the rules' and keys' parts are among the columns -/
theorem rule_in (hR : RulesOk2 K rules) : ∀ p ∈ rules, (∀ c ∈ p.1, c ∈ K) ∧ p.2 ∈ K := fun p hp => ⟨fun c hc => (hR.one p hp).1.subset hc, (hR.one p hp).2.1⟩
theorem key_in (hY : KeysOk2 K keys) : ∀ k ∈ keys, ∀ c ∈ k, c ∈ K := fun k hk c hc => (hY.one k hk).1.subset hc
end
section
variable {n : Nat} {Q : PyData → Nat → Prop} {K X : List Nat} {rules : List Rule} {keys : List (List Nat)}
def uqB (K : List Nat) (rules : List Rule) (keys : List (List Nat)) (X : List Nat) : Bool := keys.any fun k => inB k (clos K rules keys X)
theorem filter_self (hK : K.Nodup) (hX : X.Sublist K) : (K.filter fun c => decide (c ∈ X)) = X := sub_filter hK hX
end
section
variable {n : Nat} {Q : PyData → Nat → Prop} {K X : List Nat} {rules : List Rule} {keys : List (List Nat)} {cs : CsT} {o k : List Nat} {c : Bool} {m : Option Int}
theorem enum_atS {xs : List PyData} {x : PyData} {r : List PyData} {k : Nat} (h : x :: r = (enumD xs).drop k) : ∃ hk : k < xs.length, x = .tuple [.int (k : Nat), xs[k]] ∧ r = (enumD xs).drop (k + 1) := by
  have hl : (enumD xs).length = xs.length := by simp [enumD]
  have hk : k < (enumD xs).length := by
    rcases Nat.lt_or_ge k (enumD xs).length with q | q
    · exact q
    · rw [List.drop_of_length_le q] at h; cases h
  rw [List.drop_eq_getElem_cons hk] at h
  obtain ⟨h1, h2⟩ := List.cons.inj h
  refine ⟨by omega, ?_, h2⟩
  rw [h1]
  simp [enumD]
end
section
variable {n : Nat} {Q : PyData → Nat → Prop} {L : List PyData → Nat → Prop} {E : Nat → Prop} {K X : List Nat} {rules : List Rule} {keys : List (List Nat)}
theorem alike_x_run {cnt : Nat} (hc : cnt ≤ 1000) (hK : ColsOk K) (hR : RulesOk2 K rules) (hY : KeysOk2 K keys) (hX : X.Sublist K) (qe : 1 < cnt → uqB K rules keys X = true → E n)
    (q : (1 < cnt → uqB K rules keys X = false) → L ((alikeT K (clos K rules keys X) cnt).map tI) n) : MDX w_alike_table_x [.d (schD K rules keys), .d (.str (tx X)), .d (.int (cnt : Nat))] n Q L E := by
  have h5 := hK.few
  refine mdx_def rfl rfl ?_
  unfold t_alike_table_x
  refine x_seq ?_
  have rest : ((1 < cnt → uqB K rules keys X = false)) → MSO (sSeq (sSet (wCall w_closure (wAName 0 (wAName 1 wANil))) 3) (sRetF (fLc (wRng1 (wVar 2)) (.nm 4) wYes (w1 pTupA (fz (fLc (wSeq (wOp pIx (wVar 0) (wC (.int 0)))) (.nm 5) wYes (wIfE (wTt (wOp (pIn2 false) (wVar 5) (wVar 3))) (wC (.int 0)) (wVal 4)) [5]))) [4]))) [some (.d (schD K rules keys)), some (.d (.str (tx X))), some (.d (.int (cnt : Nat))), none, none, none] n (fun e m => Q PyData.none m) Q L noEnd noEnd := fun hb => by
    refine o_seq ?_
    walk_at "s"
    (repeat walk_at "s")
    refine closure_run2 hK hR hY hX ?_
    refine o_retF ?_
    refine m_lcM ((List.range cnt).map fun i : Nat => (i : Int)) PyData.int (fun i => tI (alikeR K (clos K rules keys X) i)) ?_
    (repeat walk_at "s")
    refine ⟨cnt, rfl, by omega, by omega, ?_, by rw [List.length_map, List.length_range, sizeLine_eq]; omega, fun i hi => ⟨_, rfl, fun m => ?_⟩, ?_⟩
    · rw [List.map_map]
      refine List.map_congr_left fun k _ => congrArg PyData.int ?_
      show (0 : Int) + (k : Int) = (k : Int)
      omega
    · (repeat walk_at "s")
      refine m_lcM K sg (fun c => .int (if c ∈ clos K rules keys X then 0 else i)) ?_
      (repeat walk_at "s")
      refine ⟨_, ix_t0 _ _, ?_⟩
      refine ⟨_, seq_str _, by rw [Ls_tx], by rw [sizeLine_eq]; omega, fun c hc => ⟨_, rfl, fun m => ?_⟩, ?_⟩
      · (repeat walk_at "s")
        refine ⟨_, in_sg c _, ?_⟩
        walk_at "r"
        rw [Ls_tx, Bool.false_xor]
        refine ⟨fun z => ?_, fun z => ?_⟩
        · (repeat walk_at "s")
          exact ⟨by rw [if_pos (of_decide_eq_true z)], rfl⟩
        · (repeat walk_at "s")
          exact ⟨by rw [if_neg (of_decide_eq_false z)], rfl⟩
      · refine ⟨_, rfl, ?_⟩
        refine ⟨?_, rfl⟩
        show PyData.tuple _ = .tuple ((K.map _).map PyData.int)
        rw [List.map_map]
        rfl
    · have e : (((List.range cnt).map fun i : Nat => (i : Int)).map fun i => tI (alikeR K (clos K rules keys X) i)) = (alikeT K (clos K rules keys X) cnt).map tI := by
        unfold alikeT
        rw [List.map_map, List.map_map]
        rfl
      rw [e]
      exact q hb
  refine x_ifM ?_
  (repeat walk_at "s")
  refine ⟨_, rfl, ?_⟩
  walk_at "r"
  refine ⟨fun c => ?_, fun c => ?_⟩
  · have c1 : 1 < cnt := by
      have := of_decide_eq_true c
      omega
    (repeat walk_at "s")
    refine is_unique_run2 hK hR hY hX ?_
    walk_at "r"
    refine ⟨fun h => ?_, fun h => ?_⟩
    · exact x_raiseM (qe c1 h)
    · refine x_of (o_of ?_)
      walk_at "s"
      exact x_of (rest fun _ => h)
  · have c1 : ¬ 1 < cnt := fun z => by
      have := of_decide_eq_false c
      omega
    walk_at "f"
    refine x_of (o_of ?_)
    walk_at "s"
    exact x_of (rest fun z => absurd z c1)
def barB (K : List Nat) (rules : List Rule) (keys : List (List Nat)) (X : List Nat) (cnt : Nat) : Bool := decide (1 < cnt) && uqB K rules keys X
theorem told_run {cnt : Nat} (hc : cnt ≤ 1000) (hK : ColsOk K) (hR : RulesOk2 K rules) (hY : KeysOk2 K keys) (hX : X.Sublist K) (qe : barB K rules keys X cnt = true → Q (.str "none") n)
    (q : barB K rules keys X cnt = false → L ((alikeT K (clos K rules keys X) cnt).map tI) n) : MDO w__law_told [.d (schD K rules keys), .d (.str (tx X)), .d (.int (cnt : Nat))] n Q L := by
  refine mdo_def rfl rfl ?_
  unfold t__law_told
  refine o_seq ?_
  (repeat walk_at "s")
  refine ⟨by show 2 ≤ sizeLine; decide, ?_⟩
  refine ⟨[some (.d (schD K rules keys)), some (.d (.str (tx X))), some (.d (.int (cnt : Nat))), some (.d .none), some (.d .none), none, none], rfl, ?_⟩
  refine n_try ⟨by show 3 < 7; decide, by show 6 < 7; decide⟩ ?_
  (repeat walk_at "s")
  refine alike_x_run hc hK hR hY hX (fun c1 hu => qe ?_) fun hu => ?_
  · unfold barB
    rw [hu, decide_eq_true c1]
    rfl
  · refine o_seq' ?_
    refine o_if ?_
    (repeat walk_at "s")
    refine ⟨.bool true, rfl, ?_⟩
    walk_at "r"
    walk_at "t"
    refine o_retO rfl (q ?_)
    unfold barB
    by_cases c1 : 1 < cnt
    · rw [hu c1, Bool.and_false]
    · rw [decide_eq_false c1, Bool.false_and]
theorem enum_txK (K : List Nat) : enumD (chS (tx K)) = K.zipIdx.map fun p => .tuple [.int (p.2 : Nat), sg p.1] := by
  rw [chS_eq, Ls_tx]
  unfold enumD
  rw [List.zipIdx_map, List.map_map]
  rfl
theorem slL_to (xs : List PyData) (k : Nat) : eSl none (some (k : Int)) (.list xs) = some (.list (xs.take k)) := by
  show some (PyData.list (cutD xs none (some (k : Int)))) = _
  rw [cutD_to]
theorem alike_ix {same : List Nat} {v : Int} {p : Nat × Nat} (h : p ∈ K.zipIdx) : eIx (tI (alikeR K same v)) (.int (p.2 : Nat)) = some (.int (if p.1 ∈ same then 0 else v)) := by
  have h1 := List.mem_zipIdx_iff_getElem?.mp h
  refine atI_nat (xs := (alikeR K same v).map PyData.int) ?_
  unfold alikeR
  rw [List.getElem?_map, List.getElem?_map, h1]
  rfl
theorem same_cols {same : List Nat} (nd : K.Nodup) (hs : same.Sublist K) : ((K.zipIdx.filter fun p => decide (p.1 ∈ same)).map fun p => sg p.1) = same.map sg := by
  have e1 : (K.zipIdx.filter fun p => decide (p.1 ∈ same)).map (·.1) = same := by
    have := List.filter_map (f := (·.1 : Nat × Nat → Nat)) (p := fun c => decide (c ∈ same)) (l := K.zipIdx)
    rw [List.zipIdx_map_fst, sub_filter nd hs] at this
    exact this.symm
  have e2 : ((K.zipIdx.filter fun p => decide (p.1 ∈ same)).map fun p => sg p.1) = ((K.zipIdx.filter fun p => decide (p.1 ∈ same)).map (·.1)).map sg := by rw [List.map_map]; rfl
  rw [e2, e1]
theorem alike_right_run {cnt : Nat} {same : List Nat} (hc : cnt ≤ 100) (hK : ColsOk K) (hs : same.Sublist K) (q : Q (.bool true) n) : MD w__law_alike_right [.d (schD K rules keys), .d (.str (tx same)), .r ((alikeT K same cnt).map tI)] n Q := by
  have h5 := hK.few
  have nd := cols_nodup hK
  have ls := hs.length_le
  refine md_def rfl rfl ?_
  unfold t__law_alike_right
  walk_at "s"
  refine n_forB (fun i z hz => ?_) ?_
  · match i, hz with
    | 0, hz => cases hz; rfl
    | 1, hz => cases hz; rfl
    | 2, hz => cases hz; rfl
    | i + 3, hz =>
      have hz : (List.replicate 6 (none : Option Sl))[i]? = some (some z) := hz
      have := List.mem_of_getElem? hz
      simp at this
  (repeat walk_at "s")
  have lR : ((alikeT K same cnt).map tI).length = cnt := by rw [List.length_map]; unfold alikeT; rw [List.length_map, List.length_range]
  have atR : ∀ (j : Nat) (h : j < ((alikeT K same cnt).map tI).length), ((alikeT K same cnt).map tI)[j] = tI (alikeR K same ((j : Nat) : Int)) := fun j h => by
    simp [alikeT]
  refine ⟨(alikeT K same cnt).map tI, .inl rfl, fun rest e m => m = n ∧ ∃ (j : Nat) (x3 x4 x5 x6 : Option Sl), rest = (enumD ((alikeT K same cnt).map tI)).drop j ∧ e = [some (.d (schD K rules keys)), some (.d (.str (tx same))), some (.r ((alikeT K same cnt).map tI)), x3, x4, x5, x6, none, none],
    ⟨rfl, 0, none, none, none, none, rfl, rfl⟩, fun y rest e m hI => ?_, fun e m hI => ?_⟩
  case refine_2 =>
    obtain ⟨rfl, j, x3, x4, x5, x6, er, rfl⟩ := hI
    (repeat walk_at "s")
    exact q
  obtain ⟨rfl, j, x3, x4, x5, x6, er, rfl⟩ := hI
  obtain ⟨hj, rfl, er2⟩ := enum_atS er
  rw [atR j hj]
  refine ⟨_, rfl, ?_⟩
  refine n_for ?_
  (repeat walk_at "s")
  refine ⟨(j : Int), rfl, ?_⟩
  refine ⟨_, slL_to _ j, ?_⟩
  refine ⟨_, rfl, fun rest2 e m' => m' = m ∧ ∃ (x5 x6 : Option Sl), (∀ x ∈ rest2, ∃ i : Nat, i < j ∧ x = tI (alikeR K same ((i : Nat) : Int))) ∧ e = [some (.d (schD K rules keys)), some (.d (.str (tx same))), some (.r ((alikeT K same cnt).map tI)), some (.d (.int (j : Nat))), some (.d (tI (alikeR K same ((j : Nat) : Int)))), x5, x6, none, none],
    ⟨rfl, x5, x6, fun x hx => ?_, rfl⟩, fun y rest2 e m' hI => ?_, fun e m' hI => ?_⟩
  · obtain ⟨i, hi, rfl⟩ := List.mem_take_iff_getElem.mp hx
    exact ⟨i, by omega, atR i (by omega)⟩
  · obtain ⟨rfl, x5, x6, hall, rfl⟩ := hI
    obtain ⟨i, hij, rfl⟩ := hall y List.mem_cons_self
    refine ⟨_, rfl, ?_⟩
    walk_at "s"
    walk_at "s"
    (repeat walk_at "s")
    refine ⟨_, rfl, ?_⟩
    walk_at "s"
    refine m_lcK K.zipIdx (fun p => .tuple [.int (p.2 : Nat), sg p.1]) (fun p => sg p.1) (fun p => decide (p.1 ∈ same)) ?_
    refine m_enumS ?_
    (repeat walk_at "s")
    refine ⟨_, ix_t0 _ _, ?_⟩
    refine ⟨_, rfl, enum_txK K, by rw [List.length_zipIdx, sizeLine_eq]; omega, fun p hp => ⟨_, rfl, fun m => ?_, fun m => ?_⟩, ?_⟩
    · (repeat walk_at "s")
      refine ⟨_, alike_ix hp, ?_⟩
      (repeat walk_at "s")
      refine ⟨_, alike_ix hp, ?_⟩
      refine ⟨_, eq_int _ _, _, rfl, ?_, rfl⟩
      by_cases hc : p.1 ∈ same
      · rw [if_pos hc, if_pos hc, decide_eq_true hc, decide_eq_true rfl]
      · rw [if_neg hc, if_neg hc, decide_eq_false hc, decide_eq_false (by omega)]
    · (repeat walk_at "s")
      exact ⟨rfl, rfl⟩
    rw [same_cols nd hs]
    refine ⟨_, join_sg (by omega), ?_⟩
    (repeat walk_at "s")
    refine ⟨_, ne2_str _ _, ?_⟩
    rw [decide_eq_true rfl]
    walk_at "r"
    walk_at "f"
    (repeat walk_at "s")
    exact ⟨rfl, _, _, fun z hz => hall z (List.mem_cons_of_mem _ hz), rfl⟩
  · obtain ⟨rfl, x5, x6, hall, rfl⟩ := hI
    exact ⟨rfl, j + 1, _, _, _, _, er2, rfl⟩
end
theorem ne_bools (a b : Bool) : eNe2 (.bool a) (.bool b) = some (.bool (!decide (a = b))) := by cases a <;> cases b <;> rfl
def keptL (K : List Nat) : Stp → List Nat
  | .col l => l
  | _ => K
def isG : Stp → Bool
  | .grp _ _ => true
  | _ => false
/-- its numbers are small -/
def StpSm : Stp → Prop
  | .whr _ v => v.natAbs ≤ 100000
  | .cut _ i => i ≤ 100000
  | .srt _ p => p ≠ []
  | .col l => l ≠ []
  | _ => True
def StpFull (K : List Nat) : Stp → Prop
  | .whr c v => c ∈ K ∧ v.natAbs ≤ 100000
  | .srt _ p => (∀ c ∈ p, c ∈ K) ∧ p.Nodup ∧ p ≠ []
  | .cut _ n => n ≤ 20
  | .col l => l.Sublist K ∧ l ≠ []
  | .grp _ _ => False
def isSrtS : Stp → Bool
  | .srt _ _ => true
  | _ => false
def isCutS : Stp → Bool
  | .cut _ _ => true
  | _ => false
theorem sub_cols {K l : List Nat} (hK : ColsOk K) (s : l.Sublist K) (ne : l ≠ []) : ColsOk l := ⟨hK.asc.sublist s, Nat.le_trans s.length_le hK.few, ne, fun c hc => hK.low c (s.subset hc)⟩
theorem fit_tx {l : List Nat} (h : l.length ≤ 5) (h2 : ∀ c ∈ l, c < 128) : Fit 100 0 (.str (tx l)) := Fit.str (by rw [Ls_tx]; omega) (by rw [Ls_tx]; exact h2)
theorem fit_pair {a b : PyData} {B C : Nat} (h : Fit B 0 a) (h2 : Fit C 0 b) : Fit (B + C + 2) 1 (.tuple [a, b]) := (Fit.tup (FitS.cons h (FitS.cons h2 FitS.nil))).le (by omega) (Nat.le_refl _)
/-- how a report ends -/
inductive Fin where
  | non
  | cnt (g : List Nat)
  | sum (g : List Nat) (c : Nat)
  | hds (g : List Nat)
def finS : Fin → List Stp
  | .non => []
  | .cnt g => [.grp "count" [.str (tx g)]]
  | .sum g c => [.grp "sum" [.str (tx g), sg c]]
  | .hds g => [.grp "heads" [.str (tx g)]]
def FinOk (l : List Nat) : Fin → Prop
  | .non => True
  | .cnt g => g.Sublist l
  | .sum g c => g.Sublist l ∧ c ∈ l
  | .hds g => g.Sublist l
def keptR (K : List Nat) (sts : List Stp) : List Nat := sts.foldl keptL K
/-- each step by what is kept ahead of it -/
def Chn : List Nat → List Stp → Prop
  | _, [] => True
  | K, s :: r => StpOk K s ∧ StpSm s ∧ isG s = false ∧ Chn (keptL K s) r
structure DRep (K : List Nat) (most : Nat) (xs : List PyData) : Prop where
  ex : ∃ (sts : List Stp) (f : Fin), xs = (sts ++ finS f).map stpD ∧ sts.length ≤ most ∧ (∀ st ∈ sts, StpOk K st ∧ StpSm st) ∧ (∀ st ∈ sts, isG st = false) ∧ FinOk (keptR K sts) f ∧ ColsOk (keptR K sts) ∧ (keptR K sts).Sublist K ∧ FitS (500 * (most + 1)) 1 xs ∧ Chn K sts
theorem _root_.Pu.StpOk.mono {l K : List Nat} (s : l.Sublist K) : ∀ {st : Stp}, StpOk l st → StpOk K st
  | .whr _ _, h => s.subset h
  | .srt _ _, h => ⟨fun c hc => s.subset (h.1 c hc), h.2⟩
  | .cut _ _, _ => trivial
  | .col _, h => h.trans s
  | .grp _ _, h => h
/-- steps one behind another, no sort behind a cut -/
def Prg : List Nat → Bool → List Stp → Prop
  | _, _, [] => True
  | K, cut, s :: r => StpFull K s ∧ (cut && isSrtS s) = false ∧ Prg (keptL K s) (cut || isCutS s) r
def FinFull (l : List Nat) : Fin → Prop
  | .non => True
  | .cnt g => g.Sublist l ∧ g ≠ []
  | .sum g c => g.Sublist l ∧ g ≠ [] ∧ c ∈ l ∧ c ∉ g
  | .hds g => g.Sublist l ∧ g ≠ []
section
variable {K : List Nat} {sts : List Stp} {st : Stp} {cut : Bool}
theorem StpFull.ok (h : StpFull K st) : StpOk K st ∧ StpSm st ∧ isG st = false := by
  cases st with
  | whr c v => exact ⟨h.1, h.2, rfl⟩
  | srt b p => exact ⟨⟨h.1, h.2.1⟩, h.2.2, rfl⟩
  | cut b n => exact ⟨trivial, Nat.le_trans h (by decide), rfl⟩
  | col l => exact ⟨h.1, h.2, rfl⟩
  | grp w r => exact h.elim
theorem StpFull.kept (hK : ColsOk K) (h : StpFull K st) : ColsOk (keptL K st) ∧ (keptL K st).Sublist K := by
  cases st with
  | col l => exact ⟨sub_cols hK h.1 h.2, h.1⟩
  | grp w r => exact h.elim
  | _ => exact ⟨hK, List.Sublist.refl _⟩
end
/-- a group's columns are some -/
def FinNe : Fin → Prop
  | .non => True
  | .cnt g => g ≠ []
  | .sum g c => g ≠ [] ∧ c ∉ g
  | .hds g => g ≠ []
theorem FinFull.ne {l : List Nat} {f : Fin} (h : FinFull l f) : FinNe f := by
  cases f with
  | non => trivial
  | cnt g => exact h.2
  | sum g c => exact ⟨h.2.1, h.2.2.2⟩
  | hds g => exact h.2
structure DRepN (K : List Nat) (most : Nat) (xs : List PyData) : Prop where
  ex : ∃ (sts : List Stp) (f : Fin), xs = (sts ++ finS f).map stpD ∧ sts.length ≤ most ∧ (∀ st ∈ sts, StpOk K st ∧ StpSm st) ∧ (∀ st ∈ sts, isG st = false) ∧ FinOk (keptR K sts) f ∧ ColsOk (keptR K sts) ∧ (keptR K sts).Sublist K ∧ FitS (500 * (most + 1)) 1 xs ∧ Chn K sts ∧ FinFull (keptR K sts) f ∧ Prg K false sts
theorem DRepN.rep {K : List Nat} {most : Nat} {xs : List PyData} (h : DRepN K most xs) : DRep K most xs := by
  obtain ⟨sts, f, h1, h2, h3, h4, h5, h6, h7, h8, h9, _, _⟩ := h.ex
  exact ⟨sts, f, h1, h2, h3, h4, h5, h6, h7, h8, h9⟩
section
variable {n : Nat} {K : List Nat} {rules : List Rule} {keys : List (List Nat)} {N : En → Nat → Prop} {R : PyData → Nat → Prop} {B C : En → Nat → Prop}
theorem fit_sch (hK : ColsOk K) (hr : RulesOk K rules) (hk : KeysOk K keys) : Fit 1900 3 (schD K rules keys) := by
  have h5 := hK.few
  have a : ∀ x ∈ rules.map ruD, Fit 202 1 x := fun x hx => by
    obtain ⟨p, hp, rfl⟩ := List.mem_map.mp hx
    obtain ⟨h1, h2, _⟩ := hr.one p hp
    have := h1.length_le
    exact fit_pair (fit_tx (by omega) fun c hc => hK.low c (h1.subset hc)) (fit_tx (l := [p.2]) (by simp) fun d hd => by rw [List.mem_singleton] at hd; subst hd; exact hK.low _ h2)
  have b : ∀ x ∈ keys.map keD, Fit 100 0 x := fun x hx => by
    obtain ⟨p, hp, rfl⟩ := List.mem_map.mp hx
    obtain ⟨h1, _⟩ := hk.one p hp
    have := h1.length_le
    exact fit_tx (by omega) fun c hc => hK.low c (h1.subset hc)
  have a2 := hr.few
  have b2 := hk.few
  have c1 : Fit 1218 2 (.tuple (rules.map ruD)) := (Fit.tup (FitS.all a)).le (by rw [List.length_map]; omega) (Nat.le_refl _)
  have c2 : Fit 404 2 (.tuple (keys.map keD)) := (Fit.tup (FitS.all b)).le (by rw [List.length_map]; omega) (by omega)
  exact (Fit.tup (FitS.cons ((fit_tx h5 hK.low).le (Nat.le_refl _) (Nat.zero_le 2)) (FitS.cons c1 (FitS.cons c2 (FitS.nil.le (Nat.le_refl 0) (Nat.zero_le _)))))).le (by omega) (Nat.le_refl _)
end
abbrev N_law : List Str := ["script", "pen", "turn", "schema", "columns", "count", "fixed", "seen", "is_barred", "told", "copied", "one"]
def t_law : WS := (sSeq (sFor (wRng1 (wC (.int 8))) (.nm 2)
  (sSeq (sSet (wCall w__law_draw_schema (wAName 1 (wACons (wC (.int 5)) wANil))) 3)
  (sSeq (sPar 4 5 (wCall w__law_subset (wAName 1 (wACons (wOp pIx (wVar 3) (wC (.int 0))) wANil))) (wOp pIx (fz (wLst (wCons (wC (.int 0)) (wCons (wC (.int 1)) (wCons (wC (.int 2)) (wCons (wC (.int 3)) (wCons (wCall w__law_take (wAName 1 (wACons (wC (.int 31)) wANil))) wNil))))))) (wCall w__law_take (wAName 1 (wACons (wC (.int 5)) wANil)))))
  (sSeq (sAsg (wTup (wCons (wCall w__law_closure (wAName 3 (wAName 4 wANil))) (wCons (w1 pRepr2 (wVal 3)) wNil))) (.tp [6, 7]))
  (sSeq (sSet (wAndE (wOp pGt (wVar 5) (wC (.int 1))) (wOp (pIn2 false) (wC (.bool true)) (fz (fLc (wSeq (wOp pIx (wVar 3) (wC (.int 2)))) (.nm 11) wYes (wCall w__law_all_in (wAName 11 (wAName 6 wANil))) [11])))) 8)
  (sSeq (sSetO w__law_told (wAName 3 (wAName 4 (wAName 5 wANil))) 9)
  (sSeq (sIf (wOrT (wTt (wOp pNe2 (wOp pEq2 (wVar 9) (wC (.str "none"))) (wVar 8))) (wOrT (wTt (wOp pNe2 (w1 pRepr2 (wVal 3)) (wVar 7))) (wTt (wOp pNe2 (wCall w_closure (wAName 3 (wAName 4 wANil))) (wVar 6)))))
  (sRet (wC (.bool false)))
  sNext)
  (sSeq (sIf (wTru (wVar 8))
  sCont
  sNext)
  (sSeq (sIf (wOrT (wNotT (wTru (w1 (pIsi ["list"]) (wVar 9)))) (wOrT (wTt (wOp pNe2 (w1 pLen (wVar 9)) (wVar 5))) (wTt (wOp (pIs true) (wCall w_is_table (wAName 3 (wAName 9 wANil))) (wC (.bool true))))))
  (sRet (wC (.bool false)))
  sNext)
  (sSeq (sIf (wNotT (wTru (wCall w__law_alike_right (wAName 3 (wAName 6 (wAName 9 wANil))))))
  (sRet (wC (.bool false)))
  sNext)
  (sSeq (sSet (fz (w1L pListA (wVar 9))) 10)
  (sSeq (sApp 9 (wC .none))
  (sIf (wTt (wOp pNe2 (wCall (fzO w__law_told) (wAName 3 (wAName 4 (wAName 5 wANil)))) (wVar 10)))
  (sRet (wC (.bool false)))
  sNext)))))))))))))
  (sRet (wC (.bool true))))
/-- the law's reading behind the pen -/
abbrev LawHolds : Prop := t_law { nx := fun _ _ => False, rt := fun d _ => d = .bool true } ((List.replicate N_law.length none).set 1 (some .p)) 2147483648
section
variable {n : Nat} {Q : PyData → Nat → Prop} {K X : List Nat} {rules : List Rule} {keys : List (List Nat)} {N : En → Nat → Prop} {R : PyData → Nat → Prop} {B C : En → Nat → Prop}
theorem lay_ints : ∀ r : List Int, PyData.canLayAll0 (r.map PyData.int) = true ∧ PyData.depthAll (r.map PyData.int) = 0
  | [] => ⟨rfl, rfl⟩
  | x :: r => by
    obtain ⟨a, b⟩ := lay_ints r
    exact ⟨by simp [PyData.canLayAll0, PyData.canLay0, a], by simp [PyData.depthAll, PyData.depth, b]⟩
theorem eqv_ints : ∀ r : List Int, PyData.eqvAll (r.map PyData.int) (r.map PyData.int) = true
  | [] => rfl
  | x :: r => by simp [PyData.eqvAll, PyData.eqv, eqv_ints r]
theorem lay_rows : ∀ V : List (List Int), PyData.canLayAll0 (V.map tI) = true ∧ PyData.depthAll (V.map tI) ≤ 1
  | [] => ⟨rfl, Nat.zero_le _⟩
  | r :: V => by
    obtain ⟨a, b⟩ := lay_rows V
    obtain ⟨c, d⟩ := lay_ints r
    refine ⟨by simp [PyData.canLayAll0, PyData.canLay0, tI, a, c], ?_⟩
    simp only [List.map_cons, PyData.depthAll, tI, PyData.depth, d]
    omega
theorem eqv_rows : ∀ V : List (List Int), PyData.eqvAll (V.map tI) (V.map tI) = true
  | [] => rfl
  | r :: V => by simp [PyData.eqvAll, PyData.eqv, tI, eqv_ints, eqv_rows V]
theorem ne_rows (V : List (List Int)) : eNe2 (.list (V.map tI)) (.list (V.map tI)) = some (.bool false) := by
  show eNe (.list (V.map tI)) (.list (V.map tI)) = _
  unfold eNe
  obtain ⟨a, b⟩ := lay_rows V
  have s1 : SeqAt.shaped (.list (V.map tI)) = true := by
    unfold SeqAt.shaped
    rw [show PyData.canLay0 (.list (V.map tI)) = PyData.canLayAll0 (V.map tI) from by rw [PyData.canLay0], a, Bool.true_and]
    refine decide_eq_true ?_
    rw [PyData.depth]
    omega
  rw [if_pos (by rw [s1]; rfl)]
  simp [PyData.eqv, eqv_rows]
theorem alike_tab {cnt : Nat} (hK : ColsOk K) (hR : RulesOk2 K rules) (hY : KeysOk2 K keys) (hX : X.Sublist K) (h : barB K rules keys X cnt = false) : tabB K rules keys (alikeT K (clos K rules keys X) cnt) = true := by
  have nd := cols_nodup hK
  have hr := hr_of hR
  by_cases c2 : 2 ≤ cnt
  · have hu : uqB K rules keys X = false := by
      unfold barB at h
      rwa [decide_eq_true (show 1 < cnt by omega), Bool.true_and] at h
    refine (tab_alike (rule_in hR) (key_in hY) c2).mpr ⟨(clos_cl nd hr hX).rule, fun k hk hc => ?_⟩
    have : uqB K rules keys X = true := by
      unfold uqB
      exact List.any_eq_true.mpr ⟨k, hk, inB_iff.mpr hc⟩
    rw [hu] at this
    cases this
  · rw [tabB_iff]
    have : cnt = 0 ∨ cnt = 1 := by omega
    rcases this with rfl | rfl
    · exact .nil
    · simp [alikeT, List.range_succ]
theorem turn_body {cnt : Nat} {x2 x8 x9 x10 x11 : Option Sl} (hc : cnt ≤ 30) (hK : ColsOk K) (hR : RulesOk K rules) (hY : KeysOk K keys) (hX : X.Sublist K)
    (hN : ∀ (x8 x9 x10 x11 : Option Sl), N [none, some .p, x2, some (.d (schD K rules keys)), some (.d (.str (tx X))), some (.d (.int (cnt : Nat))), some (.d (.str (tx (clos K rules keys X)))), some (.d (.str (schD K rules keys).shown)), x8, x9, x10, x11] n)
    (hC : ∀ (x8 x9 x10 x11 : Option Sl), C [none, some .p, x2, some (.d (schD K rules keys)), some (.d (.str (tx X))), some (.d (.int (cnt : Nat))), some (.d (.str (tx (clos K rules keys X)))), some (.d (.str (schD K rules keys).shown)), x8, x9, x10, x11] n) :
    MS (sSeq (sSet (wAndE (wOp pGt (wVar 5) (wC (.int 1))) (wOp (pIn2 false) (wC (.bool true)) (fz (fLc (wSeq (wOp pIx (wVar 3) (wC (.int 2)))) (.nm 11) wYes (wCall w__law_all_in (wAName 11 (wAName 6 wANil))) [11])))) 8) (sSeq (sSetO w__law_told (wAName 3 (wAName 4 (wAName 5 wANil))) 9) (sSeq (sIf (wOrT (wTt (wOp pNe2 (wOp pEq2 (wVar 9) (wC (.str "none"))) (wVar 8))) (wOrT (wTt (wOp pNe2 (w1 pRepr2 (wVal 3)) (wVar 7))) (wTt (wOp pNe2 (wCall w_closure (wAName 3 (wAName 4 wANil))) (wVar 6))))) (sRet (wC (.bool false))) sNext) (sSeq (sIf (wTru (wVar 8)) sCont sNext) (sSeq (sIf (wOrT (wNotT (wTru (w1 (pIsi ["list"]) (wVar 9)))) (wOrT (wTt (wOp pNe2 (w1 pLen (wVar 9)) (wVar 5))) (wTt (wOp (pIs true) (wCall w_is_table (wAName 3 (wAName 9 wANil))) (wC (.bool true)))))) (sRet (wC (.bool false))) sNext) (sSeq (sIf (wNotT (wTru (wCall w__law_alike_right (wAName 3 (wAName 6 (wAName 9 wANil)))))) (sRet (wC (.bool false))) sNext) (sSeq (sSet (fz (w1L pListA (wVar 9))) 10) (sSeq (sApp 9 (wC .none)) (sIf (wTt (wOp pNe2 (wCall (fzO w__law_told) (wAName 3 (wAName 4 (wAName 5 wANil)))) (wVar 10))) (sRet (wC (.bool false))) sNext))))))))) [none, some .p, x2, some (.d (schD K rules keys)), some (.d (.str (tx X))), some (.d (.int (cnt : Nat))), some (.d (.str (tx (clos K rules keys X)))), some (.d (.str (schD K rules keys).shown)), x8, x9, x10, x11] n N R B C := by
  have h5 := hK.few
  have r2 := hR.two
  have k2 := hY.two
  have nd := cols_nodup hK
  have sC : (clos K rules keys X).Sublist K := clos_sub nd (hr_of r2) hX
  have lC := sC.length_le
  have fs := fit_sch hK hR hY
  have go : ∀ (x11 : Option Sl), MS (sSeq (sSetO w__law_told (wAName 3 (wAName 4 (wAName 5 wANil))) 9) (sSeq (sIf (wOrT (wTt (wOp pNe2 (wOp pEq2 (wVar 9) (wC (.str "none"))) (wVar 8))) (wOrT (wTt (wOp pNe2 (w1 pRepr2 (wVal 3)) (wVar 7))) (wTt (wOp pNe2 (wCall w_closure (wAName 3 (wAName 4 wANil))) (wVar 6))))) (sRet (wC (.bool false))) sNext) (sSeq (sIf (wTru (wVar 8)) sCont sNext) (sSeq (sIf (wOrT (wNotT (wTru (w1 (pIsi ["list"]) (wVar 9)))) (wOrT (wTt (wOp pNe2 (w1 pLen (wVar 9)) (wVar 5))) (wTt (wOp (pIs true) (wCall w_is_table (wAName 3 (wAName 9 wANil))) (wC (.bool true)))))) (sRet (wC (.bool false))) sNext) (sSeq (sIf (wNotT (wTru (wCall w__law_alike_right (wAName 3 (wAName 6 (wAName 9 wANil)))))) (sRet (wC (.bool false))) sNext) (sSeq (sSet (fz (w1L pListA (wVar 9))) 10) (sSeq (sApp 9 (wC .none)) (sIf (wTt (wOp pNe2 (wCall (fzO w__law_told) (wAName 3 (wAName 4 (wAName 5 wANil)))) (wVar 10))) (sRet (wC (.bool false))) sNext)))))))) [none, some .p, x2, some (.d (schD K rules keys)), some (.d (.str (tx X))), some (.d (.int (cnt : Nat))), some (.d (.str (tx (clos K rules keys X)))), some (.d (.str (schD K rules keys).shown)), some (.d (.bool (barB K rules keys X cnt))), x9, x10, x11] n N R B C := fun x11 => by
    have tail : ∀ (x9 : Option Sl) (N' : En → Nat → Prop), (N' [none, some .p, x2, some (.d (schD K rules keys)), some (.d (.str (tx X))), some (.d (.int (cnt : Nat))), some (.d (.str (tx (clos K rules keys X)))), some (.d (.str (schD K rules keys).shown)), some (.d (.bool (barB K rules keys X cnt))), x9, x10, x11] n) →
        ME (wOrT (wTt (wOp pNe2 (w1 pRepr2 (wVal 3)) (wVar 7))) (wTt (wOp pNe2 (wCall w_closure (wAName 3 (wAName 4 wANil))) (wVar 6)))) [none, some .p, x2, some (.d (schD K rules keys)), some (.d (.str (tx X))), some (.d (.int (cnt : Nat))), some (.d (.str (tx (clos K rules keys X)))), some (.d (.str (schD K rules keys).shown)), some (.d (.bool (barB K rules keys X cnt))), x9, x10, x11] n
        (fun c m => (c = true → MS (sRet (wC (.bool false))) [none, some .p, x2, some (.d (schD K rules keys)), some (.d (.str (tx X))), some (.d (.int (cnt : Nat))), some (.d (.str (tx (clos K rules keys X)))), some (.d (.str (schD K rules keys).shown)), some (.d (.bool (barB K rules keys X cnt))), x9, x10, x11] m N' R B C) ∧
          (c = false → MS sNext [none, some .p, x2, some (.d (schD K rules keys)), some (.d (.str (tx X))), some (.d (.int (cnt : Nat))), some (.d (.str (tx (clos K rules keys X)))), some (.d (.str (schD K rules keys).shown)), some (.d (.bool (barB K rules keys X cnt))), x9, x10, x11] m N' R B C)) := fun x9 N' q => by
      (repeat walk_at "s")
      refine m_repr2 (B := 1900) (D := 3) (by omega) (by omega) ?_
      (repeat walk_at "s")
      refine ⟨fs, ?_⟩
      (repeat walk_at "s")
      refine ⟨_, ne2_str _ _, ?_⟩
      rw [decide_eq_true rfl]
      walk_at "r"
      walk_at "f"
      (repeat walk_at "s")
      refine closure_run2 hK r2 k2 hX ?_
      (repeat walk_at "s")
      refine ⟨_, ne2_str _ _, ?_⟩
      rw [decide_eq_true rfl]
      walk_at "r"
      walk_at "f"
      walk_at "s"
      exact q
    walk_at "s"
    refine n_setO ?_
    (repeat walk_at "s")
    refine told_run (by omega) hK r2 k2 hX (fun hb => ?_) fun hb => ?_
    · walk_at "s"
      (repeat walk_at "s")
      refine ⟨_, eq_str _ _, ?_⟩
      (repeat walk_at "s")
      refine ⟨_, ne_bools _ _, ?_⟩
      rw [hb]
      walk_at "r"
      walk_at "f"
      have t := fun N2 => tail (some (.d (.str "none"))) N2
      rw [hb] at t
      refine t _ ?_
      walk_at "s"
      (repeat walk_at "s")
      walk_at "r"
      walk_at "t"
      have c := hC (some (.d (.bool true))) (some (.d (.str "none"))) x10 x11
      exact n_cont c
    · walk_at "s"
      (repeat walk_at "s")
      refine ⟨_, eq_str _ _, ?_⟩
      (repeat walk_at "s")
      refine ⟨_, ne_bools _ _, ?_⟩
      rw [hb]
      walk_at "r"
      walk_at "f"
      have t := fun N2 => tail (some (.l ((alikeT K (clos K rules keys X) cnt).map tI))) N2
      rw [hb] at t
      refine t _ ?_
      walk_at "s"
      (repeat walk_at "s")
      walk_at "r"
      walk_at "f"
      walk_at "s"
      have lR : ((alikeT K (clos K rules keys X) cnt).map tI).length = cnt := by rw [List.length_map]; unfold alikeT; rw [List.length_map, List.length_range]
      walk_at "s"
      (repeat walk_at "s")
      refine ⟨_, rfl, ?_⟩
      walk_at "r"
      walk_at "f"
      (repeat walk_at "s")
      refine ⟨.int (cnt : Nat), by show some (PyData.int ((((alikeT K (clos K rules keys X) cnt).map tI).length : Nat) : Int)) = _; rw [lR], ?_⟩
      (repeat walk_at "s")
      refine ⟨_, ne2_int _ _, ?_⟩
      rw [decide_eq_true rfl]
      walk_at "r"
      walk_at "f"
      (repeat walk_at "s")
      refine is_table_runR hK r2 k2 (by omega) ?_
      rw [isTab_tI alike_len, alike_tab hK r2 k2 hX hb]
      (repeat walk_at "s")
      refine ⟨.bool false, rfl, ?_⟩
      walk_at "r"
      walk_at "f"
      walk_at "s"
      walk_at "s"
      (repeat walk_at "s")
      refine alike_right_run (by omega) hK sC ?_
      walk_at "r"
      walk_at "f"
      walk_at "s"
      walk_at "s"
      (repeat walk_at "s")
      refine ⟨(alikeT K (clos K rules keys X) cnt).map tI, rfl, ?_⟩
      walk_at "s"
      refine n_app rfl ?_
      (repeat walk_at "s")
      refine ⟨by rw [lR, sizeLine_eq]; omega, ?_⟩
      (repeat walk_at "s")
      refine md_fz (told_run (by omega) hK r2 k2 hX (fun hb2 => by rw [hb] at hb2; cases hb2) fun _ => ?_)
      (repeat walk_at "s")
      refine ⟨_, ne_rows _, ?_⟩
      walk_at "r"
      walk_at "f"
      (repeat walk_at "s")
      exact hN _ _ _ _
  walk_at "s"
  (repeat walk_at "s")
  refine ⟨.bool (decide (1 < cnt)), ?_, ?_⟩
  · show some (PyData.bool (decide ((cnt : Int) > 1))) = _
    refine congrArg (fun b => some (PyData.bool b)) ?_
    rw [Bool.eq_iff_iff, decide_eq_true_eq, decide_eq_true_eq]
    omega
  · walk_at "r"
    refine ⟨fun h => ?_, fun h => ?_⟩
    · (repeat walk_at "s")
      refine m_lcM keys keD (fun k => .bool (inB k (clos K rules keys X))) ?_
      (repeat walk_at "s")
      refine ⟨_, ix_t2 _ _ _ _, ?_⟩
      refine ⟨_, rfl, rfl, by rw [sizeLine_eq]; have := hY.few; omega, fun k hk => ⟨_, rfl, fun m => ?_⟩, ?_⟩
      · (repeat walk_at "s")
        exact all_in_run (Nat.le_trans (hY.one k hk).1.length_le (by omega)) ⟨rfl, rfl⟩
      · refine ⟨_, in_true _ keys, ?_⟩
        have e : barB K rules keys X cnt = keys.any fun k => inB k (clos K rules keys X) := by
          unfold barB uqB
          rw [h]
          rfl
        rw [← e]
        exact go _
    · have e : barB K rules keys X cnt = false := by
        unfold barB
        rw [h]
        rfl
      have g := go x11
      rw [e] at g
      rw [h]
      exact g
theorem law_run (hn : 2147480000 ≤ n) : MS t_law ((List.replicate N_law.length none).set 1 (some .p)) n (fun _ _ => False) (fun d _ => d = .bool true) noEnd noEnd := by
  unfold t_law
  walk_at "s"
  refine n_for ?_
  (repeat walk_at "s")
  refine ⟨8, rfl, by decide, by decide, fun rest e m => ∃ (x2 x3 x4 x5 x6 x7 x8 x9 x10 x11 : Option Sl), rest.length ≤ 8 ∧ n ≤ m + (8 - rest.length) * 300 ∧ e = [none, some .p, x2, x3, x4, x5, x6, x7, x8, x9, x10, x11],
    ⟨none, none, none, none, none, none, none, none, none, none, by decide, by omega, rfl⟩, fun x rest e m hI => ?_, fun e m hI => ?_⟩
  case refine_2 =>
    obtain ⟨x2, x3, x4, x5, x6, x7, x8, x9, x10, x11, _, _, rfl⟩ := hI
    (repeat walk_at "s")
    rfl
  obtain ⟨x2, x3, x4, x5, x6, x7, x8, x9, x10, x11, hl, hm, rfl⟩ := hI
  rw [List.length_cons] at hl hm
  refine ⟨_, rfl, ?_⟩
  walk_at "s"
  (repeat walk_at "s")
  refine draw_schema_run (most := 5) (by omega) (by omega) (by omega) fun K rules keys m1 hK hlow _ hr hk hm1 => ?_
  have h5 := hK.few
  have fs := fit_sch hK hr hk
  walk_at "s"
  (repeat walk_at "s")
  refine ⟨_, ix_t0 _ _, ?_⟩
  (repeat walk_at "s")
  refine subset_run (by rw [Ls_tx]; omega) (by rw [Ls_tx]; omega) fun X m2 hX hm2 => ?_
  rw [Ls_tx] at hX hm2
  (repeat walk_at "s")
  refine take_nat (k := 31) (by decide) (by decide) (by omega) fun r31 h31 => ?_
  (repeat walk_at "s")
  refine ⟨by show 5 ≤ sizeLine; decide, ?_⟩
  (repeat walk_at "s")
  refine take_nat (k := 5) (by decide) (by decide) (by omega) fun r5 h5' => ?_
  have hcnt : ∃ cnt : Nat, ([PyData.int 0, .int 1, .int 2, .int 3, .int (r31 : Nat)])[r5]'h5' = .int (cnt : Nat) ∧ cnt ≤ 30 := by
    match r5, h5' with
    | 0, _ => exact ⟨0, rfl, by omega⟩
    | 1, _ => exact ⟨1, rfl, by omega⟩
    | 2, _ => exact ⟨2, rfl, by omega⟩
    | 3, _ => exact ⟨3, rfl, by omega⟩
    | 4, _ => exact ⟨r31, rfl, by omega⟩
  obtain ⟨cnt, ec, hc⟩ := hcnt
  refine ⟨_, ix_nat h5', ?_⟩
  rw [ec]
  walk_at "s"
  (repeat walk_at "s")
  refine law_closure_run2 hK hr.two hk.two (fun c hc => hX.subset hc) (by have := hX.length_le; omega) ?_
  rw [filter_self (cols_nodup hK) hX]
  (repeat walk_at "s")
  refine m_repr2 (B := 1900) (D := 3) (by omega) (by omega) ?_
  (repeat walk_at "s")
  refine ⟨fs, ?_⟩
  (repeat walk_at "s")
  refine ⟨by show 2 ≤ sizeLine; decide, ?_⟩
  refine ⟨[none, some .p, some (.d x), some (.d (schD K rules keys)), some (.d (.str (tx X))), some (.d (.int (cnt : Nat))), some (.d (.str (tx (clos K rules keys X)))), some (.d (.str (schD K rules keys).shown)), x8, x9, x10, x11], rfl, ?_⟩
  refine turn_body hc hK hr hk hX (fun x8 x9 x10 x11 => ?_) fun x8 x9 x10 x11 => ?_
  · exact ⟨_, _, _, _, _, _, _, _, _, _, by omega, by omega, rfl⟩
  · exact ⟨_, _, _, _, _, _, _, _, _, _, by omega, by omega, rfl⟩
end
theorem holds : LawHolds := law_run (n := 2147483648) (by decide) { nx := fun _ _ => False, rt := fun d _ => d = .bool true } 2147483648 (Nat.le_refl _) (fun _ _ _ h _ => h) (fun _ _ _ h _ => h) (fun _ _ _ h _ => h.elim) (fun _ _ _ h _ => h.elim)
end Lw
namespace Lw
open PySem PySem.Spec PyProof.Rows L2 Pu
abbrev N__law_spread : List Str := ["cell", "at", "primes", "one", "two", "three"]
theorem sc__law_spread : FnScope N__law_spread ["cell", "at"] (defScope s__law_spread) := ⟨rfl, rfl, rfl, by decide +kernel, rfl, by decide +kernel, by decide +kernel⟩
abbrev N__law_subset : List Str := ["pen", "columns", "column"]
theorem sc__law_subset : FnScope N__law_subset ["pen", "columns"] (defScope s__law_subset) := ⟨rfl, rfl, rfl, by decide +kernel, rfl, by decide +kernel, by decide +kernel⟩
abbrev N__law_draw_schema : List Str := ["pen", "most", "letters", "columns", "rules", "keys", "again", "right", "left", "one", "k"]
theorem sc__law_draw_schema : FnScope N__law_draw_schema ["pen", "most"] (defScope s__law_draw_schema) := ⟨rfl, rfl, rfl, by decide +kernel, rfl, by decide +kernel, by decide +kernel⟩
abbrev N_contains : List Str := ["columns", "part", "column"]
theorem sc_contains : FnScope N_contains ["columns", "part"] (defScope s_contains) := ⟨rfl, rfl, rfl, by decide +kernel, rfl, by decide +kernel, by decide +kernel⟩
abbrev N__has_key : List Str := ["columns", "keys", "key"]
theorem sc__has_key : FnScope N__has_key ["columns", "keys"] (defScope s__has_key) := ⟨rfl, rfl, rfl, by decide +kernel, rfl, by decide +kernel, by decide +kernel⟩
abbrev N_common : List Str := ["columns", "names", "column"]
theorem sc_common : FnScope N_common ["columns", "names"] (defScope s_common) := ⟨rfl, rfl, rfl, by decide +kernel, rfl, by decide +kernel, by decide +kernel⟩
abbrev N__closure_round : List Str := ["schema", "found", "names", "rules", "keys", "gained", "left", "right"]
theorem sc__closure_round : FnScope N__closure_round ["schema", "found"] (defScope s__closure_round) := ⟨rfl, rfl, rfl, by decide +kernel, rfl, by decide +kernel, by decide +kernel⟩
abbrev N_closure : List Str := ["schema", "columns", "found", "_"]
theorem sc_closure : FnScope N_closure ["schema", "columns"] (defScope s_closure) := ⟨rfl, rfl, rfl, by decide +kernel, rfl, by decide +kernel, by decide +kernel⟩
abbrev N_is_unique : List Str := ["schema", "columns"]
theorem sc_is_unique : FnScope N_is_unique ["schema", "columns"] (defScope s_is_unique) := ⟨rfl, rfl, rfl, by decide +kernel, rfl, by decide +kernel, by decide +kernel⟩
abbrev N_alike_table : List Str := ["schema", "columns", "count", "same", "at", "name"]
theorem sc_alike_table : FnScope N_alike_table ["schema", "columns", "count"] (defScope s_alike_table) := ⟨rfl, rfl, rfl, by decide +kernel, rfl, by decide +kernel, by decide +kernel⟩
abbrev N__law_told : List Str := ["schema", "columns", "count", "caught", "told", "e", "some"]
theorem sc__law_told : FnScope N__law_told ["schema", "columns", "count"] (defScope s__law_told) := ⟨rfl, rfl, rfl, by decide +kernel, rfl, by decide +kernel, by decide +kernel⟩
abbrev N__law_all_in : List Str := ["some", "columns", "column"]
theorem sc__law_all_in : FnScope N__law_all_in ["some", "columns"] (defScope s__law_all_in) := ⟨rfl, rfl, rfl, by decide +kernel, rfl, by decide +kernel, by decide +kernel⟩
abbrev N__law_closure : List Str := ["schema", "columns", "found", "before", "left", "right", "one", "column"]
theorem sc__law_closure : FnScope N__law_closure ["schema", "columns"] (defScope s__law_closure) := ⟨rfl, rfl, rfl, by decide +kernel, rfl, by decide +kernel, by decide +kernel⟩
abbrev N__law_alike_right : List Str := ["schema", "columns", "rows", "k", "row", "other", "same", "j", "column"]
theorem sc__law_alike_right : FnScope N__law_alike_right ["schema", "columns", "rows"] (defScope s__law_alike_right) := ⟨rfl, rfl, rfl, by decide +kernel, rfl, by decide +kernel, by decide +kernel⟩
abbrev N_projected : List Str := ["columns", "part", "rows", "places", "column", "row", "place"]
theorem sc_projected : FnScope N_projected ["columns", "part", "rows"] (defScope s_projected) := ⟨rfl, rfl, rfl, by decide +kernel, rfl, by decide +kernel, by decide +kernel⟩
abbrev N__keeps_key : List Str := ["columns", "key", "table", "groups"]
theorem sc__keeps_key : FnScope N__keeps_key ["columns", "key", "table"] (defScope s__keeps_key) := ⟨rfl, rfl, rfl, by decide +kernel, rfl, by decide +kernel, by decide +kernel⟩
abbrev N_is_plain_integer : List Str := ["value"]
theorem sc_is_plain_integer : FnScope N_is_plain_integer ["value"] (defScope s_is_plain_integer) := ⟨rfl, rfl, rfl, by decide +kernel, rfl, by decide +kernel, by decide +kernel⟩
abbrev N__is_row : List Str := ["columns", "value", "part"]
theorem sc__is_row : FnScope N__is_row ["columns", "value"] (defScope s__is_row) := ⟨rfl, rfl, rfl, by decide +kernel, rfl, by decide +kernel, by decide +kernel⟩
abbrev N__keeps_rule : List Str := ["columns", "rule", "table", "left", "right", "found", "group", "worth"]
theorem sc__keeps_rule : FnScope N__keeps_rule ["columns", "rule", "table"] (defScope s__keeps_rule) := ⟨rfl, rfl, rfl, by decide +kernel, rfl, by decide +kernel, by decide +kernel⟩
abbrev N_is_table : List Str := ["schema", "value", "columns", "rules", "keys", "row", "rule", "key"]
theorem sc_is_table : FnScope N_is_table ["schema", "value"] (defScope s_is_table) := ⟨rfl, rfl, rfl, by decide +kernel, rfl, by decide +kernel, by decide +kernel⟩
theorem sc_law : FnScope N_law ["script"] (defScope s_law) := ⟨rfl, rfl, rfl, by decide +kernel, rfl, by decide +kernel, by decide +kernel⟩
/-- what the top has left -/
structure Txt (P : Program) (w : World) (base : Heap) (K : PySem.W.Frag) (mg : Str → Option Value) where
  a__law_open : Addr
  d__law_open : FuncData
  F__law_open : Fun K "_law_open" "_law_open" s__law_open a__law_open d__law_open
  g__law_open : mg "_law_open" = some (.ref a__law_open)
  a__law_spread : Addr
  d__law_spread : FuncData
  F__law_spread : Fun K "_law_spread" "_law_spread" s__law_spread a__law_spread d__law_spread
  g__law_spread : mg "_law_spread" = some (.ref a__law_spread)
  a__law_take : Addr
  d__law_take : FuncData
  F__law_take : Fun K "_law_take" "_law_take" s__law_take a__law_take d__law_take
  g__law_take : mg "_law_take" = some (.ref a__law_take)
  a__law_subset : Addr
  d__law_subset : FuncData
  F__law_subset : Fun K "_law_subset" "_law_subset" s__law_subset a__law_subset d__law_subset
  g__law_subset : mg "_law_subset" = some (.ref a__law_subset)
  a__law_draw_schema : Addr
  d__law_draw_schema : FuncData
  F__law_draw_schema : Fun K "_law_draw_schema" "_law_draw_schema" s__law_draw_schema a__law_draw_schema d__law_draw_schema
  g__law_draw_schema : mg "_law_draw_schema" = some (.ref a__law_draw_schema)
  a_contains : Addr
  d_contains : FuncData
  F_contains : Fun K "contains" "contains" s_contains a_contains d_contains
  g_contains : mg "contains" = some (.ref a_contains)
  a__has_key : Addr
  d__has_key : FuncData
  F__has_key : Fun K "_has_key" "_has_key" s__has_key a__has_key d__has_key
  g__has_key : mg "_has_key" = some (.ref a__has_key)
  a_common : Addr
  d_common : FuncData
  F_common : Fun K "common" "common" s_common a_common d_common
  g_common : mg "common" = some (.ref a_common)
  a__closure_round : Addr
  d__closure_round : FuncData
  F__closure_round : Fun K "_closure_round" "_closure_round" s__closure_round a__closure_round d__closure_round
  g__closure_round : mg "_closure_round" = some (.ref a__closure_round)
  a_closure : Addr
  d_closure : FuncData
  F_closure : Fun K "closure" "closure" s_closure a_closure d_closure
  g_closure : mg "closure" = some (.ref a_closure)
  a_is_unique : Addr
  d_is_unique : FuncData
  F_is_unique : Fun K "is_unique" "is_unique" s_is_unique a_is_unique d_is_unique
  g_is_unique : mg "is_unique" = some (.ref a_is_unique)
  a_alike_table : Addr
  d_alike_table : FuncData
  F_alike_table : Fun K "alike_table" "alike_table" s_alike_table a_alike_table d_alike_table
  g_alike_table : mg "alike_table" = some (.ref a_alike_table)
  a__law_told : Addr
  d__law_told : FuncData
  F__law_told : Fun K "_law_told" "_law_told" s__law_told a__law_told d__law_told
  g__law_told : mg "_law_told" = some (.ref a__law_told)
  a__law_all_in : Addr
  d__law_all_in : FuncData
  F__law_all_in : Fun K "_law_all_in" "_law_all_in" s__law_all_in a__law_all_in d__law_all_in
  g__law_all_in : mg "_law_all_in" = some (.ref a__law_all_in)
  a__law_closure : Addr
  d__law_closure : FuncData
  F__law_closure : Fun K "_law_closure" "_law_closure" s__law_closure a__law_closure d__law_closure
  g__law_closure : mg "_law_closure" = some (.ref a__law_closure)
  a__law_alike_right : Addr
  d__law_alike_right : FuncData
  F__law_alike_right : Fun K "_law_alike_right" "_law_alike_right" s__law_alike_right a__law_alike_right d__law_alike_right
  g__law_alike_right : mg "_law_alike_right" = some (.ref a__law_alike_right)
  a_projected : Addr
  d_projected : FuncData
  F_projected : Fun K "projected" "projected" s_projected a_projected d_projected
  g_projected : mg "projected" = some (.ref a_projected)
  a__keeps_key : Addr
  d__keeps_key : FuncData
  F__keeps_key : Fun K "_keeps_key" "_keeps_key" s__keeps_key a__keeps_key d__keeps_key
  g__keeps_key : mg "_keeps_key" = some (.ref a__keeps_key)
  a_is_plain_integer : Addr
  d_is_plain_integer : FuncData
  F_is_plain_integer : Fun K "is_plain_integer" "is_plain_integer" s_is_plain_integer a_is_plain_integer d_is_plain_integer
  g_is_plain_integer : mg "is_plain_integer" = some (.ref a_is_plain_integer)
  a__is_row : Addr
  d__is_row : FuncData
  F__is_row : Fun K "_is_row" "_is_row" s__is_row a__is_row d__is_row
  g__is_row : mg "_is_row" = some (.ref a__is_row)
  a__keeps_rule : Addr
  d__keeps_rule : FuncData
  F__keeps_rule : Fun K "_keeps_rule" "_keeps_rule" s__keeps_rule a__keeps_rule d__keeps_rule
  g__keeps_rule : mg "_keeps_rule" = some (.ref a__keeps_rule)
  a_is_table : Addr
  d_is_table : FuncData
  F_is_table : Fun K "is_table" "is_table" s_is_table a_is_table d_is_table
  g_is_table : mg "is_table" = some (.ref a_is_table)
  a_law : Addr
  d_law : FuncData
  F_law : Fun K "law" "law" s_law a_law d_law
  g_law : mg "law" = some (.ref a_law)
  n_all : mg "all" = none
  n_any : mg "any" = none
  n_bool : mg "bool" = none
  n_enumerate : mg "enumerate" = none
  n_int : mg "int" = none
  n_isinstance : mg "isinstance" = none
  n_len : mg "len" = none
  n_list : mg "list" = none
  n_range : mg "range" = none
  n_repr : mg "repr" = none
  n_set : mg "set" = none
  n_tuple : mg "tuple" = none
  n_zip : mg "zip" = none
  a_NoTable : Addr
  g_NoTable : mg "NoTable" = some (.ref a_NoTable)
  a_OpentiesError : Addr
  g_OpentiesError : mg "OpentiesError" = some (.ref a_OpentiesError)
  a_NoRun : Addr
  g_NoRun : mg "NoRun" = some (.ref a_NoRun)
  a_InvalidRow : Addr
  g_InvalidRow : mg "InvalidRow" = some (.ref a_InvalidRow)
  a_InvalidScript : Addr
  g_InvalidScript : mg "InvalidScript" = some (.ref a_InvalidScript)
  x_NoTable : PySem.W.excIn K a_NoTable He.veBase "ValueError.__new__" = true
  kp_NoTable : PySem.W.keepIn K (.ref a_NoTable) = true
  bs_NoTable : PySem.W.subIn K (.ref a_NoTable) (.type "BaseException") = some true
  ty_NoTable : PySem.W.typeIn K (.ref a_NoTable) = some (.type "type")
  i_NoTable : ExcC K a_NoTable
  e_NoTable_OpentiesError : PySem.W.exmOne K (.ref a_NoTable) (.ref a_OpentiesError) = some true
  k_NoTable_NoTable : PySem.W.kitOne K (.ref a_NoTable) (.ref a_NoTable) = some true
  k_NoTable_NoRun : PySem.W.kitOne K (.ref a_NoTable) (.ref a_NoRun) = some false
  k_NoTable_InvalidRow : PySem.W.kitOne K (.ref a_NoTable) (.ref a_InvalidRow) = some false
  k_NoTable_InvalidScript : PySem.W.kitOne K (.ref a_NoTable) (.ref a_InvalidScript) = some false
theorem sc__law_open : FnScope ["script", "cells", "k", "cell"] ["script"] (defScope s__law_open) := ⟨rfl, rfl, rfl, by decide +kernel, rfl, by decide +kernel, by decide +kernel⟩
section
variable {P : Program} {w : World} {K : PySem.W.Frag} {mg : Str → Option Value} {base : Heap}
theorem b__law_open (T : Txt P w base K mg) : Binds K T.d__law_open ["script"] [] := T.F__law_open.binds fun _ _ _ _ _ _ us hl => match us, hl with | [_], _ => rfl
theorem ok__law_open (T : Txt P w base K mg) : FnOk P w K mg base CX0 1 T.a__law_open T.d__law_open ["script"] (spOpen K) := by
  refine T.F__law_open.ok sc__law_open (fun vs H Q E h => ?_) (fun cdv A outer s H vs Q E hr h => ?_)
  · obtain ⟨a, ns, rfl, _⟩ := h
    rfl
  · obtain ⟨a, ns, rfl, hS, hlen, q⟩ := h
    refine ⟨_, pss_cons (ps_set (i := 1) sc__law_open.nd rfl (.inl rfl) (pe_callTy call_list_of (by rfl) T.n_list (by decide +kernel) (pa_cons (pe_slice sl_list (pv 0) po_none (po_some pe_int)) pa_nil)))
      (pss_cons (ps_for PassesOwn.never rfl (pi_enum (by rfl) T.n_enumerate (pa_cons (pe_slice sl_list (pv 0) (po_some pe_int) (po_some pe_int)) pa_nil)) (pg_tup rfl (pgs_cons (pg_name (i := 2) sc__law_open.nd rfl (.inl rfl)) (pgs_cons (pg_name (i := 3) sc__law_open.nd rfl (.inl rfl)) pgs_nil)))
        (pss_one (ps_asg (pe_op op_add (pe_ix ix_list (pv 1) (pe_op op_mod (pv 2) pe_int) (fun _ _ => rfl)) (pv 3)) (pg_sub (pv 1) (pe_op op_mod (pv 2) pe_int) set_list))))
      (pss_one (ps_ret (pe_lst (pa_cons (pv 1) (pa_cons pe_int (pa_cons pe_int pa_nil))))))), ?_⟩
    have cutI : ∀ lo hi, cutV (ns.map V.int) lo hi = ((ns.drop (HT.sIx ns.length 0 lo)).take (HT.sIx ns.length ns.length hi - HT.sIx ns.length 0 lo)).map V.int := fun lo hi => by
      unfold cutV
      rw [List.length_map, ← List.map_drop, ← List.map_take]
    -- cells = list(script[:12])
    refine ⟨.ref a, rfl, 12, rfl, a, _, rfl, hS, fun c1 n1 => ?_⟩
    refine ⟨c1, _, rfl, .inl (SqL.of upd_same), fun ca nca => ?_⟩
    have s1 : Same H (upd (upd H c1 (.lst (cutV (ns.map V.int) none (some 12)))) ca (.lst (cutV (ns.map V.int) none (some 12)))) := (same_new n1).trans (same_new nca)
    have hca : H ca = none := (same_new n1).free nca
    -- script[12:63]
    refine ⟨.ref a, rfl, 12, rfl, 63, rfl, a, _, rfl, s1.seq hS, fun c2 n2 => ?_⟩
    have n2' : H c2 = none := s1.free n2
    have s2 : Same H (upd (upd (upd H c1 (.lst (cutV (ns.map V.int) none (some 12)))) ca (.lst (cutV (ns.map V.int) none (some 12)))) c2 (.lst (cutV (ns.map V.int) (some 12) (some 63)))) := s1.trans (same_new n2)
    have ne2 : ca ≠ c2 := fun z => by rw [← z, upd_same] at n2; cases n2
    rw [cutI, cutI] at *
    generalize hA : (ns.drop (HT.sIx ns.length 0 none)).take (HT.sIx ns.length ns.length (some 12) - HT.sIx ns.length 0 none) = A at *
    generalize hB : (ns.drop (HT.sIx ns.length 0 (some 12))).take (HT.sIx ns.length ns.length (some 63) - HT.sIx ns.length 0 (some 12)) = B at *
    have lA : A.length = min 12 ns.length := by
      rw [← hA, HT.sIx_none, show HT.sIx ns.length ns.length (some 12) = min 12 ns.length from HT.sIx_nat _ _ 12, List.length_take, List.length_drop]
      omega
    have lB : B.length = ns.length - 12 := by
      rw [← hB, show HT.sIx ns.length 0 (some 12) = min 12 ns.length from HT.sIx_nat _ _ 12, show HT.sIx ns.length ns.length (some 63) = min 63 ns.length from HT.sIx_nat _ _ 63, List.length_take, List.length_drop]
      omega
    refine ⟨c2, B.map V.int, rfl, SqL.of upd_same, ?_⟩
    refine ⟨fun i m σ H3 => ∃ (y2 y3 : Option V) (cells : List Int), σ = [some (.ref a), some (.ref ca), y2, y3] ∧ i + m = B.length ∧ Same H H3 ∧ H3 c2 = some (.lst (B.map V.int)) ∧ H3 ca = some (.lst (cells.map V.int)) ∧ cells.length = A.length,
      ⟨B.length, none, none, A, rfl, by omega, s2, upd_same, by rw [upd_ne ne2, upd_same], rfl⟩, fun i m σ H3 hW => ?_⟩
    obtain ⟨y2, y3, cells, rfl, em, sm, ec2, eca, lc⟩ := hW
    by_cases hi : i < B.length
    · have g1 : (B.map V.int)[i]? = some (.int B[i]) := by rw [List.getElem?_map, List.getElem?_eq_getElem hi]; rfl
      refine .inr ⟨⟨_, _, SqL.of ec2, g1⟩, fun σ' H' => ∃ (y2 y3 : Option V) (cells : List Int), σ' = [some (.ref a), some (.ref ca), y2, y3] ∧ Same H H' ∧ H' c2 = some (.lst (B.map V.int)) ∧ H' ca = some (.lst (cells.map V.int)) ∧ cells.length = A.length, fun σ' H' hN => ?_, fun x H' hy => ?_⟩
      · obtain ⟨z2, z3, cs, e, h1, h2, h3, h4⟩ := hN
        exact ⟨m - 1, by omega, z2, z3, cs, e, by omega, h1, h2, h3, h4⟩
      · obtain ⟨Tp, x1, rfl, nT, rfl, f1⟩ := hy
        have ex1 : x1 = .int B[i] := Option.some.inj ((f1 _ (SqL.of ec2)).symm.trans g1)
        subst ex1
        have nTc : c2 ≠ Tp := ne_of_none ec2 nT
        have nTa : ca ≠ Tp := ne_of_none eca nT
        have l12 : cells.length = 12 := by rw [lc, lA]; omega
        have k0 : (0 : Int) ≤ (i : Nat) % 12 := Int.emod_nonneg _ (by decide)
        have k1 := Int.emod_lt_of_pos ((i : Nat) : Int) (show (0 : Int) < 12 by decide)
        generalize hk : ((i : Nat) : Int) % 12 = k at k0 k1
        have hl : k.toNat < cells.length := by omega
        have hat : atI (cells.map V.int) k = some (.int cells[k.toNat]) := by
          have := atI_nat (j := k.toNat) (xs := cells.map V.int) (v := .int cells[k.toNat]) (by rw [List.getElem?_map, List.getElem?_eq_getElem hl]; rfl)
          rw [Int.toNat_of_nonneg k0] at this
          exact this
        have hix : ixN (cells.map V.int).length k = some k.toNat := by
          unfold ixN
          rw [if_pos k0, if_pos (by rw [List.length_map]; omega)]
        have ecaT : (upd H3 Tp (.tup [.int (i : Nat), .int B[i]])) ca = some (.lst (cells.map V.int)) := by rw [upd_ne nTa]; exact eca
        refine ⟨Tp, _, rfl, SqT.of upd_same, rfl, _, _, rfl, _, _, rfl, rfl, ?_⟩
        refine ⟨_, rfl, _, rfl, _, 12, rfl, rfl, (show (0 : Int) < 12 by decide), ca, _, k, _, rfl, congrArg V.int hk, SqL.of ecaT, hat, _, rfl, _, _, rfl, rfl, ?_⟩
        refine ⟨_, rfl, _, rfl, _, 12, rfl, rfl, (show (0 : Int) < 12 by decide), ca, _, k, k.toNat, rfl, congrArg V.int hk, ecaT, hix, ?_⟩
        refine ⟨_, _, cells.set k.toNat (cells[k.toNat] + B[i]), rfl, fun b z e => ?_, ?_, ?_, by rw [List.length_set]; exact lc⟩
        · have nb : b ≠ ca := fun zz => by rw [zz, hca] at e; cases e
          have nb2 : b ≠ Tp := ne_of_none (sm _ _ e) nT
          rw [upd_ne nb, upd_ne nb2]; exact sm _ _ e
        · rw [upd_ne (Ne.symm ne2), upd_ne nTc]; exact ec2
        · rw [upd_same, List.map_set]
    · refine .inl ⟨⟨_, SqL.of ec2, by rw [List.length_map]; omega⟩, ?_⟩
      refine ⟨.ref ca, rfl, (by show 3 ≤ sizeLine; decide), fun pa np => ?_⟩
      have npa : ca ≠ pa := ne_of_none eca np
      exact q _ pa ca cells (sm.trans (same_new np)) (Ne.symm npa) (sm.free np) hca upd_same (by rw [upd_ne npa]; exact eca) (by rw [lc, lA]; omega)
end
section
variable {P : Program} {w : World} {K : PySem.W.Frag} {mg : Str → Option Value} {base : Heap}
theorem b__law_spread (T : Txt P w base K mg) : Binds K T.d__law_spread ["cell", "at"] [] := T.F__law_spread.binds fun _ _ _ _ _ _ us hl => match us, hl with | [_, _], _ => rfl
theorem ok__law_spread (T : Txt P w base K mg) : FnOk P w K mg base CX0 1 T.a__law_spread T.d__law_spread ["cell", "at"] (spW K w__law_spread) := ok_fn (N := N__law_spread) (k := 0) T.F__law_spread sc__law_spread fun cdv A outer s H E hr => 
  (sb_cons (s_if (t_cmp op_ge o_intB (b_var (pv 0)) (EE.eb (e_op op_pow o_int (EE.eb e_int) (EE.eb e_int))) (nomark _))
  (sb_one (s_ret (e_var (pv 0))))
  sb_nil)
  (sb_cons (s_set (i := 2) sc__law_spread.nd rfl (by first | exact Or.inl rfl | exact Or.inr rfl) (EF.ee (f_lst (d_cons e_int (d_cons e_int (d_cons e_int (d_cons e_int (d_cons e_int (d_cons e_int (d_cons e_int (d_cons e_int d_nil)))))))))))
  (sb_cons (s_set (i := 2) sc__law_spread.nd rfl (by first | exact Or.inl rfl | exact Or.inr rfl) (e_op opr_add o_add (b_var (pv 2)) (EE.eb (EF.ee (f_lst (d_cons e_int (d_cons e_int (d_cons e_int (d_cons e_int (d_cons e_int d_nil))))))))))
  (sb_cons (s_set (i := 3) sc__law_spread.nd rfl (by first | exact Or.inl rfl | exact Or.inr rfl) (e_op op_mod o_int (EE.eb (e_op op_pow o_int (EE.eb (e_op opr_add o_add (EE.eb (e_op opr_add o_add (EE.eb (e_op opr_mulT o_mulT (EE.eb (e_op op_mod o_int (b_var (pv 0)) (EE.eb e_int))) (EE.eb (e_op opr_add o_add (EE.eb (e_op opr_mulT o_mulT (EE.eb e_int) (b_var (pv 1)))) (EE.eb e_int))))) (EE.eb (e_op opr_mulT o_mulT (b_var (pv 1)) (EE.eb e_int))))) (EE.eb e_int))) (EE.eb e_int))) (EE.eb (e_ix (b_var (pv 2)) (EE.eb (e_op op_mod o_int (b_var (pv 1)) (EE.eb e_int))) (fun _ _ => rfl)))))
  (sb_cons (s_set (i := 4) sc__law_spread.nd rfl (by first | exact Or.inl rfl | exact Or.inr rfl) (e_op op_mod o_int (EE.eb (e_op op_pow o_int (EE.eb (e_op opr_add o_add (EE.eb (e_op opr_add o_add (EE.eb (e_op opr_mulT o_mulT (b_var (pv 3)) (EE.eb (e_op opr_add o_add (b_var (pv 1)) (EE.eb e_int))))) (EE.eb (e_op op_mod o_int (b_var (pv 0)) (EE.eb e_int))))) (EE.eb e_int))) (EE.eb e_int))) (EE.eb (e_ix (b_var (pv 2)) (EE.eb (e_op op_mod o_int (EE.eb (e_op opr_add o_add (b_var (pv 1)) (EE.eb e_int))) (EE.eb e_int))) (fun _ _ => rfl)))))
  (sb_cons (s_set (i := 5) sc__law_spread.nd rfl (by first | exact Or.inl rfl | exact Or.inr rfl) (e_op op_mod o_int (EE.eb (e_op op_pow o_int (EE.eb (e_op opr_add o_add (EE.eb (e_op opr_add o_add (b_var (pv 4)) (EE.eb (e_op op_mod o_int (b_var (pv 3)) (EE.eb e_int))))) (b_var (pv 1)))) (EE.eb e_int))) (EE.eb (e_ix (b_var (pv 2)) (EE.eb (e_op op_mod o_int (EE.eb (e_op opr_add o_add (b_var (pv 1)) (EE.eb e_int))) (EE.eb e_int))) (fun _ _ => rfl)))))
  (sb_one (s_ret (e_op opr_add o_add (EE.eb (e_op opr_mulT o_mulT (EE.eb (e_op opr_add o_add (EE.eb (e_op opr_mulT o_mulT (b_var (pv 3)) (EE.eb e_int))) (b_var (pv 4)))) (EE.eb e_int))) (b_var (pv 5)))))))))))
end
theorem ix_run {xs : List PyData} {i : Int} {v : PyData} {P : PyData → Prop} (h : atI xs i = some v) (p : P v) : pIx (.list xs) (.int i) P := by
  unfold pIx; simp only [h]; exact p
abbrev primesL : List PyData := [.int 2147483629, .int 2147483587, .int 2147483579, .int 2147483563, .int 2147483549, .int 2147483543, .int 2147483497, .int 2147483489] ++ [.int 2147483477, .int 2147483423, .int 2147483399, .int 2147483353, .int 2147483323]
theorem primes_at (i : Int) (h0 : 0 ≤ i) (h1 : i < 13) : ∃ p : Int, atI primesL i = some (.int p) ∧ 0 < p ∧ p < 2147483648 := by
  obtain ⟨n, rfl⟩ := Int.eq_ofNat_of_zero_le h0
  have hn : n = 0 ∨ n = 1 ∨ n = 2 ∨ n = 3 ∨ n = 4 ∨ n = 5 ∨ n = 6 ∨ n = 7 ∨ n = 8 ∨ n = 9 ∨ n = 10 ∨ n = 11 ∨ n = 12 := by omega
  rcases hn with rfl | rfl | rfl | rfl | rfl | rfl | rfl | rfl | rfl | rfl | rfl | rfl | rfl <;> exact ⟨_, rfl, by decide, by decide⟩
theorem mulb {a b c d : Int} (h0 : 0 ≤ a) (h1 : a ≤ c) (h2 : 0 ≤ b) (h3 : b ≤ d) : 0 ≤ a * b ∧ a * b ≤ c * d :=
  ⟨Int.mul_nonneg h0 h2, Int.mul_le_mul h1 h3 h2 (Int.le_trans h0 h1)⟩
theorem spread_run (cell at_ : Int) (b : Nat) (P : PyData → Nat → Prop) (h0 : 0 ≤ at_) (h1 : at_ ≤ 4294967296) (h : ∀ r : Int, 0 ≤ r → P (.int r) b) : w__law_spread [.d (.int cell), .d (.int at_)] b P := by
  refine ⟨rfl, ⟨by decide, by decide, by decide⟩, trivial, ite2 (fun e => ?_) (fun e => ?_)⟩
  · have e2 := of_decide_eq_true e
    have e3 : (10 : Int) ^ Int.toNat 18 = 1000000000000000000 := by decide
    rw [e3] at e2
    exact h cell (by omega)
  · have m0 : 0 ≤ cell % 1000000007 := Int.emod_nonneg _ (by decide)
    have m1 : cell % 1000000007 ≤ 1000000006 := by have := Int.emod_lt_of_pos cell (show (0 : Int) < 1000000007 by decide); omega
    have q1 := mulb m0 m1 (show 0 ≤ 2 * at_ + 69069 by omega) (show 2 * at_ + 69069 ≤ 8590003661 by omega)
    obtain ⟨p1, e1, g1, l1⟩ := primes_at (at_ % 13) (Int.emod_nonneg _ (by decide)) (Int.emod_lt_of_pos _ (by decide))
    refine ⟨by decide, by decide, by decide, show (0 : Int) < 1000000007 by decide, .inl (by decide), .inl ⟨by omega, by omega⟩, .inl ⟨by omega, by omega⟩, ⟨by decide, by decide, by omega⟩, show (0 : Int) < 13 by decide, ?_⟩
    refine ix_run e1 ⟨g1, ?_⟩
    generalize hone : ((cell % 1000000007 * (2 * at_ + 69069) + at_ * 40503 + 977) ^ Int.toNat 3) % p1 = one
    have o0 : 0 ≤ one := by rw [← hone]; exact Int.emod_nonneg _ (by omega)
    have o1 : one ≤ 2147483647 := by have := Int.emod_lt_of_pos ((cell % 1000000007 * (2 * at_ + 69069) + at_ * 40503 + 977) ^ Int.toNat 3) g1; omega
    have c0 : 0 ≤ cell % 65537 := Int.emod_nonneg _ (by decide)
    have c1 : cell % 65537 ≤ 65536 := by have := Int.emod_lt_of_pos cell (show (0 : Int) < 65537 by decide); omega
    have q2 := mulb o0 o1 (show 0 ≤ at_ + 3 by omega) (show at_ + 3 ≤ 4294967299 by omega)
    obtain ⟨p2, e2, g2, l2⟩ := primes_at ((at_ + 5) % 13) (Int.emod_nonneg _ (by decide)) (Int.emod_lt_of_pos _ (by decide))
    refine ⟨.inl ⟨by omega, by omega⟩, show (0 : Int) < 65537 by decide, ⟨by decide, by decide, by rw [hone]; omega⟩, show (0 : Int) < 13 by decide, ?_⟩
    refine ix_run e2 ⟨g2, ?_⟩
    generalize htwo : ((one * (at_ + 3) + cell % 65537 + 5) ^ Int.toNat 5) % p2 = two
    have t0 : 0 ≤ two := by rw [← htwo]; exact Int.emod_nonneg _ (by omega)
    have t1 : two ≤ 2147483647 := by have := Int.emod_lt_of_pos ((one * (at_ + 3) + cell % 65537 + 5) ^ Int.toNat 5) g2; omega
    have n0 : 0 ≤ one % 1009 := Int.emod_nonneg _ (by decide)
    have n1 : one % 1009 ≤ 1008 := by have := Int.emod_lt_of_pos one (show (0 : Int) < 1009 by decide); omega
    obtain ⟨p3, e3, g3, l3⟩ := primes_at ((at_ + 7) % 13) (Int.emod_nonneg _ (by decide)) (Int.emod_lt_of_pos _ (by decide))
    refine ⟨show (0 : Int) < 1009 by decide, ⟨by decide, by decide, by rw [hone, htwo]; omega⟩, show (0 : Int) < 13 by decide, ?_⟩
    refine ix_run e3 ⟨g3, .inl ?_, .inl ?_, ?_⟩
    · simp only [hone, htwo]; constructor <;> omega
    · simp only [hone, htwo]; constructor <;> omega
    refine h _ ?_
    simp only [hone, htwo]
    have s0 : 0 ≤ ((two + one % 1009 + at_) ^ Int.toNat 3) % p3 := Int.emod_nonneg _ (by omega)
    omega
theorem sc__law_take : FnScope ["pen", "amount", "at", "cell", "found"] ["pen", "amount"] (defScope s__law_take) := ⟨rfl, rfl, rfl, by decide +kernel, rfl, by decide +kernel, by decide +kernel⟩
section
variable {P : Program} {w : World} {K : PySem.W.Frag} {mg : Str → Option Value} {base : Heap}
theorem b__law_take (T : Txt P w base K mg) : Binds K T.d__law_take ["pen", "amount"] [] := T.F__law_take.binds fun _ _ _ _ _ _ us hl => match us, hl with | [_, _], _ => rfl
theorem ok__law_take (T : Txt P w base K mg) : FnOk P w K mg base CX0 2 T.a__law_take T.d__law_take ["pen", "amount"] (spW K w__law_take) := by
  refine T.F__law_take.ok sc__law_take (fun vs H Q E h => ?_) (fun cdv A outer s H vs Q E hr h => ?_)
  · obtain ⟨pn, F, ss, b, P, o, ar, ⟨n, e, _⟩, _⟩ := h
    rw [ar.len, e]; rfl
  · obtain ⟨pn, F, ss, b, PP, o, ar, ⟨n, rfl, n0, n1, b0, q⟩, k⟩ := h
    match vs, ar with
    | [v1, v2], ⟨⟨_, pq, epn, ev⟩, _, rv2, _, tk⟩ =>
    cases rv2
    subst epn
    subst ev
    obtain ⟨cells, at_, cur, p0⟩ := PenAt.of o (Ext.refl (F := F) (H := H))
    obtain ⟨pa, ca, tb⟩ := pq
    have iv := p0.inv
    have GS := ok__law_spread T
    refine ⟨_, pss_cons (ps_if (pt_cmpR op_lt (pe_ix ix_list (pv 0) pe_int (fun _ _ => rfl)) (pv 1) (nomark _))
        (pss_cons (ps_set (i := 2) sc__law_take.nd rfl (.inl rfl) (pe_ix ix_list (pv 0) pe_int (fun _ _ => rfl)))
        (pss_cons (ps_set (i := 3) sc__law_take.nd rfl (.inl rfl) pe_int)
        (pss_cons (ps_if (pt_cmpR op_lt (pv 2) (pe_callB call_len_seq (by rfl) T.n_len PySem.boot_len (pa_cons (pe_ix ix_list (pv 0) pe_int (fun _ _ => rfl)) pa_nil)) (nomark _))
            (pss_one (ps_set (i := 3) sc__law_take.nd rfl (.inl rfl) (pe_ix ix_list (pe_ix ix_list (pv 0) pe_int (fun _ _ => rfl)) (pv 2) (fun _ _ => rfl))))
            (pss_one (ps_if (pt_cmpR op_gt (pe_callB call_len_seq (by rfl) T.n_len PySem.boot_len (pa_cons (pe_ix ix_list (pv 0) pe_int (fun _ _ => rfl)) pa_nil)) pe_int (nomark _))
              (pss_one (ps_set (i := 3) sc__law_take.nd rfl (.inl rfl) (pe_op op_mod (pe_ix ix_list (pe_ix ix_list (pv 0) pe_int (fun _ _ => rfl)) (pe_op op_mod (pe_op op_add (pe_op op_mul (pv 2) pe_int) pe_int) (pe_callB call_len_seq (by rfl) T.n_len PySem.boot_len (pa_cons (pe_ix ix_list (pv 0) pe_int (fun _ _ => rfl)) pa_nil))) (fun _ _ => rfl)) (pe_op op_add (pe_op op_pow pe_int pe_int) (pv 2)))))
              pss_nil)))
        (pss_cons (ps_asg (pe_op op_add (pv 2) pe_int) (pg_sub (pv 0) pe_int set_list))
        (pss_one (ps_asg (pe_call GS (hr.mono (by decide)) (by rfl) T.g__law_spread T.F__law_spread.kp (b__law_spread T) .nil pass0 (pa_cons (pv 3) (pa_cons (pv 2) pa_nil))) (pg_sub (pv 0) pe_int set_list)))))))
        pss_nil)
      (pss_cons (ps_set (i := 4) sc__law_take.nd rfl (.inl rfl) (pe_op op_mod (pe_ix ix_list (pv 0) pe_int (fun _ _ => rfl)) (pv 1)))
      (pss_cons (ps_asg (pe_op op_fdiv (pe_ix ix_list (pv 0) pe_int (fun _ _ => rfl)) (pv 1)) (pg_sub (pv 0) pe_int set_list))
      (pss_one (ps_ret (pv 4))))), ?_⟩
    -- the end, from any moment at which the pen has turned
    have fin : ∀ (y2 y3 y4 : Option V) (F1 H1 : Hp) (cells1 : List Int) (at1 cur1 : Int), PenAt ⟨pa, ca, tb⟩ (b - 1) F H F1 H1 cells1 at1 cur1 →
        tSeq (tAsg (tOp (rI (fun _ j => 0 < j) fun i j => .int (i % j)) (tOp (rIxL K) (tVar 0) (tC (.int 2))) (tVar 1)) (gName 4))
          (tSeq (tAsg (tOp (rI CDiv fun i j => .int (i / j)) (tOp (rIxL K) (tVar 0) (tC (.int 2))) (tVar 1)) (gSub (tVar 0) (tC (.int 2)) rSetL)) (tRet (tVar 4)))
          { nx := fun _ H' => Q .non H', rt := Q } [some (.ref pa), some (.int n), y2, y3, y4] H1 := fun y2 y3 y4 F1 H1 cells1 at1 cur1 p => by
      refine ⟨_, rfl, pa, _, _, _, rfl, rfl, SqL.of p.pen, rfl, _, rfl, cur1, n, rfl, rfl, n0, ?_⟩
      refine ⟨_, rfl, pa, _, _, _, rfl, rfl, SqL.of p.pen, rfl, _, rfl, cur1, n, rfl, rfl, ⟨n0, n1⟩, ?_⟩
      refine ⟨_, rfl, pa, _, 2, 2, rfl, rfl, p.pen, rfl, ?_⟩
      refine ⟨_, rfl, ?_⟩
      have pt := p.turn (at' := at1) (cur' := cur1 / n) (b' := b - 1) ⟨p.inv.at0, p.inv.most, Int.ediv_nonneg p.inv.cur0 (by omega), p.inv.few⟩
      exact k _ _ F1 _ (b - 1) pt.ok pt.ext (.int _) (q _ (Int.emod_nonneg _ (by omega)) (Int.emod_lt_of_pos _ n0))
    refine ⟨_, rfl, pa, _, _, _, rfl, rfl, SqL.of p0.pen, rfl, _, rfl, cur, n, rfl, rfl, _, rfl, ite2 (fun _ => ?_) (fun _ => ?_)⟩
    · -- a new cell
      refine ⟨_, rfl, pa, _, _, _, rfl, rfl, SqL.of p0.pen, rfl, ?_⟩
      have cont : ∀ (c : Int), tSeq (tAsg (tOp (rI0 fun i j => .int (i + j)) (tVar 2) (tC (.int 1))) (gSub (tVar 0) (tC (.int 1)) rSetL))
          (tAsg (tCall (spW K w__law_spread) [] E0 (tCons (tVar 3) (tCons (tVar 2) tNil))) (gSub (tVar 0) (tC (.int 2)) rSetL))
          { nx := fun σ' H' => (tSeq (tAsg (tOp (rI (fun _ j => 0 < j) fun i j => .int (i % j)) (tOp (rIxL K) (tVar 0) (tC (.int 2))) (tVar 1)) (gName 4))
          (tSeq (tAsg (tOp (rI CDiv fun i j => .int (i / j)) (tOp (rIxL K) (tVar 0) (tC (.int 2))) (tVar 1)) (gSub (tVar 0) (tC (.int 2)) rSetL)) (tRet (tVar 4)))
          { nx := fun _ H' => Q .non H', rt := Q } σ' H'), rt := Q } [some (.ref pa), some (.int n), some (.int at_), some (.int c), none] H := fun c => by
        refine ⟨_, rfl, at_, 1, rfl, rfl, _, rfl, pa, _, 1, 1, rfl, rfl, p0.pen, rfl, ?_⟩
        have p1 := p0.turn (at' := at_ + 1) (cur' := cur) (b' := b - 1) ⟨by have := iv.at0; omega, by have := iv.most; omega, iv.cur0, iv.few⟩
        refine ⟨_, rfl, _, rfl, some ⟨pa, ca, tb⟩, F, [.d (.int c), .d (.int at_)], b - 1, _, p1.ok, ⟨.int c, rfl, .int at_, rfl, tk⟩, spread_run c at_ (b - 1) (fun d b2 => ∃ r : Int, d = .int r ∧ 0 ≤ r ∧ b2 = b - 1) iv.at0 (by have := iv.most; omega) (fun r r0 => ⟨r, rfl, r0, rfl⟩), fun v d F2 H2 b2 o2 x2 rv ⟨r, er, r0, eb⟩ => ?_⟩
        subst er
        subst eb
        cases rv
        obtain ⟨cells2, at2, cur2, p2⟩ := p1.trans o2 x2
        refine ⟨_, rfl, pa, _, 2, 2, rfl, rfl, p2.pen, rfl, ?_⟩
        exact fin _ _ _ F2 _ cells2 at2 r (p2.turn ⟨p2.inv.at0, p2.inv.most, r0, p2.inv.few⟩)
      refine ⟨_, rfl, _, rfl, pa, _, _, _, rfl, rfl, SqL.of p0.pen, rfl, ca, _, rfl, .inl (SqL.of p0.cellsAt), ?_⟩
      refine ⟨_, _, rfl, rfl, _, rfl, ite2 (fun e => ?_) (fun e => ?_)⟩
      · have e1 := of_decide_eq_true e
        rw [List.length_map] at e1
        have a0 := iv.at0
        have hl : at_.toNat < cells.length := by omega
        have hat : atI (cells.map V.int) at_ = some (.int cells[at_.toNat]) := by
          have := atI_nat (j := at_.toNat) (xs := cells.map V.int) (v := .int cells[at_.toNat]) (by rw [List.getElem?_map, List.getElem?_eq_getElem hl]; rfl)
          rw [Int.toNat_of_nonneg a0] at this
          exact this
        refine ⟨_, rfl, pa, _, _, _, rfl, rfl, SqL.of p0.pen, rfl, _, rfl, ca, _, at_, _, rfl, rfl, SqL.of p0.cellsAt, hat, ?_⟩
        exact cont _
      · refine ⟨_, rfl, pa, _, _, _, rfl, rfl, SqL.of p0.pen, rfl, ca, _, rfl, .inl (SqL.of p0.cellsAt), ?_⟩
        refine ⟨_, 0, rfl, rfl, _, rfl, ite2 (fun e => ?_) (fun e => ?_)⟩
        · have e1 := of_decide_eq_true e
          rw [List.length_map] at e1
          have a0 := iv.at0
          have am := iv.most
          refine ⟨_, rfl, pa, _, _, _, rfl, rfl, SqL.of p0.pen, rfl, _, rfl, at_, 5, rfl, rfl, .inl ⟨by omega, by omega⟩, _, 3, rfl, rfl, _, rfl, pa, _, _, _, rfl, rfl, SqL.of p0.pen, rfl, ca, _, rfl, .inl (SqL.of p0.cellsAt), ?_⟩
          have len0 : (0 : Int) < ((cells.map V.int).length : Nat) := by rw [List.length_map]; omega
          have m0 : 0 ≤ (at_ * 5 + 3) % ((cells.map V.int).length : Nat) := Int.emod_nonneg _ (by omega)
          have m1 := Int.emod_lt_of_pos (at_ * 5 + 3) len0
          have lenE : (((cells.map V.int).length : Nat) : Int) = (cells.length : Nat) := by rw [List.length_map]
          generalize hm : (at_ * 5 + 3) % ((cells.map V.int).length : Nat) = m at m0 m1
          have hl : m.toNat < cells.length := by omega
          have hat : atI (cells.map V.int) m = some (.int cells[m.toNat]) := by
            have := atI_nat (j := m.toNat) (xs := cells.map V.int) (v := .int cells[m.toNat]) (by rw [List.getElem?_map, List.getElem?_eq_getElem hl]; rfl)
            rw [Int.toNat_of_nonneg m0] at this
            exact this
          refine ⟨_, _, rfl, rfl, len0, ca, _, _, _, rfl, rfl, SqL.of p0.cellsAt, by rw [hm]; exact hat, 10, 17, rfl, rfl, ⟨by decide, by decide, by decide⟩, _, rfl, _, at_, rfl, rfl, _, _, rfl, rfl, ?_, ?_⟩
          · show (0 : Int) < 10 ^ Int.toNat 17 + at_
            have : (10 : Int) ^ Int.toNat 17 = 100000000000000000 := by decide
            omega
          · exact cont _
        · exact cont 0
    · exact fin _ _ _ F H cells at_ cur (p0.le (by omega))
end
section
variable {P : Program} {w : World} {K : PySem.W.Frag} {mg : Str → Option Value} {base : Heap}
theorem b__law_subset (T : Txt P w base K mg) : Binds K T.d__law_subset ["pen", "columns"] [] := T.F__law_subset.binds fun _ _ _ _ _ _ us hl => match us, hl with | [_, _], _ => rfl
theorem ok__law_subset (T : Txt P w base K mg) : FnOk P w K mg base CX0 3 T.a__law_subset T.d__law_subset ["pen", "columns"] (spW K w__law_subset) := ok_fn (N := N__law_subset) (k := 2) T.F__law_subset sc__law_subset fun cdv A outer s H E hr => 
  (sb_one (s_ret (e_join (EE.eb e_str) (EE.eb (EF.ee (f_lc (own := [("column", 2)]) (g := (.nm 2)) rfl sc__law_subset.nd (i_seqB (b_var (pv 1))) (blkOk_by (N := N__law_subset) (sc := defScope s__law_subset) (by decide +kernel)) (by simp [Tg.slots]) (fun _ _ _ _ _ => (g_nm sc__law_subset.nd rfl (by first | exact Or.inl rfl | exact Or.inr rfl))) (fun _ _ _ _ _ => (ts_one (t_cmp (op_eq2 (hu64 hr)) o_eq2 (EE.eb (e_call (ok__law_take T) (hr.mono (by decide)) (by rfl) T.g__law_take T.F__law_take.kp (b__law_take T) (a_name (pv 0) (a_cons e_int a_nil)))) (EE.eb e_int) (nomark _)))) (fun _ _ _ _ _ => (e_var (pv 2)))))))))
end
section
variable {P : Program} {w : World} {K : PySem.W.Frag} {mg : Str → Option Value} {base : Heap}
theorem b__law_draw_schema (T : Txt P w base K mg) : Binds K T.d__law_draw_schema ["pen", "most"] [] := T.F__law_draw_schema.binds fun _ _ _ _ _ _ us hl => match us, hl with | [_, _], _ => rfl
theorem ok__law_draw_schema (T : Txt P w base K mg) : FnOk P w K mg base CX0 4 T.a__law_draw_schema T.d__law_draw_schema ["pen", "most"] (spW K w__law_draw_schema) := ok_fn (N := N__law_draw_schema) (k := 3) T.F__law_draw_schema sc__law_draw_schema fun cdv A outer s H E hr => 
  (sb_cons (s_set (i := 2) sc__law_draw_schema.nd rfl (by first | exact Or.inl rfl | exact Or.inr rfl) (e_ix (EE.eb (EF.ee (f_lst (d_cons e_str (d_cons e_str (d_cons e_str (d_cons e_str (d_cons e_str (d_cons e_str (d_cons e_str d_nil)))))))))) (EE.eb (e_call (ok__law_take T) (hr.mono (by decide)) (by rfl) T.g__law_take T.F__law_take.kp (b__law_take T) (a_name (pv 0) (a_cons e_int a_nil)))) (fun _ _ => rfl)))
  (sb_cons (s_asg (e_tup (d_cons (e_sl (b_var (pv 2)) o_none (o_some (EE.eb (e_op opr_add o_add (EE.eb e_int) (EE.eb (e_call (ok__law_take T) (hr.mono (by decide)) (by rfl) T.g__law_take T.F__law_take.kp (b__law_take T) (a_name (pv 0) (a_name (pv 1) a_nil)))))))) (d_cons (EF.ee (f_lst d_nil)) (d_cons (EF.ee (f_lst d_nil)) d_nil)))) (g_tp rfl (.cons (pg_name sc__law_draw_schema.nd rfl (by first | exact Or.inl rfl | exact Or.inr rfl)) (by rfl) (.cons (pg_name sc__law_draw_schema.nd rfl (by first | exact Or.inl rfl | exact Or.inr rfl)) (by rfl) (.cons (pg_name sc__law_draw_schema.nd rfl (by first | exact Or.inl rfl | exact Or.inr rfl)) (by rfl) .nil)))))
  (sb_cons (s_for PassesOwn.never rfl (i_rng1 false (by rfl) T.n_range (EE.eb (e_ix (EE.eb (EF.ee (f_lst (d_cons e_int (d_cons e_int (d_cons e_int (d_cons e_int (d_cons e_int d_nil)))))))) (EE.eb (e_call (ok__law_take T) (hr.mono (by decide)) (by rfl) T.g__law_take T.F__law_take.kp (b__law_take T) (a_name (pv 0) (a_cons e_int a_nil)))) (fun _ _ => rfl)))) (g_nm sc__law_draw_schema.nd rfl (by first | exact Or.inl rfl | exact Or.inr rfl))
  (sb_pick (ic := 3) (ip := 0) (ir := 7) (il := 8) sc__law_draw_schema.nd rfl (by first | exact Or.inl rfl | exact Or.inr (Or.inl rfl)) (by decide) (by decide) rfl (by first | exact Or.inl rfl | exact Or.inr (Or.inl rfl)) (by decide) (by decide) rfl rfl (by decide) rfl (by first | exact Or.inl rfl | exact Or.inr rfl) (Or.inl rfl) (by decide) (by decide) (ok__law_take T) (hr.mono (by decide)) (by rfl) T.g__law_take T.F__law_take.kp (b__law_take T) (by decide) (ok__law_subset T) (hr.mono (by decide)) (by rfl) T.g__law_subset T.F__law_subset.kp (b__law_subset T) (by decide) (by rfl) T.n_len (by rfl) (by rfl) (by rfl) (by rfl) (by rfl) (by rfl) (by rfl) (by rfl) (by rfl) (by rfl) (sb_one (s_set (i := 4) sc__law_draw_schema.nd rfl (by first | exact Or.inl rfl | exact Or.inr rfl) (e_op opr_add o_add (b_var (pv 4)) (EE.eb (e_op opr_mulT o_mulT (EE.eb (EF.ee (f_lst (d_cons (e_tup (d_cons (e_var (pv 8)) (d_cons (e_var (pv 7)) d_nil))) d_nil)))) (EE.eb (e_ty1 call_int1 c_int (by rfl) T.n_int (by decide +kernel) (EE.eb (e_cmp (opr_ni2 (hu64 hr)) o_ni2 (EE.eb (e_tup (d_cons (e_var (pv 8)) (d_cons (e_var (pv 7)) d_nil)))) (b_var (pv 4)) (by rfl))))))))))))
  (sb_cons (s_if (t_cmp (op_eq2 (hu64 hr)) o_eq2 (EE.eb (e_call (ok__law_take T) (hr.mono (by decide)) (by rfl) T.g__law_take T.F__law_take.kp (b__law_take T) (a_name (pv 0) (a_cons e_int a_nil)))) (EE.eb e_int) (nomark _))
  (sb_cons (s_set (i := 4) sc__law_draw_schema.nd rfl (by first | exact Or.inl rfl | exact Or.inr rfl) (e_rev (EE.eb (EF.ee (f_lc (own := [("k", 10)]) (g := (.nm 10)) rfl sc__law_draw_schema.nd (i_rng1 true (by rfl) T.n_range (EE.eb (e_op op_sub o_int0 (EE.eb (e_call1 call_len c_len (by rfl) T.n_len (by decide +kernel) (b_var (pv 3)))) (EE.eb e_int)))) (blkOk_by (N := N__law_draw_schema) (sc := defScope s__law_draw_schema) (by decide +kernel)) (by simp [Tg.slots]) (fun _ _ _ _ _ => (g_nm sc__law_draw_schema.nd rfl (by first | exact Or.inl rfl | exact Or.inr rfl))) (fun _ _ _ _ _ => ts_nil) (fun _ _ _ _ _ => (e_tup (d_cons (e_ix (b_var (pv 3)) (b_var (pv 10)) (fun _ _ => rfl)) (d_cons (e_ix (b_var (pv 3)) (EE.eb (e_op opr_add o_add (b_var (pv 10)) (EE.eb e_int))) (fun _ _ => rfl)) d_nil)))))))))
  (sb_one (s_set (i := 4) sc__law_draw_schema.nd rfl (by first | exact Or.inl rfl | exact Or.inr rfl) (e_op opr_add o_add (b_var (pv 4)) (EE.eb (e_op opr_mulT o_mulT (EE.eb (EF.ee (f_lst (d_cons (e_tup (d_cons e_str (d_cons (e_ix (b_var (pv 3)) (EE.eb e_int) (fun _ _ => rfl)) d_nil))) d_nil)))) (EE.eb (e_call (ok__law_take T) (hr.mono (by decide)) (by rfl) T.g__law_take T.F__law_take.kp (b__law_take T) (a_name (pv 0) (a_cons e_int a_nil))))))))))
  sb_nil)
  (sb_cons (s_for PassesOwn.never rfl (i_rng1 false (by rfl) T.n_range (EE.eb (e_ix (EE.eb (EF.ee (f_lst (d_cons e_int (d_cons e_int (d_cons e_int (d_cons e_int d_nil))))))) (EE.eb (e_call (ok__law_take T) (hr.mono (by decide)) (by rfl) T.g__law_take T.F__law_take.kp (b__law_take T) (a_name (pv 0) (a_cons e_int a_nil)))) (fun _ _ => rfl)))) (g_nm sc__law_draw_schema.nd rfl (by first | exact Or.inl rfl | exact Or.inr rfl))
  (sb_cons (s_set (i := 9) sc__law_draw_schema.nd rfl (by first | exact Or.inl rfl | exact Or.inr rfl) (e_or (e_call (ok__law_subset T) (hr.mono (by decide)) (by rfl) T.g__law_subset T.F__law_subset.kp (b__law_subset T) (a_name (pv 0) (a_name (pv 3) a_nil))) (e_one (e_ix (b_var (pv 3)) (EE.eb (e_neg (EE.eb e_int))) (fun _ _ => rfl)))))
  (sb_one (s_set (i := 5) sc__law_draw_schema.nd rfl (by first | exact Or.inl rfl | exact Or.inr rfl) (e_op opr_add o_add (b_var (pv 5)) (EE.eb (e_op opr_mulT o_mulT (EE.eb (EF.ee (f_lst (d_cons (e_var (pv 9)) d_nil)))) (EE.eb (e_ty1 call_int1 c_int (by rfl) T.n_int (by decide +kernel) (EE.eb (e_cmp (opr_ni2 (hu64 hr)) o_ni2 (b_var (pv 9)) (b_var (pv 5)) (by rfl))))))))))))
  (sb_one (s_ret (e_tup (d_cons (e_var (pv 3)) (d_cons (e_ty1 (call_tupA rfl) c_tupA (by rfl) T.n_tuple (by decide +kernel) (b_var (pv 4))) (d_cons (e_ty1 (call_tupA rfl) c_tupA (by rfl) T.n_tuple (by decide +kernel) (b_var (pv 5))) d_nil)))))))))))
end
section
variable {P : Program} {w : World} {K : PySem.W.Frag} {mg : Str → Option Value} {base : Heap}
theorem b_contains (T : Txt P w base K mg) : Binds K T.d_contains ["columns", "part"] [] := T.F_contains.binds fun _ _ _ _ _ _ us hl => match us, hl with | [_, _], _ => rfl
theorem ok_contains (T : Txt P w base K mg) : FnOk P w K mg base CX0 1 T.a_contains T.d_contains ["columns", "part"] (spW K w_contains) := ok_fn (N := N_contains) (k := 0) T.F_contains sc_contains fun cdv A outer s H E hr => 
  (sb_one (s_ret (e_call1 (cr_all rfl) c_all (by rfl) T.n_all (by decide +kernel) (EE.eb (EF.ee (f_lc (own := [("column", 2)]) (g := (.nm 2)) rfl sc_contains.nd (i_seqB (b_var (pv 1))) (blkOk_by (N := N_contains) (sc := defScope s_contains) (by decide +kernel)) (by simp [Tg.slots]) (fun _ _ _ _ _ => (g_nm sc_contains.nd rfl (by first | exact Or.inl rfl | exact Or.inr rfl))) (fun _ _ _ _ _ => ts_nil) (fun _ _ _ _ _ => (e_cmp (opr_in2 (hu64 hr)) o_in2 (b_var (pv 2)) (b_var (pv 0)) (by rfl)))))))))
end
section
variable {P : Program} {w : World} {K : PySem.W.Frag} {mg : Str → Option Value} {base : Heap}
theorem b__has_key (T : Txt P w base K mg) : Binds K T.d__has_key ["columns", "keys"] [] := T.F__has_key.binds fun _ _ _ _ _ _ us hl => match us, hl with | [_, _], _ => rfl
theorem ok__has_key (T : Txt P w base K mg) : FnOk P w K mg base CX0 2 T.a__has_key T.d__has_key ["columns", "keys"] (spW K w__has_key) := ok_fn (N := N__has_key) (k := 1) T.F__has_key sc__has_key fun cdv A outer s H E hr => 
  (sb_one (s_ret (e_call1 (cr_any rfl) c_any (by rfl) T.n_any (by decide +kernel) (EE.eb (EF.ee (f_lc (own := [("key", 2)]) (g := (.nm 2)) rfl sc__has_key.nd (i_seqB (b_var (pv 1))) (blkOk_by (N := N__has_key) (sc := defScope s__has_key) (by decide +kernel)) (by simp [Tg.slots]) (fun _ _ _ _ _ => (g_nm sc__has_key.nd rfl (by first | exact Or.inl rfl | exact Or.inr rfl))) (fun _ _ _ _ _ => ts_nil) (fun _ _ _ _ _ => (e_call (ok_contains T) (hr.mono (by decide)) (by rfl) T.g_contains T.F_contains.kp (b_contains T) (a_name (pv 0) (a_name (pv 2) a_nil))))))))))
end
section
variable {P : Program} {w : World} {K : PySem.W.Frag} {mg : Str → Option Value} {base : Heap}
theorem b_common (T : Txt P w base K mg) : Binds K T.d_common ["columns", "names"] [] := T.F_common.binds fun _ _ _ _ _ _ us hl => match us, hl with | [_, _], _ => rfl
theorem ok_common (T : Txt P w base K mg) : FnOk P w K mg base CX0 1 T.a_common T.d_common ["columns", "names"] (spW K w_common) := ok_fn (N := N_common) (k := 0) T.F_common sc_common fun cdv A outer s H E hr => 
  (sb_one (s_ret (e_join (EE.eb e_str) (EE.eb (EF.ee (f_lc (own := [("column", 2)]) (g := (.nm 2)) rfl sc_common.nd (i_seqB (b_var (pv 0))) (blkOk_by (N := N_common) (sc := defScope s_common) (by decide +kernel)) (by simp [Tg.slots]) (fun _ _ _ _ _ => (g_nm sc_common.nd rfl (by first | exact Or.inl rfl | exact Or.inr rfl))) (fun _ _ _ _ _ => (ts_one (t_cmp (opr_in2 (hu64 hr)) o_in2 (b_var (pv 2)) (b_var (pv 1)) (by rfl)))) (fun _ _ _ _ _ => (e_var (pv 2)))))))))
end
section
variable {P : Program} {w : World} {K : PySem.W.Frag} {mg : Str → Option Value} {base : Heap}
theorem b__closure_round (T : Txt P w base K mg) : Binds K T.d__closure_round ["schema", "found"] [] := T.F__closure_round.binds fun _ _ _ _ _ _ us hl => match us, hl with | [_, _], _ => rfl
theorem ok__closure_round (T : Txt P w base K mg) : FnOk P w K mg base CX0 3 T.a__closure_round T.d__closure_round ["schema", "found"] (spW K w__closure_round) := ok_fn (N := N__closure_round) (k := 2) T.F__closure_round sc__closure_round fun cdv A outer s H E hr => 
  (sb_cons (s_asg (e_var (pv 0)) (g_tp rfl (.cons (pg_name sc__closure_round.nd rfl (by first | exact Or.inl rfl | exact Or.inr rfl)) (by rfl) (.cons (pg_name sc__closure_round.nd rfl (by first | exact Or.inl rfl | exact Or.inr rfl)) (by rfl) (.cons (pg_name sc__closure_round.nd rfl (by first | exact Or.inl rfl | exact Or.inr rfl)) (by rfl) .nil)))))
  (sb_cons (s_if (t_tru (EE.eb (e_call (ok__has_key T) (hr.mono (by decide)) (by rfl) T.g__has_key T.F__has_key.kp (b__has_key T) (a_name (pv 1) (a_name (pv 4) a_nil)))) (by intro _; rfl))
  (sb_one (s_ret (e_var (pv 2))))
  sb_nil)
  (sb_cons (s_setLc (i := 5) (own := [("left", 6), ("right", 7)]) (g := (.tp [6, 7])) rfl sc__closure_round.nd rfl rfl (sw_true rfl rfl rfl (by decide +kernel)) (i_seqB (b_var (pv 3))) (blkOk_by (N := N__closure_round) (sc := defScope s__closure_round) (by decide +kernel)) (by simp [Tg.slots]) (fun _ _ _ _ _ => (g_tp rfl (.cons (pg_name sc__closure_round.nd rfl (by first | exact Or.inl rfl | exact Or.inr rfl)) (by rfl) (.cons (pg_name sc__closure_round.nd rfl (by first | exact Or.inl rfl | exact Or.inr rfl)) (by rfl) .nil)))) (fun _ _ _ _ _ => (ts_one (t_tru (EE.eb (e_call (ok_contains T) (hr.mono (by decide)) (by rfl) T.g_contains T.F_contains.kp (b_contains T) (a_name (pv 1) (a_name (pv 6) a_nil)))) (by intro _; rfl)))) (fun _ _ _ _ _ => (e_var (pv 7))))
  (sb_one (s_ret (e_call (ok_common T) (hr.mono (by decide)) (by rfl) T.g_common T.F_common.kp (b_common T) (a_name (pv 2) (a_cons (e_op opr_add o_add (b_var (pv 1)) (EE.eb (e_join (EE.eb e_str) (b_var (pv 5))))) a_nil))))))))
end
section
variable {P : Program} {w : World} {K : PySem.W.Frag} {mg : Str → Option Value} {base : Heap}
theorem b_closure (T : Txt P w base K mg) : Binds K T.d_closure ["schema", "columns"] [] := T.F_closure.binds fun _ _ _ _ _ _ us hl => match us, hl with | [_, _], _ => rfl
theorem ok_closure (T : Txt P w base K mg) : FnOk P w K mg base CX0 4 T.a_closure T.d_closure ["schema", "columns"] (spW K w_closure) := ok_fn (N := N_closure) (k := 3) T.F_closure sc_closure fun cdv A outer s H E hr => 
  (sb_cons (s_set (i := 2) sc_closure.nd rfl (by first | exact Or.inl rfl | exact Or.inr rfl) (e_var (pv 1)))
  (sb_cons (s_for PassesOwn.never rfl (i_seq false (e_ix (b_var (pv 0)) (EE.eb e_int) (fun _ _ => rfl))) (g_nm sc_closure.nd rfl (by first | exact Or.inl rfl | exact Or.inr rfl))
  (sb_one (s_set (i := 2) sc_closure.nd rfl (by first | exact Or.inl rfl | exact Or.inr rfl) (e_call (ok__closure_round T) (hr.mono (by decide)) (by rfl) T.g__closure_round T.F__closure_round.kp (b__closure_round T) (a_name (pv 0) (a_name (pv 2) a_nil))))))
  (sb_one (s_ret (e_var (pv 2))))))
end
section
variable {P : Program} {w : World} {K : PySem.W.Frag} {mg : Str → Option Value} {base : Heap}
theorem b_is_unique (T : Txt P w base K mg) : Binds K T.d_is_unique ["schema", "columns"] [] := T.F_is_unique.binds fun _ _ _ _ _ _ us hl => match us, hl with | [_, _], _ => rfl
theorem ok_is_unique (T : Txt P w base K mg) : FnOk P w K mg base CX0 5 T.a_is_unique T.d_is_unique ["schema", "columns"] (spW K w_is_unique) := ok_fn (N := N_is_unique) (k := 4) T.F_is_unique sc_is_unique fun cdv A outer s H E hr => 
  (sb_one (s_ret (e_call (ok__has_key T) (hr.mono (by decide)) (by rfl) T.g__has_key T.F__has_key.kp (b__has_key T) (a_cons (e_call (ok_closure T) (hr.mono (by decide)) (by rfl) T.g_closure T.F_closure.kp (b_closure T) (a_name (pv 0) (a_name (pv 1) a_nil))) (a_cons (e_ix (b_var (pv 0)) (EE.eb e_int) (fun _ _ => rfl)) a_nil)))))
end
section
variable {P : Program} {w : World} {K : PySem.W.Frag} {mg : Str → Option Value} {base : Heap}
theorem b_alike_table (T : Txt P w base K mg) : Binds K T.d_alike_table ["schema", "columns", "count"] [] := T.F_alike_table.binds fun _ _ _ _ _ _ us hl => match us, hl with | [_, _, _], _ => rfl
theorem ok_alike_table (T : Txt P w base K mg) : FnOk P w K mg base (L2.CX P w) 6 T.a_alike_table T.d_alike_table ["schema", "columns", "count"] (spX K (.ref T.a_NoTable) w_alike_table_x) := ok_fnX (N := N_alike_table) (k := 5) T.F_alike_table sc_alike_table fun cdv A outer s H E hr W tk => 
  (xb_cons (x_if (PW.pt (tw_and (t_cmp op_gt o_intB (b_var (pv 2)) (EE.eb e_int) (nomark _)) (pw_and1 (t_tru (EE.eb (e_call (ok_is_unique T) (hr.mono (by decide)) (by rfl) T.g_is_unique T.F_is_unique.kp (b_is_unique T) (a_name (pv 0) (a_name (pv 1) a_nil)))) (by intro _; rfl)))))
  (xb_one (x_raise rfl tk T.x_NoTable T.g_NoTable T.kp_NoTable (raises_own T.bs_NoTable T.ty_NoTable) (by rfl)))
  (xb_of sb_nil))
  (xb_of (sb_cons (s_set (i := 3) sc_alike_table.nd rfl (by first | exact Or.inl rfl | exact Or.inr rfl) (e_call (ok_closure T) (hr.mono (by decide)) (by rfl) T.g_closure T.F_closure.kp (b_closure T) (a_name (pv 0) (a_name (pv 1) a_nil))))
  (sb_one (s_retF (f_lc (own := [("at", 4)]) (g := (.nm 4)) rfl sc_alike_table.nd (i_rng1 true (by rfl) T.n_range (b_var (pv 2))) (blkOk_by (N := N_alike_table) (sc := defScope s_alike_table) (by decide +kernel)) (by simp [Tg.slots]) (fun _ _ _ _ _ => (g_nm sc_alike_table.nd rfl (by first | exact Or.inl rfl | exact Or.inr rfl))) (fun _ _ _ _ _ => ts_nil) (fun _ _ _ _ _ => (e_ty1 (call_tupA rfl) c_tupA (by rfl) T.n_tuple (by decide +kernel) (EE.eb (EF.ee (f_lc (own := [("name", 5)]) (g := (.nm 5)) rfl sc_alike_table.nd (i_seqB (EE.eb (e_ix (b_var (pv 0)) (EE.eb e_int) (fun _ _ => rfl)))) (blkOk_by (N := N_alike_table) (by rfl)) (by simp [Tg.slots]) (fun _ _ _ _ _ => (g_nm sc_alike_table.nd rfl (by first | exact Or.inl rfl | exact Or.inr rfl))) (fun _ _ _ _ _ => ts_nil) (fun _ _ _ _ _ => (e_if (t_cmp (opr_in2 (hu64 hr)) o_in2 (b_var (pv 5)) (b_var (pv 3)) (by rfl)) e_int (e_var (pv 4)))))))))))))))
end
section
variable {P : Program} {w : World} {K : PySem.W.Frag} {mg : Str → Option Value} {base : Heap}
theorem b__law_told (T : Txt P w base K mg) : Binds K T.d__law_told ["schema", "columns", "count"] [] := T.F__law_told.binds fun _ _ _ _ _ _ us hl => match us, hl with | [_, _, _], _ => rfl
theorem ok__law_told (T : Txt P w base K mg) : FnOk P w K mg base CX0 7 T.a__law_told T.d__law_told ["schema", "columns", "count"] (spO K w__law_told) := ok_fnO (N := N__law_told) (k := 6) T.F__law_told sc__law_told fun cdv A outer s H E hr => 
  (sb_cons (s_asg (e_tup (d_cons e_non (d_cons e_non d_nil))) (g_tp rfl (.cons (pg_name sc__law_told.nd rfl (by first | exact Or.inl rfl | exact Or.inr rfl)) (by rfl) (.cons (pg_name sc__law_told.nd rfl (by first | exact Or.inl rfl | exact Or.inr rfl)) (by rfl) .nil))))
  (sb_try (ie := 5) (ic := 3) (it := 4) (is := 6) rfl rfl sc__law_told.nd rfl rfl (by first | exact Or.inl rfl | exact Or.inr (Or.inl rfl)) rfl (by first | exact Or.inl rfl | exact Or.inr rfl) (Or.inl rfl) rfl (by first | exact Or.inl rfl | exact Or.inr rfl) (Or.inl rfl) (by decide) ⟨rfl, by decide, Or.inl T.g_OpentiesError⟩ T.e_NoTable_OpentiesError (ok_alike_table T) (hr.mono (by decide)) (by rfl) T.g_alike_table T.F_alike_table.kp (b_alike_table T) (fun _ _ => (a_name (pv 0) (a_name (pv 1) (a_name (pv 2) a_nil)))) (sb_cons (s_if (t_cmp opr_is o_is (b_var (pv 3)) (EE.eb e_non) (nomark _))
  (sb_one (s_retO (pv 4)))
  sb_nil)
  (sb_cons s_never (sb_one s_never))) (told_tail (ic := 3) (it := 4) (is := 6) (hu64 hr) ⟨T.i_NoTable, ⟨_, T.g_NoTable, T.k_NoTable_NoTable⟩, ⟨_, T.g_NoRun, T.k_NoTable_NoRun⟩, ⟨_, T.g_InvalidRow, T.k_NoTable_InvalidRow⟩, ⟨_, T.g_InvalidScript, T.k_NoTable_InvalidScript⟩⟩ sc__law_told.nd rfl (by first | exact Or.inl rfl | exact Or.inr (Or.inl rfl)) rfl (by first | exact Or.inl rfl | exact Or.inr (Or.inl rfl)) rfl (by first | exact Or.inl rfl | exact Or.inr rfl) (Or.inl rfl) (by first | exact Or.inl rfl | exact Or.inr (Or.inl rfl)) (by decide) (by rfl) T.n_isinstance (by rfl) (by rfl) (by rfl) (by rfl))))
end
section
variable {P : Program} {w : World} {K : PySem.W.Frag} {mg : Str → Option Value} {base : Heap}
theorem b__law_all_in (T : Txt P w base K mg) : Binds K T.d__law_all_in ["some", "columns"] [] := T.F__law_all_in.binds fun _ _ _ _ _ _ us hl => match us, hl with | [_, _], _ => rfl
theorem ok__law_all_in (T : Txt P w base K mg) : FnOk P w K mg base CX0 1 T.a__law_all_in T.d__law_all_in ["some", "columns"] (spW K w__law_all_in) := ok_fn (N := N__law_all_in) (k := 0) T.F__law_all_in sc__law_all_in fun cdv A outer s H E hr => 
  (sb_one (s_ret (e_cmp (op_eq2 (hu64 hr)) o_eq2 (EE.eb (EF.ee (f_lc (own := [("column", 2)]) (g := (.nm 2)) rfl sc__law_all_in.nd (i_seqB (b_var (pv 0))) (blkOk_by (N := N__law_all_in) (sc := defScope s__law_all_in) (by decide +kernel)) (by simp [Tg.slots]) (fun _ _ _ _ _ => (g_nm sc__law_all_in.nd rfl (by first | exact Or.inl rfl | exact Or.inr rfl))) (fun _ _ _ _ _ => (ts_one (t_cmp (opr_ni2 (hu64 hr)) o_ni2 (b_var (pv 2)) (b_var (pv 1)) (by rfl)))) (fun _ _ _ _ _ => (e_var (pv 2)))))) (EE.eb (EF.ee (f_lst d_nil))) (nomark _))))
end
section
variable {P : Program} {w : World} {K : PySem.W.Frag} {mg : Str → Option Value} {base : Heap}
theorem b__law_closure (T : Txt P w base K mg) : Binds K T.d__law_closure ["schema", "columns"] [] := T.F__law_closure.binds fun _ _ _ _ _ _ us hl => match us, hl with | [_, _], _ => rfl
theorem ok__law_closure (T : Txt P w base K mg) : FnOk P w K mg base CX0 2 T.a__law_closure T.d__law_closure ["schema", "columns"] (spW K w__law_closure) := ok_fn (N := N__law_closure) (k := 1) T.F__law_closure sc__law_closure fun cdv A outer s H E hr => 
  (sb_cons (s_asg (e_tup (d_cons (e_var (pv 1)) (d_cons e_non d_nil))) (g_tp rfl (.cons (pg_name sc__law_closure.nd rfl (by first | exact Or.inl rfl | exact Or.inr rfl)) (by rfl) (.cons (pg_name sc__law_closure.nd rfl (by first | exact Or.inl rfl | exact Or.inr rfl)) (by rfl) .nil))))
  (sb_cons (s_while PassesOwn.never (t_cmp (opr_ne2 (hu64 hr)) o_ne2 (b_var (pv 2)) (b_var (pv 3)) (nomark _))
  (sb_cons (s_set (i := 3) sc__law_closure.nd rfl (by first | exact Or.inl rfl | exact Or.inr rfl) (e_var (pv 2)))
  (sb_cons (s_for PassesOwn.never rfl (i_seq false (e_ix (b_var (pv 0)) (EE.eb e_int) (fun _ _ => rfl))) (g_tp rfl (.cons (pg_name sc__law_closure.nd rfl (by first | exact Or.inl rfl | exact Or.inr rfl)) (by rfl) (.cons (pg_name sc__law_closure.nd rfl (by first | exact Or.inl rfl | exact Or.inr rfl)) (by rfl) .nil)))
  (sb_one (s_if (PW.pt (tw_and (t_tru (EE.eb (e_call (ok__law_all_in T) (hr.mono (by decide)) (by rfl) T.g__law_all_in T.F__law_all_in.kp (b__law_all_in T) (a_name (pv 4) (a_name (pv 2) a_nil)))) (by intro _; rfl)) (pw_and1 (t_cmp (opr_ni2 (hu64 hr)) o_ni2 (b_var (pv 5)) (b_var (pv 2)) (by rfl)))))
  (sb_one (s_set (i := 2) sc__law_closure.nd rfl (by first | exact Or.inl rfl | exact Or.inr rfl) (e_op opr_add o_add (b_var (pv 2)) (b_var (pv 5)))))
  sb_nil)))
  (sb_one (s_if (t_cmp (opr_in2 (hu64 hr)) o_in2 (EE.eb e_bl) (EE.eb (EF.ee (f_lc (own := [("one", 6)]) (g := (.nm 6)) rfl sc__law_closure.nd (i_seqB (EE.eb (e_ix (b_var (pv 0)) (EE.eb e_int) (fun _ _ => rfl)))) (blkOk_by (N := N__law_closure) (sc := defScope s__law_closure) (by decide +kernel)) (by simp [Tg.slots]) (fun _ _ _ _ _ => (g_nm sc__law_closure.nd rfl (by first | exact Or.inl rfl | exact Or.inr rfl))) (fun _ _ _ _ _ => ts_nil) (fun _ _ _ _ _ => (e_call (ok__law_all_in T) (hr.mono (by decide)) (by rfl) T.g__law_all_in T.F__law_all_in.kp (b__law_all_in T) (a_name (pv 6) (a_name (pv 2) a_nil))))))) (by rfl))
  (sb_one (s_set (i := 2) sc__law_closure.nd rfl (by first | exact Or.inl rfl | exact Or.inr rfl) (e_ix (b_var (pv 0)) (EE.eb e_int) (fun _ _ => rfl))))
  sb_nil)))))
  (sb_one (s_ret (e_join (EE.eb e_str) (EE.eb (EF.ee (f_lc (own := [("column", 7)]) (g := (.nm 7)) rfl sc__law_closure.nd (i_seqB (EE.eb (e_ix (b_var (pv 0)) (EE.eb e_int) (fun _ _ => rfl)))) (blkOk_by (N := N__law_closure) (sc := defScope s__law_closure) (by decide +kernel)) (by simp [Tg.slots]) (fun _ _ _ _ _ => (g_nm sc__law_closure.nd rfl (by first | exact Or.inl rfl | exact Or.inr rfl))) (fun _ _ _ _ _ => (ts_one (t_cmp (opr_in2 (hu64 hr)) o_in2 (b_var (pv 7)) (b_var (pv 2)) (by rfl)))) (fun _ _ _ _ _ => (e_var (pv 7)))))))))))
end
section
variable {P : Program} {w : World} {K : PySem.W.Frag} {mg : Str → Option Value} {base : Heap}
theorem b__law_alike_right (T : Txt P w base K mg) : Binds K T.d__law_alike_right ["schema", "columns", "rows"] [] := T.F__law_alike_right.binds fun _ _ _ _ _ _ us hl => match us, hl with | [_, _, _], _ => rfl
theorem ok__law_alike_right (T : Txt P w base K mg) : FnOk P w K mg base CX0 1 T.a__law_alike_right T.d__law_alike_right ["schema", "columns", "rows"] (spW K w__law_alike_right) := ok_fn (N := N__law_alike_right) (k := 0) T.F__law_alike_right sc__law_alike_right fun cdv A outer s H E hr => 
  (sb_cons (s_forB PassesOwn.never rfl (i_enumB (by rfl) T.n_enumerate (b_var (pv 2))) (g_tp rfl (.cons (pg_name sc__law_alike_right.nd rfl (by first | exact Or.inl rfl | exact Or.inr rfl)) (by rfl) (.cons (pg_name sc__law_alike_right.nd rfl (by first | exact Or.inl rfl | exact Or.inr rfl)) (by rfl) .nil)))
  (sb_one (s_for PassesOwn.never rfl (i_seq false (e_sl (b_var (pv 2)) o_none (o_some (b_var (pv 3))))) (g_nm sc__law_alike_right.nd rfl (by first | exact Or.inl rfl | exact Or.inr rfl))
  (sb_cons (s_set (i := 6) sc__law_alike_right.nd rfl (by first | exact Or.inl rfl | exact Or.inr rfl) (e_join (EE.eb e_str) (EE.eb (EF.ee (f_lc (own := [("j", 7), ("column", 8)]) (g := (.tp [7, 8])) rfl sc__law_alike_right.nd (i_enumT true (by rfl) T.n_enumerate (e_ix (b_var (pv 0)) (EE.eb e_int) (fun _ _ => rfl))) (blkOk_by (N := N__law_alike_right) (sc := defScope s__law_alike_right) (by decide +kernel)) (by simp [Tg.slots]) (fun _ _ _ _ _ => (g_tp rfl (.cons (pg_name sc__law_alike_right.nd rfl (by first | exact Or.inl rfl | exact Or.inr rfl)) (by rfl) (.cons (pg_name sc__law_alike_right.nd rfl (by first | exact Or.inl rfl | exact Or.inr rfl)) (by rfl) .nil)))) (fun _ _ _ _ _ => (ts_one (t_cmp (op_eq2 (hu64 hr)) o_eq2 (EE.eb (e_ix (b_var (pv 4)) (b_var (pv 7)) (fun _ _ => rfl))) (EE.eb (e_ix (b_var (pv 5)) (b_var (pv 7)) (fun _ _ => rfl))) (nomark _)))) (fun _ _ _ _ _ => (e_var (pv 8))))))))
  (sb_one (s_if (t_cmp (opr_ne2 (hu64 hr)) o_ne2 (b_var (pv 6)) (b_var (pv 1)) (nomark _))
  (sb_one (s_ret e_bl))
  sb_nil))))))
  (sb_one (s_ret e_bl)))
end
section
variable {P : Program} {w : World} {K : PySem.W.Frag} {mg : Str → Option Value} {base : Heap}
theorem b_projected (T : Txt P w base K mg) : Binds K T.d_projected ["columns", "part", "rows"] [] := T.F_projected.binds fun _ _ _ _ _ _ us hl => match us, hl with | [_, _, _], _ => rfl
theorem ok_projected (T : Txt P w base K mg) : FnOk P w K mg base CX0 1 T.a_projected T.d_projected ["columns", "part", "rows"] (spW K w_projected) := ok_fn (N := N_projected) (k := 0) T.F_projected sc_projected fun cdv A outer s H E hr => 
  (sb_cons (s_set (i := 3) sc_projected.nd rfl (by first | exact Or.inl rfl | exact Or.inr rfl) (EF.ee (f_lc (own := [("column", 4)]) (g := (.nm 4)) rfl sc_projected.nd (i_seqB (b_var (pv 1))) (blkOk_by (N := N_projected) (sc := defScope s_projected) (by decide +kernel)) (by simp [Tg.slots]) (fun _ _ _ _ _ => (g_nm sc_projected.nd rfl (by first | exact Or.inl rfl | exact Or.inr rfl))) (fun _ _ _ _ _ => ts_nil) (fun _ _ _ _ _ => (e_index (b_var (pv 0)) (b_var (pv 4)))))))
  (sb_one (s_ret (EF.ee (f_lc (own := [("row", 5)]) (g := (.nm 5)) rfl sc_projected.nd (i_seqB (b_var (pv 2))) (blkOk_by (N := N_projected) (sc := defScope s_projected) (by decide +kernel)) (by simp [Tg.slots]) (fun _ _ _ _ _ => (g_nm sc_projected.nd rfl (by first | exact Or.inl rfl | exact Or.inr rfl))) (fun _ _ _ _ _ => ts_nil) (fun _ _ _ _ _ => (e_ty1 (call_tupA rfl) c_tupA (by rfl) T.n_tuple (by decide +kernel) (EE.eb (EF.ee (f_lc (own := [("place", 6)]) (g := (.nm 6)) rfl sc_projected.nd (i_seqB (b_var (pv 3))) (blkOk_by (N := N_projected) (by rfl)) (by simp [Tg.slots]) (fun _ _ _ _ _ => (g_nm sc_projected.nd rfl (by first | exact Or.inl rfl | exact Or.inr rfl))) (fun _ _ _ _ _ => ts_nil) (fun _ _ _ _ _ => (e_ix (b_var (pv 5)) (b_var (pv 6)) (fun _ _ => rfl)))))))))))))
end
section
variable {P : Program} {w : World} {K : PySem.W.Frag} {mg : Str → Option Value} {base : Heap}
theorem b__keeps_key (T : Txt P w base K mg) : Binds K T.d__keeps_key ["columns", "key", "table"] [] := T.F__keeps_key.binds fun _ _ _ _ _ _ us hl => match us, hl with | [_, _, _], _ => rfl
theorem ok__keeps_key (T : Txt P w base K mg) : FnOk P w K mg base CX0 2 T.a__keeps_key T.d__keeps_key ["columns", "key", "table"] (spW K w__keeps_key) := ok_fn (N := N__keeps_key) (k := 1) T.F__keeps_key sc__keeps_key fun cdv A outer s H E hr => 
  (sb_cons (s_set (i := 3) sc__keeps_key.nd rfl (by first | exact Or.inl rfl | exact Or.inr rfl) (e_call (ok_projected T) (hr.mono (by decide)) (by rfl) T.g_projected T.F_projected.kp (b_projected T) (a_name (pv 0) (a_name (pv 1) (a_name (pv 2) a_nil)))))
  (sb_one (s_ret (e_cmp (op_eq2 (hu64 hr)) o_eq2 (EE.eb (e_lenSet2 (hu64 hr) rfl (by rfl) T.n_len (by rfl) T.n_set (b_var (pv 3)))) (EE.eb (e_call1 call_len c_len (by rfl) T.n_len (by decide +kernel) (b_var (pv 3)))) (nomark _)))))
end
section
variable {P : Program} {w : World} {K : PySem.W.Frag} {mg : Str → Option Value} {base : Heap}
theorem b_is_plain_integer (T : Txt P w base K mg) : Binds K T.d_is_plain_integer ["value"] [] := T.F_is_plain_integer.binds fun _ _ _ _ _ _ us hl => match us, hl with | [_], _ => rfl
theorem ok_is_plain_integer (T : Txt P w base K mg) : FnOk P w K mg base CX0 1 T.a_is_plain_integer T.d_is_plain_integer ["value"] (spW K w_is_plain_integer) := ok_fn (N := N_is_plain_integer) (k := 0) T.F_is_plain_integer sc_is_plain_integer fun cdv A outer s H E hr => 
  (sb_one (s_ret (e_and (e_isi kit_int (by rfl) T.n_isinstance (b_var (pv 0)) (pe_bltn (by rfl) T.n_int (by decide +kernel) rfl)) (e_one (e_not (EE.eb (e_isi kit_bool (by rfl) T.n_isinstance (b_var (pv 0)) (pe_bltn (by rfl) T.n_bool (by decide +kernel) rfl))))))))
end
section
variable {P : Program} {w : World} {K : PySem.W.Frag} {mg : Str → Option Value} {base : Heap}
theorem b__is_row (T : Txt P w base K mg) : Binds K T.d__is_row ["columns", "value"] [] := T.F__is_row.binds fun _ _ _ _ _ _ us hl => match us, hl with | [_, _], _ => rfl
theorem ok__is_row (T : Txt P w base K mg) : FnOk P w K mg base CX0 2 T.a__is_row T.d__is_row ["columns", "value"] (spW K w__is_row) := ok_fn (N := N__is_row) (k := 1) T.F__is_row sc__is_row fun cdv A outer s H E hr => 
  (sb_cons (s_if (PW.pt (tw_or (t_not (t_tru (EE.eb (e_isi kit_tuple (by rfl) T.n_isinstance (b_var (pv 1)) (pe_bltn (by rfl) T.n_tuple (by decide +kernel) rfl))) (by intro _; rfl))) (pw_or1 (t_cmp (opr_ne2 (hu64 hr)) o_ne2 (EE.eb (e_call1 call_len c_len (by rfl) T.n_len (by decide +kernel) (b_var (pv 1)))) (EE.eb (e_call1 call_len c_len (by rfl) T.n_len (by decide +kernel) (b_var (pv 0)))) (nomark _)))))
  (sb_one (s_ret e_bl))
  sb_nil)
  (sb_one (s_ret (e_call1 (cr_all rfl) c_all (by rfl) T.n_all (by decide +kernel) (EE.eb (EF.ee (f_lc (own := [("part", 2)]) (g := (.nm 2)) rfl sc__is_row.nd (i_seqB (b_var (pv 1))) (blkOk_by (N := N__is_row) (sc := defScope s__is_row) (by decide +kernel)) (by simp [Tg.slots]) (fun _ _ _ _ _ => (g_nm sc__is_row.nd rfl (by first | exact Or.inl rfl | exact Or.inr rfl))) (fun _ _ _ _ _ => ts_nil) (fun _ _ _ _ _ => (e_call (ok_is_plain_integer T) (hr.mono (by decide)) (by rfl) T.g_is_plain_integer T.F_is_plain_integer.kp (b_is_plain_integer T) (a_name (pv 2) a_nil))))))))))
end
section
variable {P : Program} {w : World} {K : PySem.W.Frag} {mg : Str → Option Value} {base : Heap}
theorem b__keeps_rule (T : Txt P w base K mg) : Binds K T.d__keeps_rule ["columns", "rule", "table"] [] := T.F__keeps_rule.binds fun _ _ _ _ _ _ us hl => match us, hl with | [_, _, _], _ => rfl
theorem ok__keeps_rule (T : Txt P w base K mg) : FnOk P w K mg base CX0 2 T.a__keeps_rule T.d__keeps_rule ["columns", "rule", "table"] (spW K w__keeps_rule) := ok_fn (N := N__keeps_rule) (k := 1) T.F__keeps_rule sc__keeps_rule fun cdv A outer s H E hr => 
  (sb_cons (s_asg (e_var (pv 1)) (g_tp rfl (.cons (pg_name sc__keeps_rule.nd rfl (by first | exact Or.inl rfl | exact Or.inr rfl)) (by rfl) (.cons (pg_name sc__keeps_rule.nd rfl (by first | exact Or.inl rfl | exact Or.inr rfl)) (by rfl) .nil))))
  (sb_keep (j := 5) (i1 := 6) (i2 := 7) (hu64 hr) PassesOwn.never rfl (ps_set (i := 5) sc__keeps_rule.nd rfl (by first | exact Or.inl rfl | exact Or.inr rfl) pe_ownD) (i_zip false (by rfl) T.n_zip (e_call (ok_projected T) (hr.mono (by decide)) (by rfl) T.g_projected T.F_projected.kp (b_projected T) (a_name (pv 0) (a_name (pv 3) (a_name (pv 2) a_nil)))) (e_call (ok_projected T) (hr.mono (by decide)) (by rfl) T.g_projected T.F_projected.kp (b_projected T) (a_name (pv 0) (a_name (pv 4) (a_name (pv 2) a_nil))))) (g_tp rfl (.cons (pg_name sc__keeps_rule.nd rfl (by first | exact Or.inl rfl | exact Or.inr rfl)) (by rfl) (.cons (pg_name sc__keeps_rule.nd rfl (by first | exact Or.inl rfl | exact Or.inr rfl)) (by rfl) .nil))) (pv 5) (pv 6) (pv 7) (pv 7) ⟨by rfl, by rfl, by rfl, by rfl⟩
  (sb_one (s_ret e_bl)) (by decide) (by decide) (by decide)))
end
section
variable {P : Program} {w : World} {K : PySem.W.Frag} {mg : Str → Option Value} {base : Heap}
theorem b_is_table (T : Txt P w base K mg) : Binds K T.d_is_table ["schema", "value"] [] := T.F_is_table.binds fun _ _ _ _ _ _ us hl => match us, hl with | [_, _], _ => rfl
theorem ok_is_table (T : Txt P w base K mg) : FnOk P w K mg base CX0 3 T.a_is_table T.d_is_table ["schema", "value"] (spW K w_is_table) := ok_fn (N := N_is_table) (k := 2) T.F_is_table sc_is_table fun cdv A outer s H E hr => 
  (sb_cons (s_asg (e_var (pv 0)) (g_tp rfl (.cons (pg_name sc_is_table.nd rfl (by first | exact Or.inl rfl | exact Or.inr rfl)) (by rfl) (.cons (pg_name sc_is_table.nd rfl (by first | exact Or.inl rfl | exact Or.inr rfl)) (by rfl) (.cons (pg_name sc_is_table.nd rfl (by first | exact Or.inl rfl | exact Or.inr rfl)) (by rfl) .nil)))))
  (sb_cons (s_if (t_not (t_tru (EE.eb (e_isi kit_list (by rfl) T.n_isinstance (b_var (pv 1)) (pe_bltn (by rfl) T.n_list (by decide +kernel) rfl))) (by intro _; rfl)))
  (sb_one (s_ret e_bl))
  sb_nil)
  (sb_cons (s_if (t_not (t_tru (EE.eb (e_call1 (cr_all rfl) c_all (by rfl) T.n_all (by decide +kernel) (EE.eb (EF.ee (f_lc (own := [("row", 5)]) (g := (.nm 5)) rfl sc_is_table.nd (i_seqB (b_var (pv 1))) (blkOk_by (N := N_is_table) (sc := defScope s_is_table) (by decide +kernel)) (by simp [Tg.slots]) (fun _ _ _ _ _ => (g_nm sc_is_table.nd rfl (by first | exact Or.inl rfl | exact Or.inr rfl))) (fun _ _ _ _ _ => ts_nil) (fun _ _ _ _ _ => (e_call (ok__is_row T) (hr.mono (by decide)) (by rfl) T.g__is_row T.F__is_row.kp (b__is_row T) (a_name (pv 2) (a_name (pv 5) a_nil))))))))) (by intro _; rfl)))
  (sb_one (s_ret e_bl))
  sb_nil)
  (sb_cons (s_if (t_not (t_tru (EE.eb (e_call1 (cr_all rfl) c_all (by rfl) T.n_all (by decide +kernel) (EE.eb (EF.ee (f_lc (own := [("rule", 6)]) (g := (.nm 6)) rfl sc_is_table.nd (i_seqB (b_var (pv 3))) (blkOk_by (N := N_is_table) (sc := defScope s_is_table) (by decide +kernel)) (by simp [Tg.slots]) (fun _ _ _ _ _ => (g_nm sc_is_table.nd rfl (by first | exact Or.inl rfl | exact Or.inr rfl))) (fun _ _ _ _ _ => ts_nil) (fun _ _ _ _ _ => (e_call (ok__keeps_rule T) (hr.mono (by decide)) (by rfl) T.g__keeps_rule T.F__keeps_rule.kp (b__keeps_rule T) (a_name (pv 2) (a_name (pv 6) (a_name (pv 1) a_nil)))))))))) (by intro _; rfl)))
  (sb_one (s_ret e_bl))
  sb_nil)
  (sb_one (s_ret (e_call1 (cr_all rfl) c_all (by rfl) T.n_all (by decide +kernel) (EE.eb (EF.ee (f_lc (own := [("key", 7)]) (g := (.nm 7)) rfl sc_is_table.nd (i_seqB (b_var (pv 4))) (blkOk_by (N := N_is_table) (sc := defScope s_is_table) (by decide +kernel)) (by simp [Tg.slots]) (fun _ _ _ _ _ => (g_nm sc_is_table.nd rfl (by first | exact Or.inl rfl | exact Or.inr rfl))) (fun _ _ _ _ _ => ts_nil) (fun _ _ _ _ _ => (e_call (ok__keeps_key T) (hr.mono (by decide)) (by rfl) T.g__keeps_key T.F__keeps_key.kp (b__keeps_key T) (a_name (pv 2) (a_name (pv 7) (a_name (pv 1) a_nil)))))))))))))))
end
section
variable {P : Program} {w : World} {K : PySem.W.Frag} {mg : Str → Option Value} {base : Heap}
theorem ok_law (T : Txt P w base K mg) (holds : LawHolds) : TopOk P w K mg base 8 T.a_law T.d_law ["script"] (spLawTop K) := by
  refine top_ok T.F_law sc_law (fun vs H Q E h => ?_) (fun cdv A outer s H vs Q E hr NS h => ?_)
  · obtain ⟨a, ns, rfl, _⟩ := h
    rfl
  · obtain ⟨a, ns, rfl, hS, hlen, ht, q⟩ := h
    refine ⟨_, pss_cons (ps_set (i := 1) sc_law.nd rfl (by first | exact Or.inl rfl | exact Or.inr rfl) (pe_call (ok__law_open T) (hr.mono (by decide)) (by rfl) T.g__law_open T.F__law_open.kp (b__law_open T) .nil pass0 (pa_cons (pv 0) pa_nil)))
      (show SB _ _ t_law from (sb_cons (s_for PassesOwn.never rfl (i_rng1 false (by rfl) T.n_range (EE.eb e_int)) (g_nm sc_law.nd rfl (by first | exact Or.inl rfl | exact Or.inr rfl))
  (sb_cons (s_set (i := 3) sc_law.nd rfl (by first | exact Or.inl rfl | exact Or.inr rfl) (e_call (ok__law_draw_schema T) (hr.mono (by decide)) (by rfl) T.g__law_draw_schema T.F__law_draw_schema.kp (b__law_draw_schema T) (a_name (pv 1) (a_cons e_int a_nil))))
  (sb_cons (s_par rfl sc_law.nd (i := 4) (j := 5) rfl rfl (by decide) rfl rfl (e_call (ok__law_subset T) (hr.mono (by decide)) (by rfl) T.g__law_subset T.F__law_subset.kp (b__law_subset T) (a_name (pv 1) (a_cons (e_ix (b_var (pv 3)) (EE.eb e_int) (fun _ _ => rfl)) a_nil))) (e_ix (EE.eb (EF.ee (f_lst (d_cons e_int (d_cons e_int (d_cons e_int (d_cons e_int (d_cons (e_call (ok__law_take T) (hr.mono (by decide)) (by rfl) T.g__law_take T.F__law_take.kp (b__law_take T) (a_name (pv 1) (a_cons e_int a_nil))) d_nil)))))))) (EE.eb (e_call (ok__law_take T) (hr.mono (by decide)) (by rfl) T.g__law_take T.F__law_take.kp (b__law_take T) (a_name (pv 1) (a_cons e_int a_nil)))) (fun _ _ => rfl)) (by rfl))
  (sb_cons (s_asg (e_tup (d_cons (e_call (ok__law_closure T) (hr.mono (by decide)) (by rfl) T.g__law_closure T.F__law_closure.kp (b__law_closure T) (a_name (pv 3) (a_name (pv 4) a_nil))) (d_cons (e_repr2 NS (hu64 hr) (by rfl) T.n_repr (e_var (pv 3))) d_nil))) (g_tp rfl (.cons (pg_name sc_law.nd rfl (by first | exact Or.inl rfl | exact Or.inr rfl)) (by rfl) (.cons (pg_name sc_law.nd rfl (by first | exact Or.inl rfl | exact Or.inr rfl)) (by rfl) .nil))))
  (sb_cons (s_set (i := 8) sc_law.nd rfl (by first | exact Or.inl rfl | exact Or.inr rfl) (e_and (e_cmp op_gt o_intB (b_var (pv 5)) (EE.eb e_int) (nomark _)) (e_one (e_cmp (opr_in2 (hu64 hr)) o_in2 (EE.eb e_bl) (EE.eb (EF.ee (f_lc (own := [("one", 11)]) (g := (.nm 11)) rfl sc_law.nd (i_seqB (EE.eb (e_ix (b_var (pv 3)) (EE.eb e_int) (fun _ _ => rfl)))) (blkOk_by (N := N_law) (sc := defScope s_law) (by decide +kernel)) (by simp [Tg.slots]) (fun _ _ _ _ _ => (g_nm sc_law.nd rfl (by first | exact Or.inl rfl | exact Or.inr rfl))) (fun _ _ _ _ _ => ts_nil) (fun _ _ _ _ _ => (e_call (ok__law_all_in T) (hr.mono (by decide)) (by rfl) T.g__law_all_in T.F__law_all_in.kp (b__law_all_in T) (a_name (pv 11) (a_name (pv 6) a_nil))))))) (by rfl)))))
  (sb_cons (s_setO (i := 9) (ok__law_told T) (hr.mono (by decide)) (by rfl) T.g__law_told T.F__law_told.kp (b__law_told T) (a_name (pv 3) (a_name (pv 4) (a_name (pv 5) a_nil))) sc_law.nd rfl (by first | exact Or.inl rfl | exact Or.inr rfl))
  (sb_cons (s_if (PW.pt (tw_or (t_cmp (opr_ne2 (hu64 hr)) o_ne2 (EE.eb (e_cmp (op_eq2 (hu64 hr)) o_eq2 (b_var (pv 9)) (EE.eb e_str) (nomark _))) (b_var (pv 8)) (nomark _)) (tw_or (t_cmp (opr_ne2 (hu64 hr)) o_ne2 (EE.eb (e_repr2 NS (hu64 hr) (by rfl) T.n_repr (e_var (pv 3)))) (b_var (pv 7)) (nomark _)) (pw_or1 (t_cmp (opr_ne2 (hu64 hr)) o_ne2 (EE.eb (e_call (ok_closure T) (hr.mono (by decide)) (by rfl) T.g_closure T.F_closure.kp (b_closure T) (a_name (pv 3) (a_name (pv 4) a_nil)))) (b_var (pv 6)) (nomark _))))))
  (sb_one (s_ret e_bl))
  sb_nil)
  (sb_cons (s_if (t_tru (b_var (pv 8)) (by intro _; rfl))
  (sb_one s_cont)
  sb_nil)
  (sb_cons (s_if (PW.pt (tw_or (t_not (t_tru (EE.eb (e_isi kit_list (by rfl) T.n_isinstance (b_var (pv 9)) (pe_bltn (by rfl) T.n_list (by decide +kernel) rfl))) (by intro _; rfl))) (tw_or (t_cmp (opr_ne2 (hu64 hr)) o_ne2 (EE.eb (e_call1 call_len c_len (by rfl) T.n_len (by decide +kernel) (b_var (pv 9)))) (b_var (pv 5)) (nomark _)) (pw_or1 (t_cmp opr_ns o_ns (EE.eb (e_call (ok_is_table T) (hr.mono (by decide)) (by rfl) T.g_is_table T.F_is_table.kp (b_is_table T) (a_name (pv 3) (a_name (pv 9) a_nil)))) (EE.eb e_bl) (nomark _))))))
  (sb_one (s_ret e_bl))
  sb_nil)
  (sb_cons (s_if (t_not (t_tru (EE.eb (e_call (ok__law_alike_right T) (hr.mono (by decide)) (by rfl) T.g__law_alike_right T.F__law_alike_right.kp (b__law_alike_right T) (a_name (pv 3) (a_name (pv 6) (a_name (pv 9) a_nil))))) (by intro _; rfl)))
  (sb_one (s_ret e_bl))
  sb_nil)
  (sb_cons (s_set (i := 10) sc_law.nd rfl (by first | exact Or.inl rfl | exact Or.inr rfl) (EF.ee (f_ty1 (call_listA rfl) c_listA (by rfl) T.n_list (by decide +kernel) (b_var (pv 9)))))
  (sb_cons (s_app (pv 9) e_non)
  (sb_one (s_if (t_cmp (opr_ne2 (hu64 hr)) o_ne2 (EE.eb (e_call (spO.fz (ok__law_told T)) (hr.mono (by decide)) (by rfl) T.g__law_told T.F__law_told.kp (b__law_told T) (a_name (pv 3) (a_name (pv 4) (a_name (pv 5) a_nil))))) (b_var (pv 10)) (nomark _))
  (sb_one (s_ret e_bl))
  sb_nil))))))))))))))
  (sb_one (s_ret e_bl)))), ?_⟩
    refine ⟨.ref a, rfl, a, ns, rfl, hS, hlen, fun H' pa ca cells sm ne hpa hca h1 h2 h3 => ?_⟩
    refine ⟨some ⟨pa, ca, tabF K⟩, fun _ => none, H', fun _ => none, _, _, _, law_rep (N := N_law) (ip := 1) (by decide) ne h1 h2 h3 (fun p hp => sm _ _ (ht p hp)), holds, fun σ' F' H2 env' b' rep' => ⟨fun z => z.elim, fun z => z, fun z => z⟩, fun v d F' H2 b' o' x' rv e => by subst e; cases rv; exact q _, fun _ _ _ _ _ _ _ _ _ z => z.elim⟩
end
end Lw
namespace Lw
open PySem PySem.Spec PyProof.Rows L2 Pu
theorem facts {P : Program} {w : World} {K : PySem.W.Frag} {h : Heap} {mg : Str → Option Value} {f : Addr} (holds : LawHolds) (X : K.In h) (cc : SaysH fa fn tb tq h K) (xk : xcB xc tq K = true) (G : h.Ns mainGlobals mg) (hfa : mg ("law" : Str) = some (.ref f)) :
    ∃ (K' : PySem.W.Frag) (fd : FuncData), (∀ b, K'.lookup b = K.lookup b) ∧ tabF K' = tabAt K tq ∧ (∀ (s : Shared) (v : Value), BindsTo s fd ⟨[v], []⟩ [("script", v)]) ∧ ∀ base : Heap, K'.In base → base.Ns mainGlobals mg → (∀ p ∈ codesT K tq, LamX.TabB base mg p.1 p.2) → TopOk P w K' mg base 8 f fd ["script"] (spLawTop K') := by
  have c := cc.c
  obtain ⟨fd0, F0⟩ := c.def_ 0 (d := f__law_open) rfl
  obtain ⟨fd1, F1⟩ := c.def_ 1 (d := f__law_spread) rfl
  obtain ⟨fd2, F2⟩ := c.def_ 2 (d := f__law_take) rfl
  obtain ⟨fd3, F3⟩ := c.def_ 3 (d := f__law_subset) rfl
  obtain ⟨fd4, F4⟩ := c.def_ 4 (d := f__law_draw_schema) rfl
  obtain ⟨fd5, F5⟩ := c.def_ 5 (d := f_contains) rfl
  obtain ⟨fd6, F6⟩ := c.def_ 6 (d := f__has_key) rfl
  obtain ⟨fd7, F7⟩ := c.def_ 7 (d := f_common) rfl
  obtain ⟨fd8, F8⟩ := c.def_ 8 (d := f__closure_round) rfl
  obtain ⟨fd9, F9⟩ := c.def_ 9 (d := f_closure) rfl
  obtain ⟨fd10, F10⟩ := c.def_ 10 (d := f_is_unique) rfl
  obtain ⟨fd11, F11⟩ := c.def_ 11 (d := f_alike_table) rfl
  obtain ⟨fd12, F12⟩ := c.def_ 12 (d := f__law_told) rfl
  obtain ⟨fd13, F13⟩ := c.def_ 13 (d := f__law_all_in) rfl
  obtain ⟨fd14, F14⟩ := c.def_ 14 (d := f__law_closure) rfl
  obtain ⟨fd15, F15⟩ := c.def_ 15 (d := f__law_alike_right) rfl
  obtain ⟨fd16, F16⟩ := c.def_ 16 (d := f_projected) rfl
  obtain ⟨fd17, F17⟩ := c.def_ 17 (d := f__keeps_key) rfl
  obtain ⟨fd18, F18⟩ := c.def_ 18 (d := f_is_plain_integer) rfl
  obtain ⟨fd19, F19⟩ := c.def_ 19 (d := f__is_row) rfl
  obtain ⟨fd20, F20⟩ := c.def_ 20 (d := f__keeps_rule) rfl
  obtain ⟨fd21, F21⟩ := c.def_ 21 (d := f_is_table) rfl
  obtain ⟨fd22, F22⟩ := c.def_ 22 (d := f_law) rfl
  have e := hfa.symm.trans (He.glo_ok X G (c.fact 22 (f := .glo "law") rfl))
  cases e
  have b := FunD.bindsA (ps := ["script"]) F22 fun _ _ _ _ _ _ us hl => match us, hl with | [_], _ => rfl
  have lk : ∃ o, K.lookup (He.ga K "law") = some o := by
    obtain ⟨⟨oc, od, kV, doc, pm, an, cdv, ct, osl, _, h2, _⟩, _⟩ := (toFun F22 : Fun K "law" "law" s_law _ _)
    exact ⟨_, h2⟩
  have ek := lookup_with (T := tabAt K tq) lk
  exact ⟨withT K _ (tabAt K tq), fd22, ek, tabF_with, fun s v => b s [v] rfl, fun base _ _ TB => ok_law (⟨_, fd0, L2.Fun.cong ek (toFun F0), He.glo_ok X G (c.fact 0 (f := .glo "_law_open") rfl), _, fd1, L2.Fun.cong ek (toFun F1), He.glo_ok X G (c.fact 1 (f := .glo "_law_spread") rfl), _, fd2, L2.Fun.cong ek (toFun F2), He.glo_ok X G (c.fact 2 (f := .glo "_law_take") rfl), _, fd3, L2.Fun.cong ek (toFun F3), He.glo_ok X G (c.fact 3 (f := .glo "_law_subset") rfl), _, fd4, L2.Fun.cong ek (toFun F4), He.glo_ok X G (c.fact 4 (f := .glo "_law_draw_schema") rfl), _, fd5, L2.Fun.cong ek (toFun F5), He.glo_ok X G (c.fact 5 (f := .glo "contains") rfl), _, fd6, L2.Fun.cong ek (toFun F6), He.glo_ok X G (c.fact 6 (f := .glo "_has_key") rfl), _, fd7, L2.Fun.cong ek (toFun F7), He.glo_ok X G (c.fact 7 (f := .glo "common") rfl), _, fd8, L2.Fun.cong ek (toFun F8), He.glo_ok X G (c.fact 8 (f := .glo "_closure_round") rfl), _, fd9, L2.Fun.cong ek (toFun F9), He.glo_ok X G (c.fact 9 (f := .glo "closure") rfl), _, fd10, L2.Fun.cong ek (toFun F10), He.glo_ok X G (c.fact 10 (f := .glo "is_unique") rfl), _, fd11, L2.Fun.cong ek (toFun F11), He.glo_ok X G (c.fact 11 (f := .glo "alike_table") rfl), _, fd12, L2.Fun.cong ek (toFun F12), He.glo_ok X G (c.fact 12 (f := .glo "_law_told") rfl), _, fd13, L2.Fun.cong ek (toFun F13), He.glo_ok X G (c.fact 13 (f := .glo "_law_all_in") rfl), _, fd14, L2.Fun.cong ek (toFun F14), He.glo_ok X G (c.fact 14 (f := .glo "_law_closure") rfl), _, fd15, L2.Fun.cong ek (toFun F15), He.glo_ok X G (c.fact 15 (f := .glo "_law_alike_right") rfl), _, fd16, L2.Fun.cong ek (toFun F16), He.glo_ok X G (c.fact 16 (f := .glo "projected") rfl), _, fd17, L2.Fun.cong ek (toFun F17), He.glo_ok X G (c.fact 17 (f := .glo "_keeps_key") rfl), _, fd18, L2.Fun.cong ek (toFun F18), He.glo_ok X G (c.fact 18 (f := .glo "is_plain_integer") rfl), _, fd19, L2.Fun.cong ek (toFun F19), He.glo_ok X G (c.fact 19 (f := .glo "_is_row") rfl), _, fd20, L2.Fun.cong ek (toFun F20), He.glo_ok X G (c.fact 20 (f := .glo "_keeps_rule") rfl), _, fd21, L2.Fun.cong ek (toFun F21), He.glo_ok X G (c.fact 21 (f := .glo "is_table") rfl), _, fd22, L2.Fun.cong ek (toFun F22), He.glo_ok X G (c.fact 22 (f := .glo "law") rfl), He.free_ok X G (c.fact 23 (f := .free "all") rfl), He.free_ok X G (c.fact 24 (f := .free "any") rfl), He.free_ok X G (c.fact 25 (f := .free "bool") rfl), He.free_ok X G (c.fact 26 (f := .free "enumerate") rfl), He.free_ok X G (c.fact 27 (f := .free "int") rfl), He.free_ok X G (c.fact 28 (f := .free "isinstance") rfl), He.free_ok X G (c.fact 29 (f := .free "len") rfl), He.free_ok X G (c.fact 30 (f := .free "list") rfl), He.free_ok X G (c.fact 31 (f := .free "range") rfl), He.free_ok X G (c.fact 32 (f := .free "repr") rfl), He.free_ok X G (c.fact 33 (f := .free "set") rfl), He.free_ok X G (c.fact 34 (f := .free "tuple") rfl), He.free_ok X G (c.fact 35 (f := .free "zip") rfl), _, He.glo_ok (In.cong ek X) G (xc_fact xk 0 (x := .fa (.glo "NoTable")) rfl), _, He.glo_ok (In.cong ek X) G (xc_fact xk 1 (x := .fa (.glo "OpentiesError")) rfl), _, He.glo_ok (In.cong ek X) G (xc_fact xk 2 (x := .fa (.glo "NoRun")) rfl), _, He.glo_ok (In.cong ek X) G (xc_fact xk 3 (x := .fa (.glo "InvalidRow")) rfl), _, He.glo_ok (In.cong ek X) G (xc_fact xk 4 (x := .fa (.glo "InvalidScript")) rfl), (exc_ok (xc_fact xk 5 (x := .fa (.exc "NoTable")) rfl)).1, (exc_ok (xc_fact xk 5 (x := .fa (.exc "NoTable")) rfl)).2.1, (exc_ok (xc_fact xk 5 (x := .fa (.exc "NoTable")) rfl)).2.2.1, (exc_ok (xc_fact xk 5 (x := .fa (.exc "NoTable")) rfl)).2.2.2, isc_ok (xc_fact xk 6 (x := .isc "NoTable") rfl), exm_ok (xc_fact xk 7 (x := .fa (.exm "NoTable" "OpentiesError" true)) rfl), kit_ok (xc_fact xk 8 (x := .kit "NoTable" "NoTable" true) rfl), kit_ok (xc_fact xk 9 (x := .kit "NoTable" "NoRun" false) rfl), kit_ok (xc_fact xk 10 (x := .kit "NoTable" "InvalidRow" false) rfl), kit_ok (xc_fact xk 11 (x := .kit "NoTable" "InvalidScript" false) rfl)⟩ : Txt P w base (withT K _ (tabAt K tq)) mg) holds⟩
end Lw
open PySem PySem.W PySem.Calls PyProof.Rows
set_option maxRecDepth 100000 in
set_option maxHeartbeats 0 in
theorem PySem.Challenge.cw_openties_k04_alike_tables_holds : PySem.Challenge.rw_openties_k04_alike_tables.Holds := by
  w_on; o_law
  refine HandSHeadRun.head_any (r := OpenLaw.row PySem.Challenge.rw_openties_k04_alike_tables) (q := view (OpenLaw.row PySem.Challenge.rw_openties_k04_alike_tables).prog [40]) (H := Lw.hk) (ob := Lw.ob) (M := 4000) (loose := Lw.looseN) (d := HandSHeadRun.topDef (OpenLaw.row PySem.Challenge.rw_openties_k04_alike_tables).prog 40) (kwd := []) Lw.ob_eq
    (by kernel_rfl) (fun s => by kernel_rfl) Lw.run (by kernel_rfl) (by kernel_rfl) (by kernel_rfl) (by rfl) (by first | assumption | decide +kernel) (by decide +kernel) ⟨rfl, rfl, rfl, rfl, rfl, by decide +kernel⟩ ?hw ?hc
  case hw => w_witness2
  case hc =>
    refine Pu.walk_ofX (l := PySem.Challenge.rw_openties_k04_alike_tables) (n := 63) (k := 8) (x := "script") (fa := Lw.fa) (fn := Lw.fn) (tb := Lw.tb) (tq := Lw.tq) (xc := Lw.xc) rfl (by decide) (by kernel_rfl) ⟨rfl, by decide, by decide⟩ ?F
    intro w mg f h K KX c xk G hmg0
    have hmg : mg ("law" : PySem.Str) = some (.ref f) := by
      have e : (HandSHeadRun.topDef (OpenLaw.row PySem.Challenge.rw_openties_k04_alike_tables).prog 40).name = ("law" : PySem.Str) := by kernel_rfl
      rw [← e]
      exact hmg0
    obtain ⟨K', fd, ek, et, hb, hF⟩ := Lw.facts (P := (PySem.Challenge.rw_openties_k04_alike_tables).prog) (w := w) Lw.holds KX c xk G hmg
    exact ⟨K', fd, Pu.spLawTop K', ek, hb, fun H a ns hl hT hS => ⟨a, ns, rfl, hS, hl, by rw [et]; exact Pu.tab_codes hT, fun _ => rfl⟩, hF⟩
