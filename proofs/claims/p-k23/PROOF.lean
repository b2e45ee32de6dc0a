import PyProof.Rows.All
import HandS.ForMost
import HandS.Wide
import HandS.Strs
import HandS.TupSets
import HandS.TupAny
import HandS.TupMul
import HandS.Lambda
import HandS.Flow
import HandS.Style
import HandS.IsInst
import HandS.Deep
import HandS.Conv
import HandS.Zip
import HandS.Replace
import HandS.Defaults
import HandS.SetKeys
import KE.KSortTupG
import KE.SortCalls
import PyProof.StrWalks
import KE.SortData
import HandS.Head2
import HandS.HeadEnd
import HandS.HeadHook1
import HandS.HeadHook2
import PyProof.ReprRoads
import HandS.Ends
import HandS.Words
import PyProof.EqKinds
import PyProof.P3Eq
import PyProof.P3In
import PyProof.FactsAll.dict_1
import PyProof.ListStr
import KE.GoesMore
import KE.GoesEnum
import PyProof.ReprBulk
import PyProof.StrLawsIn
import HandS.ReplaceList
import PyProof.CollectStr
import PyProof.DictMoreH
import KE.KEqDeep
import HandS.Text
import PyProof.TupleOfSeq
import KE.KDictPairs
import HandS.Small
import HandS.DictTup
import KE.KDictItemsList
import KE.KItemsList
import PyProof.StrBlock2
import KE.SortKeyHeap
import HandS.SortKw
import HandS.HeadHook4
import HandS.EndTab
import PySem.Challenge.RW_openties_k23_whole_settled_reports_exten
import HandS.Base
import HandS.Call
import HandS.More
import HandS.WordsExc
import HandS.Head0
import HandS.Head1
import KE.KStateDown
set_option Elab.async false
set_option linter.all false
set_option maxRecDepth 100000
set_option maxHeartbeats 4000000
set_option autoImplicit false
namespace Pu
open PySem PySem.Spec PyProof.Rows L2
/-- a tuple that is plain, by the settled part of the heap or by what stands at the top -/
def PlT (K : PySem.W.Frag) (F : Hp) (a : Addr) (xs : List V) : Prop := (∃ o, F a = some (.frz o (.tup xs)) ∧ o.dict = none) ∨
  ∃ (o : Obj) (its : Array Value) (n : Nat), K.lookup a = some o ∧ o.cls = .type "tuple" ∧ o.data = .seq its n ∧ its.size ≤ sizeLine ∧ Vals xs its.toList ∧ o.dict = none
theorem PlT.sq {K : PySem.W.Frag} {F : Hp} {a : Addr} {xs : List V} (h : PlT K F a xs) : SqT K F a xs := by
  rcases h with ⟨o, h, _⟩ | ⟨o, its, n, h1, h2, h3, h4, h5, _⟩
  · exact .inl (.inr ⟨o, h⟩)
  · exact .inr ⟨o, its, n, h1, h2, h3, h4, h5⟩
theorem PlT.mono {K : PySem.W.Frag} {F G : Hp} {a : Addr} {xs : List V} (e : ∀ b o, F b = some o → G b = some o) (h : PlT K F a xs) : PlT K G a xs := h.imp (fun ⟨o, h, d⟩ => ⟨o, e _ _ h, d⟩) id
/-- what a new tuple of these gives -/
abbrev NewT (H : Hp) (Q : VK) (xs : List V) : Prop := ∀ (q : Addr) (ob : Obj), H q = none → ob.dict = none → Q (.ref q) (upd H q (.frz ob (.tup xs)))
abbrev tupO (its : List Value) : Obj := { cls := .type "tuple", data := .seq its.toArray }
section
variable {X : Cx} {pins : List (Addr × Obj)} {σ : L2.St} {H : Hp} {s : Shared} {xs ys : List V} {its : List Value}
theorem laidT (I : Inv X pins σ H s) (r : Vals xs its) (z : xs.length ≤ sizeLine) : Inv X pins σ (upd H s.heap.objs.size (.frz (tupO its) (.tup xs))) { s with heap := s.heap.push (tupO its) } :=
  I.laid (t' := s.toks) (fun b u e => Heap.get?_push_of_some _ e) (Nat.le_refl _) ⟨Heap.get?_push_size _ rfl, z, its, r, ⟨_, Heap.get?_push_size _ rfl, rfl, _, rfl⟩⟩
theorem newT (I : Inv X pins σ H s) {Q : VK} (q : NewT H Q xs) : Q (.ref s.heap.objs.size) (upd H s.heap.objs.size (.frz (tupO its) (.tup xs))) := q _ _ (I.hok.fresh (Nat.le_refl _)) rfl
def tTupP (t : TA) : TE := fun σ H Q => t σ H fun vs H1 => vs.length ≤ sizeLine ∧ NewT H1 Q vs
theorem pe_tupP {es : List Expr} {t : TA} {pos : Pos} {x1 : Nat} (h : PA X es t) : PE X (.Tuple es x1 pos) (tTupP t) :=
  ⟨fun pins s σ H Q I hq => wpAny_Tuple_spliced (thn (h.run pos pins s σ H _ I hq) fun us s1 ⟨vs, H1, I1, r, z, q⟩ => ⟨by rw [← r.length]; exact z, .ref s1.heap.objs.size, _, laidT I1 r z, rfl, newT I1 q⟩)⟩
def rCatP (K : PySem.W.Frag) : R2 := fun x y H Q => ∃ a b xs ys, x = .ref a ∧ y = .ref b ∧ SqT K H a xs ∧ SqT K H b ys ∧ xs.length + ys.length ≤ sizeLine ∧ (xs = [] → Q (.ref b) H) ∧ (xs ≠ [] → ys = [] → Q (.ref a) H) ∧ (xs ≠ [] → ys ≠ [] → NewT H Q (xs ++ ys))
theorem op_catP : OpR X (binaryOp .Add) (rCatP X.K) := by
  intro pins s σ H x y v u Q I rx ry ⟨a, b, xs, ys, e1, e2, ha, hb, hz, q0, q1, q2⟩
  subst e1 e2
  by_cases hx : xs = []
  · exact op_catA pins s σ H _ _ v u Q I rx ry ⟨a, b, xs, ys, rfl, rfl, ha, hb, hz, q0, q1, fun z => absurd hx z⟩
  · cases rx
    cases ry
    obtain ⟨is, r1, p1, _⟩ := I.tuple ha
    obtain ⟨js, r2, p2, _⟩ := I.tuple hb
    refine HT.cat_tup p1 p2 (fun z => hx (r1.nil_iff.mp z)) (fun z => ⟨.ref a, H, I, rfl, q1 hx (r2.nil_iff.mp z)⟩) (fun z => ⟨.ref s.heap.objs.size, _, ?_, rfl, newT (its := is ++ js) I (q2 hx fun e => z (r2.nil_iff.mpr e))⟩) (by rw [← r1.length, ← r2.length]; exact hz)
    exact laidT I (r1.append r2) (by rw [List.length_append]; exact hz)
def rSlP (K : PySem.W.Frag) : V → Option Int → Option Int → Hp → VK → Prop := fun x lo hi H Q => ∃ a xs, x = .ref a ∧ SqT K H a xs ∧
  (HT.sIx xs.length 0 lo = 0 ∧ HT.sIx xs.length xs.length hi = xs.length → Q (.ref a) H) ∧ (¬ (HT.sIx xs.length 0 lo = 0 ∧ HT.sIx xs.length xs.length hi = xs.length) → NewT H Q (cutV xs lo hi))
theorem sl_tupP : SlR X (rSlP X.K) := by
  intro pins s σ H x v vl vu lo hi sl Q I rx hs pl pu ⟨a, xs, e1, hx, q1, q2⟩
  by_cases hw : HT.sIx xs.length 0 lo = 0 ∧ HT.sIx xs.length xs.length hi = xs.length
  · exact sl_tupA pins s σ H x v vl vu lo hi sl Q I rx hs pl pu ⟨a, xs, e1, hx, q1, fun z => absurd hw z⟩
  · subst e1
    cases rx
    obtain ⟨is, r, ht, hz⟩ := I.tuple hx
    have hlen : is.toArray.size = xs.length := List.size_toArray.trans r.length.symm
    refine ⟨"tuple", _, PyProof.Rows.slot_tuple_getitem.lookup, ht.typeIs, HT.getItem_tuple_cut ht hs pl pu (by rw [hlen]; exact hw) ?_ (by rw [hlen]; exact hz)⟩
    rw [hlen]
    exact ⟨.ref s.heap.objs.size, _, laidT I ((r.drop (HT.sIx xs.length 0 lo)).take (HT.sIx xs.length xs.length hi - HT.sIx xs.length 0 lo)) (Nat.le_trans (cutV_length xs lo hi) hz), rfl, newT I (q2 hw)⟩
theorem call_tupleP : CallR X (.type "tuple") (fun vs H Q => ∃ p ys, vs = [.ref p] ∧ ((SqL X.K H p ys ∧ NewT H Q ys) ∨ (SqT X.K H p ys ∧ Q (.ref p) H))) := by
  intro pins s σ H vs us Q I r ⟨p, ys, e, h⟩
  subst e
  obtain ⟨u, rfl, rx⟩ := vals1 r
  cases rx
  rcases h with ⟨hq, q⟩ | ⟨hq, q⟩
  · obtain ⟨is, r', pl, hz⟩ := I.list hq
    have hlen := r'.length
    refine call_tuple_list pl.isList (fun h2 kp => let I1 : Inv X pins σ H { s with heap := h2 } := I.kept (t' := s.toks) kp; ⟨.ref h2.objs.size, _, laidT I1 r' hz, rfl, newT (its := is) I1 q⟩) ?_
    simp only [List.size_toArray]
    omega
  · obtain ⟨is, r', pl, hz⟩ := I.tuple hq
    exact call_tuple_same pl ⟨.ref p, H, I, rfl, q⟩
end
end Pu
namespace Pu
open PySem PySem.Spec PyProof.Rows L2
mutual
/-- a value stands for a datum, by the settled part F of the heap -/
inductive RV (K : PySem.W.Frag) (F : Hp) : V → PyData → Prop
  | non : RV K F .non .none
  | bl (b : Bool) : RV K F (.bl b) (.bool b)
  | int (i : Int) : RV K F (.int i) (.int i)
  | str (x : Str) : RV K F (.str x) (.str x)
  | lst {a : Addr} {xs : List V} {ds : List PyData} : F a = some (.lst xs) → RVs K F xs ds → RV K F (.ref a) (.list ds)
  | tup {a : Addr} {xs : List V} {ds : List PyData} : PlT K F a xs → RVs K F xs ds → RV K F (.ref a) (.tuple ds)
  | dct {a : Addr} : F a = some (.dK []) → RV K F (.ref a) (.dict [])
inductive RVs (K : PySem.W.Frag) (F : Hp) : List V → List PyData → Prop
  | nil : RVs K F [] []
  | cons {v : V} {vs : List V} {d : PyData} {ds : List PyData} : RV K F v d → RVs K F vs ds → RVs K F (v :: vs) (d :: ds)
end
theorem Same.tup {K : PySem.W.Frag} {F G : Hp} {a : Addr} {xs : List V} (e : Same F G) (h : SqT K F a xs) : SqT K G a xs := by
  rcases h with (h | ⟨o, h⟩) | h
  · exact .inl (.inl (e _ _ h))
  · exact .inl (.inr ⟨o, e _ _ h⟩)
  · exact .inr h
section
variable {K : PySem.W.Frag} {F G : Hp}
mutual
theorem RV.mono (e : Same F G) : ∀ {v : V} {d : PyData}, RV K F v d → RV K G v d
  | _, _, .non => .non
  | _, _, .bl b => .bl b
  | _, _, .int i => .int i
  | _, _, .str x => .str x
  | _, _, .lst h r => .lst (e _ _ h) (RVs.mono e r)
  | _, _, .tup h r => .tup (h.mono e) (RVs.mono e r)
  | _, _, .dct h => .dct (e _ _ h)
theorem RVs.mono (e : Same F G) : ∀ {vs : List V} {ds : List PyData}, RVs K F vs ds → RVs K G vs ds
  | _, _, .nil => .nil
  | _, _, .cons r t => .cons (RV.mono e r) (RVs.mono e t)
end
theorem RVs.len : ∀ {vs : List V} {ds : List PyData}, RVs K F vs ds → vs.length = ds.length
  | _, _, .nil => rfl
  | _, _, .cons _ t => congrArg (· + 1) (RVs.len t)
theorem RVs.at' : ∀ {vs : List V} {ds : List PyData} {i : Nat} {d : PyData}, RVs K F vs ds → ds[i]? = some d → ∃ v, vs[i]? = some v ∧ RV K F v d
  | _, _, _, _, .nil, h => by simp at h
  | _, _, 0, _, .cons r _, h => by simp at h; subst h; exact ⟨_, rfl, r⟩
  | _, _, i + 1, d, .cons _ t, h => by
    obtain ⟨v, h1, h2⟩ := RVs.at' (i := i) (d := d) t (by simpa using h)
    exact ⟨v, by simpa using h1, h2⟩
theorem RVs.app : ∀ {vs ws : List V} {ds es : List PyData}, RVs K F vs ds → RVs K F ws es → RVs K F (vs ++ ws) (ds ++ es)
  | _, _, _, _, .nil, s => s
  | _, _, _, _, .cons r t, s => .cons r (RVs.app t s)
theorem RVs.drop' : ∀ {vs : List V} {ds : List PyData} (n : Nat), RVs K F vs ds → RVs K F (vs.drop n) (ds.drop n)
  | _, _, 0, r => r
  | _, _, _ + 1, .nil => .nil
  | _, _, n + 1, .cons _ t => RVs.drop' n t
theorem RVs.take' : ∀ {vs : List V} {ds : List PyData} (n : Nat), RVs K F vs ds → RVs K F (vs.take n) (ds.take n)
  | _, _, 0, _ => .nil
  | _, _, _ + 1, .nil => .nil
  | _, _, n + 1, .cons r t => .cons r (RVs.take' n t)
theorem RVs.one {v : V} {d : PyData} (r : RV K F v d) : RVs K F [v] [d] := .cons r .nil
end
/-- the numbers a pen may hold -/
structure PenInv (cells : List Int) (at_ cur : Int) (b : Nat) : Prop where
  at0 : 0 ≤ at_
  most : at_ + b ≤ 2 ^ 32
  cur0 : 0 ≤ cur
  few : cells.length ≤ 12
/-- the tables of code objects that are followed: told by the last entry of the written part, which no look-up finds -/
def tabPairs : List Value → List (Addr × Str)
  | .ref a :: .str q _ :: r => (a, q) :: tabPairs r
  | _ => []
def tabF (K : PySem.W.Frag) : List (Addr × Str) := match K.getLast? with
  | some (_, ⟨_, _, .seq its _, _⟩) => tabPairs its.toList
  | _ => []
structure Pens where
  pa : Addr
  ca : Addr
  tb : List (Addr × Str)
abbrev Pn := Option Pens
/-- the tables of code objects: what they tell is settled -/
def TabsIs (T : List (Addr × Str)) (F H : Hp) : Prop := ∀ p ∈ T, F p.1 = none ∧ ∃ ps : Array Value, H p.1 = some (.tbl ps) ∧ TriplesOk ps.toList ∧ ∀ (pos : Pos) (cv : Value), codeAmong pos ps.toList = some cv → ∃ c, cv = .ref c ∧ F c = some (LamX.CodeO c p.2)
theorem TabsIs.to {T : List (Addr × Str)} {F H F' H' : Hp} (t : TabsIs T F H) (s : Same F F') (e : ∀ p ∈ T, F' p.1 = none ∧ H' p.1 = H p.1) : TabsIs T F' H' := fun p hp =>
  let ⟨_, ps, h1, h2, h3⟩ := t p hp
  ⟨(e p hp).1, ps, (e p hp).2.trans h1, h2, fun pos cv hc => let ⟨c, e1, e2⟩ := h3 pos cv hc; ⟨c, e1, s _ _ e2⟩⟩
theorem TabsIs.at_ {T : List (Addr × Str)} {F H : Hp} (t : TabsIs T F H) {p : Addr × Str} (hp : p ∈ T) {a : Addr} (h : H a = none) : a ≠ p.1 := fun z => by
  obtain ⟨_, ps, h1, _⟩ := t p hp
  rw [← z, h] at h1
  cases h1
def PenIs (pn : Pn) (b : Nat) (F H : Hp) : Prop := match pn with
  | none => True
  | some q => F q.pa = none ∧ F q.ca = none ∧ q.pa ≠ q.ca ∧ TabsIs q.tb F H ∧ ∃ (cells : List Int) (at_ cur : Int), H q.pa = some (.lst [.ref q.ca, .int at_, .int cur]) ∧ H q.ca = some (.lst (cells.map V.int)) ∧ PenInv cells at_ cur b
def NotPen (pn : Pn) (a : Addr) : Prop := ∀ q, pn = some q → a ≠ q.pa ∧ ∀ p ∈ q.tb, a ≠ p.1
def NotCa (pn : Pn) (a : Addr) : Prop := ∀ q, pn = some q → a ≠ q.ca
structure Ok (pn : Pn) (b : Nat) (F H : Hp) : Prop where
  sub : Same F H
  pen : PenIs pn b F H
structure Ext (pn : Pn) (F H F' H' : Hp) : Prop where
  fsub : Same F F'
  keep : ∀ a o, H a = some o → F a = none → NotPen pn a → H' a = some o ∧ F' a = none
section
variable {pn : Pn} {b b1 b2 : Nat} {F H F1 H1 F2 H2 : Hp}
theorem Ext.refl : Ext pn F H F H := ⟨Same.refl _, fun _ _ h q _ => ⟨h, q⟩⟩
theorem Ext.trans (x : Ext pn F H F1 H1) (y : Ext pn F1 H1 F2 H2) : Ext pn F H F2 H2 :=
  ⟨x.fsub.trans y.fsub, fun a o h q n => let ⟨h1, q1⟩ := x.keep a o h q n; y.keep a o h1 q1 n⟩
theorem Ok.free (k : Ok pn b F H) {p : Addr} (h : H p = none) : F p = none := k.sub.free h
theorem same_upd2 {F H : Hp} (s : Same F H) {p : Addr} {o : HO} : Same (upd F p o) (upd H p o) := fun a u e => by
  by_cases h : a = p
  · subst h; rw [upd_same] at e ⊢; exact e
  · rw [upd_ne h] at e ⊢; exact s a u e
theorem same_new {H : Hp} {p : Addr} {o : HO} (h : H p = none) : Same H (upd H p o) := fun a u e => by
  rw [upd_ne (ne_of_none e h)]; exact e
theorem same_upd {F : Hp} {p : Addr} {o : HO} (h : F p = none) : Same F (upd F p o) := fun a u e => by
  rw [upd_ne (fun z => by rw [z, h] at e; cases e)]; exact e
theorem PenIs.new {p : Addr} {o : HO} (k : PenIs pn b F H) (fp : F p = none) (h : H p = none) : PenIs pn b (upd F p o) (upd H p o) := by
  match pn, k with
  | none, _ => trivial
  | some q, ⟨f1, f2, ne, tb, cells, at_, cur, h1, h2, i⟩ =>
    have n1 : q.pa ≠ p := ne_of_none h1 h
    have n2 : q.ca ≠ p := ne_of_none h2 h
    exact ⟨by rw [upd_ne n1]; exact f1, by rw [upd_ne n2]; exact f2, ne, tb.to (same_upd fp) fun t ht => ⟨by rw [upd_ne (tb.at_ ht h).symm]; exact (tb t ht).1, by rw [upd_ne (tb.at_ ht h).symm]⟩, cells, at_, cur, by rw [upd_ne n1]; exact h1, by rw [upd_ne n2]; exact h2, i⟩
/-- another object is written -/
theorem PenIs.wr {p : Addr} {o : HO} (k : PenIs pn b F H) (np : NotPen pn p) (nc : NotCa pn p) : PenIs pn b F (upd H p o) := by
  match pn, k, np, nc with
  | none, _, _, _ => trivial
  | some q, ⟨f1, f2, ne, tb, cells, at_, cur, h1, h2, i⟩, np, nc =>
    exact ⟨f1, f2, ne, tb.to (Same.refl _) fun t ht => ⟨(tb t ht).1, upd_ne ((np q rfl).2 t ht).symm⟩, cells, at_, cur, by rw [upd_ne (np q rfl).1.symm]; exact h1, by rw [upd_ne (nc q rfl).symm]; exact h2, i⟩
theorem PenIs.apartN (k : PenIs pn b F H) {p : Addr} (h : H p = none) : NotPen pn p ∧ NotCa pn p := by
  refine ⟨fun q e => ?_, fun q e z => ?_⟩
  · subst e
    obtain ⟨_, _, _, tb, cells, at_, cur, h1, _⟩ := k
    exact ⟨fun z => (by rw [← z, h] at h1; cases h1), fun t ht => tb.at_ ht h⟩
  · subst e
    obtain ⟨_, _, _, _, cells, at_, cur, _, h2, _⟩ := k
    rw [← z, h] at h2; cases h2
theorem PenIs.own {p : Addr} {o : HO} (k : PenIs pn b F H) (h : H p = none) : PenIs pn b F (upd H p o) := k.wr (k.apartN h).1 (k.apartN h).2
/-- a new settled object -/
theorem Ok.new {p : Addr} {o : HO} (k : Ok pn b F H) (h : H p = none) : Ok pn b (upd F p o) (upd H p o) := ⟨same_upd2 k.sub, k.pen.new (k.free h) h⟩
theorem Ext.new {p : Addr} {o : HO} (k : Ok pn b F H) (h : H p = none) : Ext pn F H (upd F p o) (upd H p o) :=
  ⟨same_new (k.free h), fun a u e q _ => by
    have n : a ≠ p := ne_of_none e h
    rw [upd_ne n, upd_ne n]; exact ⟨e, q⟩⟩
/-- a new object of one's own -/
theorem Ok.own {p : Addr} {o : HO} (k : Ok pn b F H) (h : H p = none) : Ok pn b F (upd H p o) := ⟨k.sub.trans (same_new h), k.pen.own h⟩
theorem Ext.own {p : Addr} {o : HO} (h : H p = none) : Ext pn F H F (upd H p o) :=
  ⟨Same.refl _, fun a u e q _ => by rw [upd_ne (ne_of_none e h)]; exact ⟨e, q⟩⟩
/-- an own object is settled -/
theorem Ok.settle {p : Addr} {o : HO} (k : Ok pn b F H) (h : H p = some o) (f : F p = none) (n : NotPen pn p) (nc : NotCa pn p) : Ok pn b (upd F p o) H := by
  refine ⟨fun a u e => ?_, ?_⟩
  · by_cases q : a = p
    · subst q; rw [upd_same] at e; cases e; exact h
    · rw [upd_ne q] at e; exact k.sub a u e
  · have kp := k.pen
    match pn, kp, n, nc with
    | none, _, _, _ => trivial
    | some q, ⟨f1, f2, ne, tb, cells, at_, cur, h1, h2, i⟩, n, nc =>
      exact ⟨by rw [upd_ne (n q rfl).1.symm]; exact f1, by rw [upd_ne (nc q rfl).symm]; exact f2, ne, tb.to (same_upd f) fun t ht => ⟨by rw [upd_ne ((n q rfl).2 t ht).symm]; exact (tb t ht).1, rfl⟩, cells, at_, cur, h1, h2, i⟩
theorem PenIs.le {b' : Nat} (k : PenIs pn b F H) (h : b' ≤ b) : PenIs pn b' F H := by
  match pn, k with
  | none, _ => trivial
  | some q, ⟨f1, f2, ne, tb, cells, at_, cur, h1, h2, i⟩ =>
    exact ⟨f1, f2, ne, tb, cells, at_, cur, h1, h2, i.at0, by have := i.most; omega, i.cur0, i.few⟩
end
inductive Sl where
  | d (x : PyData)
  | l (xs : List PyData)
  | r (xs : List PyData)
  | p
  | k (kvs : List (Str × PyData))
def Sl.isOwn : Sl → Bool
  | .l _ => true
  | .k _ => true
  | _ => false
/-- a dict of one's own, its keys texts -/
inductive KVs (K : PySem.W.Frag) (F : Hp) : List (Key × V) → List (Str × PyData) → Prop
  | nil : KVs K F [] []
  | cons {x : Str} {v : V} {d : PyData} {vs : List (Key × V)} {ds : List (Str × PyData)} : RV K F v d → KVs K F vs ds → KVs K F ((.inr x, v) :: vs) ((x, d) :: ds)
theorem KVs.mono {K : PySem.W.Frag} {F G : Hp} (e : Same F G) : ∀ {vs : List (Key × V)} {ds : List (Str × PyData)}, KVs K F vs ds → KVs K G vs ds
  | _, _, .nil => .nil
  | _, _, .cons r t => .cons (r.mono e) (KVs.mono e t)
def OwnK (K : PySem.W.Frag) (pn : Pn) (F H : Hp) (v : V) (xs : List (Str × PyData)) : Prop :=
  ∃ a vs, v = .ref a ∧ F a = none ∧ NotPen pn a ∧ NotCa pn a ∧ H a = some (.dK vs) ∧ KVs K F vs xs
abbrev En := List (Option Sl)
/-- a list of one's own, not settled -/
def OwnL (K : PySem.W.Frag) (pn : Pn) (F H : Hp) (v : V) (xs : List PyData) : Prop :=
  ∃ a vs, v = .ref a ∧ F a = none ∧ NotPen pn a ∧ NotCa pn a ∧ H a = some (.lst vs) ∧ RVs K F vs xs
def SlIs (K : PySem.W.Frag) (pn : Pn) (F H : Hp) (v : V) : Sl → Prop
  | .d x => RV K F v x
  | .l xs => OwnL K pn F H v xs
  | .r xs => OwnL K pn F H v xs
  | .p => ∃ (u : Unit) (q : Pens), pn = some q ∧ v = .ref q.pa
  | .k xs => OwnK K pn F H v xs
/-- a datum that is read: settled, or a list of one's own -/
def BV (K : PySem.W.Frag) (pn : Pn) (F H : Hp) (v : V) (d : PyData) : Prop := RV K F v d ∨ ∃ xs, d = .list xs ∧ OwnL K pn F H v xs
section
variable {K : PySem.W.Frag} {pn : Pn} {b b' : Nat} {F H F' H' : Hp} {v : V}
theorem OwnL.ext {xs : List PyData} (h : OwnL K pn F H v xs) (e : Ext pn F H F' H') : OwnL K pn F' H' v xs := by
  obtain ⟨a, vs, rfl, f, n, nc, ha, r⟩ := h
  obtain ⟨h1, f1⟩ := e.keep a _ ha f n
  exact ⟨a, vs, rfl, f1, n, nc, h1, r.mono e.fsub⟩
theorem OwnK.ext {xs : List (Str × PyData)} (h : OwnK K pn F H v xs) (e : Ext pn F H F' H') : OwnK K pn F' H' v xs := by
  obtain ⟨a, vs, rfl, f, n, nc, ha, r⟩ := h
  obtain ⟨h1, f1⟩ := e.keep a _ ha f n
  exact ⟨a, vs, rfl, f1, n, nc, h1, r.mono e.fsub⟩
theorem SlIs.ext {s : Sl} (h : SlIs K pn F H v s) (e : Ext pn F H F' H') : SlIs K pn F' H' v s := by
  match s, h with
  | .d x, h => exact RV.mono e.fsub h
  | .l xs, h => exact OwnL.ext h e
  | .r xs, h => exact OwnL.ext h e
  | .p, h => exact h
  | .k xs, h => exact OwnK.ext h e
theorem BV.ext {d : PyData} (h : BV K pn F H v d) (e : Ext pn F H F' H') : BV K pn F' H' v d := by
  rcases h with h | ⟨xs, rfl, h⟩
  · exact .inl (h.mono e.fsub)
  · exact .inr ⟨xs, rfl, h.ext e⟩
theorem BV.list {ds : List PyData} (h : BV K pn F H v (.list ds)) (k : Ok pn b F H) : ∃ a vs, v = .ref a ∧ H a = some (.lst vs) ∧ RVs K F vs ds := by
  rcases h with h | ⟨xs, e, a, vs, rfl, _, _, _, h, r⟩
  · cases h with
    | lst h r => exact ⟨_, _, rfl, k.sub _ _ h, r⟩
  · cases e; exact ⟨a, vs, rfl, h, r⟩
theorem BV.tup {ds : List PyData} (h : BV K pn F H v (.tuple ds)) (k : Ok pn b F H) : ∃ a vs, v = .ref a ∧ SqT K H a vs ∧ RVs K F vs ds := by
  rcases h with h | ⟨xs, e, _⟩
  · cases h with
    | tup h r => exact ⟨_, _, rfl, Same.tup k.sub h.sq, r⟩
  · cases e
theorem BV.int {i : Int} (h : BV K pn F H v (.int i)) : v = .int i := by
  rcases h with h | ⟨xs, e, _⟩
  · cases h; rfl
  · cases e
theorem BV.str {i : Str} (h : BV K pn F H v (.str i)) : v = .str i := by
  rcases h with h | ⟨xs, e, _⟩
  · cases h; rfl
  · cases e
theorem BV.bool {i : Bool} (h : BV K pn F H v (.bool i)) : v = .bl i := by
  rcases h with h | ⟨xs, e, _⟩
  · cases h; rfl
  · cases e
theorem BV.none' (h : BV K pn F H v .none) : v = .non := by
  rcases h with h | ⟨xs, e, _⟩
  · cases h; rfl
  · cases e
end
theorem SlIs.ownF {K : PySem.W.Frag} {pn : Pn} {F H : Hp} {a : Addr} : ∀ {s : Sl}, s.isOwn = true → SlIs K pn F H (.ref a) s → F a = none
  | .l _, _, ⟨_, _, e, f, _⟩ => by cases e; exact f
  | .k _, _, ⟨_, _, e, f, _⟩ => by cases e; exact f
structure Rep (K : PySem.W.Frag) (pn : Pn) (F H : Hp) (σ : L2.St) (env : En) (b : Nat) : Prop where
  ok : Ok pn b F H
  len : σ.length = env.length
  slot : ∀ (i : Nat) (s : Sl), env[i]? = some (some s) → ∃ v, σ[i]? = some (some v) ∧ SlIs K pn F H v s
  apart : ∀ (i j : Nat) (a : Addr) (xs ys : List PyData), i ≠ j → env[i]? = some (some (Sl.l xs)) → (env[j]? = some (some (Sl.l ys)) ∨ env[j]? = some (some (Sl.r ys))) → σ[i]? = some (some (V.ref a)) → σ[j]? ≠ some (some (V.ref a))
  tk : ∃ q, pn = some q ∧ q.tb = tabF K
theorem Rep.ext {K : PySem.W.Frag} {pn : Pn} {F H F' H' : Hp} {σ : L2.St} {env : En} {b b' : Nat} (r : Rep K pn F H σ env b) (k : Ok pn b' F' H') (e : Ext pn F H F' H') : Rep K pn F' H' σ env b' :=
  ⟨k, r.len, fun i s h => let ⟨v, h1, h2⟩ := r.slot i s h; ⟨v, h1, h2.ext e⟩, r.apart, r.tk⟩
abbrev WE := En → Nat → (PyData → Nat → Prop) → Prop
abbrev WT := En → Nat → (Bool → Nat → Prop) → Prop
abbrev WF := En → Nat → (List PyData → Nat → Prop) → Prop
abbrev WA := En → Nat → (List Sl → Nat → Prop) → Prop
abbrev WD := List Sl → Nat → (PyData → Nat → Prop) → Prop
structure PEnds where
  nx : En → Nat → Prop
  rt : PyData → Nat → Prop
  bk : En → Nat → Prop := fun _ _ => False
  ct : En → Nat → Prop := fun _ _ => False
  rl : List PyData → Nat → Prop := fun _ _ => False
  xr : Str → Nat → Prop := fun _ _ => False
abbrev WS := PEnds → En → Nat → Prop
/-- a value, settled -/
def lE (K : PySem.W.Frag) (t : WE) : TE := fun σ H Q => ∃ pn F env b P, Rep K pn F H σ env b ∧ t env b P ∧
  ∀ v d F' H' b', Ok pn b' F' H' → Ext pn F H F' H' → RV K F' v d → P d b' → Q v H'
/-- a value to be read only -/
def lB (K : PySem.W.Frag) (t : WE) : TE := fun σ H Q => ∃ pn F env b P, Rep K pn F H σ env b ∧ t env b P ∧
  ∀ v d F' H' b', Ok pn b' F' H' → Ext pn F H F' H' → BV K pn F' H' v d → P d b' → Q v H'
/-- a new list -/
def lF (K : PySem.W.Frag) (t : WF) : TE := fun σ H Q => ∃ pn F env b P, Rep K pn F H σ env b ∧ t env b P ∧
  ∀ v d F' H' b', Ok pn b' F' H' → Ext pn F H F' H' → OwnL K pn F' H' v d → (∀ a, v = .ref a → H a = none) → P d b' → Q v H'
def lT (K : PySem.W.Frag) (t : WT) : TT := fun σ H Q => ∃ pn F env b P, Rep K pn F H σ env b ∧ t env b P ∧
  ∀ k F' H' b', Ok pn b' F' H' → Ext pn F H F' H' → P k b' → Q k H'
def ArgsAre (K : PySem.W.Frag) (pn : Pn) (F H : Hp) : List V → List Sl → Prop
  | [], [] => ∃ q, pn = some q ∧ q.tb = tabF K
  | v :: vs, s :: ss => SlIs K pn F H v s ∧ s.isOwn = false ∧ ArgsAre K pn F H vs ss
  | _, _ => False
theorem ArgsAre.ext {K : PySem.W.Frag} {pn : Pn} {F H F' H' : Hp} (e : Ext pn F H F' H') : ∀ {vs : List V} {ss : List Sl}, ArgsAre K pn F H vs ss → ArgsAre K pn F' H' vs ss
  | [], [], h => h
  | _ :: _, _ :: _, ⟨h, n, t⟩ => ⟨h.ext e, n, ArgsAre.ext e t⟩
  | [], _ :: _, h => h.elim
  | _ :: _, [], h => h.elim
theorem ArgsAre.tk {K : PySem.W.Frag} {pn : Pn} {F H : Hp} : ∀ {vs : List V} {ss : List Sl}, ArgsAre K pn F H vs ss → ∃ q, pn = some q ∧ q.tb = tabF K
  | [], [], h => h
  | _ :: _, _ :: _, ⟨_, _, t⟩ => ArgsAre.tk t
  | [], _ :: _, h => h.elim
  | _ :: _, [], h => h.elim
theorem ArgsAre.len {K : PySem.W.Frag} {pn : Pn} {F H : Hp} : ∀ {vs : List V} {ss : List Sl}, ArgsAre K pn F H vs ss → vs.length = ss.length
  | [], [], _ => rfl
  | _ :: _, _ :: _, ⟨_, _, t⟩ => congrArg (· + 1) (ArgsAre.len t)
  | [], _ :: _, h => h.elim
  | _ :: _, [], h => h.elim
def lA (K : PySem.W.Frag) (t : WA) : TA := fun σ H Q => ∃ pn F env b P, Rep K pn F H σ env b ∧ t env b P ∧
  ∀ vs ss F' H' b', Ok pn b' F' H' → Ext pn F H F' H' → ArgsAre K pn F' H' vs ss → P ss b' → Q vs H'
structure RepS (K : PySem.W.Frag) (pn : Pn) (F0 H0 F H : Hp) (σ : L2.St) (env : En) (b : Nat) : Prop where
  rep : Rep K pn F H σ env b
  ext : Ext pn F0 H0 F H
  own : ∀ (i : Nat) (a : Addr) (s : Sl), s.isOwn = true → env[i]? = some (some s) → σ[i]? = some (some (V.ref a)) → H0 a = none
/-- a statement -/
def lS (K : PySem.W.Frag) (t : WS) : TS := fun D σ H => ∃ pn F0 H0 F env b PD, RepS K pn F0 H0 F H σ env b ∧ t PD env b ∧
  (∀ σ' F' H' env' b', RepS K pn F0 H0 F' H' σ' env' b' → (PD.nx env' b' → D.nx σ' H') ∧ (PD.bk env' b' → D.bk σ' H') ∧ (PD.ct env' b' → D.ct σ' H')) ∧
  (∀ v d F' H' b', Ok pn b' F' H' → Ext pn F0 H0 F' H' → RV K F' v d → PD.rt d b' → D.rt v H') ∧
  (∀ v ds F' H' b', Ok pn b' F' H' → Ext pn F0 H0 F' H' → OwnL K pn F' H' v ds → (∀ a, v = .ref a → H0 a = none) → PD.rl ds b' → D.rt v H')
/-- a def's promise by what it does to data -/
def spW (K : PySem.W.Frag) (f : WD) : Sp := fun vs H Q _ => ∃ pn F ss b P, Ok pn b F H ∧ ArgsAre K pn F H vs ss ∧ f ss b P ∧
  ∀ v d F' H' b', Ok pn b' F' H' → Ext pn F H F' H' → RV K F' v d → P d b' → Q v H'
section
variable {X : Cx} {e : Expr} {t u : TE}
theorem PE.imp (h : PE X e t) (i : ∀ σ H Q, u σ H Q → t σ H Q) : PE X e u := ⟨fun pins s σ H Q I q => h.run pins s σ H Q I (i _ _ _ q)⟩
theorem PT.imp {t u : TT} (h : PT X e t) (i : ∀ σ H Q, u σ H Q → t σ H Q) : PT X e u := ⟨fun pins s σ H Q I q => h.run pins s σ H Q I (i _ _ _ q)⟩
theorem PA.imp {es : List Expr} {t u : TA} (h : PA X es t) (i : ∀ σ H Q, u σ H Q → t σ H Q) : PA X es u := ⟨fun pos pins s σ H Q I q => h.run pos pins s σ H Q I (i _ _ _ q)⟩
theorem PS.imp {st : Stmt} {t u : TS} (h : PS X st t) (i : ∀ D σ H, u D σ H → t D σ H) : PS X st u := ⟨fun pins s σ H D I q => h.run pins s σ H D I (i _ _ _ q)⟩
theorem PSs.imp {st : List Stmt} {t u : TS} (h : PSs X st t) (i : ∀ D σ H, u D σ H → t D σ H) : PSs X st u := ⟨fun pins s σ H D I q => h.run pins s σ H D I (i _ _ _ q)⟩
end
abbrev EE (X : Cx) (e : Expr) (t : WE) : Prop := PE X e (lE X.K t)
abbrev EB (X : Cx) (e : Expr) (t : WE) : Prop := PE X e (lB X.K t)
abbrev EF (X : Cx) (e : Expr) (t : WF) : Prop := PE X e (lF X.K t)
abbrev ET (X : Cx) (e : Expr) (t : WT) : Prop := PT X e (lT X.K t)
abbrev EA (X : Cx) (es : List Expr) (t : WA) : Prop := PA X es (lA X.K t)
abbrev SS (X : Cx) (st : Stmt) (t : WS) : Prop := PS X st (lS X.K t)
abbrev SB (X : Cx) (st : List Stmt) (t : WS) : Prop := PSs X st (lS X.K t)
section
variable {X : Cx} {e : Expr}
theorem EE.eb {t : WE} (h : EE X e t) : EB X e t := PE.imp h fun σ H Q ⟨pn, F, env, b, P, r, q, k⟩ =>
  ⟨pn, F, env, b, P, r, q, fun v d F' H' b' o x rv p => k v d F' H' b' o x (.inl rv) p⟩
/-- a new list, settled at once -/
def fz (t : WF) : WE := fun env b P => t env b fun ds b' => P (.list ds) b'
theorem EF.ee {t : WF} (h : EF X e t) : EE X e (fz t) := PE.imp h fun σ H Q ⟨pn, F, env, b, P, r, q, k⟩ => by
  refine ⟨pn, F, env, b, _, r, q, fun v d F' H' b' o x ow nw p => ?_⟩
  obtain ⟨a, vs, rfl, f, n, nc, ha, rv⟩ := ow
  refine k (.ref a) (.list d) (upd F' a (.lst vs)) H' b' (o.settle ha f n nc) ⟨x.fsub.trans (same_new f), fun c u hc fc ncp => ?_⟩ (.lst upd_same (rv.mono (same_new f))) p
  obtain ⟨h1, f1⟩ := x.keep c u hc fc ncp
  have ne : c ≠ a := fun z => by rw [z, nw a rfl] at hc; cases hc
  exact ⟨h1, by rw [upd_ne ne]; exact f1⟩
end
end Pu
namespace Pu
open PySem PySem.Spec PyProof.Rows L2
/-- .. a settled value, the pen untouched -/
abbrev Go (K : PySem.W.Frag) (pn : Pn) (b : Nat) (F H : Hp) (P : PyData → Prop) (Q : VK) : Prop :=
  ∀ (w : V) (z : PyData) (F' H' : Hp), Ok pn b F' H' → Ext pn F H F' H' → RV K F' w z → P z → Q w H'
abbrev GoL (K : PySem.W.Frag) (pn : Pn) (b : Nat) (F H : Hp) (P : List PyData → Prop) (Q : VK) : Prop :=
  ∀ (w : V) (z : List PyData) (F' H' : Hp), Ok pn b F' H' → Ext pn F H F' H' → OwnL K pn F' H' w z → (∀ a, w = .ref a → H a = none) → P z → Q w H'
section
variable {K : PySem.W.Frag} {pn : Pn} {b : Nat} {F H : Hp} {P : PyData → Prop} {Q : VK}
theorem Go.tup (k : Go K pn b F H P Q) (o : Ok pn b F H) {vs : List V} {ds : List PyData} (r : RVs K F vs ds) (p : P (.tuple ds)) : NewT H Q vs := fun q ob hq hd =>
  k _ _ _ _ (o.new hq) (.new o hq) (.tup (.inl ⟨ob, upd_same, hd⟩) (r.mono (same_new (o.free hq)))) p
theorem Go.lst (k : Go K pn b F H P Q) (o : Ok pn b F H) {vs : List V} {ds : List PyData} (r : RVs K F vs ds) (p : P (.list ds)) : ∀ q, H q = none → Q (.ref q) (upd H q (.lst vs)) := fun q hq =>
  k _ _ _ _ (o.new hq) (.new o hq) (.lst upd_same (r.mono (same_new (o.free hq)))) p
theorem GoL.lst {P : List PyData → Prop} (k : GoL K pn b F H P Q) (o : Ok pn b F H) {vs : List V} {ds : List PyData} (r : RVs K F vs ds) (p : P ds) : ∀ q, H q = none → Q (.ref q) (upd H q (.lst vs)) := fun q hq => by
  refine k _ _ _ _ (o.own hq) (.own hq) ⟨q, vs, rfl, o.free hq, (o.pen.apartN hq).1, (o.pen.apartN hq).2, upd_same, r⟩ (fun a e => by cases e; exact hq) p
end
theorem Ext.back {pn : Pn} {b b' : Nat} {F H F' H' : Hp} (x : Ext pn F H F' H') (o : Ok pn b F H) (o' : Ok pn b' F' H') {a : Addr} (h : H' a = none) : H a = none := by
  cases e : H a with
  | none => rfl
  | some u =>
    cases f : F a with
    | some z =>
      have := o'.sub a z (x.fsub a z f)
      rw [h] at this; cases this
    | none =>
      by_cases n : NotPen pn a
      · have := (x.keep a u e f n).1
        rw [h] at this; cases this
      · exfalso
        exact n (o'.pen.apartN h).1
abbrev P2 := PyData → PyData → (PyData → Prop) → Prop
def Op2 (K : PySem.W.Frag) (r : R2) (p : P2) : Prop :=
  ∀ (pn : Pn) (b : Nat) (F H : Hp) (v u : V) (x y : PyData) (P : PyData → Prop) (Q : VK), Ok pn b F H → BV K pn F H v x → BV K pn F H u y → p x y P → Go K pn b F H P Q → r v u H Q
def wOp (p : P2) (ta tb : WE) : WE := fun env b P => ta env b fun x b1 => tb env b1 fun y b2 => p x y fun z => P z b2
section
variable {K : PySem.W.Frag} {r : R2} {p : P2} {ta tb : WE}
theorem op2 (o : Op2 K r p) {σ : L2.St} {H : Hp} {Q : VK} (h : lE K (wOp p ta tb) σ H Q) : tOp r (lB K ta) (lB K tb) σ H Q := by
  obtain ⟨pn, F, env, b, P, rep, t, k⟩ := h
  refine ⟨pn, F, env, b, _, rep, t, fun v x F1 H1 b1 o1 e1 bv1 t1 => ?_⟩
  refine ⟨pn, F1, env, b1, _, rep.ext o1 e1, t1, fun u y F2 H2 b2 o2 e2 bv2 t2 => ?_⟩
  exact o pn b2 F2 H2 v u x y _ Q o2 (bv1.ext e2) bv2 t2 fun w z F' H' o3 e3 rv q => k w z F' H' b2 o3 (e1.trans (e2.trans e3)) rv q
end
section
variable {X : Cx} {a c : Expr} {pos : Pos} {ta tb : WE} {r : R2} {p : P2}
theorem e_op {op : Operator} (ho : OpR X (binaryOp op) r) (o : Op2 X.K r p) (ha : EB X a ta) (hb : EB X c tb) : EE X (.BinOp a op c pos) (wOp p ta tb) := PE.imp (pe_op ho ha hb) fun _ _ _ => op2 o
theorem e_cmp {op : CmpOp} (ho : OpR X (compareOp op) r) (o : Op2 X.K r p) (ha : EB X a ta) (hb : EB X c tb) (hm : behindInMarks op c = false) : EE X (.Compare a [op] [c] pos) (wOp p ta tb) := PE.imp (pe_cmpR ho ha hb hm) fun _ _ _ => op2 o
/-- a bool as a test -/
def wTt (t : WE) : WT := fun env b P => t env b fun d b' => match d with | .bool k => P k b' | _ => False
theorem tt_of {K : PySem.W.Frag} {t : WE} {σ : L2.St} {H : Hp} {Q : Bool → Hp → Prop} (h : lT K (wTt t) σ H Q) : lE K t σ H fun x H' => ∃ k, x = .bl k ∧ Q k H' := by
  obtain ⟨pn, F, env, b, P, rep, t, k⟩ := h
  refine ⟨pn, F, env, b, _, rep, t, fun v d F' H' b' o e rv q => ?_⟩
  cases rv with
  | bl c => exact ⟨c, rfl, k c F' H' b' o e q⟩
  | _ => exact q.elim
theorem t_cmp {op : CmpOp} (ho : OpR X (compareOp op) r) (o : Op2 X.K r p) (ha : EB X a ta) (hb : EB X c tb) (hm : behindInMarks op c = false) : ET X (.Compare a [op] [c] pos) (wTt (wOp p ta tb)) := PT.imp (pt_cmpR ho ha hb hm) fun _ _ _ h => op2 o (tt_of h)
end
def pAdd : P2
  | .int i, .int j, P => P (.int (i + j))
  | .str s, .str t, P => s.length + t.length ≤ sizeLine ∧ P (.str (s ++ t))
  | .tuple xs, .tuple ys, P => xs.length + ys.length ≤ sizeLine ∧ P (.tuple (xs ++ ys))
  | .list xs, .list ys, P => xs.length + ys.length ≤ sizeLine ∧ P (.list (xs ++ ys))
  | _, _, _ => False
def rAddA (K : PySem.W.Frag) : R2 := fun x y H Q => (rI0 fun i j => .int (i + j)) x y H Q ∨ (∃ i j, x = .str i ∧ y = .str j ∧ i.length + j.length ≤ sizeLine ∧ Q (.str (i ++ j)) H) ∨ rCatP K x y H Q ∨ rCat x y H Q
theorem opr_add {X : Cx} : OpR X (binaryOp .Add) (rAddA X.K) := OpR.or op_add (OpR.or op_add_str (OpR.or op_catP op_cat))
theorem o_add {K : PySem.W.Frag} : Op2 K (rAddA K) pAdd := by
  intro pn b F H v u x y P Q o bv bu q k
  match x, y, q with
  | .int i, .int j, q => exact .inl ⟨i, j, bv.int, bu.int, k _ _ F H o .refl (.int _) q⟩
  | .str s, .str t, ⟨z, q⟩ => exact .inr (.inl ⟨s, t, bv.str, bu.str, z, k _ _ F H o .refl (.str _) q⟩)
  | .tuple xs, .tuple ys, ⟨z, q⟩ =>
    obtain ⟨a, vs, rfl, h1, r1⟩ := bv.tup o
    obtain ⟨c, us, rfl, h2, r2⟩ := bu.tup o
    refine .inr (.inr (.inl ⟨a, c, vs, us, rfl, rfl, h1, h2, by rw [r1.len, r2.len]; exact z, fun e => ?_, fun _ e => ?_, fun _ _ => k.tup o (r1.app r2) q⟩))
    · subst e
      cases r1
      rcases bu with bu | ⟨_, e, _⟩
      · exact k _ _ F H o .refl bu q
      · cases e
    · subst e
      cases r2
      rcases bv with bv | ⟨_, e, _⟩
      · exact k _ _ F H o .refl bv (by simpa using q)
      · cases e
  | .list xs, .list ys, ⟨z, q⟩ =>
    obtain ⟨a, vs, rfl, h1, r1⟩ := bv.list o
    obtain ⟨c, us, rfl, h2, r2⟩ := bu.list o
    exact .inr (.inr (.inr ⟨a, c, vs, us, rfl, rfl, h1, h2, by rw [r1.len, r2.len]; exact z, k.lst o (r1.app r2) q⟩))
def pI (C : Int → Int → Prop) (g : Int → Int → PyData) : P2
  | .int i, .int j, P => C i j ∧ P (g i j)
  | _, _, _ => False
theorem o_int {K : PySem.W.Frag} {C : Int → Int → Prop} {g : Int → Int → Int} : Op2 K (rI C fun i j => .int (g i j)) (pI C fun i j => .int (g i j)) := by
  intro pn b F H v u x y P Q o bv bu q k
  match x, y, q with
  | .int i, .int j, ⟨c, q⟩ => exact ⟨i, j, bv.int, bu.int, c, k _ _ F H o .refl (.int _) q⟩
theorem o_int0 {K : PySem.W.Frag} {g : Int → Int → Int} : Op2 K (rI0 fun i j => .int (g i j)) (pI (fun _ _ => True) fun i j => .int (g i j)) := by
  intro pn b F H v u x y P Q o bv bu q k
  match x, y, q with
  | .int i, .int j, ⟨c, q⟩ => exact ⟨i, j, bv.int, bu.int, k _ _ F H o .refl (.int _) q⟩
theorem o_intB {K : PySem.W.Frag} {g : Int → Int → Bool} : Op2 K (rI0 fun i j => .bl (g i j)) (pI (fun _ _ => True) fun i j => .bool (g i j)) := by
  intro pn b F H v u x y P Q o bv bu q k
  match x, y, q with
  | .int i, .int j, ⟨c, q⟩ => exact ⟨i, j, bv.int, bu.int, k _ _ F H o .refl (.bl _) q⟩
/-- list * int, int * int -/
def pMul : P2
  | .int i, .int j, P => CMul i j ∧ P (.int (i * j))
  | .list xs, .int k, P => -(2 ^ 63) ≤ k ∧ k < 2 ^ 63 ∧ xs.length * k.toNat ≤ sizeLine ∧ P (.list (List.replicate k.toNat xs).flatten)
  | _, _, _ => False
theorem RVs.rep {K : PySem.W.Frag} {F : Hp} {vs : List V} {ds : List PyData} (r : RVs K F vs ds) : ∀ n, RVs K F (List.replicate n vs).flatten (List.replicate n ds).flatten
  | 0 => .nil
  | n + 1 => by rw [List.replicate_succ, List.replicate_succ, List.flatten_cons, List.flatten_cons]; exact r.app (RVs.rep r n)
def rMulA : R2 := fun x y H Q => (rI CMul fun i j => .int (i * j)) x y H Q ∨ rRep x y H Q
theorem opr_mul {X : Cx} : OpR X (binaryOp .Mult) rMulA := OpR.or op_mul op_rep
mutual
theorem RV.dp {K : PySem.W.Frag} {F H : Hp} (s : Same F H) : ∀ {v : V} {d : PyData}, RV K F v d → d.canLay0 = true → Dp K H v d
  | _, _, .non, _ => .non
  | _, _, .bl b, _ => .bl b
  | _, _, .int i, _ => .int i
  | _, _, .str x, _ => .str x
  | _, _, .lst h r, c => .lst (SqL.of (s _ _ h)) (RVs.dp s r (by simpa [PyData.canLay0] using c))
  | _, _, .tup h r, c => .tup (Same.tup s h.sq) (RVs.dp s r (by simpa [PyData.canLay0] using c))
  | _, _, .dct h, c => by simp [PyData.canLay0] at c
theorem RVs.dp {K : PySem.W.Frag} {F H : Hp} (s : Same F H) : ∀ {vs : List V} {ds : List PyData}, RVs K F vs ds → PyData.canLayAll0 ds = true → DpAll K H vs ds
  | _, _, .nil, _ => .nil
  | _, _, .cons (d := d) (ds := ds) r t, c => by
    have c' : d.canLay0 = true ∧ PyData.canLayAll0 ds = true := by simpa [PyData.canLayAll0] using c
    exact .cons (RV.dp s r c'.1) (RVs.dp s t c'.2)
end
theorem BV.dp {K : PySem.W.Frag} {pn : Pn} {b : Nat} {F H : Hp} {v : V} {d : PyData} (h : BV K pn F H v d) (o : Ok pn b F H) (c : d.canLay0 = true) : Dp K H v d := by
  rcases h with h | ⟨xs, rfl, a, vs, rfl, _, _, _, h, r⟩
  · exact h.dp o.sub c
  · exact .lst (SqL.of h) (r.dp o.sub (by simpa [PyData.canLay0] using c))
def pNe : P2 := fun x y P => SeqAt.shaped x = true ∧ SeqAt.shaped y = true ∧ P (.bool (!PyData.eqv x y))
theorem o_ne {K : PySem.W.Frag} : Op2 K (rNeD K) pNe := by
  intro pn b F H v u x y P Q o bv bu ⟨s1, s2, q⟩ k
  exact ⟨x, y, bv.dp o (SeqAt.canLay_of_shaped s1), bu.dp o (SeqAt.canLay_of_shaped s2), s1, s2, k _ _ F H o .refl (.bl _) q⟩
/-- is None, is True -/
def isNon : PyData → Bool
  | .none => true
  | _ => false
def pIs (neg : Bool) : P2
  | x, .none, P => P (.bool (neg ^^ isNon x))
  | .bool i, .bool j, P => P (.bool (neg ^^ decide (i = j)))
  | _, _, _ => False
def rIsA : R2 := fun x y H Q => (y = .non ∧ Q (.bl (decide (x = .non))) H) ∨ rIsB x y H Q
def rNsA : R2 := fun x y H Q => (y = .non ∧ Q (.bl (!decide (x = .non))) H) ∨ rNotB x y H Q
theorem opr_is {X : Cx} : OpR X (compareOp .Is) rIsA := OpR.or op_isN op_isBl
theorem opr_ns {X : Cx} : OpR X (compareOp .IsNot) rNsA := OpR.or op_notN op_notBl
theorem BV.non_iff {K : PySem.W.Frag} {pn : Pn} {F H : Hp} {v : V} {d : PyData} (h : BV K pn F H v d) : decide (v = .non) = isNon d := by
  rcases h with h | ⟨xs, rfl, a, vs, rfl, _⟩
  · cases h <;> rfl
  · rfl
theorem o_is {K : PySem.W.Frag} : Op2 K rIsA (pIs false) := by
  intro pn b F H v u x y P Q o bv bu q k
  unfold pIs at q
  split at q
  · exact .inl ⟨bu.none', k _ _ F H o .refl (.bl _) (by rw [bv.non_iff]; simpa using q)⟩
  · exact .inr ⟨_, _, bv.bool, bu.bool, k _ _ F H o .refl (.bl _) (by simpa using q)⟩
  · exact q.elim
theorem o_ns {K : PySem.W.Frag} : Op2 K rNsA (pIs true) := by
  intro pn b F H v u x y P Q o bv bu q k
  unfold pIs at q
  split at q
  · exact .inl ⟨bu.none', k _ _ F H o .refl (.bl _) (by rw [bv.non_iff]; simpa using q)⟩
  · exact .inr ⟨_, _, bv.bool, bu.bool, k _ _ F H o .refl (.bl _) (by simpa using q)⟩
  · exact q.elim
/-- x[i] -/
def pIx : P2
  | .list xs, .int i, P => match atI xs i with | some v => P v | none => False
  | .tuple xs, .int i, P => match atI xs i with | some v => P v | none => False
  | .str z, .int i, P => z.length ≤ sizeLine ∧ match atI z.cps.toList i with | some c => P (.str ⟨#[c]⟩) | none => False
  | _, _, _ => False
theorem RVs.atI' {K : PySem.W.Frag} {F : Hp} {vs : List V} {ds : List PyData} {i : Int} {d : PyData} (r : RVs K F vs ds) (h : atI ds i = some d) : ∃ v, atI vs i = some v ∧ RV K F v d := by
  unfold atI at h ⊢
  rw [r.len]
  cases e : ixN ds.length i with
  | none => rw [e] at h; cases h
  | some j => rw [e] at h; exact r.at' h
theorem o_ix {K : PySem.W.Frag} : Op2 K (rIx K) pIx := by
  intro pn b F H v u x y P Q o bv bu q k
  unfold pIx at q
  split at q
  · split at q
    · rename_i h
      obtain ⟨a, vs, rfl, h1, r1⟩ := bv.list o
      obtain ⟨w, hw, rw_⟩ := r1.atI' h
      exact .inl ⟨a, vs, _, w, rfl, bu.int, SqL.of h1, hw, k _ _ F H o .refl rw_ q⟩
    · exact q.elim
  · split at q
    · rename_i h
      obtain ⟨a, vs, rfl, h1, r1⟩ := bv.tup o
      obtain ⟨w, hw, rw_⟩ := r1.atI' h
      exact .inr (.inl ⟨a, vs, _, w, rfl, bu.int, h1, hw, k _ _ F H o .refl rw_ q⟩)
    · exact q.elim
  · obtain ⟨z, q⟩ := q
    split at q
    · rename_i h
      exact .inr (.inr ⟨_, _, _, bv.str, bu.int, z, h, k _ _ F H o .refl (.str _) q⟩)
    · exact q.elim
  · exact q.elim
section
variable {X : Cx} {a c : Expr} {pos : Pos} {ta tb : WE}
theorem e_ix (ha : EB X a ta) (hb : EB X c tb) (hs : PlainIx c) : EE X (.Subscript a c pos) (wOp pIx ta tb) := PE.imp (pe_ix ix_seq ha hb hs) fun _ _ _ => op2 o_ix
end
abbrev P1 := PyData → (PyData → Prop) → Prop
def Cl1 (K : PySem.W.Frag) (r : List V → Hp → VK → Prop) (p : P1) : Prop :=
  ∀ (pn : Pn) (b : Nat) (F H : Hp) (v : V) (x : PyData) (P : PyData → Prop) (Q : VK), Ok pn b F H → BV K pn F H v x → p x P → Go K pn b F H P Q → r [v] H Q
def w1 (p : P1) (ta : WE) : WE := fun env b P => ta env b fun x b1 => p x fun z => P z b1
def w1L (p : PyData → (List PyData → Prop) → Prop) (ta : WE) : WF := fun env b P => ta env b fun x b1 => p x fun z => P z b1
section
variable {X : Cx} {e : Expr} {ta : WE} {x : Str} {p pos : Pos} {id T : String} {r : List V → Hp → VK → Prop} {q : P1}
theorem cl1 {K : PySem.W.Frag} (c : Cl1 K r q) {σ : L2.St} {H : Hp} {Q : VK} (h : lE K (w1 q ta) σ H Q) : tCB r (tCons (lB K ta) tNil) σ H Q := by
  obtain ⟨pn, F, env, b, P, rep, t, k⟩ := h
  exact ⟨pn, F, env, b, _, rep, t, fun v x F1 H1 b1 o1 e1 bv t1 => c pn b1 F1 H1 v x _ _ o1 bv t1 fun w z F' H' o3 e3 rv pz => k w z F' H' b1 o3 (e1.trans e3) rv pz⟩
theorem e_call1 (hc : CallR X (.builtin id) r) (c : Cl1 X.K r q) (hg : Gl X x) (hm : X.mg x = none) (hv : bootBuiltins x = some (.builtin id)) (ha : EB X e ta) (hn : x ≠ "__name__" := by decide) (hdb : (x == ("__debug__" : Str)) = false := by decide)
    (he : starEach [e] X.env = (false, eval e X.env) :: starEach [] X.env := by rfl) : EE X (.Call (.Name x p) [e] [] pos) (w1 q ta) := PE.imp (pe_callB hc hg hm hv (pa_cons ha pa_nil he) hn hdb he) fun _ _ _ => cl1 c
theorem e_ty1 (hc : CallR X (.type T) r) (c : Cl1 X.K r q) (hg : Gl X x) (hm : X.mg x = none) (hv : bootBuiltins x = some (.type T)) (ha : EB X e ta) (hn : x ≠ "__name__" := by decide) (hdb : (x == ("__debug__" : Str)) = false := by decide)
    (he : starEach [e] X.env = (false, eval e X.env) :: starEach [] X.env := by rfl) : EE X (.Call (.Name x p) [e] [] pos) (w1 q ta) := PE.imp (pe_callTy hc hg hm hv (pa_cons ha pa_nil he) hn hdb he) fun _ _ _ => cl1 c
end
def pLen : P1
  | .str z, P => z.length ≤ sizeLine ∧ P (.int z.length)
  | .list xs, P => P (.int xs.length)
  | .tuple xs, P => P (.int xs.length)
  | _, _ => False
theorem c_len {X : Cx} : Cl1 X.K (fun xs H Q => ∃ x n, xs = [x] ∧ LenV X.K x H n ∧ Q (.int n) H) pLen := by
  intro pn b F H v x P Q o bv q k
  match x, q with
  | .str z, ⟨h, q⟩ =>
    have e := bv.str
    subst e
    exact ⟨_, z.length, rfl, ⟨h, rfl⟩, k _ _ F H o .refl (.int _) q⟩
  | .list xs, q =>
    obtain ⟨a, vs, rfl, h1, r1⟩ := bv.list o
    exact ⟨_, vs.length, rfl, .inl ⟨vs, SqL.of h1, rfl⟩, k _ _ F H o .refl (by rw [r1.len]; exact .int _) q⟩
  | .tuple xs, q =>
    obtain ⟨a, vs, rfl, h1, r1⟩ := bv.tup o
    exact ⟨_, vs.length, rfl, .inr ⟨vs, h1, rfl⟩, k _ _ F H o .refl (by rw [r1.len]; exact .int _) q⟩
/-- list(x) of a list or tuple -/
def pListL : PyData → (List PyData → Prop) → Prop
  | .list xs, P => P xs
  | .tuple xs, P => P xs
  | _, _ => False
/-- int(b), int(i) -/
def pInt : P1
  | .int i, P => P (.int i)
  | .bool c, P => P (.int (if c then 1 else 0))
  | _, _ => False
theorem c_int {X : Cx} : Cl1 X.K (fun xs H Q => (∃ i, xs = [.int i] ∧ Q (.int i) H) ∨ ∃ k, xs = [.bl k] ∧ Q (.int (if k then 1 else 0)) H) pInt := by
  intro pn b F H v x P Q o bv q k
  match x, q with
  | .int i, q => exact .inl ⟨i, by rw [bv.int], k _ _ F H o .refl (.int _) q⟩
  | .bool c, q => exact .inr ⟨c, by rw [bv.bool], k _ _ F H o .refl (.int _) q⟩
/-- all(..), any(..) of a list of bools -/
def boolsOf : List PyData → Option (List Bool)
  | [] => some []
  | .bool c :: r => (boolsOf r).map (c :: ·)
  | _ :: _ => none
theorem RVs.bools {K : PySem.W.Frag} {F : Hp} : ∀ {vs : List V} {ds : List PyData} {bs : List Bool}, RVs K F vs ds → boolsOf ds = some bs → vs = bs.map V.bl
  | _, _, _, .nil, h => by simp [boolsOf] at h; subst h; rfl
  | _, _, bs, .cons (d := d) r t, h => by
    cases r with
    | bl c =>
      simp only [boolsOf, Option.map_eq_some_iff] at h
      obtain ⟨cs, h1, rfl⟩ := h
      rw [t.bools h1]; rfl
    | _ => simp [boolsOf] at h
def pAll : P1
  | .list xs, P => match boolsOf xs with | some bs => P (.bool (bs.all id)) | none => False
  | _, _ => False
def pAny : P1
  | .list xs, P => match boolsOf xs with | some bs => P (.bool (bs.any id)) | none => False
  | _, _ => False
theorem c_all {X : Cx} : Cl1 X.K (rAll X.K) pAll := by
  intro pn b F H v x P Q o bv q k
  match x, q with
  | .list xs, q =>
    obtain ⟨a, vs, rfl, h1, r1⟩ := bv.list o
    cases e : boolsOf xs with
    | none => simp only [pAll, e] at q
    | some bs =>
      simp only [pAll, e] at q
      have e2 := r1.bools e
      subst e2
      exact ⟨a, bs, rfl, SqL.of h1, k _ _ F H o .refl (.bl _) q⟩
theorem c_any {X : Cx} : Cl1 X.K (rAny X.K) pAny := by
  intro pn b F H v x P Q o bv q k
  match x, q with
  | .list xs, q =>
    obtain ⟨a, vs, rfl, h1, r1⟩ := bv.list o
    cases e : boolsOf xs with
    | none => simp only [pAny, e] at q
    | some bs =>
      simp only [pAny, e] at q
      have e2 := r1.bools e
      subst e2
      exact ⟨a, bs, rfl, SqL.of h1, k _ _ F H o .refl (.bl _) q⟩
def pTru : PyData → (Bool → Prop) → Prop
  | .none, P => P false
  | .bool c, P => P c
  | .int i, P => P (i != 0)
  | .str z, P => z.length ≤ sizeLine ∧ P ((z.length : Int) != 0)
  | .list xs, P => P (!xs.isEmpty)
  | .tuple xs, P => P (!xs.isEmpty)
  | .dict kvs, P => P (!kvs.isEmpty)
theorem isE {K : PySem.W.Frag} {F : Hp} {vs : List V} {ds : List PyData} (r : RVs K F vs ds) : (!vs.isEmpty) = !ds.isEmpty := by cases r <;> rfl
theorem tru {K : PySem.W.Frag} {pn : Pn} {b : Nat} {F H : Hp} {v : V} {x : PyData} (o : Ok pn b F H) (bv : BV K pn F H v x) {P : Bool → Prop} (q : pTru x P) : ∃ k, TruV K v H k ∧ P k := by
  match x, q with
  | .none, q => have e := bv.none'; subst e; exact ⟨false, rfl, q⟩
  | .bool c, q => have e := bv.bool; subst e; exact ⟨c, rfl, q⟩
  | .int i, q => have e := bv.int; subst e; exact ⟨_, rfl, q⟩
  | .str z, ⟨h, q⟩ => have e := bv.str; subst e; exact ⟨_, ⟨h, rfl⟩, q⟩
  | .list xs, q =>
    obtain ⟨a, vs, rfl, h1, r1⟩ := bv.list o
    exact ⟨_, .inl ⟨vs, SqL.of h1, rfl⟩, by rw [isE r1]; exact q⟩
  | .tuple xs, q =>
    obtain ⟨a, vs, rfl, h1, r1⟩ := bv.tup o
    exact ⟨_, .inr (.inl ⟨vs, h1, rfl⟩), by rw [isE r1]; exact q⟩
  | .dict kvs, q =>
    rcases bv with bv | ⟨_, e, _⟩
    · cases bv with
      | dct h => exact ⟨_, .inr (.inr ⟨[], o.sub _ _ h, rfl⟩), q⟩
    · cases e
def wTru (t : WE) : WT := fun env b P => t env b fun x b1 => pTru x fun k => P k b1
def wAndT (t u : WT) : WT := fun env b P => t env b fun c b1 => if c = true then u env b1 P else P false b1
def wOrT (t u : WT) : WT := fun env b P => t env b fun c b1 => if c = true then P true b1 else u env b1 P
def wNotT (t : WT) : WT := fun env b P => t env b fun c b1 => P (!c) b1
def wIfE (c : WT) (t u : WE) : WE := fun env b P => c env b fun k b1 => if k = true then t env b1 P else u env b1 P
def wOrE (t u : WE) : WE := fun env b P => t env b fun x b1 => pTru x fun k => if k = true then P x b1 else u env b1 P
def wAndE (t u : WE) : WE := fun env b P => t env b fun x b1 => pTru x fun k => if k = true then u env b1 P else P x b1
def wNotE (t : WE) : WE := fun env b P => t env b fun x b1 => pTru x fun k => P (.bool (!k)) b1
section
variable {X : Cx} {a c e : Expr} {pos : Pos} {rest : List Expr} {ta tb : WE} {ua ub : WT}
theorem t_tru (ha : EB X a ta) (he : ∀ whole, isTrue a X.env whole = (do let v ← whole; standAt a.pos; holding [v] (truthy v))) : ET X a (wTru ta) := PT.imp (pt_truth ha he) fun σ H Q ⟨pn, F, env, b, P, rep, t, k⟩ =>
  ⟨pn, F, env, b, _, rep, t, fun v x F1 H1 b1 o1 e1 bv t1 => let ⟨c, h1, h2⟩ := tru o1 bv t1; ⟨c, h1, k c F1 H1 b1 o1 e1 h2⟩⟩
theorem PW.imp {t u : TT} (h : PW X e t) (i : ∀ σ H Q, u σ H Q → t σ H Q) : PW X e u := ⟨fun wh pins s σ H Q I q => h.run wh pins s σ H Q I (i _ _ _ q)⟩
theorem tw_and (ha : ET X a ua) (hb : PW X (.BoolOp .And (c :: rest) pos) (lT X.K ub)) : PW X (.BoolOp .And (a :: c :: rest) pos) (lT X.K (wAndT ua ub)) := PW.imp (pw_and ha hb) fun σ H Q ⟨pn, F, env, b, P, rep, t, k⟩ => by
  refine ⟨pn, F, env, b, _, rep, t, fun kc F1 H1 b1 o1 e1 t1 => ?_⟩
  cases kc with
  | true => exact ⟨pn, F1, env, b1, _, rep.ext o1 e1, t1, fun k' F2 H2 b2 o2 e2 q => k k' F2 H2 b2 o2 (e1.trans e2) q⟩
  | false => exact k false F1 H1 b1 o1 e1 t1
theorem tw_or (ha : ET X a ua) (hb : PW X (.BoolOp .Or (c :: rest) pos) (lT X.K ub)) : PW X (.BoolOp .Or (a :: c :: rest) pos) (lT X.K (wOrT ua ub)) := PW.imp (pw_or ha hb) fun σ H Q ⟨pn, F, env, b, P, rep, t, k⟩ => by
  refine ⟨pn, F, env, b, _, rep, t, fun kc F1 H1 b1 o1 e1 t1 => ?_⟩
  cases kc with
  | false => exact ⟨pn, F1, env, b1, _, rep.ext o1 e1, t1, fun k' F2 H2 b2 o2 e2 q => k k' F2 H2 b2 o2 (e1.trans e2) q⟩
  | true => exact k true F1 H1 b1 o1 e1 t1
theorem t_not (ha : ET X a ua) : ET X (.UnaryOp .Not a pos) (wNotT ua) := PT.imp (pt_not ha) fun σ H Q ⟨pn, F, env, b, P, rep, t, k⟩ =>
  ⟨pn, F, env, b, _, rep, t, fun kc F1 H1 b1 o1 e1 t1 => k _ F1 H1 b1 o1 e1 t1⟩
theorem e_if (hc : ET X c ua) (ha : EE X a ta) (hb : EE X e tb) : EE X (.IfExp c a e pos) (wIfE ua ta tb) := PE.imp (pe_ifExp hc ha hb) fun σ H Q ⟨pn, F, env, b, P, rep, t, k⟩ => by
  refine ⟨pn, F, env, b, _, rep, t, fun kc F1 H1 b1 o1 e1 t1 => ?_⟩
  cases kc with
  | true => exact ⟨pn, F1, env, b1, _, rep.ext o1 e1, t1, fun v d F2 H2 b2 o2 e2 rv q => k v d F2 H2 b2 o2 (e1.trans e2) rv q⟩
  | false => exact ⟨pn, F1, env, b1, _, rep.ext o1 e1, t1, fun v d F2 H2 b2 o2 e2 rv q => k v d F2 H2 b2 o2 (e1.trans e2) rv q⟩
theorem e_or (ha : EE X a ta) (hb : EE X (.BoolOp .Or (c :: rest) pos) tb) : EE X (.BoolOp .Or (a :: c :: rest) pos) (wOrE ta tb) := PE.imp (pe_orT ha hb) fun σ H Q ⟨pn, F, env, b, P, rep, t, k⟩ => by
  refine ⟨pn, F, env, b, _, rep, t, fun v x F1 H1 b1 o1 e1 rv t1 => ?_⟩
  obtain ⟨kc, h1, h2⟩ := tru o1 (.inl rv) t1
  refine ⟨kc, h1, ?_⟩
  cases kc with
  | true => exact k v x F1 H1 b1 o1 e1 rv h2
  | false => exact ⟨pn, F1, env, b1, _, rep.ext o1 e1, h2, fun v d F2 H2 b2 o2 e2 rv q => k v d F2 H2 b2 o2 (e1.trans e2) rv q⟩
theorem e_and (ha : EE X a ta) (hb : EE X (.BoolOp .And (c :: rest) pos) tb) : EE X (.BoolOp .And (a :: c :: rest) pos) (wAndE ta tb) := PE.imp (pe_andT ha hb) fun σ H Q ⟨pn, F, env, b, P, rep, t, k⟩ => by
  refine ⟨pn, F, env, b, _, rep, t, fun v x F1 H1 b1 o1 e1 rv t1 => ?_⟩
  obtain ⟨kc, h1, h2⟩ := tru o1 (.inl rv) t1
  refine ⟨kc, h1, ?_⟩
  cases kc with
  | false => exact k v x F1 H1 b1 o1 e1 rv h2
  | true => exact ⟨pn, F1, env, b1, _, rep.ext o1 e1, h2, fun v d F2 H2 b2 o2 e2 rv q => k v d F2 H2 b2 o2 (e1.trans e2) rv q⟩
theorem e_not (ha : EB X a ta) : EE X (.UnaryOp .Not a pos) (wNotE ta) := PE.imp (pe_notT ha) fun σ H Q ⟨pn, F, env, b, P, rep, t, k⟩ =>
  ⟨pn, F, env, b, _, rep, t, fun v x F1 H1 b1 o1 e1 bv t1 => let ⟨c, h1, h2⟩ := tru o1 bv t1; ⟨c, h1, k _ _ F1 H1 b1 o1 e1 (.bl _) h2⟩⟩
end
def wC (d : PyData) : WE := fun _ b P => P d b
def wVar (i : Nat) : WE := fun env b P => match env[i]? with
  | some (some (.d x)) => P x b
  | some (some (.l xs)) => P (.list xs) b
  | some (some (.r xs)) => P (.list xs) b
  | _ => False
def wVal (i : Nat) : WE := fun env b P => match env[i]? with
  | some (some (.d x)) => P x b
  | _ => False
section
variable {X : Cx} {i : Nat} {x : Str} {pos : Pos}
theorem b_var (h : PE X (.Name x pos) (tVar i)) : EB X (.Name x pos) (wVar i) := PE.imp h fun σ H Q ⟨pn, F, env, b, P, rep, t, k⟩ => by
  unfold wVar at t
  split at t
  · rename_i y h
    obtain ⟨v, h1, h2⟩ := rep.slot i _ h
    exact ⟨v, h1, k v y F H b rep.ok .refl (.inl h2) t⟩
  · rename_i y h
    obtain ⟨v, h1, h2⟩ := rep.slot i _ h
    exact ⟨v, h1, k v _ F H b rep.ok .refl (.inr ⟨_, rfl, h2⟩) t⟩
  · rename_i y h
    obtain ⟨v, h1, h2⟩ := rep.slot i _ h
    exact ⟨v, h1, k v _ F H b rep.ok .refl (.inr ⟨_, rfl, h2⟩) t⟩
  · exact t.elim
theorem e_var (h : PE X (.Name x pos) (tVar i)) : EE X (.Name x pos) (wVal i) := PE.imp h fun σ H Q ⟨pn, F, env, b, P, rep, t, k⟩ => by
  unfold wVal at t
  split at t
  · rename_i y h
    obtain ⟨v, h1, h2⟩ := rep.slot i _ h
    exact ⟨v, h1, k v y F H b rep.ok .refl h2 t⟩
  · exact t.elim
theorem e_c {e : Expr} {v : V} {d : PyData} (h : PE X e (tC v)) (r : ∀ F, RV X.K F v d) : EE X e (wC d) := PE.imp h fun σ H Q ⟨pn, F, env, b, P, rep, t, k⟩ => k v d F H b rep.ok .refl (r F) t
theorem e_int {n : Int} {j : Nat} : EE X (.Constant (.int n) j pos) (wC (.int n)) := e_c pe_int fun _ => .int n
theorem e_bl {n : Bool} {j : Nat} : EE X (.Constant (.bool n) j pos) (wC (.bool n)) := e_c pe_bl fun _ => .bl n
theorem e_str {n : Str} {j : Nat} : EE X (.Constant (.str n) j pos) (wC (.str n)) := e_c pe_str fun _ => .str n
theorem e_non {j : Nat} : EE X (.Constant .none j pos) (wC .none) := e_c pe_non fun _ => .non
def wNeg (ta : WE) : WE := fun env b P => ta env b fun x b1 => match x with | .int i => P (.int (-i)) b1 | _ => False
theorem e_neg {e : Expr} {ta : WE} (ha : EB X e ta) : EE X (.UnaryOp .USub e pos) (wNeg ta) := PE.imp (pe_un un_neg ha) fun σ H Q ⟨pn, F, env, b, P, rep, t, k⟩ => by
  refine ⟨pn, F, env, b, _, rep, t, fun v x F1 H1 b1 o1 e1 bv t1 => ?_⟩
  match x, t1 with
  | .int i, t1 => exact ⟨i, bv.int, k _ _ F1 H1 b1 o1 e1 (.int _) t1⟩
end
abbrev WL := En → Nat → (List PyData → Nat → Prop) → Prop
def lD (K : PySem.W.Frag) (t : WL) : TA := fun σ H Q => ∃ pn F env b P, Rep K pn F H σ env b ∧ t env b P ∧
  ∀ vs ds F' H' b', Ok pn b' F' H' → Ext pn F H F' H' → RVs K F' vs ds → P ds b' → Q vs H'
abbrev ED (X : Cx) (es : List Expr) (t : WL) : Prop := PA X es (lD X.K t)
def wNil : WL := fun _ b P => P [] b
def wCons (t : WE) (u : WL) : WL := fun env b P => t env b fun x b1 => u env b1 fun xs b2 => P (x :: xs) b2
section
variable {X : Cx} {e : Expr} {es : List Expr} {pos : Pos} {te : WE} {t : WL}
theorem d_nil : ED X [] wNil := PA.imp pa_nil fun σ H Q ⟨pn, F, env, b, P, rep, t, k⟩ => k [] [] F H b rep.ok .refl .nil t
theorem d_cons (ha : EE X e te) (hr : ED X es t) (hs : starEach (e :: es) X.env = (false, eval e X.env) :: starEach es X.env := by rfl) : ED X (e :: es) (wCons te t) := PA.imp (pa_cons ha hr hs) fun σ H Q ⟨pn, F, env, b, P, rep, t, k⟩ =>
  ⟨pn, F, env, b, _, rep, t, fun v x F1 H1 b1 o1 e1 rv t1 => ⟨pn, F1, env, b1, _, rep.ext o1 e1, t1, fun vs ds F2 H2 b2 o2 e2 rvs q => k _ _ F2 H2 b2 o2 (e1.trans e2) (.cons (rv.mono e2.fsub) rvs) q⟩⟩
def wTup (t : WL) : WE := fun env b P => t env b fun xs b1 => xs.length ≤ sizeLine ∧ P (.tuple xs) b1
def wLst (t : WL) : WF := fun env b P => t env b fun xs b1 => xs.length ≤ sizeLine ∧ P xs b1
theorem e_tup {x1 : Nat} (h : ED X es t) : EE X (.Tuple es x1 pos) (wTup t) := PE.imp (pe_tupP h) fun σ H Q ⟨pn, F, env, b, P, rep, t, k⟩ =>
  ⟨pn, F, env, b, _, rep, t, fun vs ds F1 H1 b1 o1 e1 rvs ⟨z, q⟩ => ⟨by rw [rvs.len]; exact z, Go.tup (P := fun d => P d b1) (fun w z F' H' o2 e2 rv q => k w z F' H' b1 o2 (e1.trans e2) rv q) o1 rvs q⟩⟩
theorem f_lst (h : ED X es t) : EF X (.List es pos) (wLst t) := PE.imp (pe_lst h) fun σ H Q ⟨pn, F, env, b, P, rep, t, k⟩ =>
  ⟨pn, F, env, b, _, rep, t, fun vs ds F1 H1 b1 o1 e1 rvs ⟨z, q⟩ => ⟨by rw [rvs.len]; exact z, GoL.lst (P := fun d => P d b1) (fun w z F' H' o2 e2 rv nw q => k w z F' H' b1 o2 (e1.trans e2) rv (fun a e => e1.back rep.ok o1 (nw a e)) q) o1 rvs q⟩⟩
end
end Pu
namespace Pu
open PySem PySem.Spec PyProof.Rows L2
def tyD : PyData → String
  | .none => "NoneType"
  | .bool _ => "bool"
  | .int _ => "int"
  | .str _ => "str"
  | .list _ => "list"
  | .tuple _ => "tuple"
  | .dict _ => "dict"
def isiD (T : String) (d : PyData) : Bool := tyD d == T || (T == "int" && tyD d == "bool")
theorem BV.ty {K : PySem.W.Frag} {pn : Pn} {b : Nat} {F H : Hp} {v : V} {x : PyData} (o : Ok pn b F H) (bv : BV K pn F H v x) : TyX K H v (.type (tyD x)) := by
  rcases bv with bv | ⟨xs, rfl, a, vs, rfl, _, _, _, h, _⟩
  · cases bv with
    | non => exact .base .non
    | bl c => exact .base (.bl c)
    | int i => exact .base (.int i)
    | str i => exact .base (.str i)
    | lst h _ => exact .base (.lst (o.sub _ _ h))
    | dct h => exact .base (.dK (o.sub _ _ h))
    | tup h _ =>
      rcases h with ⟨ob, h, _⟩ | ⟨ob, _, _, hk, hc, _⟩
      · exact .fTuple (o.sub _ _ h)
      · exact .kTuple hk hc
  · exact .base (.lst h)
/-- the answers for the classes that are written -/
def KitT (T : String) : Prop := ∀ d : PyData, kitB (tyD d) T = some (isiD T d)
theorem kit_all (T : String) (h : (["NoneType", "bool", "int", "str", "list", "tuple", "dict"].all fun s => decide (kitB s T = some (s == T || (T == "int" && s == "bool")))) = true) : KitT T := fun d => by
  have h' := List.all_eq_true.mp h
  have : tyD d ∈ ["NoneType", "bool", "int", "str", "list", "tuple", "dict"] := by cases d <;> simp [tyD]
  exact of_decide_eq_true (h' _ this)
theorem kit_int : KitT "int" := kit_all _ (by decide +kernel)
theorem kit_str : KitT "str" := kit_all _ (by decide +kernel)
theorem kit_bool : KitT "bool" := kit_all _ (by decide +kernel)
theorem kit_tuple : KitT "tuple" := kit_all _ (by decide +kernel)
theorem kit_list : KitT "list" := kit_all _ (by decide +kernel)
def pIsi (Ts : List String) : P1 := fun d P => P (.bool (Ts.any fun T => isiD T d))
section
variable {X : Cx} {e ec : Expr} {ta : WE} {x T : Str} {p pos tpos : Pos}
theorem e_isi {T : String} (kt : KitT T) (hg : Gl X "isinstance") (hm : X.mg "isinstance" = none) (ha : EB X e ta) (hc : PE X ec (tC (.ty T)))
    (he : starEach [e, ec] X.env = (false, eval e X.env) :: starEach [ec] X.env := by rfl) (he2 : starEach [ec] X.env = (false, eval ec X.env) :: starEach [] X.env := by rfl) (hpl : (backTo pos (starEach [ec] X.env)).any (·.1) = false := by rfl) :
    EE X (.Call (.Name "isinstance" p) [e, ec] [] pos) (w1 (pIsi [T]) ta) :=
  PE.imp (pe_callB call_isi hg hm (by decide +kernel) (pa_cons ha (pa_cons hc pa_nil he2) he) (by decide) (by decide) he hpl) fun σ H Q ⟨pn, F, env, b, P, rep, t, k⟩ =>
    ⟨pn, F, env, b, _, rep, t, fun v d F1 H1 b1 o1 e1 bv t1 => ⟨v, _, _, _, isiD T d, rfl, .ty T, bv.ty o1, kit_ty (kt d), k _ _ F1 H1 b1 o1 e1 (.bl _) (by simpa [pIsi] using t1)⟩⟩
/-- the classes of a written tuple -/
inductive Tys (X : Cx) : List Expr → List String → TA → Prop
  | nil : Tys X [] [] tNil
  | cons {e : Expr} {es : List Expr} {T : String} {Ts : List String} {t : TA} : KitT T → PE X e (tC (.ty T)) → starEach (e :: es) X.env = (false, eval e X.env) :: starEach es X.env → Tys X es Ts t → Tys X (e :: es) (T :: Ts) (tCons (tC (.ty T)) t)
theorem Tys.pa {es : List Expr} {Ts : List String} {t : TA} (h : Tys X es Ts t) : PA X es t := by
  induction h with
  | nil => exact pa_nil
  | cons _ h1 h2 _ ih => exact pa_cons h1 ih h2
theorem Tys.run {es : List Expr} {Ts : List String} {t : TA} (h : Tys X es Ts t) {σ : L2.St} {H : Hp} {Q : List V → Hp → Prop} (q : Q (Ts.map V.ty) H) : t σ H Q := by
  induction h generalizing Q with
  | nil => exact q
  | cons _ _ _ _ ih => exact ih q
theorem Tys.cls : ∀ Ts : List String, Paired ClsV (Ts.map V.ty) (Ts.map Value.type)
  | [] => .nil
  | T :: r => .cons (.ty T) (Tys.cls r)
end
abbrev WO := En → Nat → (Option Int → Nat → Prop) → Prop
def lO (K : PySem.W.Frag) (t : WO) : TO := fun σ H Q => ∃ pn F env b P, Rep K pn F H σ env b ∧ t env b P ∧
  ∀ o F' H' b', Ok pn b' F' H' → Ext pn F H F' H' → P o b' → Q o H'
abbrev EO (X : Cx) (e : Option Expr) (t : WO) : Prop := PO X e (lO X.K t)
theorem PO.imp {X : Cx} {e : Option Expr} {t u : TO} (h : PO X e t) (i : ∀ σ H Q, u σ H Q → t σ H Q) : PO X e u := ⟨fun pins s σ H Q I q => h.run pins s σ H Q I (i _ _ _ q)⟩
def wNoPart : WO := fun _ b P => P none b
def wPart (t : WE) : WO := fun env b P => t env b fun x b1 => match x with | .int i => P (some i) b1 | _ => False
theorem o_none {X : Cx} : EO X none wNoPart := PO.imp po_none fun σ H Q ⟨pn, F, env, b, P, rep, t, k⟩ => k none F H b rep.ok .refl t
theorem o_some {X : Cx} {e : Expr} {t : WE} (h : EB X e t) : EO X (some e) (wPart t) := PO.imp (po_some h) fun σ H Q ⟨pn, F, env, b, P, rep, t, k⟩ => by
  refine ⟨pn, F, env, b, _, rep, t, fun v x F1 H1 b1 o1 e1 bv t1 => ?_⟩
  match x, t1 with
  | .int i, t1 => exact ⟨i, bv.int, k _ F1 H1 b1 o1 e1 t1⟩
def cutD (xs : List PyData) (lo hi : Option Int) : List PyData := (xs.drop (HT.sIx xs.length 0 lo)).take (HT.sIx xs.length xs.length hi - HT.sIx xs.length 0 lo)
def pSl (lo hi : Option Int) : P1
  | .str z, P => z.length ≤ sizeLine ∧ P (.str (cutS z lo hi))
  | .tuple xs, P => P (.tuple (cutD xs lo hi))
  | .list xs, P => P (.list (cutD xs lo hi))
  | _, _ => False
def wSl (t : WE) (l h : WO) : WE := fun env b P => t env b fun x b1 => l env b1 fun lo b2 => h env b2 fun hi b3 => pSl lo hi x fun z => P z b3
def wSlL (t : WE) (l h : WO) : WF := fun env b P => t env b fun x b1 => l env b1 fun lo b2 => h env b2 fun hi b3 => match x with | .list xs => P (cutD xs lo hi) b3 | _ => False
theorem RVs.cut {K : PySem.W.Frag} {F : Hp} {vs : List V} {ds : List PyData} (r : RVs K F vs ds) (lo hi : Option Int) : RVs K F (cutV vs lo hi) (cutD ds lo hi) := by
  unfold cutV cutD
  rw [r.len]
  exact (r.drop' _).take' _
theorem cutV_whole {xs : List V} {lo hi : Option Int} (h : HT.sIx xs.length 0 lo = 0 ∧ HT.sIx xs.length xs.length hi = xs.length) : cutV xs lo hi = xs := by
  unfold cutV; rw [h.1, h.2]; simp
section
variable {X : Cx} {e : Expr} {te : WE} {lo hi : Option Expr} {tl th : WO} {pos p2 : Pos}
theorem e_sl (he : EB X e te) (hl : EO X lo tl) (hu : EO X hi th) : EE X (.Subscript e (.Slice lo hi none p2) pos) (wSl te tl th) :=
  PE.imp (pe_slice (SlR.or sl_str (SlR.or sl_tupP sl_list)) he hl hu) fun σ H Q ⟨pn, F, env, b, P, rep, t, k⟩ => by
    refine ⟨pn, F, env, b, _, rep, t, fun v x F1 H1 b1 o1 e1 bv t1 => ?_⟩
    refine ⟨pn, F1, env, b1, _, rep.ext o1 e1, t1, fun l F2 H2 b2 o2 e2 t2 => ?_⟩
    refine ⟨pn, F2, env, b2, _, (rep.ext o1 e1).ext o2 e2, t2, fun u F3 H3 b3 o3 e3 t3 => ?_⟩
    have bv3 := (bv.ext e2).ext e3
    have k3 : Go X.K pn b3 F3 H3 (fun z => P z b3) Q := fun w z F' H' o4 e4 rv q => k w z F' H' b3 o4 (e1.trans (e2.trans (e3.trans e4))) rv q
    match x, t3 with
    | .str z, ⟨hz, q⟩ => exact .inl ⟨z, bv3.str, hz, k3 _ _ F3 H3 o3 .refl (.str _) q⟩
    | .tuple xs, q =>
      rcases bv3 with bv3 | ⟨_, e, _⟩
      · cases bv3 with
        | tup h r =>
          refine .inr (.inl ⟨_, _, rfl, Same.tup o3.sub h.sq, fun z => ?_, fun z => k3.tup o3 (r.cut l u) q⟩)
          have := r.cut l u
          rw [cutV_whole z] at this
          exact k3 _ _ F3 H3 o3 .refl (.tup h this) q
      · cases e
    | .list xs, q =>
      obtain ⟨a, vs, rfl, h1, r1⟩ := bv3.list o3
      exact .inr (.inr ⟨a, vs, rfl, SqL.of h1, k3.lst o3 (r1.cut l u) q⟩)
end
def strsOf : List PyData → Option (List Str)
  | [] => some []
  | .str c :: r => (strsOf r).map (c :: ·)
  | _ :: _ => none
theorem RVs.strs {K : PySem.W.Frag} {F : Hp} : ∀ {vs : List V} {ds : List PyData} {bs : List Str}, RVs K F vs ds → strsOf ds = some bs → vs = bs.map V.str
  | _, _, _, .nil, h => by simp [strsOf] at h; subst h; rfl
  | _, _, bs, .cons (d := d) r t, h => by
    cases r with
    | str c =>
      simp only [strsOf, Option.map_eq_some_iff] at h
      obtain ⟨cs, h1, rfl⟩ := h
      rw [t.strs h1]; rfl
    | _ => simp [strsOf] at h
abbrev PS2 := Str → PyData → (PyData → Prop) → Prop
/-- sep.join(list of texts) -/
def pJoin : PS2
  | a, .list xs, P => match strsOf xs with | some ys => (ys.map (·.length)).sum + ys.length * a.length ≤ 16777216 ∧ P (.str (Txt.join a ys)) | none => False
  | _, _, _ => False
/-- s.index(t) -/
def pIndex : PS2
  | a, .str c, P => match Builtin.Str.occurrences a c 0 a.length 1 with | i :: _ => P (.int (i : Nat)) | [] => False
  | _, _, _ => False
/-- a method of a text with one argument -/
def wMS (p : PS2) (ta tb : WE) : WE := fun env b P => ta env b fun x b1 => match x with
  | .str a => tb env b1 fun y b2 => p a y fun z => P z b2
  | _ => False
def MsR (K : PySem.W.Frag) (r : V → List V → Hp → VK → Prop) (p : PS2) : Prop :=
  ∀ (pn : Pn) (b : Nat) (F H : Hp) (a : Str) (u : V) (y : PyData) (P : PyData → Prop) (Q : VK), Ok pn b F H → BV K pn F H u y → p a y P → Go K pn b F H P Q → r (.str a) [u] H Q
section
variable {X : Cx} {o e : Expr} {ta tb : WE} {apos pos : Pos}
theorem ms_run {r : V → List V → Hp → VK → Prop} {p : PS2} (m : MsR X.K r p) {σ : L2.St} {H : Hp} {Q : VK} (h : lE X.K (wMS p ta tb) σ H Q) : tM1 r (lB X.K ta) (lB X.K tb) σ H Q := by
  obtain ⟨pn, F, env, b, P, rep, t, k⟩ := h
  refine ⟨pn, F, env, b, _, rep, t, fun v x F1 H1 b1 o1 e1 bv t1 => ?_⟩
  cases x with
  | str a =>
    have e := bv.str
    subst e
    exact ⟨⟨a, rfl⟩, pn, F1, env, b1, _, rep.ext o1 e1, t1, fun u y F2 H2 b2 o2 e2 bu t2 => m pn b2 F2 H2 a u y _ Q o2 bu t2 fun w z F' H' o3 e3 rv q => k w z F' H' b2 o3 (e1.trans (e2.trans e3)) rv q⟩
  | _ => exact t1.elim
theorem m_join {K : PySem.W.Frag} : MsR K (fun x xs H Q => ∃ a p, ∃ ys : List Str, x = .str a ∧ xs = [.ref p] ∧ (SqL K H p (ys.map V.str) ∨ SqT K H p (ys.map V.str)) ∧ (ys.map (·.length)).sum + ys.length * a.length ≤ 16777216 ∧ Q (.str (Txt.join a ys)) H) pJoin := by
  intro pn b F H a u y P Q o bu q k
  match y, q with
  | .list xs, q =>
    obtain ⟨p, vs, rfl, h1, r1⟩ := bu.list o
    cases es : strsOf xs with
    | none => simp only [pJoin, es] at q
    | some ys =>
      simp only [pJoin, es] at q
      have e3 := r1.strs es
      subst e3
      exact ⟨a, p, ys, rfl, rfl, .inl (SqL.of h1), q.1, k _ _ F H o .refl (.str _) q.2⟩
theorem e_join (ho : EB X o ta) (he : EB X e tb) (hs : starEach [e] X.env = [(false, eval e X.env)] := by rfl) (hbase : attributeBase o "join" X.env (eval o X.env) = eval o X.env := by rfl) (hline : (apos.endLine == pos.line) = true := by rfl) :
    EE X (.Call (.Attribute o "join" apos) [e] [] pos) (wMS pJoin ta tb) := PE.imp (pe_join ho he hs hbase hline) fun σ H Q h => ms_run m_join h
end
def wANil : WA := fun _ b P => P [] b
def wACons (t : WE) (u : WA) : WA := fun env b P => t env b fun x b1 => u env b1 fun xs b2 => P (.d x :: xs) b2
/-- the pen, a list of one's own, handed on by name -/
def wAName (i : Nat) (u : WA) : WA := fun env b P => match env[i]? with
  | some (some .p) => u env b fun xs b2 => P (.p :: xs) b2
  | some (some (.d x)) => u env b fun xs b2 => P (.d x :: xs) b2
  | some (some (.l ys)) => u env b fun xs b2 => P (.r ys :: xs) b2
  | some (some (.r ys)) => u env b fun xs b2 => P (.r ys :: xs) b2
  | _ => False
def wCall (f : WD) (t : WA) : WE := fun env b P => t env b fun ss b1 => f ss b1 P
section
variable {X : Cx} {e : Expr} {es : List Expr} {te : WE} {t : WA} {i : Nat} {x : Str} {p pos : Pos} {f : Addr} {fd : FuncData} {ps : List Str} {k : Nat} {w : WD}
theorem a_nil : EA X [] wANil := PA.imp pa_nil fun σ H Q ⟨pn, F, env, b, P, rep, t, k⟩ => k [] [] F H b rep.ok .refl rep.tk t
theorem a_cons (ha : EE X e te) (hr : EA X es t) (hs : starEach (e :: es) X.env = (false, eval e X.env) :: starEach es X.env := by rfl) : EA X (e :: es) (wACons te t) := PA.imp (pa_cons ha hr hs) fun σ H Q ⟨pn, F, env, b, P, rep, t, k⟩ =>
  ⟨pn, F, env, b, _, rep, t, fun v x F1 H1 b1 o1 e1 rv t1 => ⟨pn, F1, env, b1, _, rep.ext o1 e1, t1, fun vs ss F2 H2 b2 o2 e2 ar q => k _ (.d x :: ss) F2 H2 b2 o2 (e1.trans e2) ⟨rv.mono e2.fsub, rfl, ar⟩ q⟩⟩
theorem a_name (ha : PE X (.Name x p) (tVar i)) (hr : EA X es t) (hs : starEach (.Name x p :: es) X.env = (false, eval (.Name x p) X.env) :: starEach es X.env := by rfl) : EA X (.Name x p :: es) (wAName i t) := PA.imp (pa_cons ha hr hs) fun σ H Q ⟨pn, F, env, b, P, rep, t, k⟩ => by
  unfold wAName at t
  split at t
  · rename_i h
    obtain ⟨v, h1, h2⟩ := rep.slot i _ h
    exact ⟨v, h1, pn, F, env, b, _, rep, t, fun vs ss F2 H2 b2 o2 e2 ar q => k _ (.p :: ss) F2 H2 b2 o2 e2 ⟨h2.ext e2, rfl, ar⟩ q⟩
  · rename_i y h
    obtain ⟨v, h1, h2⟩ := rep.slot i _ h
    exact ⟨v, h1, pn, F, env, b, _, rep, t, fun vs ss F2 H2 b2 o2 e2 ar q => k _ (.d y :: ss) F2 H2 b2 o2 e2 ⟨h2.ext e2, rfl, ar⟩ q⟩
  · rename_i ys h
    obtain ⟨v, h1, h2⟩ := rep.slot i _ h
    exact ⟨v, h1, pn, F, env, b, _, rep, t, fun vs ss F2 H2 b2 o2 e2 ar q => k _ (.r ys :: ss) F2 H2 b2 o2 e2 ⟨SlIs.ext (s := .r ys) h2 e2, rfl, ar⟩ q⟩
  · rename_i ys h
    obtain ⟨v, h1, h2⟩ := rep.slot i _ h
    exact ⟨v, h1, pn, F, env, b, _, rep, t, fun vs ss F2 H2 b2 o2 e2 ar q => k _ (.r ys :: ss) F2 H2 b2 o2 e2 ⟨h2.ext e2, rfl, ar⟩ q⟩
  · exact t.elim
theorem e_call (G : FnOk X.prog X.w X.K X.mg X.base CX0 k f fd ps (spW X.K w)) (hr : Room k X.A) (hg : Gl X x) (hm : X.mg x = some (.ref f)) (hk : PySem.W.keepIn X.K (.ref f) = true) (hb : Binds X.K fd ps []) (ha : EA X (e :: es) t) (hdb : (x == ("__debug__" : Str)) = false := by decide)
    (he : starEach (e :: es) X.env = (false, eval e X.env) :: starEach es X.env := by rfl) (hpl : (backTo pos (starEach es X.env)).any (·.1) = false := by rfl) : EE X (.Call (.Name x p) (e :: es) [] pos) (wCall w t) :=
  PE.imp (pe_call G hr hg hm hk hb .nil pass0 ha hdb he hpl) fun σ H Q ⟨pn, F, env, b, P, rep, t, k⟩ =>
    ⟨pn, F, env, b, _, rep, t, fun vs ss F1 H1 b1 o1 e1 ar t1 => ⟨pn, F1, ss, b1, P, o1, by rw [List.append_nil]; exact ar, t1, fun v d F' H' b' o' e' rv q => k v d F' H' b' o' (e1.trans e') rv q⟩⟩
end
end Pu
namespace Pu
open PySem PySem.Spec PyProof.Rows L2
section
variable {K : PySem.W.Frag} {pn : Pn} {b b' : Nat} {F0 H0 F H F' H' : Hp} {σ : L2.St} {env : En} {i : Nat} {v : V}
theorem RepS.ext' (r : RepS K pn F0 H0 F H σ env b) (k : Ok pn b' F' H') (e : Ext pn F H F' H') : RepS K pn F0 H0 F' H' σ env b' := ⟨r.rep.ext k e, r.ext.trans e, r.own⟩
theorem Rep.setD (r : Rep K pn F H σ env b) {d : PyData} (rv : RV K F v d) : Rep K pn F H (σ.set i (some v)) (env.set i (some (.d d))) b := by
  refine ⟨r.ok, by simp [r.len], fun j s h => ?_, fun j k a xs ys n h1 h2 h3 => ?_, r.tk⟩
  · by_cases e : j = i
    · subst e
      have hl : j < env.length := by have := (List.getElem?_eq_some_iff.mp h).1; simpa using this
      rw [List.getElem?_set_self hl] at h
      cases h
      exact ⟨v, List.getElem?_set_self (by rw [r.len]; exact hl), rv⟩
    · rw [List.getElem?_set_ne (Ne.symm e)] at h
      rw [List.getElem?_set_ne (Ne.symm e)]
      exact r.slot j s h
  · have e1 : j ≠ i := fun e => by
      subst e
      have hl : j < env.length := by have := (List.getElem?_eq_some_iff.mp h1).1; simpa using this
      rw [List.getElem?_set_self hl] at h1
      cases h1
    have e2 : k ≠ i := fun e => by
      subst e
      rcases h2 with h2 | h2
      all_goals
        have hl : k < env.length := by have := (List.getElem?_eq_some_iff.mp h2).1; simpa using this
        rw [List.getElem?_set_self hl] at h2
        cases h2
    rw [List.getElem?_set_ne (Ne.symm e1)] at h1 h3
    rw [List.getElem?_set_ne (Ne.symm e2)] at h2 ⊢
    exact r.apart j k a xs ys n h1 h2 h3
theorem RepS.setD (r : RepS K pn F0 H0 F H σ env b) {d : PyData} (rv : RV K F v d) : RepS K pn F0 H0 F H (σ.set i (some v)) (env.set i (some (.d d))) b := by
  refine ⟨r.rep.setD rv, r.ext, fun j a xs hs h1 h2 => ?_⟩
  have e1 : j ≠ i := fun e => by
    subst e
    have hl : j < env.length := by have := (List.getElem?_eq_some_iff.mp h1).1; simpa using this
    rw [List.getElem?_set_self hl] at h1
    cases h1
    cases hs
  rw [List.getElem?_set_ne (Ne.symm e1)] at h1 h2
  exact r.own j a xs hs h1 h2
/-- a list just made goes to a name -/
theorem RepS.setL (r : RepS K pn F0 H0 F H σ env b) {d : List PyData} (ow : OwnL K pn F H v d)
    (new : ∀ a, v = .ref a → H0 a = none ∧ ∀ (j : Nat) (ys : List PyData), (env[j]? = some (some (Sl.l ys)) ∨ env[j]? = some (some (Sl.r ys))) → σ[j]? ≠ some (some (V.ref a))) :
    RepS K pn F0 H0 F H (σ.set i (some v)) (env.set i (some (.l d))) b := by
  have get1 : ∀ (j : Nat) (s : Sl), (env.set i (some (.l d)))[j]? = some (some s) → (j = i ∧ s = .l d ∧ j < σ.length) ∨ (j ≠ i ∧ env[j]? = some (some s)) := fun j s h => by
    by_cases e : j = i
    · subst e
      have hl : j < env.length := by have := (List.getElem?_eq_some_iff.mp h).1; simpa using this
      rw [List.getElem?_set_self hl] at h
      cases h
      exact .inl ⟨rfl, rfl, by rw [r.rep.len]; exact hl⟩
    · rw [List.getElem?_set_ne (Ne.symm e)] at h
      exact .inr ⟨e, h⟩
  have get2 : ∀ (j : Nat), j ≠ i → (σ.set i (some v))[j]? = σ[j]? := fun j e => List.getElem?_set_ne (Ne.symm e)
  have get3 : i < σ.length → (σ.set i (some v))[i]? = some (some v) := fun h => List.getElem?_set_self h
  refine ⟨⟨r.rep.ok, by simp [r.rep.len], fun j s h => ?_, fun j k a xs ys n h1 h2 h3 => ?_, r.rep.tk⟩, r.ext, fun j a xs hq h1 h2 => ?_⟩
  · rcases get1 j s h with ⟨rfl, rfl, hl⟩ | ⟨e, h⟩
    · exact ⟨v, get3 hl, ow⟩
    · rw [get2 j e]; exact r.rep.slot j s h
  · have h2' : ∃ s, (env.set i (some (.l d)))[k]? = some (some s) ∧ (s = .l ys ∨ s = .r ys) := by rcases h2 with h2 | h2 <;> exact ⟨_, h2, by simp⟩
    obtain ⟨s2, h2', hs2⟩ := h2'
    rcases get1 j _ h1 with ⟨rfl, _, hl⟩ | ⟨e, g1⟩
    · rw [get3 hl] at h3
      cases h3
      rcases get1 k _ h2' with ⟨rfl, _, _⟩ | ⟨e2, h2'⟩
      · exact (n rfl).elim
      · rw [get2 k e2]
        exact (new a rfl).2 k ys (by rcases hs2 with rfl | rfl <;> simp [h2'])
    · rw [get2 j e] at h3
      rcases get1 k _ h2' with ⟨rfl, _, hl⟩ | ⟨e2, h2'⟩
      · rw [get3 hl]
        intro z
        cases z
        exact (new a rfl).2 j xs (.inl g1) h3
      · rw [get2 k e2]
        exact r.rep.apart j k a xs ys n g1 (by rcases hs2 with rfl | rfl <;> simp [h2']) h3
  · rcases get1 j _ h1 with ⟨rfl, _, hl⟩ | ⟨e, h1⟩
    · rw [get3 hl] at h2
      cases h2
      exact (new a rfl).1
    · rw [get2 j e] at h2
      exact r.own j a xs hq h1 h2
/-- a list of one's own is written -/
theorem RepS.write (r : RepS K pn F0 H0 F H σ env b) {xs ys : List PyData} {a : Addr} {ws : List V} (h : env[i]? = some (some (Sl.l xs))) (hs : σ[i]? = some (some (V.ref a))) (rv : RVs K F ws ys) :
    RepS K pn F0 H0 F (upd H a (.lst ws)) σ (env.set i (some (.l ys))) b := by
  have il : i < env.length := (List.getElem?_eq_some_iff.mp h).1
  obtain ⟨v, hv, ow⟩ := r.rep.slot i _ h
  rw [hs] at hv
  cases hv
  obtain ⟨a', vs, e, fa, np, nc, ha, _⟩ := ow
  cases e
  have n0 : H0 a = none := r.own i a _ rfl h hs
  have far : ∀ (j : Nat) (zs : List PyData) (w : V), j ≠ i → (env[j]? = some (some (Sl.l zs)) ∨ env[j]? = some (some (Sl.r zs))) → σ[j]? = some (some w) → w ≠ .ref a := fun j zs w n hj hw e => by
    subst e
    exact r.rep.apart i j a xs zs (Ne.symm n) h hj hs hw
  have keepO : ∀ {w : V} {zs : List PyData}, w ≠ .ref a → OwnL K pn F H w zs → OwnL K pn F (upd H a (.lst ws)) w zs := fun n ⟨c, us, e, f, p, q, hc, rc⟩ => by
    subst e
    exact ⟨c, us, rfl, f, p, q, by rw [upd_ne (fun z => n (by rw [z]))]; exact hc, rc⟩
  have pen' : PenIs pn b F (upd H a (.lst ws)) := r.rep.ok.pen.wr np nc
  refine ⟨⟨⟨fun c o q => ?_, pen'⟩, by simp [r.rep.len], fun j s hj => ?_, fun j k c zs us n h1 h2 h3 => ?_, r.rep.tk⟩, ⟨r.ext.fsub, fun c o hc f p => ?_⟩, fun j c zs hq h1 h2 => ?_⟩
  · rw [upd_ne (fun z => by rw [z, fa] at q; cases q)]; exact r.rep.ok.sub c o q
  · by_cases e : j = i
    · subst e
      rw [List.getElem?_set_self il] at hj
      cases hj
      exact ⟨_, hs, a, ws, rfl, fa, np, nc, upd_same, rv⟩
    · rw [List.getElem?_set_ne (Ne.symm e)] at hj
      obtain ⟨w, hw, sl⟩ := r.rep.slot j s hj
      refine ⟨w, hw, ?_⟩
      match s, sl, hj with
      | .d x, sl, _ => exact sl
      | .l zs, sl, hj => exact keepO (far j zs w e (.inl hj) hw) sl
      | .r zs, sl, hj => exact keepO (far j zs w e (.inr hj) hw) sl
      | .p, sl, _ => exact sl
      | .k zs, ⟨c, us, e, f, p, q, hc, rc⟩, _ => exact ⟨c, us, e, f, p, q, by rw [upd_ne (fun z => by rw [z, ha] at hc; exact nomatch hc)]; exact hc, rc⟩
  · have old : ∀ (m : Nat) (s : Sl), (env.set i (some (.l ys)))[m]? = some (some s) → (∃ zs, s = .l zs ∨ s = .r zs) → ∃ zs, env[m]? = some (some (Sl.l zs)) ∧ s = .l zs ∨ (m = i ∧ s = .l ys) ∨ env[m]? = some (some (Sl.r zs)) ∧ s = .r zs := fun m s hm hz => by
      by_cases e : m = i
      · subst e
        rw [List.getElem?_set_self il] at hm
        cases hm
        exact ⟨[], .inr (.inl ⟨rfl, rfl⟩)⟩
      · rw [List.getElem?_set_ne (Ne.symm e)] at hm
        obtain ⟨zs, rfl | rfl⟩ := hz
        · exact ⟨zs, .inl ⟨hm, rfl⟩⟩
        · exact ⟨zs, .inr (.inr ⟨hm, rfl⟩)⟩
    have h1' : ∃ zs', env[j]? = some (some (Sl.l zs')) := by
      obtain ⟨z, ⟨q, _⟩ | ⟨q, _⟩ | ⟨_, q⟩⟩ := old j _ h1 ⟨zs, .inl rfl⟩
      · exact ⟨z, q⟩
      · exact ⟨xs, by rw [q]; exact h⟩
      · cases q
    have h2' : ∃ us', env[k]? = some (some (Sl.l us')) ∨ env[k]? = some (some (Sl.r us')) := by
      rcases h2 with h2 | h2
      · obtain ⟨z, ⟨q, _⟩ | ⟨q, _⟩ | ⟨q, _⟩⟩ := old k _ h2 ⟨us, .inl rfl⟩
        · exact ⟨z, .inl q⟩
        · exact ⟨xs, .inl (by rw [q]; exact h)⟩
        · exact ⟨z, .inr q⟩
      · obtain ⟨z, ⟨q, _⟩ | ⟨q, _⟩ | ⟨q, _⟩⟩ := old k _ h2 ⟨us, .inr rfl⟩
        · exact ⟨z, .inl q⟩
        · exact ⟨xs, .inl (by rw [q]; exact h)⟩
        · exact ⟨z, .inr q⟩
    obtain ⟨z1, h1'⟩ := h1'
    obtain ⟨z2, h2'⟩ := h2'
    exact r.rep.apart j k c z1 z2 n h1' h2' h3
  · obtain ⟨q1, q2⟩ := r.ext.keep c o hc f p
    exact ⟨by rw [upd_ne (fun z => by rw [z, n0] at hc; cases hc)]; exact q1, q2⟩
  · by_cases e : j = i
    · subst e
      rw [hs] at h2
      cases h2
      exact n0
    · rw [List.getElem?_set_ne (Ne.symm e)] at h1
      exact r.own j c zs hq h1 h2
end
end Pu
namespace Pu
open PySem PySem.Spec PyProof.Rows L2
inductive Tg where
  | nm (i : Nat)
  | tp (is : List Nat)
def gs : List Nat → TGs
  | [] => gNil
  | i :: r => gCons (gName i) (gs r)
def gT (K : PySem.W.Frag) : Tg → TG
  | .nm i => gName i
  | .tp is => gTup K is.length (gs is)
def setAll : List Nat → List PyData → En → En
  | i :: r, d :: ds, env => setAll r ds (env.set i (some (.d d)))
  | _, _, env => env
def setT : Tg → PyData → En → Option En
  | .nm i, d, env => some (env.set i (some (.d d)))
  | .tp is, .tuple ds, env => if ds.length = is.length then some (setAll is ds env) else none
  | _, _, _ => none
def vsAll : List Nat → List V → L2.St → L2.St
  | i :: r, v :: vs, σ => vsAll r vs (σ.set i (some v))
  | _, _, σ => σ
section
variable {K : PySem.W.Frag} {pn : Pn} {b : Nat} {F0 H0 F H : Hp}
theorem gs_run : ∀ (is : List Nat) {vs : List V} {ds : List PyData} {σ : L2.St} {Q : L2.St → Hp → Prop}, RVs K F vs ds → ds.length = is.length → Q (vsAll is vs σ) H → gs is vs σ H Q
  | [], _, _, _, _, .nil, _, q => ⟨rfl, q⟩
  | i :: r, _, _, _, _, .cons rv t, h, q => ⟨_, _, rfl, gs_run r t (by simpa using h) q⟩
  | [], _, _, _, _, .cons _ _, h, _ => by simp at h
  | _ :: _, _, _, _, _, .nil, h, _ => by simp at h
theorem set_run : ∀ (is : List Nat) {vs : List V} {ds : List PyData} {σ : L2.St} {env : En}, RVs K F vs ds → RepS K pn F0 H0 F H σ env b → RepS K pn F0 H0 F H (vsAll is vs σ) (setAll is ds env) b
  | [], _, _, _, _, _, r => by simpa [vsAll, setAll] using r
  | i :: is, _, _, _, _, .nil, r => by simpa [vsAll, setAll] using r
  | i :: is, _, _, _, _, .cons rv t, r => set_run is t (r.setD rv)
theorem set_runE : ∀ (is : List Nat) {vs : List V} {ds : List PyData} {σ : L2.St} {env : En}, RVs K F vs ds → Rep K pn F H σ env b → Rep K pn F H (vsAll is vs σ) (setAll is ds env) b
  | [], _, _, _, _, _, r => by simpa [vsAll, setAll] using r
  | i :: is, _, _, _, _, .nil, r => by simpa [vsAll, setAll] using r
  | i :: is, _, _, _, _, .cons rv t, r => set_runE is t (r.setD rv)
def sT : Tg → V → List V → L2.St → L2.St
  | .nm i, v, _, σ => σ.set i (some v)
  | .tp is, _, vs, σ => vsAll is vs σ
/-- an item that is walked over: a datum, or (w = false) a pair that is taken apart at once -/
def RVw (K : PySem.W.Frag) (w : Bool) (F H : Hp) (v : V) (d : PyData) : Prop := RV K F v d ∨ (w = false ∧ ∃ a vs ds, v = .ref a ∧ d = .tuple ds ∧ SqT K H a vs ∧ RVs K F vs ds)
theorem gT_run {g : Tg} {w : Bool} {v : V} {d : PyData} {σ : L2.St} {env env' : En} {Q : L2.St → Hp → Prop} (o : Ok pn b F H) (rv : RVw K w F H v d) (hw : w = true ∨ ∃ is, g = .tp is) (h : setT g d env = some env')
    (q : ∀ vs, (RepS K pn F0 H0 F H σ env b → RepS K pn F0 H0 F H (sT g v vs σ) env' b) → (Rep K pn F H σ env b → Rep K pn F H (sT g v vs σ) env' b) → Q (sT g v vs σ) H) : gT K g v σ H Q := by
  cases g with
  | nm i =>
    cases h
    rcases rv with rv | ⟨e, _⟩
    · exact q [] (fun r => r.setD rv) (fun r => r.setD rv)
    · subst e
      rcases hw with e | ⟨_, e⟩ <;> cases e
  | tp is =>
    have two : ∀ a xs ds, v = .ref a → d = .tuple ds → SqT K H a xs → RVs K F xs ds → gT K (.tp is) v σ H Q := fun a xs ds e1 e2 hq r => by
      subst e1 e2
      by_cases hl : ds.length = is.length
      · have h2 : some (setAll is ds env) = some env' := by
          have : setT (.tp is) (.tuple ds) env = some (setAll is ds env) := if_pos hl
          rw [← this]; exact h
        cases h2
        exact ⟨_, _, rfl, hq, by rw [r.len]; exact hl, gs_run is r hl (q _ (fun z => set_run is r z) (fun z => set_runE is r z))⟩
      · have : setT (.tp is) (.tuple ds) env = none := if_neg hl
        rw [this] at h
        cases h
    rcases rv with rv | ⟨_, a, xs, ds, e1, e2, hq, r⟩
    · cases rv with
      | @tup a xs ds hq r => exact two a xs ds rfl rfl (Same.tup o.sub hq.sq) r
      | _ => cases h
    · exact two a xs ds e1 e2 hq r
end
section
variable {X : Cx} {pos : Pos}
abbrev PGt (X : Cx) (e : Expr) (g : Tg) : Prop := PG X e (gT X.K g)
theorem g_nm {i : Nat} {x : Str} (hN : X.N.Nodup) (hi : X.N[i]? = some x) (hx : Loc X.env.scope x) (hf : X.fn x = true ∨ X.env.scope.names.lookup x = some .local := by first | exact .inl rfl | exact .inr rfl) : PGt X (.Name x pos) (.nm i) := pg_name hN hi hx hf
inductive Gs (X : Cx) : List Expr → List Nat → Prop
  | nil : Gs X [] []
  | cons {e : Expr} {es : List Expr} {i : Nat} {is : List Nat} : PG X e (gName i) → (assignEach (e :: es) X.env).map (·.2) = assign e X.env :: (assignEach es X.env).map (·.2) → Gs X es is → Gs X (e :: es) (i :: is)
theorem Gs.pg {es : List Expr} {is : List Nat} (h : Gs X es is) : PGs X es (gs is) := by
  induction h with
  | nil => exact pgs_nil
  | cons h1 h2 _ ih => exact pgs_cons h1 ih h2
theorem g_tp {es : List Expr} {k : Nat} {is : List Nat} (hc : X.calm = true) (h : Gs X es is) (hn : (assignEach es X.env).length = is.length := by rfl) (hst : (assignEach es X.env).findIdx? (·.1) = none := by rfl) : PGt X (.Tuple es k pos) (.tp is) := pg_tup hc h.pg hn hst
end
/-- still: what must stand of the source (m: nothing but what a step may do; else what is settled stays) -/
def Cs (m : Bool) (pn : Pn) (F1 H1 F H : Hp) : Prop := match m with
  | true => Ext pn F1 H1 F H
  | false => Same F1 F
theorem Cs.same {m : Bool} {pn : Pn} {F1 H1 F H : Hp} (h : Cs m pn F1 H1 F H) : Same F1 F := match m, h with
  | true, h => h.fsub
  | false, h => h
def ItOk (K : PySem.W.Frag) (pn : Pn) (w : Bool) (C : Hp → Hp → Prop) (J : It) (items : List PyData) : Prop :=
  ∀ (i : Nat) (F H : Hp) (b : Nat), Ok pn b F H → C F H → (i < items.length → J.go i H) ∧ (items.length ≤ i → J.stop i H) ∧
    ∀ (x : V) (H' : Hp), J.yld i H x H' → i < items.length → ∃ F' d, items[i]? = some d ∧ RVw K w F' H' x d ∧ Ok pn b F' H' ∧ Ext pn F H F' H'
abbrev WI := En → Nat → (List PyData → Nat → Prop) → Prop
def lI (K : PySem.W.Frag) (m w : Bool) (t : WI) : TI := fun σ H R => ∃ pn F env b P, Rep K pn F H σ env b ∧ t env b P ∧
  ∀ items F' H' b' J, Ok pn b' F' H' → Ext pn F H F' H' → ItOk K pn w (Cs m pn F' H') J items → P items b' → R J H'
section
variable {X : Cx} {tg e : Expr}
theorem PI.imp {t u : TI} (h : PI X tg e t) (i : ∀ σ H R, u σ H R → t σ H R) : PI X tg e u := ⟨fun pins s σ H R I q => h.run pins s σ H R I (i _ _ _ q)⟩
theorem it_list {K : PySem.W.Frag} {pn : Pn} {C : Hp → Hp → Prop} {a : Addr} {items : List PyData} (h : ∀ F H b, Ok pn b F H → C F H → ∃ vs, H a = some (.lst vs) ∧ RVs K F vs items) : ItOk K pn true C (Itl K a) items := fun i F H b o c => by
  obtain ⟨vs, ha, r⟩ := h F H b o c
  refine ⟨fun hi => ?_, fun hi => ⟨vs, SqL.of ha, by rw [r.len]; exact hi⟩, fun x H' y hi => ?_⟩
  · obtain ⟨v, hv, _⟩ := r.at' (List.getElem?_eq_getElem hi)
    exact ⟨vs, v, SqL.of ha, hv⟩
  · obtain ⟨rfl, y⟩ := y
    obtain ⟨v, hv, rv⟩ := r.at' (List.getElem?_eq_getElem hi)
    have e1 := y vs (SqL.of ha)
    rw [hv] at e1
    cases e1
    exact ⟨F, _, List.getElem?_eq_getElem hi, .inl rv, o, .refl⟩
theorem it_tup {K : PySem.W.Frag} {pn : Pn} {C : Hp → Hp → Prop} {a : Addr} {items : List PyData} (h : ∀ F H b, Ok pn b F H → C F H → ∃ vs, SqT K H a vs ∧ RVs K F vs items) : ItOk K pn true C (Itt K a) items := fun i F H b o c => by
  obtain ⟨vs, ha, r⟩ := h F H b o c
  refine ⟨fun hi => ?_, fun hi => ⟨vs, ha, by rw [r.len]; exact hi⟩, fun x H' y hi => ?_⟩
  · obtain ⟨v, hv, _⟩ := r.at' (List.getElem?_eq_getElem hi)
    exact ⟨vs, v, ha, hv⟩
  · obtain ⟨rfl, y⟩ := y
    obtain ⟨v, hv, rv⟩ := r.at' (List.getElem?_eq_getElem hi)
    have e1 := y vs ha
    rw [hv] at e1
    cases e1
    exact ⟨F, _, List.getElem?_eq_getElem hi, .inl rv, o, .refl⟩
def signs (z : Str) : List PyData := z.cps.toList.map fun c => .str ⟨#[c]⟩
theorem it_str {K : PySem.W.Frag} {pn : Pn} {C : Hp → Hp → Prop} {z : Str} : ItOk K pn true C (Its z) (signs z) := fun i F H b o c => by
  have hl : (signs z).length = z.cps.size := by simp [signs]
  refine ⟨fun hi => by rw [hl] at hi; exact hi, fun hi => by rw [hl] at hi; exact hi, fun x H' y hi => ?_⟩
  obtain ⟨rfl, c, hc, rfl⟩ := y
  refine ⟨F, .str ⟨#[c]⟩, ?_, .inl (.str _), o, .refl⟩
  unfold signs
  rw [List.getElem?_map, Array.getElem?_toList, hc]
  rfl
def seqOf : PyData → Option (List PyData)
  | .list xs => some xs
  | .tuple xs => some xs
  | .str z => some (signs z)
  | _ => none
def wSeq (t : WE) : WI := fun env b P => t env b fun x b1 => match seqOf x with | some xs => P xs b1 | none => False
/-- a list, a tuple, a text -/
def iAny (K : PySem.W.Frag) (te : TE) : TI := fun σ H R => te σ H fun x H1 => (∃ a, x = .ref a ∧ (∃ xs, SqL K H1 a xs) ∧ R (Itl K a) H1) ∨ (∃ a, x = .ref a ∧ (∃ xs, SqT K H1 a xs) ∧ R (Itt K a) H1) ∨ ∃ z, x = .str z ∧ R (Its z) H1
theorem i_any {te : TE} (hl : PE X e te) : PI X tg e (iAny X.K te) := by
  refine ⟨fun pins s σ H R I h => ?_⟩
  refine thn (hl.run pins s σ H _ I h) fun v s1 q => ?_
  obtain ⟨x, H1, I1, r1, q1⟩ := q
  rcases q1 with ⟨a, rfl, ⟨xs, hq⟩, q⟩ | ⟨a, rfl, ⟨xs, hq⟩, q⟩ | ⟨z, rfl, q⟩
  · cases r1
    obtain ⟨its, rv, p, hz⟩ := I1.list hq
    exact wpAny_pyIter_list p.isList (pi_one (tk := s1.toks) I1 _ (turn_list a _) ⟨_, Heap.get?_push_size _ rfl, rfl, rfl⟩ q)
  · cases r1
    obtain ⟨its, rv, p, hz⟩ := I1.tuple hq
    exact wpAny_pyIter_tuple (show s1.heap.IsTuple a its.toArray from p) (pi_one (tk := s1.toks) I1 _ (turn_tuple a _) ⟨_, Heap.get?_push_size _ rfl, rfl, rfl⟩ q)
  · obtain ⟨t, rfl⟩ := r1
    cases ha : z.cps.all (· < 128)
    · exact wpAny_pyIter_wide ha (pi_one (tk := s1.toks) I1 _ (turn_str _ z t "str_iterator" (.inr rfl)) ⟨_, Heap.get?_push_size _ rfl, rfl, rfl⟩ q)
    · exact wpAny_pyIter_ascii ha (pi_one (tk := s1.toks) I1 _ (turn_str _ z t "str_ascii_iterator" (.inl rfl)) ⟨_, Heap.get?_push_size _ rfl, rfl, rfl⟩ q)
/-- .. that is settled -/
theorem i_seq {t : WE} (m : Bool) (h : EE X e t) : PI X tg e (lI X.K m true (wSeq t)) := PI.imp (i_any h) fun σ H R ⟨pn, F, env, b, P, rep, w, k⟩ => by
  refine ⟨pn, F, env, b, _, rep, w, fun v x F1 H1 b1 o1 e1 rv t1 => ?_⟩
  cases rv with
  | lst h r => exact .inl ⟨_, rfl, ⟨_, SqL.of (o1.sub _ _ h)⟩, k _ F1 H1 b1 _ o1 e1 (it_list fun F H b o c => ⟨_, o.sub _ _ (c.same _ _ h), r.mono c.same⟩) t1⟩
  | tup h r => exact .inr (.inl ⟨_, rfl, ⟨_, Same.tup o1.sub h.sq⟩, k _ F1 H1 b1 _ o1 e1 (it_tup fun F H b o c => ⟨_, Same.tup o.sub (Same.tup c.same h.sq), r.mono c.same⟩) t1⟩)
  | str z => exact .inr (.inr ⟨z, rfl, k _ F1 H1 b1 _ o1 e1 it_str t1⟩)
  | _ => exact t1.elim
/-- .. or a list of one's own -/
theorem i_seqB {t : WE} (h : EB X e t) : PI X tg e (lI X.K true true (wSeq t)) := PI.imp (i_any h) fun σ H R ⟨pn, F, env, b, P, rep, w, k⟩ => by
  refine ⟨pn, F, env, b, _, rep, w, fun v x F1 H1 b1 o1 e1 bv t1 => ?_⟩
  rcases bv with rv | ⟨xs, rfl, a, vs, rfl, f, np, nc, ha, r⟩
  · cases rv with
    | lst h r => exact .inl ⟨_, rfl, ⟨_, SqL.of (o1.sub _ _ h)⟩, k _ F1 H1 b1 _ o1 e1 (it_list fun F H b o c => ⟨_, o.sub _ _ (c.fsub _ _ h), r.mono c.fsub⟩) t1⟩
    | tup h r => exact .inr (.inl ⟨_, rfl, ⟨_, Same.tup o1.sub h.sq⟩, k _ F1 H1 b1 _ o1 e1 (it_tup fun F H b o c => ⟨_, Same.tup o.sub (Same.tup c.fsub h.sq), r.mono c.fsub⟩) t1⟩)
    | str z => exact .inr (.inr ⟨z, rfl, k _ F1 H1 b1 _ o1 e1 it_str t1⟩)
    | _ => exact t1.elim
  · exact .inl ⟨a, rfl, ⟨vs, SqL.of ha⟩, k _ F1 H1 b1 _ o1 e1 (it_list fun F H b o c => ⟨vs, (c.keep _ _ ha f np).1, r.mono c.fsub⟩) t1⟩
/-- range(n), range(i, j) -/
def rngD (lo : Int) (n : Nat) : List PyData := (List.range n).map fun (i : Nat) => .int (lo + i)
theorem it_rng {K : PySem.W.Frag} {pn : Pn} {C : Hp → Hp → Prop} {lo : Int} {n : Nat} : ItOk K pn true C (Itr lo n) (rngD lo n) := fun i F H b o c => by
  have hl : (rngD lo n).length = n := by simp [rngD]
  refine ⟨fun hi => by rw [hl] at hi; exact hi, fun hi => by rw [hl] at hi; exact hi, fun x H' y hi => ?_⟩
  obtain ⟨rfl, rfl⟩ := y
  rw [hl] at hi
  refine ⟨F, .int (lo + i), ?_, .inl (.int _), o, .refl⟩
  unfold rngD
  rw [List.getElem?_map, List.getElem?_range hi]
  rfl
def wRng1 (t : WE) : WI := fun env b P => t env b fun x b1 => match x with | .int j => -(2 ^ 62) ≤ j ∧ j < 2 ^ 62 ∧ P (rngD 0 j.toNat) b1 | _ => False
theorem i_rng1 {a : Expr} {t : WE} {p pos : Pos} (m : Bool) (hg : Gl X "range") (hm : X.mg "range" = none) (ha : EB X a t) (hs : starEach [a] X.env = [(false, eval a X.env)] := by rfl) : PI X tg (.Call (.Name "range" p) [a] [] pos) (lI X.K m true (wRng1 t)) :=
  PI.imp (pi_range1 hg hm (pa_cons ha pa_nil hs) hs) fun σ H R ⟨pn, F, env, b, P, rep, w, k⟩ => by
    refine ⟨pn, F, env, b, _, rep, w, fun v x F1 H1 b1 o1 e1 bv t1 => ?_⟩
    cases x with
    | int j => exact ⟨j, by rw [bv.int], t1.1, t1.2.1, k _ F1 H1 b1 _ o1 e1 it_rng t1.2.2⟩
    | _ => exact t1.elim
/-- enumerate(list) -/
def enumD (xs : List PyData) : List PyData := xs.zipIdx.map fun p => .tuple [.int (p.2 : Nat), p.1]
theorem enumD_at {xs : List PyData} {i : Nat} {d : PyData} (h : xs[i]? = some d) : (enumD xs)[i]? = some (.tuple [.int (i : Nat), d]) := by
  unfold enumD
  rw [List.getElem?_map, List.getElem?_zipIdx, h]
  simp
theorem it_enum {K : PySem.W.Frag} {pn : Pn} {C : Hp → Hp → Prop} {a : Addr} {items : List PyData} (h : ∀ F H b, Ok pn b F H → C F H → ∃ vs, H a = some (.lst vs) ∧ RVs K F vs items) : ItOk K pn false C (Ite K a) (enumD items) := fun i F H b o c => by
  obtain ⟨vs, ha, r⟩ := h F H b o c
  have hl : (enumD items).length = items.length := by simp [enumD]
  refine ⟨fun hi => ?_, fun hi => ⟨vs, SqL.of ha, by rw [r.len, ← hl]; exact hi⟩, fun x H' y hi => ?_⟩
  · obtain ⟨v, hv, _⟩ := r.at' (List.getElem?_eq_getElem (by rw [← hl]; exact hi))
    exact ⟨vs, v, SqL.of ha, hv⟩
  · obtain ⟨T, w, rfl, nT, rfl, y⟩ := y
    have hi' : i < items.length := by rw [← hl]; exact hi
    obtain ⟨v, hv, rv⟩ := r.at' (List.getElem?_eq_getElem hi')
    have e1 := y vs (SqL.of ha)
    rw [hv] at e1
    cases e1
    exact ⟨_, _, enumD_at (List.getElem?_eq_getElem hi'), .inr ⟨rfl, T, _, _, rfl, rfl, SqT.of upd_same, .cons (.int _) (.one (rv.mono (same_new (o.free nT))))⟩, o.new nT, .new o nT⟩
/-- zip(a, b): two lists or two tuples -/
def zipD : List PyData → List PyData → List PyData
  | x :: xs, y :: ys => .tuple [x, y] :: zipD xs ys
  | _, _ => []
def wZip (t u : WE) : WI := fun env b P => t env b fun x b1 => u env b1 fun y b2 => match x, y with
  | .list xs, .list ys => P (zipD xs ys) b2
  | .tuple xs, .tuple ys => P (zipD xs ys) b2
  | _, _ => False
end
end Pu
namespace Pu
open PySem PySem.Spec PyProof.Rows L2
def sNext : WS := fun PD env b => PD.nx env b
def sSeq (t u : WS) : WS := fun PD env b => t { PD with nx := fun env' b' => u PD env' b' } env b
def sRet (t : WE) : WS := fun PD env b => t env b PD.rt
def sIf (c : WT) (t u : WS) : WS := fun PD env b => c env b fun k b' => if k = true then t PD env b' else u PD env b'
def sAsg (t : WE) (g : Tg) : WS := fun PD env b => t env b fun d b' => match setT g d env with | some env' => PD.nx env' b' | none => False
def sSet (t : WE) (i : Nat) : WS := fun PD env b => t env b fun d b' => PD.nx (env.set i (some (.d d))) b'
def sSetL (t : WF) (i : Nat) : WS := fun PD env b => t env b fun d b' => PD.nx (env.set i (some (.l d))) b'
def sApp (i : Nat) (t : WE) : WS := fun PD env b => match env[i]? with
  | some (some (.l xs)) => t env b fun d b' => xs.length < sizeLine ∧ PD.nx (env.set i (some (.l (xs ++ [d])))) b'
  | _ => False
section
variable {X : Cx} {st : Stmt} {rest : List Stmt} {t u : WS} {e : Expr} {te : WE} {pos : Pos}
theorem sb_nil : SB X [] sNext := PSs.imp pss_nil fun D σ H ⟨pn, F0, H0, F, env, b, PD, rep, t, k, _⟩ => (k σ F H env b rep).1 t
theorem lS_in {K : PySem.W.Frag} {t u : WS} {D : Ends} {σ : L2.St} {H : Hp} (h : lS K (sSeq t u) D σ H) : tSeq (lS K t) (lS K u) D σ H := by
  obtain ⟨pn, F0, H0, F, env, b, PD, rep, w, k, r⟩ := h
  refine ⟨pn, F0, H0, F, env, b, { PD with nx := fun env' b' => u PD env' b' }, rep, w, fun σ' F' H' env' b' rep' => ⟨fun q => ?_, (k σ' F' H' env' b' rep').2.1, (k σ' F' H' env' b' rep').2.2⟩, r⟩
  exact ⟨pn, F0, H0, F', env', b', PD, rep', q, k, r⟩
theorem sb_cons (h1 : SS X st t) (h2 : SB X rest u) : SB X (st :: rest) (sSeq t u) := PSs.imp (pss_cons h1 h2) fun _ _ _ h => lS_in h
theorem sb_one (h1 : SS X st t) : SB X [st] t := pss_one h1
theorem s_ret (he : EE X e te) : SS X (.Return (some e) pos) (sRet te) := PS.imp (ps_ret he) fun D σ H ⟨pn, F0, H0, F, env, b, PD, rep, t, k, r⟩ =>
  ⟨pn, F, env, b, PD.rt, rep.rep, t, fun v d F' H' b' o x rv q => r.1 v d F' H' b' o (rep.ext.trans x) rv q⟩
theorem s_if {c : Expr} {p q : List Stmt} {tc : WT} (hc : ET X c tc) (ha : SB X p t) (hb : SB X q u) : SS X (.If c p q pos) (sIf tc t u) := PS.imp (ps_if hc ha hb) fun D σ H ⟨pn, F0, H0, F, env, b, PD, rep, w, k, r⟩ => by
  refine ⟨pn, F, env, b, _, rep.rep, w, fun kc F1 H1 b1 o1 e1 t1 => ?_⟩
  cases kc with
  | true => exact ⟨pn, F0, H0, F1, env, b1, PD, rep.ext' o1 e1, t1, k, r⟩
  | false => exact ⟨pn, F0, H0, F1, env, b1, PD, rep.ext' o1 e1, t1, k, r⟩
theorem s_asg {tg : Expr} {g : Tg} (he : EE X e te) (hg : PGt X tg g) (hs : swapsWithSole [tg] e pos.line X.env = pure false := by rfl) (hw : swappedStores [tg] e X.env = pure none := by rfl) (h1 : (assignEach [tg] X.env).map (·.2) = [assign tg X.env] := by rfl) :
    SS X (.Assign [tg] e pos) (sAsg te g) := PS.imp (ps_asg he hg hs hw h1) fun D σ H ⟨pn, F0, H0, F, env, b, PD, rep, t, k, r⟩ => by
  refine ⟨pn, F, env, b, _, rep.rep, t, fun v d F' H' b' o x rv q => ?_⟩
  split at q
  · rename_i env' h
    exact gT_run (w := true) (F0 := F0) (H0 := H0) o (.inl rv) (.inl rfl) h fun vs c1 _ => (k _ F' H' env' b' (c1 (rep.ext' o x))).1 q
  · exact q.elim
theorem s_set {i : Nat} {x : Str} {pos' : Pos} (hN : X.N.Nodup) (hi : X.N[i]? = some x) (hx : Loc X.env.scope x) (he : EE X e te) (hs : swapsWith e (some (.Name x pos')) pos.line X.env = pure false := by rfl) (hf : X.fn x = true ∨ X.env.scope.names.lookup x = some .local := by first | exact .inl rfl | exact .inr rfl) :
    SS X (.Assign [.Name x pos'] e pos) (sSet te i) := PS.imp (ps_set hN hi hx he hs hf) fun D σ H ⟨pn, F0, H0, F, env, b, PD, rep, t, k, r⟩ =>
  ⟨pn, F, env, b, _, rep.rep, t, fun v d F' H' b' o x rv q => (k _ F' H' _ b' ((rep.ext' o x).setD rv)).1 q⟩
theorem Ext.bk {pn : Pn} {b' : Nat} {F H F' H' : Hp} (x : Ext pn F H F' H') (o' : Ok pn b' F' H') {a : Addr} (h : H' a = none) : H a = none := by
  cases e : H a with
  | none => rfl
  | some u =>
    exfalso
    cases f : F a with
    | some z =>
      have := o'.sub a z (x.fsub a z f)
      rw [h] at this; cases this
    | none =>
      by_cases n : NotPen pn a
      · have := (x.keep a u e f n).1
        rw [h] at this; cases this
      · exact n (o'.pen.apartN h).1
/-- a fresh list's address is nobody's -/
theorem RepS.fresh {K : PySem.W.Frag} {pn : Pn} {b : Nat} {F0 H0 F H : Hp} {σ : L2.St} {env : En} (rep : RepS K pn F0 H0 F H σ env b) {v : V} (nw : ∀ a, v = .ref a → H a = none) :
    ∀ a, v = .ref a → H0 a = none ∧ ∀ (j : Nat) (ys : List PyData), (env[j]? = some (some (Sl.l ys)) ∨ env[j]? = some (some (Sl.r ys))) → σ[j]? ≠ some (some (V.ref a)) := by
  intro a ea
  have ha := nw a ea
  refine ⟨rep.ext.bk rep.rep.ok ha, fun j ys h z => ?_⟩
  rcases h with h | h
  all_goals
    obtain ⟨w, hw, c, vs, rfl, _, _, _, hc, _⟩ := rep.rep.slot j _ h
    rw [z] at hw
    cases hw
    rw [ha] at hc; cases hc
theorem s_setL {tf : WF} {i : Nat} {x : Str} {pos' : Pos} (hN : X.N.Nodup) (hi : X.N[i]? = some x) (hx : Loc X.env.scope x) (he : EF X e tf) (hs : swapsWith e (some (.Name x pos')) pos.line X.env = pure false := by rfl) (hf : X.fn x = true ∨ X.env.scope.names.lookup x = some .local := by first | exact .inl rfl | exact .inr rfl) :
    SS X (.Assign [.Name x pos'] e pos) (sSetL tf i) := PS.imp (ps_set hN hi hx he hs hf) fun D σ H ⟨pn, F0, H0, F, env, b, PD, rep, t, k, r⟩ =>
  ⟨pn, F, env, b, _, rep.rep, t, fun v d F' H' b' o x ow nw q => by
    have f1 := rep.fresh nw
    exact (k _ F' H' _ b' ((rep.ext' o x).setL ow f1)).1 q⟩
def sPar (i j : Nat) (t u : WE) : WS := fun PD env b => t env b fun x b1 => u env b1 fun y b2 => PD.nx ((env.set i (some (.d x))).set j (some (.d y))) b2
def sParL (i j : Nat) (t : WE) (u : WF) : WS := fun PD env b => t env b fun x b1 => u env b1 fun y b2 => PD.nx ((env.set i (some (.d x))).set j (some (.l y))) b2
variable {a c : Expr} {ta tb : WE} {tf : WF} {x y z : Str} {px py pz pt : Pos} {kt k2 : Nat} {pt2 : Pos} {i j l : Nat}
theorem s_par (hc : X.calm = true) (hN : X.N.Nodup) (hi : X.N[i]? = some x) (hj : X.N[j]? = some y) (hij : i ≠ j) (hx : X.env.scope.names.lookup x = some .local) (hy : X.env.scope.names.lookup y = some .local) (ha : EE X a ta) (hb : EE X c tb)
    (hw : swappedStores [.Tuple [.Name x px, .Name y py] kt pt] (.Tuple [a, c] k2 pt2) X.env = pure (some [x, y])) (hs : swapsWithSole [.Tuple [.Name x px, .Name y py] kt pt] (.Tuple [a, c] k2 pt2) pos.line X.env = pure false := by rfl)
    (h1 : starEach [a, c] X.env = (false, eval a X.env) :: starEach [c] X.env := by rfl) (h2 : starEach [c] X.env = (false, eval c X.env) :: starEach [] X.env := by rfl) :
    SS X (.Assign [.Tuple [.Name x px, .Name y py] kt pt] (.Tuple [a, c] k2 pt2) pos) (sPar i j ta tb) := PS.imp (ps_par hc hN hi hj hij hx hy (pa_cons ha (pa_cons hb pa_nil h2) h1) hw hs) fun D σ H ⟨pn, F0, H0, F, env, b, PD, rep, t, k, r⟩ => by
  refine ⟨pn, F, env, b, _, rep.rep, t, fun v d F1 H1 b1 o1 x1 rv t1 => ?_⟩
  refine ⟨pn, F1, env, b1, _, rep.rep.ext o1 x1, t1, fun u e F2 H2 b2 o2 x2 ru t2 => ?_⟩
  exact ⟨v, u, rfl, (k _ F2 H2 _ b2 ((((rep.ext' o1 x1).ext' o2 x2).setD (rv.mono x2.fsub)).setD ru)).1 t2⟩
/-- xs.append(e) -/
theorem s_app {i : Nat} {x : Str} {p apos cpos : Pos} (h : PE X (.Name x p) (tVar i)) (he : EE X e te) (hb : attributeBase (.Name x p) "append" X.env (eval (.Name x p) X.env) = eval (.Name x p) X.env := by rfl)
    (hfew : ((backTo cpos (starEach [e] X.env)).all (fun x => !x.1) && (backToKw cpos (keywordEach [] X.env)).all (fun x => x.1.isSome) && decide ([e].length + ([] : List Keyword).length + (if ([] : List Keyword).isEmpty then 0 else 1) < 30)) = true := by rfl)
    (hl : (apos.endLine == cpos.line) = true := by rfl) (hs : starEach [e] X.env = (false, eval e X.env) :: starEach [] X.env := by rfl) (hp : (backTo cpos (starEach [] X.env)).any (·.1) = false := by rfl)
    (hw : swapsWith (.Call (.Attribute (.Name x p) "append" apos) [e] [] cpos) none pos.line X.env = pure false := by rfl) :
    SS X (.Expr (.Call (.Attribute (.Name x p) "append" apos) [e] [] cpos) pos) (sApp i te) :=
  PS.imp (ps_expr (pe_bm PySem.F.plainAttrs_list PySem.F.slot_list_append PySem.F.type_list_append mt_append h (pa_cons he pa_nil hs) hb hfew hl hs hp) hw) fun D σ H ⟨pn, F0, H0, F, env, b, PD, rep, t, k, r⟩ => by
    unfold sApp at t
    split at t
    · rename_i xs hx
      obtain ⟨v, hv, ow⟩ := rep.rep.slot i _ hx
      obtain ⟨a, vs, rfl, fa, np, nc, ha, rvs⟩ := id ow
      refine ⟨.ref a, hv, .inl ⟨rfl, vs, SqL.of ha⟩, pn, F, env, b, _, rep.rep, t, fun w d F1 H1 b1 o1 x1 rv q => ?_⟩
      obtain ⟨ha1, fa1⟩ := x1.keep a _ ha fa np
      exact ⟨a, vs, w, rfl, rfl, ha1, by rw [rvs.len]; exact q.1, (k σ F1 _ _ b1 ((rep.ext' o1 x1).write hx hv ((rvs.mono x1.fsub).app (.one rv)))).1 q.2⟩
    · exact t.elim
end
def hU (H0 F1 : Hp) : Hp := fun a => match F1 a with
  | some o => some o
  | none => H0 a
section
variable {K : PySem.W.Frag} {pn : Pn} {b : Nat} {F0 H0 F1 H1 F H : Hp} {σ : L2.St} {env : En}
theorem hU_none {a : Addr} (h : F1 a = none) : hU H0 F1 a = H0 a := by unfold hU; rw [h]
theorem Ext.down (x : Ext pn F0 H0 F1 H1) (y : Ext pn F1 (hU H0 F1) F H) : Ext pn F0 H0 F H :=
  ⟨x.fsub.trans y.fsub, fun a o h f n => by
    have f1 := (x.keep a o h f n).2
    exact y.keep a o (by rw [hU_none f1]; exact h) f1 n⟩
theorem Ext.up (x : Ext pn F0 H0 F1 H1) (y : Ext pn F0 H0 F H) (s : Same F1 F) : Ext pn F1 (hU H0 F1) F H :=
  ⟨s, fun a o h f n => by
    rw [hU_none f] at h
    exact y.keep a o h (x.fsub.free f) n⟩
theorem RepS.up (x : Ext pn F0 H0 F1 H1) (r : RepS K pn F0 H0 F H σ env b) (s : Same F1 F) : RepS K pn F1 (hU H0 F1) F H σ env b :=
  ⟨r.rep, x.up r.ext s, fun i a s' hq h1 h2 => by
    have h3 := r.own i a s' hq h1 h2
    obtain ⟨v, hv, sl⟩ := r.rep.slot i _ h1
    rw [h2] at hv
    cases hv
    rw [hU_none (s.free (sl.ownF hq))]; exact h3⟩
theorem RepS.down (x : Ext pn F0 H0 F1 H1) (r : RepS K pn F1 (hU H0 F1) F H σ env b) : RepS K pn F0 H0 F H σ env b :=
  ⟨r.rep, x.down r.ext, fun i a s' hq h1 h2 => by
    have h3 := r.own i a s' hq h1 h2
    obtain ⟨v, hv, sl⟩ := r.rep.slot i _ h1
    rw [h2] at hv
    cases hv
    rw [hU_none (r.ext.fsub.free (sl.ownF hq))] at h3; exact h3⟩
end
def wFor (g : Tg) (body : WS) (PD : PEnds) : List PyData → En → Nat → Prop
  | [], env, b => PD.nx env b
  | x :: xs, env, b => match setT g x env with
    | some env' => body { nx := wFor g body PD xs, ct := wFor g body PD xs, bk := PD.nx, rt := PD.rt, rl := PD.rl, xr := PD.xr } env' b
    | none => False
def sFor (t : WI) (g : Tg) (body : WS) : WS := fun PD env b => t env b fun xs b1 => wFor g body PD xs env b1
/-- a loop over a list of one's own, which is settled first -/
def sFz (i : Nat) (t : WS) : WS := fun PD env b => match env[i]? with
  | some (some (.l xs)) => t PD (env.set i (some (.d (.list xs)))) b
  | _ => t PD env b
section
variable {X : Cx} {pos : Pos} {tg iter : Expr} {g : Tg} {body : List Stmt} {ti : WI} {tb : WS}
theorem s_for {iw : Bool} (hp : PassesOwn (model X.prog X.w) X.A X.env X.xe) (hc : X.calm = true) (hi : PI X tg iter (lI X.K false iw ti)) (hg : PGt X tg g) (hb : SB X body tb) (hs : ∀ x, foldedSetIterable iter X.env x = pure x := by intro _; rfl) (hw : iw = true ∨ ∃ is, g = .tp is := by first | exact .inl rfl | exact .inr ⟨_, rfl⟩) :
    SS X (.For tg iter body [] pos) (sFor ti g tb) := PS.imp (ps_for hp hc hi hg hb hs) fun D σ H ⟨pn, F0, H0, F, env, b, PD, rep, t, k, r⟩ => by
  refine ⟨pn, F, env, b, _, rep.rep, t, fun items F1 H1 b1 J o1 x1 it t1 => ?_⟩
  refine ⟨fun i m σ H => ∃ F env b, RepS X.K pn F0 H0 F H σ env b ∧ Same F1 F ∧ i + m = items.length ∧ wFor g tb PD (items.drop i) env b, ⟨items.length, F1, env, b1, rep.ext' o1 x1, Same.refl _, by omega, t1⟩, fun i m σ H hW => ?_⟩
  obtain ⟨F2, env2, b2, rep2, sm, em, w⟩ := hW
  obtain ⟨go, stop, yld⟩ := it i F2 H b2 rep2.rep.ok sm
  by_cases hi : i < items.length
  · refine .inr ⟨go hi, fun σ' H' => ∃ F' env' b', RepS X.K pn F0 H0 F' H' σ' env' b' ∧ Same F1 F' ∧ wFor g tb PD (items.drop (i + 1)) env' b', fun σ' H' hN => ?_, fun x H' hy => ?_⟩
    · obtain ⟨F', env', b', r', s', w'⟩ := hN
      exact ⟨m - 1, by omega, F', env', b', r', s', by omega, w'⟩
    · obtain ⟨F', d, hd, rv, o', x'⟩ := yld x H' hy hi
      rw [List.drop_eq_getElem_cons hi] at w
      have ed : items[i] = d := by
        rw [List.getElem?_eq_getElem hi] at hd
        exact Option.some.inj hd
      rw [ed] at w
      unfold wFor at w
      split at w
      · rename_i env' hset
        refine gT_run (F0 := F0) (H0 := H0) (env := env2) o' rv hw hset fun vs c1 _ => ?_
        have rep3 := c1 (rep2.ext' o' x')
        have s3 := sm.trans x'.fsub
        have x01 := rep.ext.trans x1
        refine ⟨pn, F1, hU H0 F1, F', env', b2, _, rep3.up x01 s3, w, fun σ4 F4 H4 env4 b4 rep4 => ?_, ⟨fun v d F4 H4 b4 o4 x4 rv q => r.1 v d F4 H4 b4 o4 (x01.down x4) rv q, fun v d F4 H4 b4 o4 x4 ow nw q => r.2 v d F4 H4 b4 o4 (x01.down x4) ow (fun a ea => by
          have h3 := nw a ea
          obtain ⟨c, us, ec, fc, _⟩ := ow
          have : a = c := by rw [ea] at ec; exact V.ref.inj ec
          subst this
          rwa [hU_none (x4.fsub.free fc)] at h3) q⟩⟩
        have rep5 := rep4.down x01
        exact ⟨fun q => ⟨F4, env4, b4, rep5, rep4.ext.fsub, q⟩, fun q => (k σ4 F4 H4 env4 b4 rep5).1 q, fun q => ⟨F4, env4, b4, rep5, rep4.ext.fsub, q⟩⟩
      · exact w.elim
  · have e0 : items.drop i = [] := List.drop_of_length_le (by omega)
    rw [e0] at w
    exact .inl ⟨stop (by omega), (k σ F2 H env2 b2 rep2).1 w⟩
end
def wipeE (env : En) : List Nat → En
  | [] => env
  | v :: vs => (wipeE env vs).set v none
def wLc (g : Tg) (tt : WT) (te : WE) (own : List Nat) (env : En) : List PyData → Nat → List PyData → (List PyData → Nat → Prop) → Prop
  | [], b, acc, P => P acc b
  | x :: xs, b, acc, P => match setT g x (wipeE env own) with
    | some env' => tt env' b fun k b1 => if k = true then te env' b1 fun y b2 => wLc g tt te own env xs b2 (acc ++ [y]) P else wLc g tt te own env xs b1 acc P
    | none => False
def fLc (t : WI) (g : Tg) (tt : WT) (te : WE) (own : List Nat) : WF := fun env b P => t env b fun xs b1 => xs.length < sizeLine ∧ wLc g tt te own env xs b1 [] P
def wYes : WT := fun _ b P => P true b
abbrev ETs (X : Cx) (ifs : List Expr) (t : WT) : Prop := PTs X ifs (lT X.K t)
def Tg.slots : Tg → List Nat
  | .nm i => [i]
  | .tp is => is
theorem wipe_set {σ : L2.St} {v : V} {i : Nat} : ∀ {vs : List Nat}, i ∈ vs → wipe (σ.set i (some v)) vs = wipe σ vs
  | [], h => by simp at h
  | w :: vs, h => by
    unfold wipe
    by_cases e : i ∈ vs
    · rw [wipe_set e]
    · have hw : i = w := by simpa [e] using h
      subst hw
      have : ∀ (vs : List Nat), i ∉ vs → wipe (σ.set i (some v)) vs = (wipe σ vs).set i (some v) := by
        intro us
        induction us with
        | nil => intro _; rfl
        | cons u us ih =>
          intro hn
          have h1 : i ≠ u := fun z => hn (by simp [z])
          have h2 : i ∉ us := fun z => hn (by simp [z])
          unfold wipe
          rw [ih h2, List.set_comm _ _ h1]
      rw [this vs e, List.set_set]
theorem wipe_vsAll : ∀ (is : List Nat) {vs : List V} {σ : L2.St} {own : List Nat}, (∀ i ∈ is, i ∈ own) → wipe (vsAll is vs σ) own = wipe σ own
  | [], _, _, _, _ => by simp [vsAll]
  | i :: r, [], _, _, _ => by simp [vsAll]
  | i :: r, v :: vs, σ, own, h => by
    unfold vsAll
    rw [wipe_vsAll r (fun j hj => h j (List.mem_cons_of_mem _ hj)), wipe_set (h i List.mem_cons_self)]
theorem wipe_sT {g : Tg} {v : V} {vs : List V} {σ : L2.St} {own : List Nat} (h : ∀ i ∈ g.slots, i ∈ own) : wipe (sT g v vs σ) own = wipe σ own := by
  cases g with
  | nm i => exact wipe_set (h i (by simp [Tg.slots]))
  | tp is => exact wipe_vsAll is h
theorem Rep.wipe {K : PySem.W.Frag} {pn : Pn} {b : Nat} {F H : Hp} {σ : L2.St} {env : En} (r : Rep K pn F H σ env b) : ∀ (own : List Nat), Rep K pn F H (wipe σ own) (wipeE env own) b
  | [] => r
  | v :: vs => by
    have q := Rep.wipe r vs
    unfold L2.wipe wipeE
    have get : ∀ (j : Nat) (s : Sl), ((wipeE env vs).set v none)[j]? = some (some s) → j ≠ v ∧ (wipeE env vs)[j]? = some (some s) := fun j s h => by
      by_cases e : j = v
      · subst e
        have hl : j < (wipeE env vs).length := by have := (List.getElem?_eq_some_iff.mp h).1; simpa using this
        rw [List.getElem?_set_self hl] at h
        cases h
      · rw [List.getElem?_set_ne (Ne.symm e)] at h
        exact ⟨e, h⟩
    refine ⟨q.ok, by simp [q.len], fun j s h => ?_, fun j k a xs ys n h1 h2 h3 => ?_, q.tk⟩
    · obtain ⟨e, h⟩ := get j s h
      rw [List.getElem?_set_ne (Ne.symm e)]
      exact q.slot j s h
    · obtain ⟨e1, g1⟩ := get j _ h1
      rw [List.getElem?_set_ne (Ne.symm e1)] at h3
      rcases h2 with h2 | h2
      · obtain ⟨e2, g2⟩ := get k _ h2
        rw [List.getElem?_set_ne (Ne.symm e2)]
        exact q.apart j k a xs ys n g1 (.inl g2) h3
      · obtain ⟨e2, g2⟩ := get k _ h2
        rw [List.getElem?_set_ne (Ne.symm e2)]
        exact q.apart j k a xs ys n g1 (.inr g2) h3
theorem wipe_idem (σ : L2.St) : ∀ vs : List Nat, wipe (wipe σ vs) vs = wipe σ vs := by
  intro vs
  apply List.ext_getElem?
  intro i
  by_cases h : i ∈ vs
  · have key : ∀ (us : List Nat) (τ : L2.St), i ∈ us → (wipe τ us)[i]? = if i < τ.length then some none else none := by
      intro us
      induction us with
      | nil => intro τ hn; simp at hn
      | cons u us ih =>
        intro τ hn
        unfold wipe
        by_cases e : u = i
        · subst e
          rw [List.getElem?_set]
          simp [wipe_length]
        · have : i ∈ us := by
            rcases List.mem_cons.mp hn with z | z
            · exact (e z.symm).elim
            · exact z
          rw [List.getElem?_set_ne e, ih τ this]
    rw [key vs _ h, key vs _ h, wipe_length]
  · rw [wipe_out h]
section
variable {X : Cx} {elt tg iter : Expr} {ifs : List Expr} {scope : Scope} {own : List (Str × Nat)} {pos : Pos} {ti : WI} {g : Tg} {tt : WT} {te : WE}
theorem lc_read {iw : Bool} {K : PySem.W.Frag} {σ : L2.St} {H : Hp} {Q : VK} (hw : iw = true ∨ ∃ is, g = .tp is) (hin : ∀ i ∈ g.slots, i ∈ own.map (·.2)) (h : lF K (fLc ti g tt te (own.map (·.2))) σ H Q) : tLc (lI K true iw ti) (gT K g) (lT K tt) (lE K te) (own.map (·.2)) σ H Q := by
  obtain ⟨pn, F, env, b, P, rep, t, k⟩ := h
  refine ⟨pn, F, env, b, _, rep, t, fun items F1 H1 b1 J o1 x1 it t1 D hD => ?_⟩
  obtain ⟨hz, t1⟩ := t1
  have rep1 := rep.ext o1 x1
  have dPen : NotPen pn D ∧ NotCa pn D := o1.pen.apartN hD
  refine ⟨fun i m H => ∃ F2 b2 acc vs, Ok pn b2 F2 H ∧ Ext pn F1 H1 F2 H ∧ F2 D = none ∧ H D = some (.lst vs) ∧ RVs K F2 vs acc ∧ acc.length ≤ i ∧ i + m = items.length ∧ wLc g tt te (own.map (·.2)) env (items.drop i) b2 acc P,
    ⟨items.length, F1, b1, [], [], o1.own hD, .own hD, o1.free hD, upd_same, .nil, Nat.le_refl _, by omega, t1⟩, fun i m H hW => ?_⟩
  obtain ⟨F2, b2, acc, vs, o2, x2, fD, hDv, rvs, la, em, w⟩ := hW
  obtain ⟨go, stop, yld⟩ := it i F2 H b2 o2 x2
  by_cases hi : i < items.length
  · refine .inr ⟨go hi, fun H' => ∃ F2 b2 acc vs, Ok pn b2 F2 H' ∧ Ext pn F1 H1 F2 H' ∧ F2 D = none ∧ H' D = some (.lst vs) ∧ RVs K F2 vs acc ∧ acc.length ≤ i + 1 ∧ wLc g tt te (own.map (·.2)) env (items.drop (i + 1)) b2 acc P, fun H' hN => ?_, fun x H' hy => ?_⟩
    · obtain ⟨F3, b3, acc3, vs3, c1, c2, c3, c4, c5, c6, c7⟩ := hN
      exact ⟨m - 1, by omega, F3, b3, acc3, vs3, c1, c2, c3, c4, c5, c6, by omega, c7⟩
    · obtain ⟨F', d, hd, rv, o', x'⟩ := yld x H' hy hi
      rw [List.drop_eq_getElem_cons hi] at w
      have ed : items[i] = d := by
        rw [List.getElem?_eq_getElem hi] at hd
        exact Option.some.inj hd
      rw [ed] at w
      unfold wLc at w
      split at w
      · rename_i env' hset
        have rep2 : Rep K pn F' H' (wipe σ (own.map (·.2))) (wipeE env (own.map (·.2))) b2 := (rep1.ext o' (x2.trans x')).wipe _
        refine gT_run (F0 := F') (H0 := H') (env := wipeE env (own.map (·.2))) (b := b2) o' rv hw hset fun us _ c2 => ⟨(wipe_sT hin).trans (wipe_idem _ _), ?_⟩
        have rep3 := c2 rep2
        obtain ⟨hD', fD'⟩ := x'.keep D _ hDv fD dPen.1
        refine ⟨pn, F', env', b2, _, rep3, w, fun kc F4 H4 b4 o4 x4 t4 => ?_⟩
        obtain ⟨hD4, fD4⟩ := x4.keep D _ hD' fD' dPen.1
        cases kc with
        | true =>
          refine iteT ⟨pn, F4, env', b4, _, rep3.ext o4 x4, t4, fun y dy F5 H5 b5 o5 x5 ry t5 => ?_⟩
          obtain ⟨hD5, fD5⟩ := x5.keep D _ hD4 fD4 dPen.1
          have s5 := x'.fsub.trans (x4.fsub.trans x5.fsub)
          refine ⟨vs, hD5, by rw [rvs.len]; omega, F5, b5, acc ++ [dy], vs ++ [y], ?_, ?_, fD5, upd_same, (rvs.mono s5).app (.one ry), by simp; omega, t5⟩
          · refine ⟨fun c o q => ?_, ?_⟩
            · rw [upd_ne (fun z => by rw [z, fD5] at q; cases q)]; exact o5.sub c o q
            · exact o5.pen.wr dPen.1 dPen.2
          · have xx := x2.trans (x'.trans (x4.trans x5))
            refine ⟨xx.fsub, fun c o hc fc nc => ?_⟩
            obtain ⟨q1, q2⟩ := xx.keep c o hc fc nc
            exact ⟨by rw [upd_ne (ne_of_none hc hD)]; exact q1, q2⟩
        | false =>
          exact iteF ⟨F4, b4, acc, vs, o4, x2.trans (x'.trans x4), fD4, hD4, rvs.mono (x'.fsub.trans x4.fsub), by omega, t4⟩
      · exact w.elim
  · have e0 : items.drop i = [] := List.drop_of_length_le (by omega)
    rw [e0] at w
    refine .inl ⟨stop (by omega), k _ _ F2 H b2 o2 (x1.trans x2) ⟨D, vs, rfl, fD, dPen.1, dPen.2, hDv, rvs⟩ (fun a ea => ?_) w⟩
    cases ea
    exact x1.bk o1 hD
end
end Pu
namespace Pu
open PySem PySem.Spec PyProof.Rows L2
section
variable {X : Cx} {elt tg iter : Expr} {ifs : List Expr} {scope : Scope} {own : List (Str × Nat)} {pos : Pos} {ti : WI} {g : Tg} {tt : WT} {te : WE}
theorem ts_nil : ETs X [] wYes := ⟨fun pins s σ H Q I h => by
  obtain ⟨pn, F, env, b, P, rep, t, k⟩ := h
  exact pts_nil.run pins s σ H Q I (k true F H b rep.ok .refl t)⟩
theorem ts_one {c : Expr} {t : WT} (h : ET X c t) : ETs X [c] t := pts_one h
theorem f_lc {iw : Bool} (hc : X.calm = true) (hN : X.N.Nodup) (hi : PI X tg iter (lI X.K true iw ti)) (ok : BlkOk X.N X.env.scope scope own) (hin : ∀ i ∈ g.slots, i ∈ own.map (·.2))
    (hg : ∀ (s : Shared) (H : Hp) (C : Addr) (cl : List (Str × Addr)) (fp : List Addr), PGt (X.blk s H scope (compEnvC scope cl C X.env) fp) tg g) (ht : ∀ (s : Shared) (H : Hp) (C : Addr) (cl : List (Str × Addr)) (fp : List Addr), ETs (X.blk s H scope (compEnvC scope cl C X.env) fp) ifs tt)
    (he : ∀ (s : Shared) (H : Hp) (C : Addr) (cl : List (Str × Addr)) (fp : List Addr), EE (X.blk s H scope (compEnvC scope cl C X.env) fp) elt te) (hs : ∀ x, foldedSetIterable iter X.env x = pure x := by intro _; rfl) (hw : iw = true ∨ ∃ is, g = .tp is := by first | exact .inl rfl | exact .inr ⟨_, rfl⟩) :
    EF X (.ListComp elt [⟨tg, iter, ifs, 0⟩] scope pos) (fLc ti g tt te (own.map (·.2))) := PE.imp (pe_lc hc hN hi ok hg ht he hs) fun σ H Q h => lc_read hw hin h
theorem s_setLc {iw : Bool} {i : Nat} {y : Str} {py spos : Pos} (hc : X.calm = true) (hN : X.N.Nodup) (hy : X.N[i]? = some y) (hyl : X.env.scope.names.lookup y = some .local) (hsw : swapsWith (.ListComp elt [⟨tg, iter, ifs, 0⟩] scope pos) (some (.Name y py)) spos.line X.env = pure true)
    (hi : PI X tg iter (lI X.K true iw ti)) (ok : BlkOk X.N X.env.scope scope own) (hin : ∀ i ∈ g.slots, i ∈ own.map (·.2))
    (hg : ∀ (s : Shared) (H : Hp) (C : Addr) (cl : List (Str × Addr)) (fp : List Addr), PGt (X.blk s H scope (compEnvC scope cl C X.env) fp) tg g) (ht : ∀ (s : Shared) (H : Hp) (C : Addr) (cl : List (Str × Addr)) (fp : List Addr), ETs (X.blk s H scope (compEnvC scope cl C X.env) fp) ifs tt)
    (he : ∀ (s : Shared) (H : Hp) (C : Addr) (cl : List (Str × Addr)) (fp : List Addr), EE (X.blk s H scope (compEnvC scope cl C X.env) fp) elt te) (hs : ∀ x, foldedSetIterable iter X.env x = pure x := by intro _; rfl) (hw : iw = true ∨ ∃ is, g = .tp is := by first | exact .inl rfl | exact .inr ⟨_, rfl⟩) :
    SS X (.Assign [.Name y py] (.ListComp elt [⟨tg, iter, ifs, 0⟩] scope pos) spos) (sSet (fz (fLc ti g tt te (own.map (·.2)))) i) := PS.imp (ps_setLc hc hN hy hyl hsw hi ok hg ht he hs) fun D σ H ⟨pn, F0, H0, F, env, b, PD, rep, t, k, r⟩ => by
  refine lc_read hw hin ⟨pn, F, env, b, _, rep.rep, t, fun v d F' H' b' o x ow nw q => ?_⟩
  obtain ⟨a, vs, rfl, f, n, nc, ha, rv⟩ := ow
  have h0 := (rep.fresh nw a rfl).1
  have rep2 := rep.ext' o x
  have o2 : Ok pn b' (upd F' a (.lst vs)) H' := o.settle ha f n nc
  refine (k _ (upd F' a (.lst vs)) H' _ b' (RepS.setD ?_ (.lst upd_same (rv.mono (same_new f))))).1 q
  have x2 : Ext pn F H (upd F' a (.lst vs)) H' := ⟨x.fsub.trans (same_new f), fun c u hc fc npc => by
    obtain ⟨h1, f1⟩ := x.keep c u hc fc npc
    exact ⟨h1, by rw [upd_ne (fun z => by rw [z, nw a rfl] at hc; cases hc)]; exact f1⟩⟩
  exact rep.ext' o2 x2
end
def env0 (nn : Nat) (ss : List Sl) : En := ss.map some ++ List.replicate (nn - ss.length) none
def wDef (np nn : Nat) (t : WS) : WD := fun ss b P => ss.length = np ∧ t { nx := fun _ b' => P .none b', rt := P } (env0 nn ss) b
theorem args_at {K : PySem.W.Frag} {pn : Pn} {F H : Hp} : ∀ {vs : List V} {ss : List Sl} {i : Nat} {s : Sl}, ArgsAre K pn F H vs ss → ss[i]? = some s → ∃ v, vs[i]? = some v ∧ SlIs K pn F H v s ∧ s.isOwn = false
  | [], [], i, s, _, h => by simp at h
  | v :: vs, q :: ss, 0, s, ⟨h1, h2, _⟩, h => by simp at h; subst h; exact ⟨v, rfl, h1, h2⟩
  | v :: vs, q :: ss, i + 1, s, ⟨_, _, t⟩, h => by
    obtain ⟨u, h1, h2⟩ := args_at (i := i) (s := s) t (by simpa using h)
    exact ⟨u, by simpa using h1, h2⟩
  | [], _ :: _, _, _, h, _ => h.elim
  | _ :: _, [], _, _, h, _ => h.elim
theorem start_rep {K : PySem.W.Frag} {pn : Pn} {F H : Hp} {b : Nat} {N : List Str} {vs : List V} {ss : List Sl} (o : Ok pn b F H) (ar : ArgsAre K pn F H vs ss) : RepS K pn F H F H (L2.start N vs) (env0 N.length ss) b := by
  have el := ar.len
  have noL : ∀ (i : Nat) (s : Sl), s.isOwn = true → (env0 N.length ss)[i]? ≠ some (some s) := fun i s hs h => by
    unfold env0 at h
    by_cases hi : i < ss.length
    · rw [List.getElem?_append_left (by simpa using hi), List.getElem?_map, List.getElem?_eq_getElem hi] at h
      simp only [Option.map_some, Option.some.injEq] at h
      obtain ⟨v, _, _, q⟩ := args_at ar (List.getElem?_eq_getElem hi)
      rw [h, hs] at q
      cases q
    · rw [List.getElem?_append_right (by simpa using Nat.le_of_not_lt hi)] at h
      have := List.mem_of_getElem? h
      simp at this
  refine ⟨⟨o, by simp [L2.start, env0, el], fun i s h => ?_, fun i j a xs ys _ h1 _ _ => (noL i _ rfl h1).elim, ar.tk⟩, .refl, fun i a s hs h1 _ => (noL i s hs h1).elim⟩
  unfold env0 at h
  by_cases hi : i < ss.length
  · rw [List.getElem?_append_left (by simpa using hi), List.getElem?_map, List.getElem?_eq_getElem hi] at h
    simp only [Option.map_some, Option.some.injEq] at h
    obtain ⟨v, hv, q, _⟩ := args_at ar (List.getElem?_eq_getElem hi)
    rw [h] at q
    refine ⟨v, ?_, q⟩
    unfold L2.start
    rw [List.getElem?_append_left (by simpa [el] using hi), List.getElem?_map, hv]
    rfl
  · rw [List.getElem?_append_right (by simpa using Nat.le_of_not_lt hi)] at h
    have := List.mem_of_getElem? h
    simp at this
section
variable {P : Program} {w : World} {K : PySem.W.Frag} {mg : Str → Option Value} {base : Heap}
/-- a def keeps the promise that its body's reading is -/
theorem ok_fn {x qual : Str} {st : Stmt} {f : Addr} {fd : FuncData} {N ps : List Str} {k : Nat} {t : WS} (F : Fun K x qual st f fd) (S : FnScope N ps (defScope st))
    (body : ∀ (cdv : Value) (A : Around) (outer : List Env) (s : Shared) (H : Hp) (E : XK), Room k (A.deeper (envOfC qual (defScope st) s.heap.objs.size f cdv)) → SB (cxOf CX0 P w K mg base N qual (defScope st) f cdv A outer s H E).nox (defBody st) t) :
    FnOk P w K mg base CX0 (k + 1) f fd ps (spW K (wDef ps.length N.length t)) := by
  refine F.ok S (fun vs H Q E h => ?_) (fun cdv A outer s H vs Q E hr h => ?_)
  · obtain ⟨pn, F, ss, b, P, o, ar, ⟨hl, _⟩, _⟩ := h
    rw [ar.len, hl]
  · obtain ⟨pn, F, ss, b, PP, o, ar, ⟨hl, q⟩, kk⟩ := h
    exact ⟨lS K t, body cdv A outer s H E hr, pn, F, H, F, _, b, _, start_rep o ar, q,
      fun σ' F' H' env' b' rep' => ⟨fun q => kk .non .none F' H' b' rep'.rep.ok rep'.ext .non q, fun q => q, fun q => q⟩, ⟨fun v d F' H' b' o' x' rv q => kk v d F' H' b' o' x' rv q, fun _ _ _ _ _ _ _ _ _ q => q.elim⟩⟩
/-- another way to say what a def does -/
theorem spW.imp {f : Addr} {fd : FuncData} {ps : List Str} {k : Nat} {t u : WD} (G : FnOk P w K mg base CX0 k f fd ps (spW K t)) (h : ∀ ss b P, u ss b P → t ss b P) : FnOk P w K mg base CX0 k f fd ps (spW K u) :=
  G.imp fun vs H Q E ⟨pn, F, ss, b, P, o, ar, q, kk⟩ => ⟨pn, F, ss, b, P, o, ar, h ss b P q, kk⟩
end
end Pu
namespace Pu
open PySem PySem.Spec PyProof.Rows L2
theorem toFun {K : PySem.W.Frag} {x qual : Str} {st : Stmt} {f : Addr} {fd : FuncData} (F : FunD K x qual (defArgs st) (defBody st) (defScope st) [] [] f fd) : Fun K x qual st f fd := by
  obtain ⟨oc, od, dV, kV, doc, pm, an, cdv, ct, osl, rfl, lk, hcd, hD, _⟩ := F.ex
  rcases hD with ⟨_, rfl⟩ | ⟨e, _⟩
  · exact ⟨⟨oc, od, kV, doc, pm, an, cdv, ct, osl, rfl, lk, hcd⟩, F.kp⟩
  · exact absurd rfl e
section
variable {X : Cx} {a c e e2 : Expr} {pos : Pos} {ta tb tc : WE}
theorem e_one {op : BoolOp} (h : EE X a ta) : EE X (.BoolOp op [a] pos) ta := pe_one h
/-- a < b < c -/
def wCh (p q : P2) (ta tb tc : WE) : WE := fun env b P => ta env b fun x b1 => tb env b1 fun y b2 => p x y fun z => match z with
  | .bool k => if k = true then tc env b2 fun w b3 => q y w fun u => P u b3 else P (.bool false) b2
  | _ => False
theorem ch_run {K : PySem.W.Frag} {r r' : R2} {p q : P2} (o : Op2 K r p) (o' : Op2 K r' q) {σ : L2.St} {H : Hp} {Q : VK} (h : lE K (wCh p q ta tb tc) σ H Q) : tChain r r' (lB K ta) (lB K tb) (lB K tc) σ H Q := by
  obtain ⟨pn, F, env, b, P, rep, t, k⟩ := h
  refine ⟨pn, F, env, b, _, rep, t, fun v x F1 H1 b1 o1 e1 bv t1 => ?_⟩
  refine ⟨pn, F1, env, b1, _, rep.ext o1 e1, t1, fun u y F2 H2 b2 o2 e2 bu t2 => ?_⟩
  refine o pn b2 F2 H2 v u x y _ _ o2 (bv.ext e2) bu t2 fun w z F3 H3 o3 e3 rz t3 => ?_
  cases rz with
  | bl kk =>
    refine ⟨kk, rfl, ?_⟩
    cases kk with
    | true =>
      refine iteT ⟨pn, F3, env, b2, _, ((rep.ext o1 e1).ext o2 e2).ext o3 e3, t3, fun w' dw F4 H4 b4 o4 e4 bw t4 => ?_⟩
      exact o' pn b4 F4 H4 u w' y dw _ _ o4 ((bu.ext e3).ext e4) bw t4 fun w2 z2 F5 H5 o5 e5 r5 t5 => k w2 z2 F5 H5 b4 o5 (e1.trans (e2.trans (e3.trans (e4.trans e5)))) r5 t5
    | false => exact iteF (k _ _ F3 H3 b2 o3 (e1.trans (e2.trans e3)) (.bl _) t3)
  | _ => exact t3.elim
theorem e_chain {op op' : CmpOp} {r r' : R2} {p q : P2} (ho : OpR X (compareOp op) r) (ho' : OpR X (compareOp op') r') (o : Op2 X.K r p) (o' : Op2 X.K r' q) (ha : EB X a ta) (hb : EB X c tb) (hc : EB X e tc) (hm : lastMarks [op, op'] [c, e] = false := by with_unfolding_all rfl) :
    EE X (.Compare a [op, op'] [c, e] pos) (wCh p q ta tb tc) := PE.imp (pe_chain ho ho' ha hb hc hm) fun _ _ _ h => ch_run o o' h
theorem t_chain {op op' : CmpOp} {r r' : R2} {p q : P2} (ho : OpR X (compareOp op) r) (ho' : OpR X (compareOp op') r') (o : Op2 X.K r p) (o' : Op2 X.K r' q) (ha : EB X a ta) (hb : EB X c tb) (hc : EB X e tc) (hm : lastMarks [op, op'] [c, e] = false := by with_unfolding_all rfl) :
    ET X (.Compare a [op, op'] [c, e] pos) (wTt (wCh p q ta tb tc)) := PT.imp (pt_chain ho ho' ha hb hc hm) fun _ _ _ h => ch_run o o' (tt_of h)
def wOpL (p : PyData → PyData → (List PyData → Prop) → Prop) (ta tb : WE) : WF := fun env b P => ta env b fun x b1 => tb env b1 fun y b2 => p x y fun z => P z b2
def pCatL : PyData → PyData → (List PyData → Prop) → Prop
  | .list xs, .list ys, P => xs.length + ys.length ≤ sizeLine ∧ P (xs ++ ys)
  | _, _, _ => False
def pRepL : PyData → PyData → (List PyData → Prop) → Prop
  | .list xs, .int k, P => -(2 ^ 63) ≤ k ∧ k < 2 ^ 63 ∧ xs.length * k.toNat ≤ sizeLine ∧ P (List.replicate k.toNat xs).flatten
  | _, _, _ => False
/-- {} -/
def wD0 : WE := fun _ b P => P (.dict []) b
end
/-- a global that is a text, a number -/
def Cst (mg : Str → Option Value) (x : Str) (v : V) : Prop := ∃ u, mg x = some u ∧ RelV v u
theorem e_glo {X : Cx} {x : Str} {pos : Pos} {v : V} {d : PyData} (hg : Gl X x) (hm : Cst X.mg x v) (r : ∀ F, RV X.K F v d) (hd : (x == ("__debug__" : Str)) = false := by decide) : EE X (.Name x pos) (wC d) := by
  obtain ⟨u, h1, h2⟩ := hm
  exact e_c (pe_glob hg h1 h2 hd) r
end Pu
namespace Pu
open PySem PySem.Spec PyProof.Rows L2
abbrev pLt : P2 := pI (fun _ _ => True) fun i j => .bool (decide (i < j))
abbrev pLe : P2 := pI (fun _ _ => True) fun i j => .bool (decide (i ≤ j))
abbrev pGt : P2 := pI (fun _ _ => True) fun i j => .bool (decide (j < i))
abbrev pGe : P2 := pI (fun _ _ => True) fun i j => .bool (decide (j ≤ i))
abbrev pSub : P2 := pI (fun _ _ => True) fun i j => .int (i - j)
abbrev pMod : P2 := pI (fun _ j => 0 < j) fun i j => .int (i % j)
abbrev pPow : P2 := pI CPow fun i j => .int (i ^ j.toNat)
end Pu
namespace Pu
open PySem PySem.Spec PyProof.Rows L2
section
variable {X : Cx} {pins : List (Addr × Obj)} {σ : L2.St} {H : Hp} {s : Shared}
/-- the state behind a store to a plain local name -/
theorem stored {i : Nat} {x : Str} {v : V} {u : Value} {m : Str → Option Value} {h' : Heap} {tk : Nat} (I : Inv X pins σ H s) (nd : X.N.Nodup) (at_ : X.N[i]? = some x) (kl : X.env.scope.names.lookup x = some .local) (rv : RelV v u)
    (ns : s.heap.Ns X.env.locals m) (lk : ∀ (j : Nat) (y : Str) (w : V), X.N[j]? = some y → σ[j]? = some (some w) → Vis X.env.scope y → ∃ z, RelV w z ∧ Look X.env s.heap m y z)
    (ns' : h'.Ns X.env.locals (fun y => if y = x then some u else m y)) (sb : Heap.SameBut X.env.locals s.heap h') : Inv X pins (σ.set i (some v)) H { s with heap := h', toks := tk } := by
  have bound : i < σ.length := I.len.symm ▸ (List.getElem?_eq_some_iff.mp at_).1
  have old : ∀ b o, X.s_0.heap.get? b = some o → b ≠ X.env.locals := fun b o e => Nat.ne_of_lt (Nat.lt_of_lt_of_le (Heap.lt_size e) I.ok.above)
  obtain ⟨oL, _, _, atL, _⟩ := id ns
  have trackd : HOk X.prog X.w H h' := fun b ob e => by
    refine (I.hok b ob e).stay (fun c w' hc q => (sb.2 c fun z => ?_).trans q) (fun _ q => q) fun _ _ q => q
    subst z
    rcases hc with hc | hc
    · subst hc; rw [I.free] at e; cases e
    · rw [I.free] at hc; cases hc
  refine ⟨I.ok, I.os, I.bare, ⟨fun b o e n hb hx => (sb.2 b (old b o e)).trans (I.base.keep b o e n hb hx), fun b o e n hb hx => ?_, I.base.free, fun b o e hx => ?_, I.base.tups, I.base.frzs, I.base.tbls⟩, ⟨_, ns', fun j y w e1 e2 e3 => ?_⟩, fun y c e => ?_, I.free, I.freeC, fun p hp => ?_, trackd, by simpa using I.len⟩
  · obtain ⟨sl, e1⟩ := I.base.slot b o e n hb hx
    exact ⟨sl, (sb.2 b (old b o e)).trans e1⟩
  · obtain ⟨o', e1⟩ := I.base.there b o e hx
    exact ⟨o', (sb.2 b (old b o e)).trans e1⟩
  · by_cases hj : j = i
    · subst hj
      have ey : x = y := Option.some.inj (at_.symm.trans e1)
      subst ey
      rw [List.getElem?_set_self bound] at e2
      have ew : v = w := by simpa using e2
      subst ew
      exact ⟨u, rv, .inl ⟨kl, if_pos rfl⟩⟩
    · rw [List.getElem?_set_ne (Ne.symm hj)] at e2
      obtain ⟨z, rz, q⟩ := lk j y w e1 e2 e3
      have ne : y ≠ x := fun e => hj (nodup_ix nd e1 (e.symm ▸ at_))
      refine ⟨z, rz, ?_⟩
      rcases q with ⟨kk, e⟩ | ⟨kk, c, e, zz⟩
      · exact .inl ⟨kk, by simp [ne, e]⟩
      · exact .inr ⟨kk, c, e, zz.sameBut sb (I.cne y c e)⟩
  · obtain ⟨w', z⟩ := I.cell y c e
    exact ⟨w', z.sameBut sb (I.cne y c e)⟩
  · obtain ⟨e, n, ne, nf, d⟩ := I.pin p hp
    exact ⟨(sb.2 p.1 ne).trans e, n, ne, nf, d⟩
/-- what a name's evaluation gives, token and all -/
def Raw (X : Cx) (x : Str) (u : Value) (s : Shared) : Prop := ∀ (pos : Pos) (Q E : Value → Shared → Prop), Q u s → wpAny (model X.prog X.w) X.A (eval (.Name x pos) X.env) Q E s
/-- x = e, where e's value is a text whose token is known -/
theorem asg_raw {i : Nat} {x : Str} {e : Expr} {p1 p4 : Pos} {Q : Flow → Shared → Prop} (nd : X.N.Nodup) (at_ : X.N[i]? = some x) (kl : X.env.scope.names.lookup x = some .local) (hd : (x == ("__debug__" : Str)) = false)
    (h : wpAny (model X.prog X.w) X.A (eval e X.env) (fun u s1 => ∃ (z : Str) (t : Tok) (H1 : Hp), u = .str z t ∧ t ≠ 0 ∧ t < s1.toks ∧ Inv X pins σ H1 s1 ∧
      ∀ s2, Inv X pins (σ.set i (some (.str z))) H1 s2 → Raw X x (.str z t) s2 → t < s2.toks → Q .next s2) X.xe s)
    (hs : swapsWith e (some (.Name x p1)) p4.line X.env = pure false) : wpAny (model X.prog X.w) X.A (exec (.Assign [.Name x p1] e p4) X.env) Q X.xe s := by
  refine wpAny_Assign_Name (thn h fun u s1 q => ?_) hs
  obtain ⟨z, t, H1, rfl, t0, tl, I1, k⟩ := q
  obtain ⟨m, ns, lk⟩ := id I1.loc
  refine wpAny_storeName_local kl ns (fun h' ns' sb => ?_) (by rw [I1.ok.kind]; rfl)
  refine k _ (stored I1 nd at_ kl ⟨t, rfl⟩ ns lk ns' sb) (fun pos Q E q => ?_) (show t < s1.toks + 1 from Nat.lt_succ_of_lt tl)
  exact wpAny_Name (wpAny_loadName_local I1.ok.kind kl ns' (if_pos rfl) q) hd
/-- text.replace(x, '') -/
theorem strike_raw {ic : Nat} {c x : Str} {z y : Str} {t : Tok} {p1 p2 apos pos c0 : Pos} {j : Nat} {Q : VK} (hN : X.N[ic]? = some c) (hv : Vis X.env.scope c) (dc : (c == ("__debug__" : Str)) = false) (cc : (c == ("__classdict__" : Str)) = false)
    (I : Inv X pins σ H s) (hz : σ[ic]? = some (some (.str z))) (raw : Raw X x (.str y t) s) (t0 : t ≠ 0) (tl : t < s.toks) (hy : (y == Str.empty) = false) (len : z.length ≤ 16777216)
    (hst : starEach [.Name x p2, .Constant (.str "") j c0] X.env = [(false, eval (.Name x p2) X.env), (false, eval (.Constant (.str "") j c0) X.env)]) (hbase : attributeBase (.Name c p1) "replace" X.env (eval (.Name c p1) X.env) = eval (.Name c p1) X.env) (hline : (apos.endLine == pos.line) = true)
    (q : Q (.str (Txt.replace z y Str.empty)) H) : wpAny (model X.prog X.w) X.A (eval (.Call (.Attribute (.Name c p1) "replace" apos) [.Name x p2, .Constant (.str "") j c0] [] pos) X.env) (EP X pins σ Q) X.xe s := by
  refine PySem.Call_method2 hbase hst hline (raw_name hN hv I hz (fun v r => ?_) dc cc)
  obtain ⟨tz, rfl⟩ := r
  refine ⟨"str", _, F.plainAttrs_str, F.slot_str_replace, F.type_str_replace, typeIs_str _ _ _, (fun _ e => nomatch e), Calls.callWith_builtin rfl (Calls.evalArgs_plain (Calls.spliced_cons ?_))⟩
  refine raw _ _ _ (Calls.spliced_cons (Calls.Constant_str (Calls.spliced_nil ?_)))
  exact PySem.SC.replace t0 (fun e => absurd (e ▸ tl : t < 0) (Nat.not_lt_zero _)) (Nat.ne_of_lt tl) hy (by show z.length + (z.length + 1) * 0 ≤ 16777216; omega) fun t' k => ⟨.str (Txt.replace z y Str.empty), H, I.tok k, ⟨t', rfl⟩, q⟩
end
end Pu
namespace Pu
open PySem PySem.Spec PyProof.Rows L2
section
variable {X : Cx} {pins : List (Addr × Obj)} {σ : L2.St} {H : Hp} {s : Shared}
/-- c[take(pen, len(c))]: the sign's token is out -/
theorem pick_raw {ic ip : Nat} {c pen ft : Str} {z : Str} {vp : V} {f : Addr} {fd : FuncData} {ps : List Str} {k : Nat} {sp : Sp} {p1 p2 p3 p4 p5 p6 p7 p10 : Pos} {Q : VK}
    (hNc : X.N[ic]? = some c) (hvc : Vis X.env.scope c) (dc : (c == ("__debug__" : Str)) = false) (cc : (c == ("__classdict__" : Str)) = false)
    (hNp : X.N[ip]? = some pen) (hvp : Vis X.env.scope pen) (dp : (pen == ("__debug__" : Str)) = false) (cp : (pen == ("__classdict__" : Str)) = false)
    (G : FnOk X.prog X.w X.K X.mg X.base CX0 k f fd ps sp) (hr : Room k X.A) (hg : Gl X ft) (hm : X.mg ft = some (.ref f)) (hk : PySem.W.keepIn X.K (.ref f) = true) (hb : Binds X.K fd ps []) (df : (ft == ("__debug__" : Str)) = false)
    (hgl : Gl X "len") (hml : X.mg "len" = none)
    (he : starEach [.Name pen p3, .Call (.Name "len" p4) [.Name c p5] [] p6] X.env = (false, eval (.Name pen p3) X.env) :: starEach [.Call (.Name "len" p4) [.Name c p5] [] p6] X.env)
    (he2 : starEach [.Call (.Name "len" p4) [.Name c p5] [] p6] X.env = (false, eval (.Call (.Name "len" p4) [.Name c p5] [] p6) X.env) :: starEach [] X.env)
    (he3 : starEach [.Name c p5] X.env = (false, eval (.Name c p5) X.env) :: starEach [] X.env)
    (I : Inv X pins σ H s) (hz : σ[ic]? = some (some (.str z))) (hp : σ[ip]? = some (some vp)) (len : z.length ≤ 16777216)
    (h : sp [vp, .int z.length] H (fun y H1 => ∃ i cc, y = .int i ∧ atI z.cps.toList i = some cc ∧ Q (.str ⟨#[cc]⟩) H1) E0) :
    wpAny (model X.prog X.w) X.A (eval (.Subscript (.Name c p1) (.Call (.Name ft p2) [.Name pen p3, .Call (.Name "len" p4) [.Name c p5] [] p6] [] p7) p10) X.env)
      (fun u s1 => ∃ (y : Str) (t : Tok) (H1 : Hp), u = .str y t ∧ t ≠ 0 ∧ t < s1.toks ∧ Inv X pins σ H1 s1 ∧ (y == Str.empty) = false ∧ Q (.str y) H1) X.xe s := by
  have z63 : (sizeLine : Nat) < 2 ^ 63 := line63
  have zs : (16777216 : Nat) ≤ sizeLine := by decide
  refine Subscript_ (raw_name hNc hvc I hz (fun v r => ?_) dc cc)
  obtain ⟨tz, rfl⟩ := r
  refine wpAny_Call_Name_kw (ld_glob I hg hm ?_ df)
  refine PySem.W.callWith_K (h₀ := X.base) I.ok.mod.kin hk ?_ he (by rw [he2]; rfl)
  rw [he]
  show wpAny _ _ (spliced ((false, eval (.Name pen p3) X.env) :: backTo p7 (starEach [.Call (.Name "len" p4) [.Name c p5] [] p6] X.env))) _ _ s
  refine Calls.spliced_cons (raw_name hNp hvp I hp (fun vpen rpen => ?_) dp cp)
  rw [he2]
  show wpAny _ _ (spliced ((false, eval (.Call (.Name "len" p4) [.Name c p5] [] p6) X.env) :: backTo p7 (starEach [] X.env))) _ _ s
  refine Calls.spliced_cons (wpAny_Call_Name_kw (ld_blt I hgl hml PySem.boot_len ?_))
  refine PyProof.Rows.callWith_builtin1 ?_ he3 (by rfl)
  rw [he3]
  show wpAny _ _ (spliced ((false, eval (.Name c p5) X.env) :: backTo p6 (starEach [] X.env))) _ _ s
  refine Calls.spliced_cons (raw_name hNc hvc I hz (fun v2 r2 => ?_) dc cc)
  obtain ⟨tz2, rfl⟩ := r2
  refine Calls.spliced_nil ?_
  refine PyProof.Rows.len_str (by omega) ?_
  refine Calls.spliced_nil ?_
  have I2 : Inv X pins σ H { s with toks := s.toks + 1 + 1 } := I.tok _
  refine ⟨I2.kIn, ?_⟩
  refine wpAny_with_toks (n := 1) (show 1 ≤ s.toks + 1 + 1 from Nat.le_add_left 1 _) (wpAny_mono (run_fn G hr hb .nil pass0 (vs := [vp, .int z.length]) I2 (Paired.cons rpen (.cons ⟨_, rfl⟩ .nil)) h) (fun u s1 q h1 => ?_) fun _ _ e _ => e)
  obtain ⟨y, H1, I1, ry, i, d, rfl, hat, q⟩ := q
  obtain ⟨ti, rfl⟩ := ry
  obtain ⟨j, a1, a2, a3, a4, a5⟩ := atI_get hat
  have hl : z.cps.toList.length = z.length := by simp [Str.length]
  rw [hl] at a1 a4 a5
  refine tail_any (typeIs_str s1 z tz) slot_str_getitem.lookup (PyProof.Rows.getItem_str (c := d) ?_ (by rw [a1]; simpa using a2) ?_) rfl
  · have e1 : decide (i < -(2 ^ 63 : Int)) = false := decide_eq_false (by omega)
    have e2 : decide (i ≥ 2 ^ 63) = false := decide_eq_false (by omega)
    rw [e1, e2, Bool.or_false]
  · exact ⟨⟨#[d]⟩, s1.toks, H1, rfl, (fun e => absurd (e ▸ h1 : 1 ≤ 0) (by decide)), Nat.lt_succ_self _, I1.tok _, by rfl, q⟩
end
end Pu
namespace Pu
open PySem PySem.Spec PyProof.Rows L2
end Pu
namespace Pu
open PySem PySem.Spec PyProof.Rows L2
section
variable {K : PySem.W.Frag} {pn : Pn} {F0 H0 F H : Hp} {σ : L2.St} {env : En} {b i : Nat} {xs : List PyData}
theorem RepS.fz (rep : RepS K pn F0 H0 F H σ env b) (h : env[i]? = some (some (.l xs))) : ∃ F', RepS K pn F0 H0 F' H σ (env.set i (some (.d (.list xs)))) b := by
  obtain ⟨v, h1, a, vs, rfl, fa, np, nc, ha, rv⟩ := rep.rep.slot i _ h
  have n0 := rep.own i a _ rfl h h1
  have hsm : Same F (upd F a (.lst vs)) := same_new fa
  have il : i < env.length := (List.getElem?_eq_some_iff.mp h).1
  have other : ∀ {j : Nat} {ys : List PyData} {v : V}, j ≠ i → (env[j]? = some (some (Sl.l ys)) ∨ env[j]? = some (some (Sl.r ys))) → σ[j]? = some (some v) → OwnL K pn F H v ys → OwnL K pn (upd F a (.lst vs)) H v ys := by
    intro j ys v hj he hs ho
    obtain ⟨c, ws, rfl, fc, npc, ncc, hc, rc⟩ := ho
    have : c ≠ a := fun z => rep.rep.apart i j a xs ys (Ne.symm hj) h he h1 (by rw [← z]; exact hs)
    exact ⟨c, ws, rfl, by rw [upd_ne this]; exact fc, npc, ncc, hc, rc.mono hsm⟩
  refine ⟨upd F a (.lst vs), ⟨rep.rep.ok.settle ha fa np nc, by rw [List.length_set]; exact rep.rep.len, fun j s hj => ?_, fun j k c ys zs hjk ej ek hs => ?_, rep.rep.tk⟩,
    ⟨rep.ext.fsub.trans hsm, fun c o hc fc npc => ?_⟩, fun j c ys hq ej hs => ?_⟩
  · by_cases hji : j = i
    · subst hji
      rw [List.getElem?_set_self il] at hj
      cases hj
      exact ⟨_, h1, .lst upd_same (rv.mono hsm)⟩
    · rw [List.getElem?_set_ne (Ne.symm hji)] at hj
      obtain ⟨v, q1, q2⟩ := rep.rep.slot j s hj
      refine ⟨v, q1, ?_⟩
      cases s with
      | d x => exact RV.mono hsm q2
      | l ys => exact other hji (.inl hj) q1 q2
      | r ys => exact other hji (.inr hj) q1 q2
      | p => exact q2
      | k ys =>
        obtain ⟨c, ws, e, fc, npc, ncc, hc, rc⟩ := q2
        exact ⟨c, ws, e, by rw [upd_ne (fun z => by rw [z, ha] at hc; exact nomatch hc)]; exact fc, npc, ncc, hc, rc.mono hsm⟩
  · by_cases hji : j = i
    · subst hji
      rw [List.getElem?_set_self il] at ej
      cases ej
    · rw [List.getElem?_set_ne (Ne.symm hji)] at ej
      refine rep.rep.apart j k c ys zs hjk ej ?_ hs
      by_cases hki : k = i
      · subst hki
        rw [List.getElem?_set_self il] at ek
        rcases ek with ek | ek <;> cases ek
      · rwa [List.getElem?_set_ne (Ne.symm hki)] at ek
  · obtain ⟨q1, q2⟩ := rep.ext.keep c o hc fc npc
    exact ⟨q1, by rw [upd_ne (fun z => by rw [z, n0] at hc; cases hc)]; exact q2⟩
  · by_cases hji : j = i
    · subst hji
      rw [List.getElem?_set_self il] at ej
      cases ej
      cases hq
    · rw [List.getElem?_set_ne (Ne.symm hji)] at ej
      exact rep.own j c ys hq ej hs
end
section
variable {X : Cx} {st : Stmt} {t : WS} {i : Nat}
theorem s_fz (h : SS X st t) : SS X st (sFz i t) := PS.imp h fun D σ H ⟨pn, F0, H0, F, env, b, PD, rep, w, k, r⟩ => by
  unfold sFz at w
  split at w
  · rename_i xs e
    obtain ⟨F', rep'⟩ := rep.fz e
    exact ⟨pn, F0, H0, F', _, b, PD, rep', w, k, r⟩
  · exact ⟨pn, F0, H0, F, env, b, PD, rep, w, k, r⟩
end
end Pu
namespace PuS
open PySem PySem.Spec PyProof.Rows L2
section
variable {P : Program} {w : World} {κ : Type} [DecidableEq κ] {kd : PySem.KeyKind P w κ}
/-- the key that a value is -/
noncomputable def kO (kd : PySem.KeyKind P w κ) (v : Value) : Option κ := open Classical in if h : ∃ k, kd.is k v = true then some h.choose else none
theorem kO_is {k : κ} {v : Value} (h : kd.is k v = true) : kO kd v = some k := by
  have e : ∃ k, kd.is k v = true := ⟨k, h⟩
  unfold kO
  rw [dif_pos e]
  exact congrArg some (kd.inj v _ _ e.choose_spec h)
theorem is_kO {k : κ} {v : Value} (h : kO kd v = some k) : kd.is k v = true := by
  unfold kO at h
  split at h
  · rename_i e
    cases h
    exact e.choose_spec
  · cases h
noncomputable abbrev kE (kd : PySem.KeyKind P w κ) (e : Int × Value) : Option κ := kO kd e.2
theorem kE_mem {l : List (Int × Value)} (k : κ) : some k ∈ l.map (kE kd) ↔ ∃ e ∈ l, kd.is k e.2 = true :=
  List.mem_map.trans ⟨fun ⟨e, he, q⟩ => ⟨e, he, is_kO q⟩, fun ⟨e, he, q⟩ => ⟨e, he, kO_is q⟩⟩
/-- the set at a: its members M, n of them -/
structure SG (kd : PySem.KeyKind P w κ) (o : Obj) (M : κ → Bool) (n : Nat) (es : Array (Int × Value)) (ep : Nat) (t : SetTable) : Prop where
  ex : o.ExactSet
  dt : o.data = .set es ep t
  el : ElemsOf kd es.toList
  nd : (es.toList.map (kE kd)).Nodup
  mem : ∀ k, M k = true ↔ some k ∈ es.toList.map (kE kd)
  few : es.size < scanBound
  fit : t.fits es.size = true
  num : es.size = n
  ris : Ris t.place.toList
  led : w.params.followText "set-order" = true ∨ t.led = true
def SetG (kd : PySem.KeyKind P w κ) (h : Heap) (a : Addr) (M : κ → Bool) (n : Nat) : Prop := ∃ o es ep t, h.get? a = some o ∧ SG kd o M n es ep t
variable {h h' : Heap} {a : Addr} {M : κ → Bool} {n : Nat}
theorem SetG.at' (R : SetG kd h a M n) (k : ∀ o, h.get? a = some o → h'.get? a = some o) : SetG kd h' a M n := let ⟨o, es, ep, t, ho, r⟩ := R; ⟨o, es, ep, t, k o ho, r⟩
theorem SetG.congr {M' : κ → Bool} {n' : Nat} (R : SetG kd h a M n) (e : ∀ k, M k = M' k) (en : n = n') : SetG kd h a M' n' := by
  obtain rfl : M = M' := funext e
  subst en
  exact R
end
section
variable {P : Program} {w : World} {κ : Type} [DecidableEq κ] {kd : PySem.KeyKind P w κ} {A : Around} {E : Value → Shared → Prop} {s : Shared} {a : Addr} {M : κ → Bool} {n : Nat}
theorem tailG {g : Bool → Sem Unit} (hg : ∀ (b : Bool) (s₁ : Shared) (Q' : Unit → Shared → Prop), Q' () s₁ → wpAny (model P w) A (g b) Q' E s₁) {o : Obj} {es0 : Array (Int × Value)} {ep : Nat} {t0 : SetTable}
    (ho : s.heap.get? a = some o) (hx : o.ExactSet) (hd : o.data = .set es0 ep t0) {es : Array (Int × Value)} {t : SetTable} {M' : κ → Bool}
    (G : ∀ o' ep' t' es', es'.toList.Perm es.toList → o'.ExactSet → o'.data = .set es' ep' t' → t'.fits es'.size = true → Ris t'.place.toList → (w.params.followText "set-order" = true ∨ t'.led = true) → SG kd o' M' es.size es' ep' t')
    (few : es.size < scanBound) (fit : t.fits es.size = true) (ris : Ris t.place.toList) (led : w.params.followText "set-order" = true ∨ t.led = true) {wd : Bool} {R : Option Bool → Shared → Prop}
    (fin : ∀ h', Heap.SameBut a s.heap h' → SetG kd h' a M' es.size → R (some true) { s with heap := h' }) :
    wpAny (model P w) A (do
        storeSet a es t
        if (!wd && t.tooFull) = true then do
            g (relayAll t es (SetTable.grown es.size)).2.2
            storeSet a (relayAll t es (SetTable.grown es.size)).1 (relayAll t es (SetTable.grown es.size)).2.1
            pure (some true)
          else pure (some true)) R E s := by
  have st1 := store_at (es' := es) (t' := t) ho hd
  have sm1 := Heap.SameBut.update s.heap a (Obj.putSet es t)
  refine wpAny_bind (wpAny_storeSet_of ho hd ?_ (fits_of_scanBound few))
  split
  · have f1 := relayAll_perm t es (SetTable.grown es.size)
    have f2 := relayAll_fits t es (SetTable.grown es.size)
    have f3 := relayAll_ris t es (SetTable.grown es.size)
    have f4 := relayAll_led t es (SetTable.grown es.size)
    generalize relayAll t es (SetTable.grown es.size) = Y at f1 f2 f3 f4 ⊢
    obtain ⟨es2, t2, gv⟩ := Y
    dsimp only at f1 f2 f3 f4 ⊢
    have sz : es2.size = es.size := by rw [← Array.length_toList, f1.length_eq, Array.length_toList]
    refine wpAny_bind (hg _ _ _ (wpAny_bind (wpAny_storeSet_of st1 rfl ?_ (fits_of_scanBound (by rw [sz]; exact few)))))
    have st2 := store_at (es' := es2) (t' := t2) st1 rfl
    exact wpAny_pure (fin _ (sm1.trans (Heap.SameBut.update _ a _)) ⟨_, es2, _, t2, st2, G _ _ _ _ f1 hx rfl f2 f3 (led.imp id fun z => by rw [f4]; exact z)⟩)
  · exact wpAny_pure (fin _ sm1 ⟨_, es, _, t, st1, G _ _ _ _ (List.Perm.refl _) hx rfl fit ris led⟩)
theorem addG {k : κ} {x : Value} {Q : Bool → Shared → Prop} (hx : kd.is k x = true) (hsc : x.scannable = true) (R : SetG kd s.heap a M n) (room : n + 1 < scanBound)
    (hQ : ∀ h', Heap.SameBut a s.heap h' → SetG kd h' a (fun j => M j || decide (j = k)) (if M k = true then n else n + 1) → Q (!M k) { s with heap := h' }) :
    wpAny (model P w) A (setAddHashed a x (kd.hash k)) Q E s := by
  obtain ⟨o, es, ep, t, ho, r⟩ := R
  unfold setAddHashed setAddHashedIn
  refine wpAny_holding (wpAny_bind (wpAny_setState_of ho r.dt r.fit ?_))
  dsimp only
  rw [byScan_of hsc r.few r.el]
  simp only [↓reduceIte]
  unfold setAddByScan
  refine wpAny_bind (wpAny_bind (wpAny_rule (wpAny_bind (wpAny_setScan_of hx ho r.dt r.fit r.el ?_))))
  cases hfi : List.findIdx? (fun e => kd.is k e.2) es.toList with
  | some j =>
    dsimp only
    obtain ⟨hj, pj, _⟩ := List.findIdx?_eq_some_iff_getElem.mp hfi
    have there : M k = true := (r.mem k).2 ((kE_mem k).2 ⟨es.toList[j], List.getElem_mem hj, pj⟩)
    have q := hQ s.heap (Heap.SameBut.refl a s.heap) ⟨o, es, ep, t, ho, { r with
      mem := fun i => by
        rw [Bool.or_eq_true, decide_eq_true_eq, ← r.mem i]
        exact ⟨fun z => z.elim id (fun e => e ▸ there), .inl⟩
      num := by rw [if_pos there]; exact r.num }⟩
    rw [there] at q
    exact wpAny_pure (wpAny_pure q)
  | none =>
    dsimp only
    have nk : some k ∉ es.toList.map (kE kd) := fun z => by
      obtain ⟨e, he, q⟩ := (kE_mem k).1 z
      have c := List.findIdx?_eq_none_iff.mp hfi e he
      rw [q] at c
      cases c
    have gone : M k = false := Bool.eq_false_iff.mpr fun z => nk ((r.mem k).1 z)
    have ways : ∀ (b : Bool) {s₁ : Shared} {Q' : Unit → Shared → Prop}, Q' () s₁ → wpAny (model P w) A (match b with | true => rule "set.scan.the-table-gave-way" | false => pure ()) Q' E s₁ := by
      intro b s₁ Q' q
      cases b <;> first | exact wpAny_pure q | exact wpAny_rule q
    have f1 := layNew_perm t es (kd.hash k) x
    have f2 := layNew_fits t es (kd.hash k) x
    have f3 := layNew_ris t es (kd.hash k) x r.ris
    have f4 := layNew_led t es (kd.hash k) x
    generalize layNew t es (kd.hash k) x = Y at f1 f2 f3 f4 ⊢
    obtain ⟨es1, t1, wd, gv⟩ := Y
    dsimp only at f1 f2 f3 f4 ⊢
    rw [Array.toList_push] at f1
    have pc : es1.toList.Perm ((kd.hash k, x) :: es.toList) := f1.trans (List.perm_append_singleton _ _)
    have sz : es1.size = n + 1 := by rw [← Array.length_toList, pc.length_eq, List.length_cons, Array.length_toList, r.num]
    have few1 : es1.size < scanBound := by rw [sz]; exact room
    have led1 : w.params.followText "set-order" = true ∨ t1.led = true := r.led.imp id fun z => by rw [f4]; exact z
    have G : ∀ o' ep' t' es', es'.toList.Perm es1.toList → o'.ExactSet → o'.data = .set es' ep' t' → t'.fits es'.size = true → Ris t'.place.toList → (w.params.followText "set-order" = true ∨ t'.led = true) →
        SG kd o' (fun j => M j || decide (j = k)) es1.size es' ep' t' := fun o' ep' t' es' pm q1 q2 q3 q4 q5 => by
      have p2 := pm.trans pc
      have pk : (es'.toList.map (kE kd)).Perm (some k :: es.toList.map (kE kd)) := by
        have z := p2.map (kE kd)
        rw [List.map_cons] at z
        rwa [show kE kd (kd.hash k, x) = some k from kO_is hx] at z
      have sz' : es'.size = es1.size := by rw [← Array.length_toList, pm.length_eq, Array.length_toList]
      exact { ex := q1, dt := q2, fit := q3, ris := q4, led := q5, few := by rw [sz']; exact few1, num := sz'
              el := fun e he => (List.mem_cons.mp (p2.mem_iff.mp he)).elim (fun z => by rw [z]; exact ⟨⟨k, hx, rfl⟩, hsc⟩) (r.el e)
              nd := pk.nodup_iff.mpr (List.nodup_cons.mpr ⟨nk, r.nd⟩)
              mem := fun i => by
                rw [Bool.or_eq_true, decide_eq_true_eq, r.mem i, pk.mem_iff, List.mem_cons, Option.some.injEq]
                exact Or.comm }
    have fin : ∀ h', Heap.SameBut a s.heap h' → SetG kd h' a (fun j => M j || decide (j = k)) es1.size → Q true { s with heap := h' } := fun h' sb z => by
      have q := hQ h' sb (by rw [gone]; rw [sz] at z; exact z)
      rwa [gone] at q
    refine wpAny_bind (ways _ ?_)
    split
    · refine wpAny_bind ?_
      rw [hashByValue_scannable 8 hsc]
      refine wpAny_pure (tailG (kd := kd) ?_ ho r.ex r.dt G few1 ?_ ?_ ?_ ?_)
      · intro b s₁ Q' q
        cases b <;> first | exact wpAny_pure q | exact wpAny_rule q
      · first | (split <;> first | exact f2 | exact SetTable.fits_plain_off f2) | exact f2
      · first | (split <;> exact f3) | exact f3
      · first | (split <;> exact led1) | exact led1
      · intro h' sb z
        dsimp only
        exact wpAny_pure (fin h' sb z)
    · refine wpAny_bind (wpAny_pure ?_)
      simp only [↓reduceIte]
      refine tailG (kd := kd) ?_ ho r.ex r.dt G few1 f2 f3 led1 ?_
      · intro b s₁ Q' q
        cases b <;> first | exact wpAny_pure q | exact wpAny_rule q
      · intro h' sb z
        dsimp only
        exact wpAny_pure (fin h' sb z)
end
end PuS
namespace PuS
open PySem PySem.Spec PyProof.Rows L2
/-- the keys, each once, in the order they come -/
def dstep {κ : Type} [DecidableEq κ] (acc : List κ) (k : κ) : List κ := if k ∈ acc then acc else acc ++ [k]
def dist {κ : Type} [DecidableEq κ] (l : List κ) : List κ := l.foldl dstep []
theorem dist_snoc {κ : Type} [DecidableEq κ] (l : List κ) (k : κ) : dist (l ++ [k]) = dstep (dist l) k := by
  unfold dist
  rw [List.foldl_append]
  rfl
theorem dist_len {κ : Type} [DecidableEq κ] (l : List κ) : (dist l).length ≤ l.length := by
  suffices h : ∀ (l acc : List κ), (l.foldl dstep acc).length ≤ acc.length + l.length by
    have := h l []
    simpa [dist] using this
  intro l
  induction l with
  | nil => intro acc; simp
  | cons x r ih =>
    intro acc
    refine Nat.le_trans (ih _) ?_
    unfold dstep
    split
    · simp only [List.length_cons]; omega
    · simp only [List.length_append, List.length_cons, List.length_nil]; omega
theorem dist_next {κ : Type} [DecidableEq κ] {ks : List κ} {i : Nat} {k : κ} (h : ks[i]? = some k) : dist (ks.take (i + 1)) = dstep (dist (ks.take i)) k := by
  rw [take_next h, dist_snoc]
theorem mem_dstep {κ : Type} [DecidableEq κ] {acc : List κ} {k j : κ} : decide (j ∈ dstep acc k) = (decide (j ∈ acc) || decide (j = k)) := by
  unfold dstep
  split
  · rename_i hk
    by_cases e : j = k
    · subst e; simp [hk]
    · simp [e]
  · simp
theorem len_dstep {κ : Type} [DecidableEq κ] {acc : List κ} {k : κ} : (dstep acc k).length = if decide (k ∈ acc) = true then acc.length else acc.length + 1 := by
  unfold dstep
  by_cases hk : k ∈ acc <;> simp [hk]
section
variable {P : Program} {w : World} {κ : Type} [DecidableEq κ] {kd : PySem.KeyKind P w κ} {A : Around} {E : Value → Shared → Prop} {s : Shared}
/-- the set of the first keys -/
abbrev SetT (kd : PySem.KeyKind P w κ) (h : Heap) (a : Addr) (ks : List κ) : Prop := SetG kd h a (fun k => decide (k ∈ dist ks)) (dist ks).length
theorem freshG {h : Heap} {a : Addr} (ho : h.get? a = some { cls := .type "set", dict := none, data := .set #[] 0 (.fresh 0 0 (!w.params.followText "set-order")) }) : SetT kd h a [] :=
  ⟨_, #[], 0, _, ho, { ex := ⟨rfl, rfl, rfl⟩, dt := rfl, el := fun e he => by cases he
                       nd := List.nodup_nil, mem := fun k => by simp [dist], few := by decide, fit := by rfl, num := rfl, ris := List.Pairwise.nil
                       led := by
                        show _ ∨ (!w.params.followText "set-order") = true
                        cases w.params.followText "set-order"
                        · exact .inr rfl
                        · exact .inl rfl }⟩
theorem loopG {R : Result → Shared → Prop} {I S : Addr} {fp wr : List Addr} {G : Array GenState → Array GenState → Prop} {n : Nat} {Pv : Nat → Value → Prop} {St : Nat → Shared → Prop} {ks : List κ}
    (W : WalksS P w A.in1 I fp wr G n Pv St) (nS : S ∉ fp) (hn : n = ks.length) (room : n + 1 < scanBound) (val : ∀ i v, Pv i v → ∃ k, ks[i]? = some k ∧ kd.is k v = true ∧ v.scannable = true) :
    ∀ (m i : Nat) (s : Shared), n - i = m → i ≤ n → St i s → SetT kd s.heap S (ks.take i) →
      (∀ s', Moved (S :: wr) G s s' → SetT kd s'.heap S ks → R (.ok (.ret .none)) s') → codeAny (model P w) A (.builtin "set.update.loop" ⟨[.ref S, .ref I], []⟩) R s := by
  have nw : S ∉ wr := fun z => nS (W.sub _ z)
  have up : ∀ b ∈ wr, b ∈ S :: wr := fun b z => List.mem_cons_of_mem _ z
  intro m
  induction m with
  | zero =>
    intro i s e0 e1 st R0 hR
    obtain rfl : i = n := by omega
    refine codeAny_builtin F.entry_set_update_loop ?_
    rw [Around.under_plainId F.plain_set_update_loop _]
    refine wpAny_bind (W.done s _ _ st fun s' mv => wpAny_pure (hR s' (mv.mono up) ?_))
    have z : ks.take i = ks := by rw [hn]; exact List.take_length
    rw [z] at R0
    exact R0.at' fun o e => mv.heap S o nw e
  | succ m ih =>
    intro i s e0 e1 st R0 hR
    refine codeAny_builtin F.entry_set_update_loop ?_
    rw [Around.under_plainId F.plain_set_update_loop _]
    refine wpAny_bind (W.item i s _ _ (by omega) st fun v s' pv st' mv => ?_)
    obtain ⟨k, hk, kv, sc⟩ := val i v pv
    have R1 := R0.at' (h' := s'.heap) fun o e => mv.heap S o nw e
    show wpAny _ A.in1 (holding [v] (setAdd S v) >>= _) _ _ s'
    unfold setAdd
    refine wpAny_bind (wpAny_holding (wpAny_holding (wpAny_bind (kd.pyHash kv (addG (s := { s' with toks := s'.toks + 1 }) kv sc R1 ?_ fun h' sb R2 => ?_)))))
    · have := dist_len (ks.take i)
      have := List.length_take_le i ks
      omega
    · have R3 : SetT kd h' S (ks.take (i + 1)) := R2.congr (fun j => by rw [dist_next hk, mem_dstep]) (by rw [dist_next hk, len_dstep])
      refine wpAny_pure ⟨plainId_quiet F.plain_set_update_loop _, ih (i + 1) _ (by omega) (by omega) (W.frame _ s' _ _ st' (Nat.le_succ _) fun b hb o e => ?_) R3 fun s'' mv' R4 => ?_⟩
      · exact (sb.2 b fun z => nS (by rw [← z]; exact hb)).trans e
      · exact hR s'' (Moved.trans W.gtrans ((mv.mono up).then_heap (Nat.le_succ _) fun b o hb e => (sb.2 b fun z => hb (by rw [z]; exact List.mem_cons_self)).trans e) mv') R4
/-- the heap with a new set -/
abbrev nset (w : World) (s : Shared) : Heap := s.heap.push { cls := .type "set", dict := none, data := .set #[] 0 (.fresh 0 0 (!w.params.followText "set-order")) }
abbrev Keeps0 (s : Shared) (h' : Heap) : Prop := ∀ b o, b < s.heap.objs.size → s.heap.get? b = some o → h'.get? b = some o
/-- what update does to the new set -/
def Upd (kd : PySem.KeyKind P w κ) (A : Around) (s : Shared) (x : Value) (ks : List κ) : Prop := ∀ (A' : Around) (E' : Value → Shared → Prop) (Q' : Unit → Shared → Prop), A'.handled = A.handled →
  (∀ h' tk, SetT kd h' s.heap.objs.size ks → Keeps0 s h' → Q' () { s with heap := h', toks := tk }) → wpAny (model P w) A' (Builtin.Frozenset.updateFrom "set.__init__" s.heap.objs.size x) Q' E' { s with heap := nset w s }
set_option maxHeartbeats 3200000 in
theorem callG {x : Value} {ks : List κ} {Q : Value → Shared → Prop} (U : Upd kd A s x ks)
    (h : ∀ h' tk, SetT kd h' s.heap.objs.size ks → Keeps0 s h' → Q (.ref s.heap.objs.size) { s with heap := h', toks := tk }) : wpAny (model P w) A (call (.type "set") [x]) Q E s := by
  obtain ⟨c, tl, hmro⟩ := F.called_set.mro
  have c1 := F.called_set.made
  have c2 := F.called_set.sub
  have c3 := F.called_set.notType
  have c4 := F.called_set.canCreate
  have c5 := F.typeCall_set_1 x
  refine wpAny_call (codeAny_of_tree ?_)
  show wpAny _ _ (callAny (.type "set") _) _ _ _
  refine wpAny_pure ⟨Code.quiet_builtin _ (by decide +kernel), codeAny_builtin F.entry_type_call ?_⟩
  rw [Around.under_plain (weight_type_call_type "set" [x] []) rfl]
  repeat (any_goals (first | assumption | wp_step))
  refine codeAny_mono (code_set_led1 x (E := E) (Q₁ := fun obj s₁ => obj = .ref s.heap.objs.size ∧ s₁ = { s with heap := nset w s }) ⟨rfl, rfl⟩) fun r s₁ hr => ?_
  cases r with
  | error e => exact hr
  | ok fl =>
    cases fl with
    | ret obj =>
      obtain ⟨rfl, rfl⟩ := hr
      have gS : (nset w s).get? s.heap.objs.size = some { cls := .type "set", dict := none, data := .set #[] 0 (.fresh 0 0 (!w.params.followText "set-order")) } := Heap.get?_push_size _ rfl
      have hT : Shared.TypeIs { s with heap := nset w s } (.ref s.heap.objs.size) "set" := ⟨_, gS, rfl⟩
      have c6 := F.called_set.init.lookup
      have c7 := F.called_set.init.bind (.ref s.heap.objs.size)
      repeat (any_goals (first | assumption | wp_step))
      refine codeAny_mono (codeAny_call_builtin (R := wants (fun r s₂ => r = .none ∧ ∃ h' tk, s₂ = { s with heap := h', toks := tk } ∧ SetT kd h' s.heap.objs.size ks ∧ Keeps0 s h') E) F.called_set.init.plain F.entry_set_init (check_set_init_1 hT ?_)) fun r₂ s₂ hr₂ => ?_
      · unfold Builtin.«set.__init__» noKeywords
        have u := fun (A' : Around) => U A'
        generalize Builtin.Frozenset.updateFrom = UF at u ⊢
        wp_walk
        refine u A.in1.in1 _ _ rfl fun h' tk R k => ?_
        exact wpAny_pure ⟨rfl, h', tk, rfl, R, k⟩
      · cases r₂ with
        | error e => exact hr₂
        | ok fl₂ =>
          cases fl₂ with
          | ret r =>
            obtain ⟨rfl, h', tk, rfl, R, k⟩ := hr₂
            repeat (any_goals (first | assumption | wp_step))
            exact h _ _ R k
          | _ => exact hr₂.elim
    | _ => exact hr.elim
end
end PuS
namespace PuS
open PySem PySem.Spec PyProof.Rows L2
theorem sub_str_set : isSubtype (.type "str") (.type "set") = pure false := by rw [isSubtype_type]; kernel_rfl
theorem sub_str_frozenset : isSubtype (.type "str") (.type "frozenset") = pure false := by rw [isSubtype_type]; kernel_rfl
section
variable {P : Program} {w : World} {κ : Type} [DecidableEq κ] {kd : PySem.KeyKind P w κ} {A : Around} {E : Value → Shared → Prop} {s : Shared}
/-- values that are keys -/
def Keyed (kd : PySem.KeyKind P w κ) (vs : List Value) (ks : List κ) : Prop := vs.length = ks.length ∧ ∀ (i : Nat) (v : Value), vs[i]? = some v → ∃ k, ks[i]? = some k ∧ kd.is k v = true ∧ v.scannable = true
theorem Keyed.nil : Keyed kd [] [] := ⟨rfl, fun i v h => by simp at h⟩
theorem Keyed.cons {v : Value} {k : κ} {vs : List Value} {ks : List κ} (h : kd.is k v = true) (q : v.scannable = true) (r : Keyed kd vs ks) : Keyed kd (v :: vs) (k :: ks) :=
  ⟨congrArg (· + 1) r.1, fun i u e => by
    cases i with
    | zero => simp at e; subst e; exact ⟨k, rfl, h, q⟩
    | succ i => simpa using r.2 i u (by simpa using e)⟩
theorem nset_size : (nset w s).objs.size = s.heap.objs.size + 1 := by rw [Heap.size_push]
theorem nset_get {o : Obj} : ((nset w s).push o).get? s.heap.objs.size = some { cls := .type "set", dict := none, data := .set #[] 0 (.fresh 0 0 (!w.params.followText "set-order")) } :=
  Heap.get?_push_of_some _ (Heap.get?_push_size _ rfl)
/-- behind the loop -/
theorem endG {ks : List κ} {G : Array GenState → Array GenState → Prop} {o : Obj} {s' : Shared} {Q' : Unit → Shared → Prop} (hm : Moved [s.heap.objs.size, (nset w s).objs.size] (fun a b => b = a) { s with heap := (nset w s).push o } s')
    (R : SetT kd s'.heap s.heap.objs.size ks) (q : ∀ h' tk, SetT kd h' s.heap.objs.size ks → Keeps0 s h' → Q' () { s with heap := h', toks := tk }) : Q' () s' := by
  obtain ⟨h', g', d', tk', os'⟩ := s'
  have eg : g' = s.gens := hm.gens
  have ed : d' = s.drawn := hm.drawn
  have eo : os' = s.os := hm.os
  subst eg; subst ed; subst eo
  refine q h' tk' R fun b u hb e => hm.heap b u (fun z => ?_) (Heap.get?_push_of_some _ (Heap.get?_push_of_some _ e))
  rcases List.mem_cons.mp z with z | z
  · rw [z] at hb; exact Nat.lt_irrefl _ hb
  · rw [List.mem_singleton.mp z, nset_size] at hb
    omega
set_option maxHeartbeats 3200000 in
theorem upd_list {l : Addr} {items : Array Value} {ks : List κ} (hh : A.handled = none) (hl : s.heap.IsList l items) (kv : Keyed kd items.toList ks) (room : ks.length + 1 < scanBound) : Upd kd A s (.ref l) ks := fun A' E' Q' ha q => by
  have hA : A'.handled = none := ha.trans hh
  obtain ⟨ol, hol, hcl, nl, hdl⟩ := hl
  obtain ⟨ocls, odict, odata, oslots⟩ := ol
  simp only at hcl hdl
  subst hcl; subst hdl
  have d1 : (nset w s).get? l = some { cls := .type "list", dict := odict, data := .seq items nl, slots := oslots } := Heap.get?_push_of_some _ hol
  have d2 := F.sub_list_set
  have d3 := F.sub_list_frozenset
  have d4 : (Value.type "list" == Value.type "dict") = false := by decide
  have d5 : (nset w s).IsList l items := ⟨_, d1, rfl, nl, rfl⟩
  unfold Builtin.Frozenset.updateFrom
  generalize hPI : pyIter = PI
  wp_walk
  subst hPI
  have lt : l < s.heap.objs.size := Heap.lt_size hol
  have ne : l ≠ (nset w s).objs.size := by rw [nset_size]; exact Nat.ne_of_lt (Nat.lt_succ_of_lt lt)
  have sz : items.size = ks.length := by rw [← kv.1, Array.length_toList]
  refine wpAny_pyIter_list d5 (wpAny_bind (wpAny_runValue (loopG (kd := kd) (ks := ks) ((Walks.list (by simp [hA]) _ l ne items).toS) ?_ sz (by omega) (fun i v hv => kv.2 i v (by rw [Array.getElem?_toList]; exact hv)) (items.size - 0) 0 _ (by omega) (Nat.zero_le _)
    ⟨⟨_, Heap.get?_push_size _ rfl, rfl, rfl⟩, d5.push _⟩ (freshG nset_get) fun s' hm R => ?_)))
  · simp only [List.mem_cons, List.mem_singleton, List.not_mem_nil, or_false, not_or, nset_size]
    exact ⟨Nat.ne_of_lt (Nat.lt_succ_self _), Nat.ne_of_gt lt⟩
  · exact wpAny_pure (endG (G := fun a b => b = a) hm R q)
set_option maxHeartbeats 3200000 in
theorem upd_tuple {l : Addr} {items : Array Value} {ks : List κ} (hh : A.handled = none) (hl : s.heap.IsTuple l items) (kv : Keyed kd items.toList ks) (room : ks.length + 1 < scanBound) : Upd kd A s (.ref l) ks := fun A' E' Q' ha q => by
  have hA : A'.handled = none := ha.trans hh
  obtain ⟨ol, hol, hcl, nl, hdl⟩ := hl
  obtain ⟨ocls, odict, odata, oslots⟩ := ol
  simp only at hcl hdl
  subst hcl; subst hdl
  have d1 : (nset w s).get? l = some { cls := .type "tuple", dict := odict, data := .seq items nl, slots := oslots } := Heap.get?_push_of_some _ hol
  have d2 := F.sub_tuple_set
  have d3 := F.sub_tuple_frozenset
  have d4 : (Value.type "tuple" == Value.type "dict") = false := by decide
  have d5 : (nset w s).IsTuple l items := ⟨_, d1, rfl, nl, rfl⟩
  unfold Builtin.Frozenset.updateFrom
  generalize hPI : pyIter = PI
  wp_walk
  subst hPI
  have lt : l < s.heap.objs.size := Heap.lt_size hol
  have ne : l ≠ (nset w s).objs.size := by rw [nset_size]; exact Nat.ne_of_lt (Nat.lt_succ_of_lt lt)
  have sz : items.size = ks.length := by rw [← kv.1, Array.length_toList]
  refine wpAny_pyIter_tuple d5 (wpAny_bind (wpAny_runValue (loopG (kd := kd) (ks := ks) ((Walks.tuple (by simp [hA]) _ l ne items).toS) ?_ sz (by omega) (fun i v hv => kv.2 i v (by rw [Array.getElem?_toList]; exact hv)) (items.size - 0) 0 _ (by omega) (Nat.zero_le _)
    ⟨⟨_, Heap.get?_push_size _ rfl, rfl, rfl⟩, d5.push _⟩ (freshG nset_get) fun s' hm R => ?_)))
  · simp only [List.mem_cons, List.mem_singleton, List.not_mem_nil, or_false, not_or, nset_size]
    exact ⟨Nat.ne_of_lt (Nat.lt_succ_self _), Nat.ne_of_gt lt⟩
  · exact wpAny_pure (endG (G := fun a b => b = a) hm R q)
set_option maxHeartbeats 3200000 in
theorem upd_str {x : Str} {t : Tok} {ks : List κ} (hh : A.handled = none) (sz : x.cps.size = ks.length) (kv : ∀ (i : Nat) (c : Nat) (u : Tok), x.cps[i]? = some c → ∃ k, ks[i]? = some k ∧ kd.is k (.str ⟨#[c]⟩ u) = true) (room : ks.length + 1 < scanBound) : Upd kd A s (.str x t) ks := fun A' E' Q' ha q => by
  have hA : A'.handled = none := ha.trans hh
  have d2 := sub_str_set
  have d3 := sub_str_frozenset
  have d4 : (Value.type "str" == Value.type "dict") = false := by decide
  unfold Builtin.Frozenset.updateFrom
  generalize hPI : pyIter = PI
  wp_walk
  subst hPI
  refine wpAny_pyIter_str (s := { s with heap := nset w s }) fun o St hW hst => wpAny_bind (wpAny_runValue (loopG (kd := kd) (ks := ks) ((hW _ (by simp [hA])).toS) ?_ sz (by omega) (fun i v hv => ?_) (x.cps.size - 0) 0 _ (by omega) (Nat.zero_le _) hst (freshG nset_get) fun s' hm R => ?_))
  · simp only [List.mem_singleton, nset_size]
    exact Nat.ne_of_lt (Nat.lt_succ_self _)
  · obtain ⟨c, u, e1, rfl⟩ := hv
    obtain ⟨k, e2, e3⟩ := kv i c u e1
    exact ⟨k, e2, e3, rfl⟩
  · exact wpAny_pure (endG (G := fun a b => b = a) hm R q)
end
end PuS
namespace PuS
open PySem PySem.Spec PyProof.Rows L2
abbrev sLt (x y : Str) : Prop := x.cps.toList < y.cps.toList
theorem sLt_irrefl (x : Str) : ¬ sLt x x := List.lt_irrefl _
theorem sLt_trans {x y z : Str} (h : sLt x y) (k : sLt y z) : sLt x z := List.lt_trans h k
theorem sLt_tri (x y : Str) : sLt x y ∨ x = y ∨ sLt y x := by
  by_cases h : sLt x y
  · exact .inl h
  · by_cases k : sLt y x
    · exact .inr (.inr k)
    · exact .inr (.inl (PySem.W.str_of_cps (List.le_antisymm (List.not_lt.mp k) (List.not_lt.mp h))))
/-- put in, in ascending order, once -/
def insS (z : Str) : List Str → List Str
  | [] => [z]
  | x :: r => if z = x then x :: r else if sLt z x then z :: x :: r else x :: insS z r
def asc (l : List Str) : List Str := l.foldr insS []
theorem mem_insS {z x : Str} : ∀ {l : List Str}, x ∈ insS z l ↔ x = z ∨ x ∈ l
  | [] => by simp [insS]
  | y :: r => by
    unfold insS
    split
    · rename_i e; subst e; simp
    · split
      · simp
      · rw [List.mem_cons, mem_insS (l := r), List.mem_cons]
        exact ⟨fun h => h.elim (fun a => .inr (.inl a)) fun b => b.elim .inl fun c => .inr (.inr c), fun h => h.elim (fun a => .inr (.inl a)) fun b => b.elim .inl fun c => .inr (.inr c)⟩
theorem insS_asc {z : Str} : ∀ {l : List Str}, l.Pairwise sLt → (insS z l).Pairwise sLt
  | [], _ => List.pairwise_singleton _ _
  | y :: r, h => by
    obtain ⟨h1, h2⟩ := List.pairwise_cons.mp h
    unfold insS
    split
    · exact h
    · split
      · rename_i _ lt
        exact List.pairwise_cons.mpr ⟨fun x hx => (List.mem_cons.mp hx).elim (fun e => e ▸ lt) fun hr => sLt_trans lt (h1 x hr), h⟩
      · rename_i ne nl
        refine List.pairwise_cons.mpr ⟨fun x hx => ?_, insS_asc h2⟩
        rcases mem_insS.mp hx with e | hr
        · subst e
          rcases sLt_tri y x with a | a | a
          · exact a
          · exact absurd a.symm ne
          · exact absurd a nl
        · exact h1 x hr
theorem asc_asc : ∀ (l : List Str), (asc l).Pairwise sLt
  | [] => List.Pairwise.nil
  | y :: r => insS_asc (asc_asc r)
theorem mem_dist {κ : Type} [DecidableEq κ] {x : κ} {l : List κ} : x ∈ dist l ↔ x ∈ l := by
  suffices h : ∀ (l acc : List κ), x ∈ l.foldl dstep acc ↔ x ∈ acc ∨ x ∈ l by
    have := h l []
    simpa [dist] using this
  intro l
  induction l with
  | nil => intro acc; simp
  | cons y r ih =>
    intro acc
    rw [List.foldl_cons, ih, List.mem_cons]
    have : x ∈ dstep acc y ↔ x ∈ acc ∨ x = y := by
      unfold dstep
      split
      · rename_i hy
        exact ⟨.inl, fun z => z.elim id fun e => e ▸ hy⟩
      · simp
    rw [this]
    exact ⟨fun h => h.elim (fun a => a.elim .inl fun b => .inr (.inl b)) fun c => .inr (.inr c), fun h => h.elim (fun a => .inl (.inl a)) fun b => b.elim (fun c => .inl (.inr c)) .inr⟩
end PuS
namespace PuS
open PySem PySem.Spec PyProof.Rows L2 Pu
def ofStr (z : Str) : List Key := z.cps.toList.map fun c => Sum.inr ⟨#[c]⟩
def KeysOfV (K : PySem.W.Frag) (H : Hp) (x : V) (ks : List Key) : Prop := (∃ z, x = .str z ∧ ks = ofStr z) ∨ ∃ l, x = .ref l ∧ (SqL K H l (ks.map kV) ∨ SqT K H l (ks.map kV))
theorem keyed_vals {P : Program} {w : World} : ∀ {ks : List Key} {us : List Value}, Vals (ks.map kV) us → Keyed (mixKind P w) us ks
  | [], _, .nil => .nil
  | k :: ks, _, .cons r t => .cons (kV_is r) (key_scan r) (keyed_vals t)
section
variable {X : Cx} {pins : List (Addr × Obj)} {σ : L2.St} {H : Hp} {s : Shared} {x : V} {v : Value} {ks : List Key}
theorem upd_of (I : Inv X pins σ H s) (hc : X.calm = true) (r : RelV x v) (hk : KeysOfV X.K H x ks) (room : ks.length + 1 < scanBound) : Upd (mixKind X.prog X.w) X.A s v ks := by
  rcases hk with ⟨z, rfl, rfl⟩ | ⟨l, rfl, h | h⟩
  · obtain ⟨t, rfl⟩ := r
    refine upd_str (I.ok.hd hc) (by simp [ofStr]) (fun i c u e => ⟨Sum.inr ⟨#[c]⟩, ?_, mixKind_str _ _ _ _⟩) room
    simp only [ofStr, List.getElem?_map, Array.getElem?_toList, e, Option.map_some]
  · cases r
    obtain ⟨its, rv, pl, hz⟩ := I.list h
    exact upd_list (I.ok.hd hc) pl.isList (by simpa using keyed_vals rv) room
  · cases r
    obtain ⟨its, rv, pl, hz⟩ := I.tuple h
    exact upd_tuple (I.ok.hd hc) pl (by simpa using keyed_vals rv) room
end
theorem nodup_le {κ : Type} [DecidableEq κ] : ∀ {l m : List κ}, l.Nodup → (∀ x ∈ l, x ∈ m) → l.length ≤ m.length
  | [], _, _, _ => Nat.zero_le _
  | x :: l, m, h, s => by
    obtain ⟨h1, h2⟩ := List.nodup_cons.mp h
    have hx := s x (List.mem_cons_self ..)
    have := nodup_le (m := m.erase x) h2 fun y hy => (List.mem_erase_of_ne (fun (e : y = x) => h1 (e ▸ hy))).mpr (s y (List.mem_cons_of_mem _ hy))
    rw [List.length_erase_of_mem hx] at this
    have := List.length_pos_of_mem hx
    simp only [List.length_cons]
    omega
theorem dist_nodup {κ : Type} [DecidableEq κ] (l : List κ) : (dist l).Nodup := by
  suffices h : ∀ (l acc : List κ), acc.Nodup → (l.foldl dstep acc).Nodup from h l [] List.nodup_nil
  intro l
  induction l with
  | nil => exact fun acc h => h
  | cons y r ih =>
    intro acc h
    refine ih _ ?_
    unfold dstep
    split
    · exact h
    · rename_i ny
      exact List.nodup_append.mpr ⟨h, by simp, fun a ha b hb e => ny (by rw [List.mem_singleton.mp hb] at e; exact e ▸ ha)⟩
theorem dist_count {κ : Type} [DecidableEq κ] {l m : List κ} (n : m.Nodup) (h : ∀ x, x ∈ m ↔ x ∈ l) : m.length = (dist l).length :=
  Nat.le_antisymm (nodup_le n fun x hx => mem_dist.mpr ((h x).1 hx)) (nodup_le (dist_nodup l) fun x hx => (h x).2 (mem_dist.mp hx))
end PuS
namespace Pu
open PySem PySem.Spec PyProof.Rows L2 PuS
def kD : Key → PyData
  | .inl i => .int i
  | .inr z => .str z
/-- the keys in a datum -/
def KeysD (x : PyData) (ks : List Key) : Prop := (∃ z, x = .str z ∧ ks = ofStr z) ∨ x = .list (ks.map kD) ∨ x = .tuple (ks.map kD)
def tI (n : List Int) : PyData := .tuple (n.map .int)
def pLenSet : P1 := fun x P => (∃ ks, KeysD x ks ∧ ks.length + 1 < scanBound ∧ P (.int (dist ks).length)) ∨ ∃ ns : List (List Int), x = .list (ns.map tI) ∧ ns.length < 64 ∧ P (.int (dist ns).length)
def pSortSet (x : PyData) (P : List PyData → Prop) : Prop := ∃ zs : List Str, KeysD x (zs.map Sum.inr) ∧ zs.length + 1 < scanBound ∧ P ((asc zs).map .str)
section
variable {K : PySem.W.Frag} {pn : Pn} {b : Nat} {F H : Hp} {v : V}
theorem rvs_keys : ∀ {ks : List Key} {vs : List V}, RVs K F vs (ks.map kD) → vs = ks.map kV
  | [], _, .nil => rfl
  | .inl i :: ks, _, .cons r t => by
    cases r
    rw [rvs_keys t]
    rfl
  | .inr z :: ks, _, .cons r t => by
    cases r
    rw [rvs_keys t]
    rfl
theorem BV.keys {x : PyData} {ks : List Key} (o : Ok pn b F H) (h : BV K pn F H v x) (e : KeysD x ks) : KeysOfV K H v ks := by
  rcases e with ⟨z, rfl, rfl⟩ | rfl | rfl
  · exact .inl ⟨z, h.str, rfl⟩
  · obtain ⟨a, vs, rfl, ha, r⟩ := h.list o
    exact .inr ⟨a, rfl, .inl (SqL.of (by rw [← rvs_keys r]; exact ha))⟩
  · obtain ⟨a, vs, rfl, ha, r⟩ := h.tup o
    exact .inr ⟨a, rfl, .inr (by rw [← rvs_keys r]; exact ha)⟩
end
theorem hu64 {k : Nat} {A : Around} (r : Room k A) : A.units + 64 < cLine := by
  have := r.un
  omega
end Pu
namespace Pu
open PySem PySem.Spec PyProof.Rows L2
/-- sysModules is there, and is no list -/
def sysB (g : Addr → Option Obj) : Bool := match g sysModules with
  | some ⟨.type c, _, _, _⟩ => !decide (c = "list")
  | _ => false
abbrev Tbl : Type := List (Str × List He.Dv)
def plB (K : PySem.W.Frag) (x : Str) : Bool := match K.lookup (He.ga K x) with
  | some o => o.dict.isNone
  | none => false
def obsC (fa : List He.Fa) (fn : List He.DefD) (tb : Tbl) (K : PySem.W.Frag) : Bool × He.AlD := (tb.all fun p => He.tupB K p.1 p.2 && plB K p.1, He.obsD fa fn K)
def SaysC (fa : List He.Fa) (fn : List He.DefD) (tb : Tbl) (K : PySem.W.Frag) : Prop := obsC fa fn tb K = (true, He.valD fn)
section
variable {fa : List He.Fa} {fn : List He.DefD} {tb : Tbl} {K : PySem.W.Frag}
theorem SaysC.d (c : SaysC fa fn tb K) : He.SaysD fa fn K := congrArg (fun z : Bool × He.AlD => z.2) c
theorem SaysC.fact (c : SaysC fa fn tb K) (i : Nat) {f : He.Fa} (h : fa[i]? = some f := by rfl) : f.ok K = true := c.d.fact i h
theorem SaysC.def_ (c : SaysC fa fn tb K) (i : Nat) {d : He.DefD} (h : fn[i]? = some d := by rfl) : ∃ fd, FunD K d.name d.qual d.params d.body d.scope (d.dvs K) (d.kws K) (He.fAd K d.at_) fd := c.d.def_ i h
theorem SaysC.tup (c : SaysC fa fn tb K) (i : Nat) {x : Str} {vs : List He.Dv} (h : tb[i]? = some (x, vs) := by rfl) (H : Hp) : PlT K H (He.ga K x) (vs.map (He.Dv.v K)) := by
  have b := Bool.and_eq_true_iff.mp (List.all_eq_true.mp (congrArg (fun z : Bool × He.AlD => z.1) c) (x, vs) (List.mem_of_getElem? h))
  have p : plB K x = true := b.2
  rcases He.tupB_ok b.1 (fun _ => none) with (e | ⟨_, e⟩) | ⟨o, its, n, h1, h2, h3, h4, h5⟩
  · cases e
  · cases e
  · refine .inr ⟨o, its, n, h1, h2, h3, h4, h5, ?_⟩
    unfold plB at p
    rw [h1] at p
    exact Option.isNone_iff_eq_none.mp p
end
end Pu
namespace Pu
open PySem PySem.Spec PyProof.Rows L2
/-- the object at sysModules is there, untracked -/
structure NoSys (X : Cx) : Prop where
  gd : X.A.guards = some []
  there : ∃ o, X.s_0.heap.get? sysModules = some o
  un : X.H_0 sysModules = none
  ex : X.ex = []
section
variable {X : Cx} {pins : List (Addr × Obj)} {σ : L2.St} {F H : Hp} {s : Shared}
mutual
theorem reads_of (I : Inv X pins σ H s) (sub : Same F H) : ∀ {v : V} {d : PyData} {u : Value}, RV X.K F v d → RelV v u → ∃ as, Reads s.heap u d as ∧ (H sysModules = none → sysModules ∉ as)
  | _, _, _, .non, r => by
    cases r
    exact ⟨_, .none, by simp⟩
  | _, _, _, .bl b, r => by
    cases r
    exact ⟨_, .bool _, by simp⟩
  | _, _, _, .int i, r => by
    obtain ⟨t, rfl⟩ := r
    exact ⟨_, .int _ _, by simp⟩
  | _, _, _, .str x, r => by
    obtain ⟨t, rfl⟩ := r
    exact ⟨_, .str _ _, by simp⟩
  | _, _, _, .lst (a := a) h q, r => by
    cases r
    obtain ⟨its, rv, pl, _⟩ := I.list (SqL.of (K := X.K) (sub _ _ h))
    obtain ⟨o, ho, hc, n, hd⟩ := pl.isList
    obtain ⟨as, ra, hn⟩ := readsAll_of I sub q rv
    refine ⟨_, .list ho hc hd (by simpa using ra), fun ns z => ?_⟩
    rcases List.mem_cons.mp z with z | z
    · have := sub _ _ h
      rw [← z, ns] at this
      cases this
    · exact hn ns z
  | _, _, _, .tup h q, r => by
    cases r
    obtain ⟨its, rv, ⟨o, ho, hc, n, hd⟩, _⟩ := I.tuple (Same.tup sub h.sq)
    obtain ⟨as, ra, hn⟩ := readsAll_of I sub q rv
    exact ⟨_, .tuple ho hc hd (by simpa using ra), hn⟩
  | _, _, _, .dct (a := a) h, r => by
    cases r
    obtain ⟨_, _, vs, kv, m⟩ := (show ObjOk X.prog X.w H s.heap a (.dK []) from I.hok a _ (sub _ _ h))
    have e0 : vs = [] := by cases kv; rfl
    subst e0
    obtain ⟨o, es, ep, ho, hx, hd, _, hp, _⟩ := m
    have sz : es.size = 0 := by
      have := hp.length
      simpa using this
    have e1 : es = #[] := Array.eq_empty_of_size_eq_zero sz
    subst e1
    refine ⟨_, .dict ho hx.1 hd .nil .nil, fun ns z => ?_⟩
    have z := List.mem_singleton.mp z
    have := sub _ _ h
    rw [← z, ns] at this
    cases this
theorem readsAll_of (I : Inv X pins σ H s) (sub : Same F H) : ∀ {vs : List V} {ds : List PyData} {us : List Value}, RVs X.K F vs ds → Vals vs us → ∃ as, ReadsAll s.heap us ds as ∧ (H sysModules = none → sysModules ∉ as)
  | _, _, _, .nil, .nil => ⟨_, .nil, by simp⟩
  | _, _, _, .cons r t, .cons u w => by
    obtain ⟨as, h1, n1⟩ := reads_of I sub r u
    obtain ⟨bs, h2, n2⟩ := readsAll_of I sub t w
    exact ⟨_, .cons h1 h2, fun ns z => (List.mem_append.mp z).elim (n1 ns) (n2 ns)⟩
end
end
end Pu
namespace Pu
open PySem PySem.Spec PyProof.Rows L2
def TopOk (P : Program) (w : World) (K : PySem.W.Frag) (mg : Str → Option Value) (base : Heap) (k : Nat) (f : Addr) (fd : FuncData) (ps : List Str) (sp : Sp) : Prop :=
  ∀ (A : Around) (outer : List Env) (s : Shared) (H : Hp) (args : Args) (us : List Value) (vs : List V) (Q : VK) (E : XK), Room k A → A.guards = some [] → (∃ o, s.heap.get? sysModules = some o) → H sysModules = none →
    Env0 P w K mg base A outer s H → BindsTo s fd args (ps.zip us) → Vals vs us → sp vs H Q E → codeAny (model P w) A (.call (.ref f) args) (CR CX0 outer P w H s Q E) s
section
variable {P : Program} {w : World} {K : PySem.W.Frag} {mg : Str → Option Value} {base : Heap}
theorem top_ok {x qual : Str} {st : Stmt} {f : Addr} {fd : FuncData} {N ps : List Str} {k : Nat} {sp : Sp} (F : Fun K x qual st f fd) (S : FnScope N ps (defScope st)) (len : ∀ vs H Q E, sp vs H Q E → vs.length = ps.length)
    (body : ∀ (cdv : Value) (A : Around) (outer : List Env) (s : Shared) (H : Hp) (vs : List V) (Q : VK) (E : XK), Room k (A.deeper (envOfC qual (defScope st) s.heap.objs.size f cdv)) → NoSys (cxOf CX0 P w K mg base N qual (defScope st) f cdv A outer s H E).nox → sp vs H Q E →
      ∃ t, PSs (cxOf CX0 P w K mg base N qual (defScope st) f cdv A outer s H E).nox (defBody st) t ∧ t { nx := fun _ H' => Q .non H', rt := Q } (start N vs) H) :
    TopOk P w K mg base (k + 1) f fd ps sp := by
  intro A outer s H args us vs Q E hr gd th un e0 hb r hs
  obtain ⟨oc, od, kV, doc, pm, an, cdv, ct, osl, rfl, lk, hcd⟩ := F.ex
  have KX : K.In s.heap := e0.mod.kin.keeps fun b o e => (e0.bs b o e).1
  have nl : s.heap.NoLimit := e0.mod.nolimit.keeps fun b o e => (e0.bs b o e).1
  have kinds : ∀ y ∈ ps.zip us, (defScope st).names.lookup y.1 = some .local ∨ ((defScope st).names.lookup y.1 = some .cell ∧ ((cellsFrom (s.heap.objs.size + 1) (defScope st).names []).lookup y.1).isSome = true) := fun y hy =>
    (S.par y.1 (List.of_mem_zip (a := y.1) (b := y.2) hy).1).imp id fun q => ⟨q, PySem.W.cellsFrom_some _ _ _ (.inl q)⟩
  refine codeAny_call_function hr.depth (KX _ _ lk) rfl S.co S.gen rfl (PySem.W.codeRec_of KX hcd) (hb _ _ _ _ (wpAny_newFunctionEnv_cells S.kind kinds fun env he s1 x => ?_))
  subst he
  obtain ⟨t, ht, hq⟩ := body cdv A outer s H vs Q E (hr.deeper _) ⟨gd, th, un, rfl⟩ hs
  have I := inv_start (CX := CX0) (E := E) S hr.hd e0 (len _ _ _ _ hs) r x
  have fin : ∀ {σ' : L2.St} {H' : Hp} {v : V} {u : Value} {s' : Shared}, Inv (cxOf CX0 P w K mg base N qual (defScope st) f cdv A outer s H E) [] σ' H' s' → RelV v u → Q v H' → CE outer P w H s Q u s' := fun J rv q => ⟨_, _, J.os, J.bare, J.base, J.hok, rv, q⟩
  refine ⟨nl.keeps x.toInCall.keep, codeAny_func (wpAny_mono (ht.nox.run [] s1 (start N vs) H _ I hq) (fun fl s' z => ?_) fun e s' z => z)⟩
  cases fl with
  | ret u => obtain ⟨v, σ', H', J, rv, q⟩ := z; exact fin J rv q
  | next => obtain ⟨σ', H', J, q⟩ := z; exact fin (v := V.non) (u := Value.none) J rfl q
  | brk => obtain ⟨_, _, _, q⟩ := z; exact False.elim q
  | cont => obtain ⟨_, _, _, q⟩ := z; exact False.elim q
end
end Pu
namespace PySem
namespace SeqAt
open PySem
open MeetsSeq MeetsSeq2 MeetsSeq3 SeqRoads2
/-- a dict's object -/
def DictOb (h : Heap) (l : Addr) : Prop := ∃ es n dd sl, h.get? l = some { cls := .type "dict", dict := dd, data := .dict es n, slots := sl }
theorem dsub_none : isSubtype (.type "NoneType") (.type "dict") = pure false := by rw [isSubtype_type]; kernel_rfl
theorem dsup_none : isSubtype (.type "dict") (.type "NoneType") = pure false := by rw [isSubtype_type]; kernel_rfl
theorem dict_no_none (l : Addr) (es : Array DictEntry) (n : Nat) (dd : Option Addr) (sl : Array (Option Value))  : Meets (Builtin.«dict.__eq__» ⟨[.ref l, .none], []⟩) (fun _ R s => s.heap.get? l = some { cls := .type "dict", dict := dd, data := .dict es n, slots := sl } ∧ R (.ok (.ret .notImplemented)) s) :=
  .of_wp fun prog w A R s h => by
    obtain ⟨hp, g, d, tk, os⟩ := s
    obtain ⟨hl, h⟩ := h
    have f1 := dsub_none
    wp_walk using AutoSeq1.wpAny_loadPart' hl, wpAny_load hl
    exact ⟨_, rfl, h⟩
theorem none_no_dict (l : Addr) (es : Array DictEntry) (n : Nat) (dd : Option Addr) (sl : Array (Option Value))  : Meets (Builtin.«NoneType.__eq__» ⟨[.none, .ref l], []⟩) (fun _ R s => s.heap.get? l = some { cls := .type "dict", dict := dd, data := .dict es n, slots := sl } ∧ R (.ok (.ret .notImplemented)) s) :=
  .of_wp fun prog w A R s h => by
    obtain ⟨hp, g, d, tk, os⟩ := s
    obtain ⟨hl, h⟩ := h
    wp_walk using AutoSeq1.wpAny_loadPart' hl, wpAny_load hl
    exact ⟨_, rfl, h⟩
theorem dsub_bool : isSubtype (.type "bool") (.type "dict") = pure false := by rw [isSubtype_type]; kernel_rfl
theorem dsup_bool : isSubtype (.type "dict") (.type "bool") = pure false := by rw [isSubtype_type]; kernel_rfl
theorem dict_no_bool (l : Addr) (es : Array DictEntry) (n : Nat) (dd : Option Addr) (sl : Array (Option Value)) (b : Bool) : Meets (Builtin.«dict.__eq__» ⟨[.ref l, (.bool b)], []⟩) (fun _ R s => s.heap.get? l = some { cls := .type "dict", dict := dd, data := .dict es n, slots := sl } ∧ R (.ok (.ret .notImplemented)) s) :=
  .of_wp fun prog w A R s h => by
    obtain ⟨hp, g, d, tk, os⟩ := s
    obtain ⟨hl, h⟩ := h
    have f1 := dsub_bool
    wp_walk using AutoSeq1.wpAny_loadPart' hl, wpAny_load hl
    exact ⟨_, rfl, h⟩
theorem bool_no_dict (l : Addr) (es : Array DictEntry) (n : Nat) (dd : Option Addr) (sl : Array (Option Value)) (b : Bool) : Meets (Builtin.«int.__eq__» ⟨[(.bool b), .ref l], []⟩) (fun _ R s => s.heap.get? l = some { cls := .type "dict", dict := dd, data := .dict es n, slots := sl } ∧ R (.ok (.ret .notImplemented)) s) :=
  .of_wp fun prog w A R s h => by
    obtain ⟨hp, g, d, tk, os⟩ := s
    obtain ⟨hl, h⟩ := h
    wp_walk using AutoSeq1.wpAny_loadPart' hl, wpAny_load hl
    exact ⟨_, rfl, h⟩
theorem dsub_int : isSubtype (.type "int") (.type "dict") = pure false := by rw [isSubtype_type]; kernel_rfl
theorem dsup_int : isSubtype (.type "dict") (.type "int") = pure false := by rw [isSubtype_type]; kernel_rfl
theorem dict_no_int (l : Addr) (es : Array DictEntry) (n : Nat) (dd : Option Addr) (sl : Array (Option Value)) (b : Int) (u : Tok) : Meets (Builtin.«dict.__eq__» ⟨[.ref l, (.int b u)], []⟩) (fun _ R s => s.heap.get? l = some { cls := .type "dict", dict := dd, data := .dict es n, slots := sl } ∧ R (.ok (.ret .notImplemented)) s) :=
  .of_wp fun prog w A R s h => by
    obtain ⟨hp, g, d, tk, os⟩ := s
    obtain ⟨hl, h⟩ := h
    have f1 := dsub_int
    wp_walk using AutoSeq1.wpAny_loadPart' hl, wpAny_load hl
    exact ⟨_, rfl, h⟩
theorem int_no_dict (l : Addr) (es : Array DictEntry) (n : Nat) (dd : Option Addr) (sl : Array (Option Value)) (b : Int) (u : Tok) : Meets (Builtin.«int.__eq__» ⟨[(.int b u), .ref l], []⟩) (fun _ R s => s.heap.get? l = some { cls := .type "dict", dict := dd, data := .dict es n, slots := sl } ∧ R (.ok (.ret .notImplemented)) s) :=
  .of_wp fun prog w A R s h => by
    obtain ⟨hp, g, d, tk, os⟩ := s
    obtain ⟨hl, h⟩ := h
    wp_walk using AutoSeq1.wpAny_loadPart' hl, wpAny_load hl
    exact ⟨_, rfl, h⟩
theorem dsub_str : isSubtype (.type "str") (.type "dict") = pure false := by rw [isSubtype_type]; kernel_rfl
theorem dsup_str : isSubtype (.type "dict") (.type "str") = pure false := by rw [isSubtype_type]; kernel_rfl
theorem dict_no_str (l : Addr) (es : Array DictEntry) (n : Nat) (dd : Option Addr) (sl : Array (Option Value)) (b : Str) (u : Tok) : Meets (Builtin.«dict.__eq__» ⟨[.ref l, (.str b u)], []⟩) (fun _ R s => s.heap.get? l = some { cls := .type "dict", dict := dd, data := .dict es n, slots := sl } ∧ R (.ok (.ret .notImplemented)) s) :=
  .of_wp fun prog w A R s h => by
    obtain ⟨hp, g, d, tk, os⟩ := s
    obtain ⟨hl, h⟩ := h
    have f1 := dsub_str
    wp_walk using AutoSeq1.wpAny_loadPart' hl, wpAny_load hl
    exact ⟨_, rfl, h⟩
theorem str_no_dict (l : Addr) (es : Array DictEntry) (n : Nat) (dd : Option Addr) (sl : Array (Option Value)) (b : Str) (u : Tok) : Meets (Builtin.«str.__eq__» ⟨[(.str b u), .ref l], []⟩) (fun _ R s => s.heap.get? l = some { cls := .type "dict", dict := dd, data := .dict es n, slots := sl } ∧ R (.ok (.ret .notImplemented)) s) :=
  .of_wp fun prog w A R s h => by
    obtain ⟨hp, g, d, tk, os⟩ := s
    obtain ⟨hl, h⟩ := h
    wp_walk using AutoSeq1.wpAny_loadPart' hl, wpAny_load hl
    exact ⟨_, rfl, h⟩
section
variable {A : Around} {s : Shared}
theorem RcAt.dict_none {l : Addr}  (hl : DictOb s.heap l) (hu : A.units < cLine) : RcAt A s (.ref l) .none false := fun prog w E Q h => by
  obtain ⟨es, n, dd, sl, ho⟩ := hl
  exact rc_eq_decline_or (k := false) ⟨_, ho, rfl⟩ rfl (by decide) dsub_none F.slot_dict_eq F.slot_NoneType_eq_refl
    (fun _ hq => call_meets F.slot_dict_eq ⟨_, ho, rfl⟩ F.entry_dict_eq (F.args_dict_eq_2 _ _) (dict_no_none l es n dd sl ) ⟨ho, hq⟩)
    (fun _ hq => call_meets F.slot_NoneType_eq_refl rfl F.entry_NoneType_eq (F.args_NoneType_eq_2 _ _) (none_no_dict l es n dd sl ) ⟨ho, hq⟩)
    (fun _ hq => wpAny_of_eq (rfl : isSame (.ref l) .none = pure false) hq) (.inr hu) h
theorem RcAt.none_dict {l : Addr}  (hl : DictOb s.heap l) (hu : A.units < cLine) : RcAt A s .none (.ref l) false := fun prog w E Q h => by
  obtain ⟨es, n, dd, sl, ho⟩ := hl
  exact rc_eq_decline_or (k := false) rfl ⟨_, ho, rfl⟩ (by decide) dsup_none F.slot_NoneType_eq F.slot_dict_eq_refl
    (fun _ hq => call_meets F.slot_NoneType_eq rfl F.entry_NoneType_eq (F.args_NoneType_eq_2 _ _) (none_no_dict l es n dd sl ) ⟨ho, hq⟩)
    (fun _ hq => call_meets F.slot_dict_eq_refl ⟨_, ho, rfl⟩ F.entry_dict_eq (F.args_dict_eq_2 _ _) (dict_no_none l es n dd sl ) ⟨ho, hq⟩)
    (fun _ hq => wpAny_of_eq (rfl : isSame .none (.ref l) = pure false) hq) (.inr hu) h
theorem EqAt.dict_none {l : Addr}  (hl : DictOb s.heap l) (hu : A.units < cLine) : EqAt A s (.ref l) .none false := fun prog w E Q h => by
  unfold eqBool
  refine wpAny_holding (wpAny_ite_split (fun hab => absurd (eq_of_beq hab) nofun) (fun _ => wpAny_bind (RcAt.dict_none  hl hu prog w E _ (wpAny_truthy_bool h))))
theorem EqAt.none_dict {l : Addr}  (hl : DictOb s.heap l) (hu : A.units < cLine) : EqAt A s .none (.ref l) false := fun prog w E Q h => by
  unfold eqBool
  refine wpAny_holding (wpAny_ite_split (fun hab => absurd (eq_of_beq hab) nofun) (fun _ => wpAny_bind (RcAt.none_dict  hl hu prog w E _ (wpAny_truthy_bool h))))
theorem RcAt.dict_bool {l : Addr} (b : Bool) (hl : DictOb s.heap l) (hu : A.units < cLine) : RcAt A s (.ref l) (.bool b) false := fun prog w E Q h => by
  obtain ⟨es, n, dd, sl, ho⟩ := hl
  exact rc_eq_decline_or (k := false) ⟨_, ho, rfl⟩ rfl (by decide) dsub_bool F.slot_dict_eq F.slot_bool_eq_refl
    (fun _ hq => call_meets F.slot_dict_eq ⟨_, ho, rfl⟩ F.entry_dict_eq (F.args_dict_eq_2 _ _) (dict_no_bool l es n dd sl b) ⟨ho, hq⟩)
    (fun _ hq => call_meets F.slot_bool_eq_refl rfl F.entry_int_eq (F.args_int_eq_2 _ _) (bool_no_dict l es n dd sl b) ⟨ho, hq⟩)
    (fun _ hq => wpAny_of_eq (rfl : isSame (.ref l) (.bool b) = pure false) hq) (.inr hu) h
theorem RcAt.bool_dict {l : Addr} (b : Bool) (hl : DictOb s.heap l) (hu : A.units < cLine) : RcAt A s (.bool b) (.ref l) false := fun prog w E Q h => by
  obtain ⟨es, n, dd, sl, ho⟩ := hl
  exact rc_eq_decline_or (k := false) rfl ⟨_, ho, rfl⟩ (by decide) dsup_bool F.slot_bool_eq F.slot_dict_eq_refl
    (fun _ hq => call_meets F.slot_bool_eq rfl F.entry_int_eq (F.args_int_eq_2 _ _) (bool_no_dict l es n dd sl b) ⟨ho, hq⟩)
    (fun _ hq => call_meets F.slot_dict_eq_refl ⟨_, ho, rfl⟩ F.entry_dict_eq (F.args_dict_eq_2 _ _) (dict_no_bool l es n dd sl b) ⟨ho, hq⟩)
    (fun _ hq => wpAny_of_eq (rfl : isSame (.bool b) (.ref l) = pure false) hq) (.inr hu) h
theorem EqAt.dict_bool {l : Addr} (b : Bool) (hl : DictOb s.heap l) (hu : A.units < cLine) : EqAt A s (.ref l) (.bool b) false := fun prog w E Q h => by
  unfold eqBool
  refine wpAny_holding (wpAny_ite_split (fun hab => absurd (eq_of_beq hab) nofun) (fun _ => wpAny_bind (RcAt.dict_bool b hl hu prog w E _ (wpAny_truthy_bool h))))
theorem EqAt.bool_dict {l : Addr} (b : Bool) (hl : DictOb s.heap l) (hu : A.units < cLine) : EqAt A s (.bool b) (.ref l) false := fun prog w E Q h => by
  unfold eqBool
  refine wpAny_holding (wpAny_ite_split (fun hab => absurd (eq_of_beq hab) nofun) (fun _ => wpAny_bind (RcAt.bool_dict b hl hu prog w E _ (wpAny_truthy_bool h))))
theorem RcAt.dict_int {l : Addr} (b : Int) (u : Tok) (hl : DictOb s.heap l) (hu : A.units < cLine) : RcAt A s (.ref l) (.int b u) false := fun prog w E Q h => by
  obtain ⟨es, n, dd, sl, ho⟩ := hl
  exact rc_eq_decline_or (k := false) ⟨_, ho, rfl⟩ (typeIs_int s b u) (by decide) dsub_int F.slot_dict_eq F.slot_int_eq_refl
    (fun _ hq => call_meets F.slot_dict_eq ⟨_, ho, rfl⟩ F.entry_dict_eq (F.args_dict_eq_2 _ _) (dict_no_int l es n dd sl b u) ⟨ho, hq⟩)
    (fun _ hq => call_meets F.slot_int_eq_refl (typeIs_int s b u) F.entry_int_eq (F.args_int_eq_2 _ _) (int_no_dict l es n dd sl b u) ⟨ho, hq⟩)
    (fun _ hq => wpAny_of_eq (rfl : isSame (.ref l) (.int b u) = pure false) hq) (.inr hu) h
theorem RcAt.int_dict {l : Addr} (b : Int) (u : Tok) (hl : DictOb s.heap l) (hu : A.units < cLine) : RcAt A s (.int b u) (.ref l) false := fun prog w E Q h => by
  obtain ⟨es, n, dd, sl, ho⟩ := hl
  exact rc_eq_decline_or (k := false) (typeIs_int s b u) ⟨_, ho, rfl⟩ (by decide) dsup_int F.slot_int_eq F.slot_dict_eq_refl
    (fun _ hq => call_meets F.slot_int_eq (typeIs_int s b u) F.entry_int_eq (F.args_int_eq_2 _ _) (int_no_dict l es n dd sl b u) ⟨ho, hq⟩)
    (fun _ hq => call_meets F.slot_dict_eq_refl ⟨_, ho, rfl⟩ F.entry_dict_eq (F.args_dict_eq_2 _ _) (dict_no_int l es n dd sl b u) ⟨ho, hq⟩)
    (fun _ hq => wpAny_of_eq (rfl : isSame (.int b u) (.ref l) = pure false) hq) (.inr hu) h
theorem EqAt.dict_int {l : Addr} (b : Int) (u : Tok) (hl : DictOb s.heap l) (hu : A.units < cLine) : EqAt A s (.ref l) (.int b u) false := fun prog w E Q h => by
  unfold eqBool
  refine wpAny_holding (wpAny_ite_split (fun hab => absurd (eq_of_beq hab) nofun) (fun _ => wpAny_bind (RcAt.dict_int b u hl hu prog w E _ (wpAny_truthy_bool h))))
theorem EqAt.int_dict {l : Addr} (b : Int) (u : Tok) (hl : DictOb s.heap l) (hu : A.units < cLine) : EqAt A s (.int b u) (.ref l) false := fun prog w E Q h => by
  unfold eqBool
  refine wpAny_holding (wpAny_ite_split (fun hab => absurd (eq_of_beq hab) nofun) (fun _ => wpAny_bind (RcAt.int_dict b u hl hu prog w E _ (wpAny_truthy_bool h))))
theorem RcAt.dict_str {l : Addr} (b : Str) (u : Tok) (hl : DictOb s.heap l) (hu : A.units < cLine) : RcAt A s (.ref l) (.str b u) false := fun prog w E Q h => by
  obtain ⟨es, n, dd, sl, ho⟩ := hl
  exact rc_eq_decline_or (k := false) ⟨_, ho, rfl⟩ (typeIs_str s b u) (by decide) dsub_str F.slot_dict_eq F.slot_str_eq_refl
    (fun _ hq => call_meets F.slot_dict_eq ⟨_, ho, rfl⟩ F.entry_dict_eq (F.args_dict_eq_2 _ _) (dict_no_str l es n dd sl b u) ⟨ho, hq⟩)
    (fun _ hq => call_meets F.slot_str_eq_refl (typeIs_str s b u) F.entry_str_eq (F.args_str_eq_2 _ _) (str_no_dict l es n dd sl b u) ⟨ho, hq⟩)
    (fun _ hq => wpAny_of_eq (rfl : isSame (.ref l) (.str b u) = pure false) hq) (.inr hu) h
theorem RcAt.str_dict {l : Addr} (b : Str) (u : Tok) (hl : DictOb s.heap l) (hu : A.units < cLine) : RcAt A s (.str b u) (.ref l) false := fun prog w E Q h => by
  obtain ⟨es, n, dd, sl, ho⟩ := hl
  exact rc_eq_decline_or (k := false) (typeIs_str s b u) ⟨_, ho, rfl⟩ (by decide) dsup_str F.slot_str_eq F.slot_dict_eq_refl
    (fun _ hq => call_meets F.slot_str_eq (typeIs_str s b u) F.entry_str_eq (F.args_str_eq_2 _ _) (str_no_dict l es n dd sl b u) ⟨ho, hq⟩)
    (fun _ hq => call_meets F.slot_dict_eq_refl ⟨_, ho, rfl⟩ F.entry_dict_eq (F.args_dict_eq_2 _ _) (dict_no_str l es n dd sl b u) ⟨ho, hq⟩)
    (fun _ hq => wpAny_of_eq (rfl : isSame (.str b u) (.ref l) = pure false) hq) (.inr hu) h
theorem EqAt.dict_str {l : Addr} (b : Str) (u : Tok) (hl : DictOb s.heap l) (hu : A.units < cLine) : EqAt A s (.ref l) (.str b u) false := fun prog w E Q h => by
  unfold eqBool
  refine wpAny_holding (wpAny_ite_split (fun hab => absurd (eq_of_beq hab) nofun) (fun _ => wpAny_bind (RcAt.dict_str b u hl hu prog w E _ (wpAny_truthy_bool h))))
theorem EqAt.str_dict {l : Addr} (b : Str) (u : Tok) (hl : DictOb s.heap l) (hu : A.units < cLine) : EqAt A s (.str b u) (.ref l) false := fun prog w E Q h => by
  unfold eqBool
  refine wpAny_holding (wpAny_ite_split (fun hab => absurd (eq_of_beq hab) nofun) (fun _ => wpAny_bind (RcAt.str_dict b u hl hu prog w E _ (wpAny_truthy_bool h))))
end
theorem dsub_list : isSubtype (.type "list") (.type "dict") = pure false := by rw [isSubtype_type]; kernel_rfl
theorem dsup_list : isSubtype (.type "dict") (.type "list") = pure false := by rw [isSubtype_type]; kernel_rfl
theorem dict_no_list (l : Addr) (es : Array DictEntry) (n : Nat) (dd : Option Addr) (sl : Array (Option Value)) (b : Addr) (items : Array Value) (n2 : Nat) (dd2 : Option Addr) (sl2 : Array (Option Value)) : Meets (Builtin.«dict.__eq__» ⟨[.ref l, .ref b], []⟩) (fun _ R s => s.heap.get? l = some { cls := .type "dict", dict := dd, data := .dict es n, slots := sl } ∧ s.heap.get? b = some { cls := .type "list", dict := dd2, data := .seq items n2, slots := sl2 } ∧ R (.ok (.ret .notImplemented)) s) :=
  .of_wp fun prog w A R s h => by
    obtain ⟨hp, g, d, tk, os⟩ := s
    obtain ⟨hl, hb, h⟩ := h
    have f1 := dsub_list
    wp_walk using AutoSeq1.wpAny_loadPart' hl, wpAny_load hl, AutoSeq1.wpAny_loadPart' hb, wpAny_load hb
    exact ⟨_, rfl, h⟩
theorem list_no_dict (l : Addr) (es : Array DictEntry) (n : Nat) (dd : Option Addr) (sl : Array (Option Value)) (b : Addr) (items : Array Value) (n2 : Nat) (dd2 : Option Addr) (sl2 : Array (Option Value)) : Meets (Builtin.«list.__eq__» ⟨[.ref b, .ref l], []⟩) (fun _ R s => s.heap.get? l = some { cls := .type "dict", dict := dd, data := .dict es n, slots := sl } ∧ s.heap.get? b = some { cls := .type "list", dict := dd2, data := .seq items n2, slots := sl2 } ∧ R (.ok (.ret .notImplemented)) s) :=
  .of_wp fun prog w A R s h => by
    obtain ⟨hp, g, d, tk, os⟩ := s
    obtain ⟨hl, hb, h⟩ := h
    have f1 := dsup_list
    wp_walk using AutoSeq1.wpAny_loadPart' hl, wpAny_load hl, AutoSeq1.wpAny_loadPart' hb, wpAny_load hb
    exact ⟨_, rfl, h⟩
theorem dsub_tuple : isSubtype (.type "tuple") (.type "dict") = pure false := by rw [isSubtype_type]; kernel_rfl
theorem dsup_tuple : isSubtype (.type "dict") (.type "tuple") = pure false := by rw [isSubtype_type]; kernel_rfl
theorem dict_no_tuple (l : Addr) (es : Array DictEntry) (n : Nat) (dd : Option Addr) (sl : Array (Option Value)) (b : Addr) (items : Array Value) (n2 : Nat) (dd2 : Option Addr) (sl2 : Array (Option Value)) : Meets (Builtin.«dict.__eq__» ⟨[.ref l, .ref b], []⟩) (fun _ R s => s.heap.get? l = some { cls := .type "dict", dict := dd, data := .dict es n, slots := sl } ∧ s.heap.get? b = some { cls := .type "tuple", dict := dd2, data := .seq items n2, slots := sl2 } ∧ R (.ok (.ret .notImplemented)) s) :=
  .of_wp fun prog w A R s h => by
    obtain ⟨hp, g, d, tk, os⟩ := s
    obtain ⟨hl, hb, h⟩ := h
    have f1 := dsub_tuple
    wp_walk using AutoSeq1.wpAny_loadPart' hl, wpAny_load hl, AutoSeq1.wpAny_loadPart' hb, wpAny_load hb
    exact ⟨_, rfl, h⟩
theorem tuple_no_dict (l : Addr) (es : Array DictEntry) (n : Nat) (dd : Option Addr) (sl : Array (Option Value)) (b : Addr) (items : Array Value) (n2 : Nat) (dd2 : Option Addr) (sl2 : Array (Option Value)) : Meets (Builtin.«tuple.__eq__» ⟨[.ref b, .ref l], []⟩) (fun _ R s => s.heap.get? l = some { cls := .type "dict", dict := dd, data := .dict es n, slots := sl } ∧ s.heap.get? b = some { cls := .type "tuple", dict := dd2, data := .seq items n2, slots := sl2 } ∧ R (.ok (.ret .notImplemented)) s) :=
  .of_wp fun prog w A R s h => by
    obtain ⟨hp, g, d, tk, os⟩ := s
    obtain ⟨hl, hb, h⟩ := h
    have f1 := dsup_tuple
    wp_walk using AutoSeq1.wpAny_loadPart' hl, wpAny_load hl, AutoSeq1.wpAny_loadPart' hb, wpAny_load hb
    exact ⟨_, rfl, h⟩
section
variable {A : Around} {s : Shared}
theorem ne_dict_list {l b : Addr} {items : Array Value} (hl : DictOb s.heap l) (hb : s.heap.IsList b items) : l ≠ b := fun e => by
  subst e
  obtain ⟨es, n, dd, sl, ho⟩ := hl
  obtain ⟨o2, ho2, hc2, _⟩ := hb
  rw [ho] at ho2
  cases ho2
  exact absurd hc2 (by simp)
theorem RcAt.dict_list {l b : Addr} {items : Array Value} (hl : DictOb s.heap l) (hb : s.heap.IsList b items) (hu : A.units < cLine) : RcAt A s (.ref l) (.ref b) false := fun prog w E Q h => by
  have hne := ne_dict_list hl hb
  obtain ⟨es, n, dd, sl, ho⟩ := hl
  obtain ⟨⟨cls2, dd2, data2, sl2⟩, ho2, hc2, n2, hd2⟩ := id hb
  simp only at hc2 hd2
  subst hc2 hd2
  exact rc_eq_decline_or (k := false) ⟨_, ho, rfl⟩ ⟨_, ho2, rfl⟩ (by decide) dsub_list F.slot_dict_eq F.slot_list_eq_refl
    (fun _ hq => call_meets F.slot_dict_eq ⟨_, ho, rfl⟩ F.entry_dict_eq (F.args_dict_eq_2 _ _) (dict_no_list l es n dd sl b items n2 dd2 sl2) ⟨ho, ho2, hq⟩)
    (fun _ hq => call_meets F.slot_list_eq_refl ⟨_, ho2, rfl⟩ F.entry_list_eq (F.args_list_eq_2 _ _) (list_no_dict l es n dd sl b items n2 dd2 sl2) ⟨ho, ho2, hq⟩)
    (fun _ hq => wpAny_isSame_ref_other' hne ho ho2 (by simp) hq) (.inr hu) h
theorem RcAt.list_dict {l b : Addr} {items : Array Value} (hl : DictOb s.heap l) (hb : s.heap.IsList b items) (hu : A.units < cLine) : RcAt A s (.ref b) (.ref l) false := fun prog w E Q h => by
  have hne := ne_dict_list hl hb
  obtain ⟨es, n, dd, sl, ho⟩ := hl
  obtain ⟨⟨cls2, dd2, data2, sl2⟩, ho2, hc2, n2, hd2⟩ := id hb
  simp only at hc2 hd2
  subst hc2 hd2
  exact rc_eq_decline_or (k := false) ⟨_, ho2, rfl⟩ ⟨_, ho, rfl⟩ (by decide) dsup_list F.slot_list_eq F.slot_dict_eq_refl
    (fun _ hq => call_meets F.slot_list_eq ⟨_, ho2, rfl⟩ F.entry_list_eq (F.args_list_eq_2 _ _) (list_no_dict l es n dd sl b items n2 dd2 sl2) ⟨ho, ho2, hq⟩)
    (fun _ hq => call_meets F.slot_dict_eq_refl ⟨_, ho, rfl⟩ F.entry_dict_eq (F.args_dict_eq_2 _ _) (dict_no_list l es n dd sl b items n2 dd2 sl2) ⟨ho, ho2, hq⟩)
    (fun _ hq => wpAny_isSame_ref_other' hne.symm ho2 ho (by simp) hq) (.inr hu) h
theorem EqAt.dict_list {l b : Addr} {items : Array Value} (hl : DictOb s.heap l) (hb : s.heap.IsList b items) (hu : A.units < cLine) : EqAt A s (.ref l) (.ref b) false := .of_refs (ne_dict_list hl hb) (.dict_list hl hb hu)
theorem EqAt.list_dict {l b : Addr} {items : Array Value} (hl : DictOb s.heap l) (hb : s.heap.IsList b items) (hu : A.units < cLine) : EqAt A s (.ref b) (.ref l) false := .of_refs (ne_dict_list hl hb).symm (.list_dict hl hb hu)
theorem ne_dict_tuple {l b : Addr} {items : Array Value} (hl : DictOb s.heap l) (hb : s.heap.IsTuple b items) : l ≠ b := fun e => by
  subst e
  obtain ⟨es, n, dd, sl, ho⟩ := hl
  obtain ⟨o2, ho2, hc2, _⟩ := hb
  rw [ho] at ho2
  cases ho2
  exact absurd hc2 (by simp)
theorem RcAt.dict_tuple {l b : Addr} {items : Array Value} (hl : DictOb s.heap l) (hb : s.heap.IsTuple b items) (hu : A.units < cLine) : RcAt A s (.ref l) (.ref b) false := fun prog w E Q h => by
  have hne := ne_dict_tuple hl hb
  obtain ⟨es, n, dd, sl, ho⟩ := hl
  obtain ⟨⟨cls2, dd2, data2, sl2⟩, ho2, hc2, n2, hd2⟩ := id hb
  simp only at hc2 hd2
  subst hc2 hd2
  exact rc_eq_decline_or (k := false) ⟨_, ho, rfl⟩ ⟨_, ho2, rfl⟩ (by decide) dsub_tuple F.slot_dict_eq F.slot_tuple_eq_refl
    (fun _ hq => call_meets F.slot_dict_eq ⟨_, ho, rfl⟩ F.entry_dict_eq (F.args_dict_eq_2 _ _) (dict_no_tuple l es n dd sl b items n2 dd2 sl2) ⟨ho, ho2, hq⟩)
    (fun _ hq => call_meets F.slot_tuple_eq_refl ⟨_, ho2, rfl⟩ F.entry_tuple_eq (F.args_tuple_eq_2 _ _) (tuple_no_dict l es n dd sl b items n2 dd2 sl2) ⟨ho, ho2, hq⟩)
    (fun _ hq => wpAny_isSame_ref_other hne ho ho2 (by simp) hq) (.inr hu) h
theorem RcAt.tuple_dict {l b : Addr} {items : Array Value} (hl : DictOb s.heap l) (hb : s.heap.IsTuple b items) (hu : A.units < cLine) : RcAt A s (.ref b) (.ref l) false := fun prog w E Q h => by
  have hne := ne_dict_tuple hl hb
  obtain ⟨es, n, dd, sl, ho⟩ := hl
  obtain ⟨⟨cls2, dd2, data2, sl2⟩, ho2, hc2, n2, hd2⟩ := id hb
  simp only at hc2 hd2
  subst hc2 hd2
  exact rc_eq_decline_or (k := false) ⟨_, ho2, rfl⟩ ⟨_, ho, rfl⟩ (by decide) dsup_tuple F.slot_tuple_eq F.slot_dict_eq_refl
    (fun _ hq => call_meets F.slot_tuple_eq ⟨_, ho2, rfl⟩ F.entry_tuple_eq (F.args_tuple_eq_2 _ _) (tuple_no_dict l es n dd sl b items n2 dd2 sl2) ⟨ho, ho2, hq⟩)
    (fun _ hq => call_meets F.slot_dict_eq_refl ⟨_, ho, rfl⟩ F.entry_dict_eq (F.args_dict_eq_2 _ _) (dict_no_tuple l es n dd sl b items n2 dd2 sl2) ⟨ho, ho2, hq⟩)
    (fun _ hq => wpAny_isSame_ref_other' hne.symm ho2 ho (by simp) hq) (.inr hu) h
theorem EqAt.dict_tuple {l b : Addr} {items : Array Value} (hl : DictOb s.heap l) (hb : s.heap.IsTuple b items) (hu : A.units < cLine) : EqAt A s (.ref l) (.ref b) false := .of_refs (ne_dict_tuple hl hb) (.dict_tuple hl hb hu)
theorem EqAt.tuple_dict {l b : Addr} {items : Array Value} (hl : DictOb s.heap l) (hb : s.heap.IsTuple b items) (hu : A.units < cLine) : EqAt A s (.ref b) (.ref l) false := .of_refs (ne_dict_tuple hl hb).symm (.tuple_dict hl hb hu)
end
end SeqAt
end PySem
namespace PySem
namespace SeqAt
open PySem
mutual
def dfree : PyData → Bool
  | .dict _ => false
  | .list xs => dfreeAll xs
  | .tuple xs => dfreeAll xs
  | _ => true
def dfreeAll : List PyData → Bool
  | [] => true
  | x :: xs => dfree x && dfreeAll xs
end
theorem DictOb.of {h : Heap} {l : Addr} {o : Obj} {es : Array DictEntry} {n : Nat} (h1 : h.get? l = some o) (h2 : o.cls = .type "dict") (h3 : o.data = .dict es n) : DictOb h l := by
  obtain ⟨c, d, dt, sl⟩ := o
  simp only at h2 h3
  subst h2 h3
  exact ⟨es, n, d, sl, h1⟩
mutual
theorem eqv_self : ∀ d : PyData, dfree d = true → PyData.eqv d d = true
  | .none, _ => rfl
  | .bool b, _ => by simp [PyData.eqv]
  | .int i, _ => by simp [PyData.eqv]
  | .str x, _ => by simp [PyData.eqv]
  | .list xs, h => by rw [PyData.eqv]; exact eqvAll_self xs h
  | .tuple xs, h => by rw [PyData.eqv]; exact eqvAll_self xs h
  | .dict _, h => by cases h
theorem eqvAll_self : ∀ xs : List PyData, dfreeAll xs = true → PyData.eqvAll xs xs = true
  | [], _ => rfl
  | x :: xs, h => by
    have h' : dfree x = true ∧ dfreeAll xs = true := by simpa [dfreeAll] using h
    rw [PyData.eqvAll, eqv_self x h'.1, eqvAll_self xs h'.2]; rfl
end
section
variable {h : Heap}
mutual
/-- one value is one datum, if one of the two is free of dicts -/
theorem reads_one : ∀ (d e : PyData) (v : Value) (as bs : List Addr), (dfree d = true ∨ dfree e = true) → Reads h v d as → Reads h v e bs → d = e
  | .none, _, _, _, _, _, ra, rb => by cases ra; cases rb; rfl
  | .bool _, _, _, _, _, _, ra, rb => by cases ra; cases rb; rfl
  | .int _, _, _, _, _, _, ra, rb => by cases ra; cases rb; rfl
  | .str _, _, _, _, _, _, ra, rb => by cases ra; cases rb; rfl
  | .list xs, _, _, _, _, f, ra, rb => by
    cases ra with
    | list h1 h2 h3 h4 =>
      cases rb with
      | list k1 k2 k3 k4 =>
        rw [h1] at k1; cases k1
        rw [h3] at k3; cases k3
        exact congrArg PyData.list (readsAll_one xs _ _ _ _ f h4 k4)
      | tuple k1 k2 k3 k4 => rw [h1] at k1; cases k1; rw [h2] at k2; simp at k2
      | dict k1 k2 k3 _ _ => rw [h1] at k1; cases k1; rw [h2] at k2; simp at k2
  | .tuple xs, _, _, _, _, f, ra, rb => by
    cases ra with
    | tuple h1 h2 h3 h4 =>
      cases rb with
      | tuple k1 k2 k3 k4 =>
        rw [h1] at k1; cases k1
        rw [h3] at k3; cases k3
        exact congrArg PyData.tuple (readsAll_one xs _ _ _ _ f h4 k4)
      | list k1 k2 k3 k4 => rw [h1] at k1; cases k1; rw [h2] at k2; simp at k2
      | dict k1 k2 k3 _ _ => rw [h1] at k1; cases k1; rw [h2] at k2; simp at k2
  | .dict kvs, _, _, _, _, f, ra, rb => by
    cases ra with
    | dict h1 h2 h3 h4 h5 =>
      cases rb with
      | tuple k1 k2 k3 k4 => rw [h1] at k1; cases k1; rw [h2] at k2; simp at k2
      | list k1 k2 k3 k4 => rw [h1] at k1; cases k1; rw [h2] at k2; simp at k2
      | dict k1 k2 k3 _ _ => rcases f with f | f <;> cases f
theorem readsAll_one : ∀ (xs ys : List PyData) (vs : List Value) (as bs : List Addr), (dfreeAll xs = true ∨ dfreeAll ys = true) → ReadsAll h vs xs as → ReadsAll h vs ys bs → xs = ys
  | [], _, _, _, _, _, ra, rb => by cases ra; cases rb; rfl
  | x :: xs, _, _, _, _, f, ra, rb => by
    cases ra with
    | cons r rs =>
      cases rb with
      | @cons _ _ y ys _ _ r' rs' =>
        have f1 : dfree x = true ∨ dfree y = true := f.imp (fun z => (Bool.and_eq_true_iff.mp z).1) fun z => (Bool.and_eq_true_iff.mp z).1
        have f2 : dfreeAll xs = true ∨ dfreeAll ys = true := f.imp (fun z => (Bool.and_eq_true_iff.mp z).2) fun z => (Bool.and_eq_true_iff.mp z).2
        rw [reads_one x _ _ _ _ f1 r r', readsAll_one xs _ _ _ _ f2 rs rs']
end
end
section
/-- two lists, two tuples, two dicts -/
def kin : PyData → PyData → Bool
  | .list _, .list _ => true
  | .tuple _, .tuple _ => true
  | .dict _, .dict _ => true
  | _, _ => false
theorem at_list {h : Heap} {a : Addr} {o : Obj} {vs : Array Value} {n : Nat} (e1 : h.get? a = some o) (e2 : o.cls = .type "list") (e3 : o.data = .seq vs n) : h.IsList a vs := ⟨_, e1, e2, _, e3⟩
theorem at_tuple {h : Heap} {a : Addr} {o : Obj} {vs : Array Value} {n : Nat} (e1 : h.get? a = some o) (e2 : o.cls = .type "tuple") (e3 : o.data = .seq vs n) : h.IsTuple a vs := ⟨_, e1, e2, _, e3⟩
variable {A : Around} {s : Shared} {v u : Value} {d e : PyData} {as bs : List Addr} {xs ys : List PyData}
theorem eqFlat (k : kin d e = false) (ra : Reads s.heap v d as) (rb : Reads s.heap u e bs) (lt : A.units < cLine) : EqAt A s v u (PyData.eqv d e) ∧ RcAt A s v u (PyData.eqv d e) := by
  cases ra with
  | none => cases rb with
    | none => exact ⟨EqAt.same _, RcAt.none_none⟩
    | bool q1 => exact ⟨EqAt.none_bool q1, RcAt.none_bool q1⟩
    | int q1 q2 => exact ⟨EqAt.none_int q1 q2, RcAt.none_int q1 q2⟩
    | str q1 q2 => exact ⟨EqAt.none_str q1 q2, RcAt.none_str q1 q2⟩
    | list q1 q2 q3 _ => exact ⟨EqAt.none_list (at_list q1 q2 q3) lt, RcAt.none_list (at_list q1 q2 q3) lt⟩
    | tuple q1 q2 q3 _ => exact ⟨EqAt.none_tuple (at_tuple q1 q2 q3) lt, RcAt.none_tuple (at_tuple q1 q2 q3) lt⟩
    | dict q1 q2 q3 _ _ => exact ⟨EqAt.none_dict (DictOb.of q1 q2 q3) lt, RcAt.none_dict (DictOb.of q1 q2 q3) lt⟩
  | bool p1 => cases rb with
    | none => exact ⟨EqAt.bool_none p1, RcAt.bool_none p1⟩
    | bool q1 => exact ⟨EqAt.bool_bool p1 q1, RcAt.bool_bool p1 q1⟩
    | int q1 q2 => exact ⟨EqAt.bool_int p1 q1 q2, RcAt.bool_int p1 q1 q2⟩
    | str q1 q2 => exact ⟨EqAt.bool_str p1 q1 q2, RcAt.bool_str p1 q1 q2⟩
    | list q1 q2 q3 _ => exact ⟨EqAt.bool_list p1 (at_list q1 q2 q3) lt, RcAt.bool_list p1 (at_list q1 q2 q3) lt⟩
    | tuple q1 q2 q3 _ => exact ⟨EqAt.bool_tuple p1 (at_tuple q1 q2 q3) lt, RcAt.bool_tuple p1 (at_tuple q1 q2 q3) lt⟩
    | dict q1 q2 q3 _ _ => exact ⟨EqAt.bool_dict p1 (DictOb.of q1 q2 q3) lt, RcAt.bool_dict p1 (DictOb.of q1 q2 q3) lt⟩
  | int p1 p2 => cases rb with
    | none => exact ⟨EqAt.int_none p1 p2, RcAt.int_none p1 p2⟩
    | bool q1 => exact ⟨EqAt.int_bool p1 p2 q1, RcAt.int_bool p1 p2 q1⟩
    | int q1 q2 => exact ⟨EqAt.int_int p1 p2 q1 q2, RcAt.int_int p1 p2 q1 q2⟩
    | str q1 q2 => exact ⟨EqAt.int_str p1 p2 q1 q2, RcAt.int_str p1 p2 q1 q2⟩
    | list q1 q2 q3 _ => exact ⟨EqAt.int_list p1 p2 (at_list q1 q2 q3) lt, RcAt.int_list p1 p2 (at_list q1 q2 q3) lt⟩
    | tuple q1 q2 q3 _ => exact ⟨EqAt.int_tuple p1 p2 (at_tuple q1 q2 q3) lt, RcAt.int_tuple p1 p2 (at_tuple q1 q2 q3) lt⟩
    | dict q1 q2 q3 _ _ => exact ⟨EqAt.int_dict p1 p2 (DictOb.of q1 q2 q3) lt, RcAt.int_dict p1 p2 (DictOb.of q1 q2 q3) lt⟩
  | str p1 p2 => cases rb with
    | none => exact ⟨EqAt.str_none p1 p2, RcAt.str_none p1 p2⟩
    | bool q1 => exact ⟨EqAt.str_bool p1 p2 q1, RcAt.str_bool p1 p2 q1⟩
    | int q1 q2 => exact ⟨EqAt.str_int p1 p2 q1 q2, RcAt.str_int p1 p2 q1 q2⟩
    | str q1 q2 => exact ⟨EqAt.str_str p1 p2 q1 q2, RcAt.str_str p1 p2 q1 q2⟩
    | list q1 q2 q3 _ => exact ⟨EqAt.str_list p1 p2 (at_list q1 q2 q3) lt, RcAt.str_list p1 p2 (at_list q1 q2 q3) lt⟩
    | tuple q1 q2 q3 _ => exact ⟨EqAt.str_tuple p1 p2 (at_tuple q1 q2 q3) lt, RcAt.str_tuple p1 p2 (at_tuple q1 q2 q3) lt⟩
    | dict q1 q2 q3 _ _ => exact ⟨EqAt.str_dict p1 p2 (DictOb.of q1 q2 q3) lt, RcAt.str_dict p1 p2 (DictOb.of q1 q2 q3) lt⟩
  | list p1 p2 p3 _ => cases rb with
    | none => exact ⟨EqAt.list_none (at_list p1 p2 p3) lt, RcAt.list_none (at_list p1 p2 p3) lt⟩
    | bool q1 => exact ⟨EqAt.list_bool q1 (at_list p1 p2 p3) lt, RcAt.list_bool q1 (at_list p1 p2 p3) lt⟩
    | int q1 q2 => exact ⟨EqAt.list_int q1 q2 (at_list p1 p2 p3) lt, RcAt.list_int q1 q2 (at_list p1 p2 p3) lt⟩
    | str q1 q2 => exact ⟨EqAt.list_str q1 q2 (at_list p1 p2 p3) lt, RcAt.list_str q1 q2 (at_list p1 p2 p3) lt⟩
    | list q1 q2 q3 _ => cases k
    | tuple q1 q2 q3 _ => exact ⟨EqAt.list_tuple (at_list p1 p2 p3) (at_tuple q1 q2 q3) lt, RcAt.list_tuple (at_list p1 p2 p3) (at_tuple q1 q2 q3) lt⟩
    | dict q1 q2 q3 _ _ => exact ⟨EqAt.list_dict (DictOb.of q1 q2 q3) (at_list p1 p2 p3) lt, RcAt.list_dict (DictOb.of q1 q2 q3) (at_list p1 p2 p3) lt⟩
  | tuple p1 p2 p3 _ => cases rb with
    | none => exact ⟨EqAt.tuple_none (at_tuple p1 p2 p3) lt, RcAt.tuple_none (at_tuple p1 p2 p3) lt⟩
    | bool q1 => exact ⟨EqAt.tuple_bool q1 (at_tuple p1 p2 p3) lt, RcAt.tuple_bool q1 (at_tuple p1 p2 p3) lt⟩
    | int q1 q2 => exact ⟨EqAt.tuple_int q1 q2 (at_tuple p1 p2 p3) lt, RcAt.tuple_int q1 q2 (at_tuple p1 p2 p3) lt⟩
    | str q1 q2 => exact ⟨EqAt.tuple_str q1 q2 (at_tuple p1 p2 p3) lt, RcAt.tuple_str q1 q2 (at_tuple p1 p2 p3) lt⟩
    | list q1 q2 q3 _ => exact ⟨EqAt.tuple_list (at_tuple p1 p2 p3) (at_list q1 q2 q3) lt, RcAt.tuple_list (at_tuple p1 p2 p3) (at_list q1 q2 q3) lt⟩
    | tuple q1 q2 q3 _ => cases k
    | dict q1 q2 q3 _ _ => exact ⟨EqAt.tuple_dict (DictOb.of q1 q2 q3) (at_tuple p1 p2 p3) lt, RcAt.tuple_dict (DictOb.of q1 q2 q3) (at_tuple p1 p2 p3) lt⟩
  | dict p1 p2 p3 _ _ => cases rb with
    | none => exact ⟨EqAt.dict_none (DictOb.of p1 p2 p3) lt, RcAt.dict_none (DictOb.of p1 p2 p3) lt⟩
    | bool q1 => exact ⟨EqAt.dict_bool q1 (DictOb.of p1 p2 p3) lt, RcAt.dict_bool q1 (DictOb.of p1 p2 p3) lt⟩
    | int q1 q2 => exact ⟨EqAt.dict_int q1 q2 (DictOb.of p1 p2 p3) lt, RcAt.dict_int q1 q2 (DictOb.of p1 p2 p3) lt⟩
    | str q1 q2 => exact ⟨EqAt.dict_str q1 q2 (DictOb.of p1 p2 p3) lt, RcAt.dict_str q1 q2 (DictOb.of p1 p2 p3) lt⟩
    | list q1 q2 q3 _ => exact ⟨EqAt.dict_list (DictOb.of p1 p2 p3) (at_list q1 q2 q3) lt, RcAt.dict_list (DictOb.of p1 p2 p3) (at_list q1 q2 q3) lt⟩
    | tuple q1 q2 q3 _ => exact ⟨EqAt.dict_tuple (DictOb.of p1 p2 p3) (at_tuple q1 q2 q3) lt, RcAt.dict_tuple (DictOb.of p1 p2 p3) (at_tuple q1 q2 q3) lt⟩
    | dict q1 q2 q3 _ _ => cases k
/-- the items, pair by pair -/
abbrev Each (A : Around) (s : Shared) (xs ys : List PyData) : Prop := ∀ (vs us : List Value) (as bs : List Addr), ReadsAll s.heap vs xs as → ReadsAll s.heap us ys bs → ∀ (j : Nat) (h1 : j < vs.length) (h2 : j < us.length), EqAt A.in1 s vs[j] us[j] (pairEq xs ys j)
theorem sizes {h : Heap} {vs : Array Value} {xs : List PyData} {as : List Addr} (r : ReadsAll h vs.toList xs as) : vs.size = xs.length := by
  have z := ReadsAll.length _ _ _ r
  rwa [Array.length_toList] at z
theorem listRc (ra : Reads s.heap v (.list xs) as) (rb : Reads s.heap u (.list ys) bs) (lt : A.units < cLine) (each : Each A s xs ys) : RcAt A s v u (PyData.eqvAll xs ys) := by
  cases ra with
  | list a1 a2 a3 a4 =>
    cases rb with
    | list b1 b2 b3 b4 =>
      have z1 := sizes a4
      have z2 := sizes b4
      by_cases same : xs.length = ys.length
      · rw [← eqvAll_same_length same, ← z1]
        exact RcAt.lists (at_list a1 a2 a3) (at_list b1 b2 b3) (by omega) lt fun j j1 j2 => by
          have q := each _ _ _ _ a4 b4 j (by simpa using j1) (by simpa using j2)
          simpa using q
      · rw [eqvAll_other_length same]
        exact RcAt.lists_lengths (at_list a1 a2 a3) (at_list b1 b2 b3) (by simp; omega) lt
theorem tupRc (ra : Reads s.heap v (.tuple xs) as) (rb : Reads s.heap u (.tuple ys) bs) (lt : A.units < cLine) (each : Each A s xs ys) : RcAt A s v u (PyData.eqvAll xs ys) := by
  cases ra with
  | tuple a1 a2 a3 a4 =>
    cases rb with
    | tuple b1 b2 b3 b4 =>
      rw [← eqvAll_eq, ← sizes a4, ← sizes b4]
      exact RcAt.tuples (at_tuple a1 a2 a3) (at_tuple b1 b2 b3) lt fun j j1 j2 => by
        have q := each _ _ _ _ a4 b4 j (by simpa using j1) (by simpa using j2)
        simpa using q
/-- from the comparison to the test that looks at the address first -/
theorem rcEq (f : dfree d = true ∨ dfree e = true) (ra : Reads s.heap v d as) (rb : Reads s.heap u e bs) (h : ∃ a, v = .ref a) (k : ∃ a, u = .ref a) (rc : RcAt A s v u (PyData.eqv d e)) : EqAt A s v u (PyData.eqv d e) := by
  obtain ⟨a, rfl⟩ := h
  obtain ⟨b, rfl⟩ := k
  by_cases ab : a = b
  · subst ab
    obtain rfl := reads_one d e _ _ _ f ra rb
    rw [eqv_self d (f.elim id id)]
    exact EqAt.same _
  · exact EqAt.of_refs ab rc
theorem ref_list {h : Heap} (r : Reads h v (.list xs) as) : ∃ a, v = .ref a := by cases r; exact ⟨_, rfl⟩
theorem ref_tuple {h : Heap} (r : Reads h v (.tuple xs) as) : ∃ a, v = .ref a := by cases r; exact ⟨_, rfl⟩
end
mutual
theorem eqMix : ∀ (d e : PyData) (A : Around) (s : Shared) (v u : Value) (as bs : List Addr), (dfree d = true ∨ dfree e = true) → Reads s.heap v d as → Reads s.heap u e bs → A.units + min d.depth e.depth < cLine → EqAt A s v u (PyData.eqv d e)
  | .list xs, e, A, s, v, u, _, _, f, ra, rb, hu => by
    cases e with
    | list ys => exact rcEq f ra rb (ref_list ra) (ref_list rb) (listRc ra rb (room_here hu) fun vs us as bs q1 q2 => eqMixAll xs ys A.in1 s vs us as bs f q1 q2 (room_in hu))
    | _ => exact (eqFlat rfl ra rb (room_here hu)).1
  | .tuple xs, e, A, s, v, u, _, _, f, ra, rb, hu => by
    cases e with
    | tuple ys => exact rcEq f ra rb (ref_tuple ra) (ref_tuple rb) (tupRc ra rb (room_here hu) fun vs us as bs q1 q2 => eqMixAll xs ys A.in1 s vs us as bs f q1 q2 (room_in hu))
    | _ => exact (eqFlat rfl ra rb (room_here hu)).1
  | .dict kvs, e, A, s, v, u, _, _, f, ra, rb, hu => by
    cases e with
    | dict _ => rcases f with f | f <;> cases f
    | _ => exact (eqFlat rfl ra rb (room_here hu)).1
  | .none, e, _, _, _, _, _, _, _, ra, rb, hu => (eqFlat (by cases e <;> rfl) ra rb (room_here hu)).1
  | .bool _, e, _, _, _, _, _, _, _, ra, rb, hu => (eqFlat (by cases e <;> rfl) ra rb (room_here hu)).1
  | .int _, e, _, _, _, _, _, _, _, ra, rb, hu => (eqFlat (by cases e <;> rfl) ra rb (room_here hu)).1
  | .str _, e, _, _, _, _, _, _, _, ra, rb, hu => (eqFlat (by cases e <;> rfl) ra rb (room_here hu)).1
theorem eqMixAll : ∀ (xs ys : List PyData) (A : Around) (s : Shared) (vs us : List Value) (as bs : List Addr), (dfreeAll xs = true ∨ dfreeAll ys = true) → ReadsAll s.heap vs xs as → ReadsAll s.heap us ys bs →
    A.units + min (PyData.depthAll xs) (PyData.depthAll ys) < cLine → ∀ (j : Nat) (h1 : j < vs.length) (h2 : j < us.length), EqAt A s vs[j] us[j] (pairEq xs ys j)
  | [], _, _, _, _, _, _, _, _, .nil, _, _, _, h1, _ => nomatch h1
  | _ :: _, [], _, _, _, _, _, _, _, _, .nil, _, _, _, h2 => nomatch h2
  | x :: xs, y :: ys, A, s, _, _, _, _, f, .cons r rs, .cons r' rs', hu, j, h1, h2 => by
    have both : (dfree x = true ∨ dfree y = true) ∧ (dfreeAll xs = true ∨ dfreeAll ys = true) := by
      rcases f with z | z <;> obtain ⟨z1, z2⟩ := Bool.and_eq_true_iff.mp z
      · exact ⟨.inl z1, .inl z2⟩
      · exact ⟨.inr z1, .inr z2⟩
    match j with
    | 0 => exact eqMix x y A s _ _ _ _ both.1 r r' (room_head hu)
    | j + 1 => exact eqMixAll xs ys A s _ _ _ _ both.2 rs rs' (room_tail hu) j (Nat.lt_of_succ_lt_succ h1) (Nat.lt_of_succ_lt_succ h2)
end
theorem rcMix {d e : PyData} {A : Around} {s : Shared} {v u : Value} {as bs : List Addr} (f : dfree d = true ∨ dfree e = true) (ra : Reads s.heap v d as) (rb : Reads s.heap u e bs) (hu : A.units + min d.depth e.depth < cLine) : RcAt A s v u (PyData.eqv d e) := by
  cases k : kin d e with
  | false => exact (eqFlat k ra rb (room_here hu)).2
  | true =>
    cases d <;> cases e <;> first
      | (cases k; done)
      | exact listRc ra rb (room_here hu) fun vs us as bs q1 q2 => eqMixAll _ _ A.in1 s vs us as bs f q1 q2 (room_in hu)
      | exact tupRc ra rb (room_here hu) fun vs us as bs q1 q2 => eqMixAll _ _ A.in1 s vs us as bs f q1 q2 (room_in hu)
      | (rcases f with f | f <;> cases f)
/-- the datum that a value reads as -/
noncomputable def datOf (h : Heap) (v : Value) : PyData := open Classical in if e : ∃ d as, Reads h v d as then e.choose else .none
theorem datOf_eq {h : Heap} {v : Value} {d : PyData} {as : List Addr} (r : Reads h v d as) : datOf h v = d := by
  have e : ∃ d as, Reads h v d as := ⟨d, as, r⟩
  unfold datOf
  rw [dif_pos e]
  obtain ⟨bs, r2⟩ := e.choose_spec
  exact (r2.unique _ _ r).1
theorem datAll_eq {h : Heap} : ∀ {xs : List PyData} {vs : List Value} {as : List Addr}, ReadsAll h vs xs as → vs.map (datOf h) = xs
  | _, _, _, .nil => rfl
  | _, _, _, .cons r t => by rw [List.map_cons, datOf_eq r, datAll_eq t]
theorem reads_mem {h : Heap} : ∀ {xs : List PyData} {vs : List Value} {as : List Addr}, ReadsAll h vs xs as → ∀ y ∈ vs, ∃ d bs, d ∈ xs ∧ Reads h y d bs ∧ d.depth ≤ PyData.depthAll xs
  | _, _, _, .nil, y, hy => by cases hy
  | _, _, _, .cons (d := d) r t, y, hy => by
    rcases List.mem_cons.mp hy with rfl | hy
    · exact ⟨d, _, List.mem_cons_self .., r, Nat.le_max_left _ _⟩
    · obtain ⟨e, bs, h1, h2, h3⟩ := reads_mem t y hy
      exact ⟨e, bs, List.mem_cons_of_mem _ h1, h2, Nat.le_trans h3 (Nat.le_max_right _ _)⟩
theorem dfreeAll_mem : ∀ {xs : List PyData} {d : PyData}, dfreeAll xs = true → d ∈ xs → dfree d = true
  | _ :: _, _, h, m => by
    obtain ⟨h1, h2⟩ := Bool.and_eq_true_iff.mp (show (dfree _ && dfreeAll _) = true from h)
    rcases List.mem_cons.mp m with rfl | m
    · exact h1
    · exact dfreeAll_mem h2 m
theorem items_mix {A : Around} {s : Shared} {vs : Array Value} {xs : List PyData} {as bs : List Addr} {x : Value} {d : PyData} (f : dfreeAll xs = true ∨ dfree d = true) (rs : ReadsAll s.heap vs.toList xs as) (rx : Reads s.heap x d bs)
    (hu : A.units + 1 + min (PyData.depthAll xs) d.depth < cLine) : ∀ y, y ∈ vs → EqAt A.in1 s y x (PyData.eqv (datOf s.heap y) d) := fun y hy => by
  obtain ⟨e, cs, m, ry, le⟩ := reads_mem rs y (by simpa using hy)
  rw [datOf_eq ry]
  refine eqMix e d A.in1 s y x _ _ (f.imp (fun z => dfreeAll_mem z m) id) ry rx ?_
  have : min e.depth d.depth ≤ min (PyData.depthAll xs) d.depth := Nat.le_min.mpr ⟨Nat.le_trans (Nat.min_le_left _ _) le, Nat.min_le_right _ _⟩
  show A.units + 1 + min e.depth d.depth < cLine
  omega
theorem any_dat {h : Heap} {vs : Array Value} {xs : List PyData} {as : List Addr} {d : PyData} (rs : ReadsAll h vs.toList xs as) : vs.any (fun y => PyData.eqv (datOf h y) d) = xs.any (fun y => PyData.eqv y d) := by
  rw [← Array.any_toList, ← datAll_eq rs, List.any_map]
  rfl
end SeqAt
end PySem
namespace Pu
open PySem PySem.Spec PyProof.Rows L2 SeqAt
section
variable {X : Cx} {pins : List (Addr × Obj)} {σ : L2.St} {F H : Hp} {s : Shared} {pn : Pn} {b : Nat}
theorem BV.reads (I : Inv X pins σ H s) (o : Ok pn b F H) {v : V} {d : PyData} {u : Value} (h : BV X.K pn F H v d) (r : RelV v u) : ∃ as, Reads s.heap u d as := by
  rcases h with h | ⟨xs, rfl, a, vs, rfl, _, _, _, ha, q⟩
  · obtain ⟨as, h, _⟩ := reads_of I o.sub h r
    exact ⟨as, h⟩
  · cases r
    obtain ⟨its, rv, pl, _⟩ := I.list (SqL.of (K := X.K) ha)
    obtain ⟨ob, ho, hc, n, hd⟩ := pl.isList
    obtain ⟨as, ra, _⟩ := readsAll_of I o.sub q rv
    exact ⟨_, .list ho hc hd (by simpa using ra)⟩
end
def rEq2 (K : PySem.W.Frag) : R2 := fun x y H Q => ∃ (pn : Pn) (b : Nat) (F : Hp) (d e : PyData), Ok pn b F H ∧ BV K pn F H x d ∧ BV K pn F H y e ∧ (dfree d = true ∨ dfree e = true) ∧ min d.depth e.depth ≤ 60 ∧ Q (.bl (PyData.eqv d e)) H
def pEq2 : P2 := fun x y P => (dfree x = true ∨ dfree y = true) ∧ min x.depth y.depth ≤ 60 ∧ P (.bool (PyData.eqv x y))
theorem op_eq2 {X : Cx} (hu : X.A.units + 64 < cLine) : OpR X (compareOp .Eq) (rEq2 X.K) := by
  intro pins s σ H x y v u Q I rx ry ⟨pn, b, F, d, e, o, bx, by', f, dp, q⟩
  obtain ⟨as, r1⟩ := bx.reads I o rx
  obtain ⟨bs, r2⟩ := by'.reads I o ry
  exact rcMix f r1 r2 (by omega) X.prog X.w _ _ ⟨.bl _, H, I, rfl, q⟩
theorem o_eq2 {K : PySem.W.Frag} : Op2 K (rEq2 K) pEq2 := by
  intro pn b F H v u x y P Q o bv bu ⟨f, dp, q⟩ k
  exact ⟨pn, b, F, x, y, o, bv, bu, f, dp, k _ _ F H o .refl (.bl _) q⟩
/-- the items of a list, a tuple -/
def itemsD : PyData → Option (List PyData)
  | .list xs => some xs
  | .tuple xs => some xs
  | _ => none
def rIn2 (K : PySem.W.Frag) (neg : Bool) : R2 := fun x y H Q => ∃ (pn : Pn) (b : Nat) (F : Hp) (d e : PyData) (ds : List PyData), Ok pn b F H ∧ BV K pn F H x d ∧ BV K pn F H y e ∧ itemsD e = some ds ∧ (dfreeAll ds = true ∨ dfree d = true) ∧ min (PyData.depthAll ds) d.depth ≤ 60 ∧ Q (.bl (neg ^^ (ds.any fun z => PyData.eqv z d))) H
def pIn2 (neg : Bool) : P2
  | .str s, .str t, P => P (.bool (neg ^^ !(Builtin.Str.occurrences t s 0 t.length 1).isEmpty))
  | x, y, P => ∃ ds, itemsD y = some ds ∧ (dfreeAll ds = true ∨ dfree x = true) ∧ min (PyData.depthAll ds) x.depth ≤ 60 ∧ P (.bool (neg ^^ (ds.any fun z => PyData.eqv z x)))
section
variable {X : Cx}
theorem op_in2 (hu : X.A.units + 64 < cLine) : OpR X (compareOp .In) (rIn2 X.K false) := by
  intro pins s σ H x y v u Q I rx ry ⟨pn, b, F, d, e, ds, o, bx, by', ei, f, dp, q⟩
  obtain ⟨as, r1⟩ := bx.reads I o rx
  obtain ⟨bs, r2⟩ := by'.reads I o ry
  rw [Bool.false_xor] at q
  cases r2 with
  | list k1 k2 k3 k4 =>
    cases ei
    exact in_listAt _ ⟨_, k1, k2, _, k3⟩ (items_mix f k4 r1 (by omega)) (by rw [any_dat k4]; exact ⟨.bl _, H, I, rfl, q⟩)
  | tuple k1 k2 k3 k4 =>
    cases ei
    exact in_tupleAt _ ⟨_, k1, k2, _, k3⟩ (items_mix f k4 r1 (by omega)) (by rw [any_dat k4]; exact ⟨.bl _, H, I, rfl, q⟩)
  | _ => cases ei
theorem op_ni2 (hu : X.A.units + 64 < cLine) : OpR X (compareOp .NotIn) (rIn2 X.K true) := by
  intro pins s σ H x y v u Q I rx ry ⟨pn, b, F, d, e, ds, o, bx, by', ei, f, dp, q⟩
  obtain ⟨as, r1⟩ := bx.reads I o rx
  obtain ⟨bs, r2⟩ := by'.reads I o ry
  rw [Bool.true_xor] at q
  cases r2 with
  | list k1 k2 k3 k4 =>
    cases ei
    exact notIn_listAt _ ⟨_, k1, k2, _, k3⟩ (items_mix f k4 r1 (by omega)) (by rw [any_dat k4]; exact ⟨.bl _, H, I, rfl, q⟩)
  | tuple k1 k2 k3 k4 =>
    cases ei
    exact notIn_tupleAt _ ⟨_, k1, k2, _, k3⟩ (items_mix f k4 r1 (by omega)) (by rw [any_dat k4]; exact ⟨.bl _, H, I, rfl, q⟩)
  | _ => cases ei
def rInB (K : PySem.W.Frag) : R2 := fun x y H Q => (∃ i j, x = .str i ∧ y = .str j ∧ Q (.bl (!(Builtin.Str.occurrences j i 0 j.length 1).isEmpty)) H) ∨ rIn2 K false x y H Q
def rNiB (K : PySem.W.Frag) : R2 := fun x y H Q => (∃ i j, x = .str i ∧ y = .str j ∧ Q (.bl (!(!(Builtin.Str.occurrences j i 0 j.length 1).isEmpty))) H) ∨ rIn2 K true x y H Q
theorem opr_in2 (hu : X.A.units + 64 < cLine) : OpR X (compareOp .In) (rInB X.K) := OpR.or op_in_str (op_in2 hu)
theorem opr_ni2 (hu : X.A.units + 64 < cLine) : OpR X (compareOp .NotIn) (rNiB X.K) := OpR.or op_notIn_str (op_ni2 hu)
theorem pIn2_cases {neg : Bool} {x y : PyData} {P : PyData → Prop} (h : pIn2 neg x y P) : (∃ s t, x = .str s ∧ y = .str t ∧ P (.bool (neg ^^ !(Builtin.Str.occurrences t s 0 t.length 1).isEmpty))) ∨
    ∃ ds, itemsD y = some ds ∧ (dfreeAll ds = true ∨ dfree x = true) ∧ min (PyData.depthAll ds) x.depth ≤ 60 ∧ P (.bool (neg ^^ (ds.any fun z => PyData.eqv z x))) := by
  unfold pIn2 at h
  split at h
  · exact .inl ⟨_, _, rfl, rfl, h⟩
  · exact .inr h
theorem o_in2 {K : PySem.W.Frag} : Op2 K (rInB K) (pIn2 false) := by
  intro pn b F H v u x y P Q o bv bu q k
  rcases pIn2_cases q with ⟨s, t, rfl, rfl, q1⟩ | ⟨ds, e, f, dp, q1⟩
  · exact .inl ⟨s, t, bv.str, bu.str, k _ _ F H o .refl (.bl _) (by simpa using q1)⟩
  · exact .inr ⟨pn, b, F, x, y, ds, o, bv, bu, e, f, dp, k _ _ F H o .refl (.bl _) q1⟩
theorem o_ni2 {K : PySem.W.Frag} : Op2 K (rNiB K) (pIn2 true) := by
  intro pn b F H v u x y P Q o bv bu q k
  rcases pIn2_cases q with ⟨s, t, rfl, rfl, q1⟩ | ⟨ds, e, f, dp, q1⟩
  · exact .inl ⟨s, t, bv.str, bu.str, k _ _ F H o .refl (.bl _) (by simpa using q1)⟩
  · exact .inr ⟨pn, b, F, x, y, ds, o, bv, bu, e, f, dp, k _ _ F H o .refl (.bl _) q1⟩
end
end Pu
namespace Pu
open PySem PySem.Spec PyProof.Rows L2 SeqAt
abbrev VE := En → Option PyData
abbrev VT := En → Option Bool
abbrev VF := En → Option (List PyData)
abbrev VO := En → Option (Option Int)
inductive Out where
  | nx (e : En)
  | rt (d : PyData)
  | bk (e : En)
  | ct (e : En)
  | rl (ds : List PyData)
def Out.fin (PD : PEnds) (b : Nat) : Out → Prop
  | .nx e => PD.nx e b
  | .rt d => PD.rt d b
  | .bk e => PD.bk e b
  | .ct e => PD.ct e b
  | .rl ds => PD.rl ds b
abbrev HE (t : WE) (e : VE) : Prop := ∀ env b P r, e env = some r → P r b → t env b P
abbrev HT (t : WT) (e : VT) : Prop := ∀ env b P r, e env = some r → P r b → t env b P
abbrev H2 (p : P2) (e : PyData → PyData → Option PyData) : Prop := ∀ x y P r, e x y = some r → P r → p x y P
abbrev H1 (p : P1) (e : PyData → Option PyData) : Prop := ∀ x P r, e x = some r → P r → p x P
abbrev H1L (p : PyData → (List PyData → Prop) → Prop) (e : PyData → Option (List PyData)) : Prop := ∀ x P r, e x = some r → P r → p x P
abbrev H2L (p : PyData → PyData → (List PyData → Prop) → Prop) (e : PyData → PyData → Option (List PyData)) : Prop := ∀ x y P r, e x y = some r → P r → p x y P
theorem bnd {α β : Type} {o : Option α} {f : α → Option β} {r : β} (h : o.bind f = some r) : ∃ x, o = some x ∧ f x = some r := Option.bind_eq_some_iff.mp h
def vVar (i : Nat) : VE := fun env => match env[i]? with
  | some (some (.d x)) => some x
  | some (some (.l xs)) => some (.list xs)
  | some (some (.r xs)) => some (.list xs)
  | _ => none
def vVal (i : Nat) : VE := fun env => match env[i]? with
  | some (some (.d x)) => some x
  | _ => none
def vz (e : VF) : VE := fun env => (e env).map .list
def v1 (p : PyData → Option PyData) (a : VE) : VE := fun env => (a env).bind p
section
variable {ta tb tc : WE} {ea eb ec : VE} {tt tu : WT} {et eu : VT} {tf : WF} {ef : VF}
theorem h_var {i : Nat} : HE (wVar i) (vVar i) := fun env b P r h k => by
  unfold vVar at h; unfold wVar
  split at h <;> first | (cases h; simp_all; done) | (simp_all)
theorem h_val {i : Nat} : HE (wVal i) (vVal i) := fun env b P r h k => by
  unfold vVal at h; unfold wVal
  split at h <;> first | (cases h; simp_all; done) | (simp_all)
def eTru : PyData → Option Bool
  | .none => some false
  | .bool c => some c
  | .int i => some (i != 0)
  | .str z => if z.length ≤ sizeLine then some ((z.length : Int) != 0) else none
  | .list xs => some (!xs.isEmpty)
  | .tuple xs => some (!xs.isEmpty)
  | _ => none
theorem tru_run {x : PyData} {k : Bool} {P : Bool → Prop} (h : eTru x = some k) (q : P k) : pTru x P := by
  cases x with
  | str z =>
    have h : (if z.length ≤ sizeLine then some ((z.length : Int) != 0) else none) = some k := h
    by_cases c : z.length ≤ sizeLine
    · rw [if_pos c] at h
      cases h
      exact ⟨c, q⟩
    · rw [if_neg c] at h
      cases h
  | dict _ => cases h
  | _ => cases h; exact q
end
end Pu
namespace Pu
open PySem PySem.Spec PyProof.Rows L2 SeqAt
end Pu
namespace Pu
open PySem PySem.Spec PyProof.Rows L2 SeqAt PuS
def eAdd : PyData → PyData → Option PyData
  | .int i, .int j => some (.int (i + j))
  | .str s, .str t => if s.length + t.length ≤ sizeLine then some (.str (s ++ t)) else none
  | .tuple xs, .tuple ys => if xs.length + ys.length ≤ sizeLine then some (.tuple (xs ++ ys)) else none
  | .list xs, .list ys => if xs.length + ys.length ≤ sizeLine then some (.list (xs ++ ys)) else none
  | _, _ => none
def eI (C : Int → Int → Bool) (g : Int → Int → PyData) : PyData → PyData → Option PyData
  | .int i, .int j => if C i j = true then some (g i j) else none
  | _, _ => none
def eEq : PyData → PyData → Option PyData := fun x y => if (dfree x || dfree y) && decide (min x.depth y.depth ≤ 60) then some (.bool (PyData.eqv x y)) else none
def eNe : PyData → PyData → Option PyData := fun x y => if SeqAt.shaped x && SeqAt.shaped y then some (.bool (!PyData.eqv x y)) else none
def eInL (neg : Bool) (x y : PyData) : Option PyData := (itemsD y).bind fun ds => if (dfreeAll ds || dfree x) && decide (min (PyData.depthAll ds) x.depth ≤ 60) then some (.bool (neg ^^ (ds.any fun z => PyData.eqv z x))) else none
def eIn (neg : Bool) : PyData → PyData → Option PyData
  | .str s, .str t => some (.bool (neg ^^ !(Builtin.Str.occurrences t s 0 t.length 1).isEmpty))
  | x, y => eInL neg x y
def eIs (neg : Bool) : PyData → PyData → Option PyData
  | x, .none => some (.bool (neg ^^ isNon x))
  | .bool i, .bool j => some (.bool (neg ^^ decide (i = j)))
  | _, _ => none
def eIx : PyData → PyData → Option PyData
  | .list xs, .int i => atI xs i
  | .tuple xs, .int i => atI xs i
  | .str z, .int i => if z.length ≤ sizeLine then (atI z.cps.toList i).map fun c => .str ⟨#[c]⟩ else none
  | _, _ => none
def eLen : PyData → Option PyData
  | .str z => if z.length ≤ sizeLine then some (.int z.length) else none
  | .list xs => some (.int xs.length)
  | .tuple xs => some (.int xs.length)
  | _ => none
def eInt : PyData → Option PyData
  | .int i => some (.int i)
  | .bool c => some (.int (if c then 1 else 0))
  | _ => none
def eAll : PyData → Option PyData
  | .list xs => (boolsOf xs).map fun bs => .bool (bs.all id)
  | _ => none
def eAny : PyData → Option PyData
  | .list xs => (boolsOf xs).map fun bs => .bool (bs.any id)
  | _ => none
def eIsi (Ts : List String) : PyData → Option PyData := fun d => some (.bool (Ts.any fun T => isiD T d))
def eListL : PyData → Option (List PyData)
  | .list xs => some xs
  | .tuple xs => some xs
  | _ => none
section
variable {C : Int → Int → Prop} {D : Int → Int → Bool} {g : Int → Int → PyData} {neg : Bool}
theorem ite_some {α : Type} {c : Prop} [Decidable c] {x r : α} (h : (if c then some x else none) = some r) : c ∧ x = r := by
  by_cases q : c
  · rw [if_pos q] at h; cases h; exact ⟨q, rfl⟩
  · rw [if_neg q] at h; cases h
theorem h2_add : H2 pAdd eAdd := fun x y P r q k => by
  cases x <;> cases y <;> first
    | (cases q; exact k)
    | (obtain ⟨c, e⟩ := ite_some q; subst e; exact ⟨c, k⟩)
    | cases q
theorem h2_i (hC : ∀ i j, D i j = true → C i j) : H2 (pI C g) (eI D g) := fun x y P r q k => by
  cases x <;> cases y <;> first
    | (obtain ⟨c, e⟩ := ite_some q; subst e; exact ⟨hC _ _ c, k⟩)
    | cases q
theorem h2_eq : H2 pEq2 eEq := fun x y P r q k => by
  obtain ⟨c, e⟩ := ite_some q
  subst e
  obtain ⟨c1, c2⟩ := Bool.and_eq_true_iff.mp c
  exact ⟨(Bool.or_eq_true _ _).mp c1, of_decide_eq_true c2, k⟩
theorem h2_ne : H2 pNe eNe := fun x y P r q k => by
  obtain ⟨c, e⟩ := ite_some q
  subst e
  obtain ⟨c1, c2⟩ := Bool.and_eq_true_iff.mp c
  exact ⟨c1, c2, k⟩
theorem inL_run {x y r : PyData} {P : PyData → Prop} (q : eInL neg x y = some r) (k : P r) : ∃ ds, itemsD y = some ds ∧ (dfreeAll ds = true ∨ dfree x = true) ∧ min (PyData.depthAll ds) x.depth ≤ 60 ∧ P (.bool (neg ^^ (ds.any fun z => PyData.eqv z x))) := by
  obtain ⟨ds, h1, q⟩ := bnd q
  obtain ⟨c, e⟩ := ite_some q
  subst e
  obtain ⟨c1, c2⟩ := Bool.and_eq_true_iff.mp c
  exact ⟨ds, h1, (Bool.or_eq_true _ _).mp c1, of_decide_eq_true c2, k⟩
theorem h2_in : H2 (pIn2 neg) (eIn neg) := fun x y P r q k => by
  cases x with
  | str s => cases y with
    | str t => cases q; exact k
    | _ => exact inL_run q k
  | _ => exact inL_run (y := y) (by cases y <;> exact q) k
theorem h2_is : H2 (pIs neg) (eIs neg) := fun x y P r q k => by
  cases x <;> cases y <;> first | (cases q; exact k) | cases q
theorem h2_ix : H2 pIx eIx := fun x y P r q k => by
  cases x with
  | list xs => cases y with
    | int i => show (match atI xs i with | some v => P v | none => False); rw [show atI xs i = some r from q]; exact k
    | _ => cases q
  | tuple xs => cases y with
    | int i => show (match atI xs i with | some v => P v | none => False); rw [show atI xs i = some r from q]; exact k
    | _ => cases q
  | str z => cases y with
    | int i =>
      have q : (if z.length ≤ sizeLine then (atI z.cps.toList i).map fun c => PyData.str ⟨#[c]⟩ else none) = some r := q
      by_cases c : z.length ≤ sizeLine
      · rw [if_pos c] at q
        obtain ⟨a, h1, h2⟩ := Option.map_eq_some_iff.mp q
        subst h2
        refine ⟨c, ?_⟩
        rw [h1]
        exact k
      · rw [if_neg c] at q; cases q
    | _ => cases q
  | _ => cases y <;> cases q
theorem h1_len : H1 pLen eLen := fun x P r q k => by
  cases x <;> first
    | (cases q; exact k)
    | (obtain ⟨c, e⟩ := ite_some q; subst e; exact ⟨c, k⟩)
    | cases q
theorem h1_int : H1 pInt eInt := fun x P r q k => by cases x <;> first | (cases q; exact k) | cases q
theorem h1_all : H1 pAll eAll := fun x P r q k => by
  cases x with
  | list xs =>
    obtain ⟨bs, h1, h2⟩ := Option.map_eq_some_iff.mp q
    subst h2
    show (match boolsOf xs with | some bs => P (.bool (bs.all id)) | none => False)
    rw [h1]
    exact k
  | _ => cases q
theorem h1_any : H1 pAny eAny := fun x P r q k => by
  cases x with
  | list xs =>
    obtain ⟨bs, h1, h2⟩ := Option.map_eq_some_iff.mp q
    subst h2
    show (match boolsOf xs with | some bs => P (.bool (bs.any id)) | none => False)
    rw [h1]
    exact k
  | _ => cases q
theorem h1_isi {Ts : List String} : H1 (pIsi Ts) (eIsi Ts) := fun x P r q k => by cases q; exact k
theorem h1_listL : H1L pListL eListL := fun x P r q k => by cases x <;> first | (cases q; exact k) | cases q
end
end Pu
namespace Pu
open PySem PySem.Spec PyProof.Rows L2 SeqAt PuS
/-- a product's factors fit -/
def mulB (i j : Int) : Bool := (decide (-(2 ^ 64) < i) && decide (i < 2 ^ 64)) || (decide (-(2 ^ 64) < j) && decide (j < 2 ^ 64))
def eMul : PyData → PyData → Option PyData
  | .int i, .int j => if mulB i j = true then some (.int (i * j)) else none
  | .list xs, .int k => if -(2 ^ 63) ≤ k ∧ k < 2 ^ 63 ∧ xs.length * k.toNat ≤ sizeLine then some (.list (List.replicate k.toNat xs).flatten) else none
  | _, _ => none
def eCatL : PyData → PyData → Option (List PyData)
  | .list xs, .list ys => if xs.length + ys.length ≤ sizeLine then some (xs ++ ys) else none
  | _, _ => none
def eRepL : PyData → PyData → Option (List PyData)
  | .list xs, .int k => if -(2 ^ 63) ≤ k ∧ k < 2 ^ 63 ∧ xs.length * k.toNat ≤ sizeLine then some (List.replicate k.toNat xs).flatten else none
  | _, _ => none
/-- keys of a datum, as a function -/
def keyD : PyData → Option Key
  | .int i => some (.inl i)
  | .str z => some (.inr z)
  | _ => none
def keysAll : List PyData → Option (List Key)
  | [] => some []
  | x :: xs => (keyD x).bind fun k => (keysAll xs).map fun ks => k :: ks
def keysF : PyData → Option (List Key)
  | .str z => some (ofStr z)
  | .list xs => keysAll xs
  | .tuple xs => keysAll xs
  | _ => none
theorem keyD_ok {x : PyData} {k : Key} (h : keyD x = some k) : x = kD k := by cases x <;> first | (cases h; rfl) | cases h
theorem keysAll_ok : ∀ {xs : List PyData} {ks : List Key}, keysAll xs = some ks → xs = ks.map kD
  | [], ks, h => by cases h; rfl
  | x :: xs, ks, h => by
    obtain ⟨k, h1, h⟩ := bnd h
    obtain ⟨r, h2, h⟩ := Option.map_eq_some_iff.mp h
    subst h
    rw [keyD_ok h1, keysAll_ok h2]
    rfl
theorem keysF_ok {x : PyData} {ks : List Key} (h : keysF x = some ks) : KeysD x ks := by
  cases x with
  | str z => cases h; exact .inl ⟨z, rfl, rfl⟩
  | list xs => exact .inr (.inl (by rw [keysAll_ok h]))
  | tuple xs => exact .inr (.inr (by rw [keysAll_ok h]))
  | _ => cases h
def eLenSet (x : PyData) : Option PyData := (keysF x).bind fun ks => if ks.length + 1 < scanBound then some (.int (dist ks).length) else none
def strKeys : List Key → Option (List Str)
  | [] => some []
  | .inr z :: r => (strKeys r).map fun zs => z :: zs
  | _ :: _ => none
theorem strKeys_ok : ∀ {ks : List Key} {zs : List Str}, strKeys ks = some zs → ks = zs.map Sum.inr
  | [], _, h => by cases h; rfl
  | .inr z :: r, _, h => by
    obtain ⟨t, h1, h⟩ := Option.map_eq_some_iff.mp h
    subst h
    rw [strKeys_ok h1]
    rfl
  | .inl _ :: _, _, h => by cases h
def eSortSet (x : PyData) : Option (List PyData) := (keysF x).bind fun ks => (strKeys ks).bind fun zs => if zs.length + 1 < scanBound then some ((asc zs).map .str) else none
def eJoin : Str → PyData → Option PyData
  | a, .list xs => (strsOf xs).bind fun ys => if (ys.map (·.length)).sum + ys.length * a.length ≤ 16777216 then some (.str (Txt.join a ys)) else none
  | _, _ => none
def eIndex : Str → PyData → Option PyData
  | a, .str c => match Builtin.Str.occurrences a c 0 a.length 1 with | i :: _ => some (.int (i : Nat)) | [] => none
  | _, _ => none
def eSl (lo hi : Option Int) : PyData → Option PyData
  | .str z => if z.length ≤ sizeLine then some (.str (cutS z lo hi)) else none
  | .tuple xs => some (.tuple (cutD xs lo hi))
  | .list xs => some (.list (cutD xs lo hi))
  | _ => none
section
variable {ta tb tc : WE} {ea eb ec : VE} {tl th : WO} {el eh : VO}
theorem h2_mul : H2 pMul eMul := fun x y P r q k => by
  cases x with
  | int i => cases y with
    | int j =>
      obtain ⟨c, e⟩ := ite_some q
      subst e
      refine ⟨?_, k⟩
      rcases (Bool.or_eq_true _ _).mp c with c | c
      · obtain ⟨c1, c2⟩ := Bool.and_eq_true_iff.mp c
        exact .inl ⟨of_decide_eq_true c1, of_decide_eq_true c2⟩
      · obtain ⟨c1, c2⟩ := Bool.and_eq_true_iff.mp c
        exact .inr ⟨of_decide_eq_true c1, of_decide_eq_true c2⟩
    | _ => cases q
  | list xs => cases y with
    | int j => obtain ⟨c, e⟩ := ite_some q; subst e; exact ⟨c.1, c.2.1, c.2.2, k⟩
    | _ => cases q
  | _ => cases y <;> cases q
theorem h2_catL : H2L pCatL eCatL := fun x y P r q k => by
  cases x <;> cases y <;> first | (obtain ⟨c, e⟩ := ite_some q; subst e; exact ⟨c, k⟩) | cases q
theorem h2_repL : H2L pRepL eRepL := fun x y P r q k => by
  cases x <;> cases y <;> first | (obtain ⟨c, e⟩ := ite_some q; subst e; exact ⟨c.1, c.2.1, c.2.2, k⟩) | cases q
theorem h1_lenSet : H1 pLenSet eLenSet := fun x P r q k => by
  obtain ⟨ks, h1, q⟩ := bnd q
  obtain ⟨c, e⟩ := ite_some q
  subst e
  exact .inl ⟨ks, keysF_ok h1, c, k⟩
theorem h1_sortSet : H1L pSortSet eSortSet := fun x P r q k => by
  obtain ⟨ks, h1, q⟩ := bnd q
  obtain ⟨zs, h2, q⟩ := bnd q
  obtain ⟨c, e⟩ := ite_some q
  subst e
  exact ⟨zs, by rw [← strKeys_ok h2]; exact keysF_ok h1, c, k⟩
abbrev HM (p : PS2) (e : Str → PyData → Option PyData) : Prop := ∀ a y P r, e a y = some r → P r → p a y P
theorem hm_join : HM pJoin eJoin := fun a y P r q k => by
  cases y with
  | list xs =>
    obtain ⟨ys, h1, q⟩ := bnd q
    obtain ⟨c, e⟩ := ite_some q
    subst e
    show (match strsOf xs with | some ys => (ys.map (·.length)).sum + ys.length * a.length ≤ 16777216 ∧ P (.str (Txt.join a ys)) | none => False)
    rw [h1]
    exact ⟨c, k⟩
  | _ => cases q
theorem hm_index : HM pIndex eIndex := fun a y P r q k => by
  cases y with
  | str c =>
    have q : (match Builtin.Str.occurrences a c 0 a.length 1 with | i :: _ => some (PyData.int (i : Nat)) | [] => none) = some r := q
    show (match Builtin.Str.occurrences a c 0 a.length 1 with | i :: _ => P (.int (i : Nat)) | [] => False)
    cases e : Builtin.Str.occurrences a c 0 a.length 1 with
    | nil => rw [e] at q; cases q
    | cons i l => rw [e] at q; cases q; exact k
  | _ => cases q
end
end Pu
namespace Pu
open PySem PySem.Spec PyProof.Rows L2 SeqAt PuS
abbrev eLt := eI (fun _ _ => true) fun i j => .bool (decide (i < j))
abbrev eLe := eI (fun _ _ => true) fun i j => .bool (decide (i ≤ j))
abbrev eGt := eI (fun _ _ => true) fun i j => .bool (decide (j < i))
abbrev eGe := eI (fun _ _ => true) fun i j => .bool (decide (j ≤ i))
abbrev eSub := eI (fun _ _ => true) fun i j => .int (i - j)
abbrev eMod := eI (fun _ j => decide (0 < j)) fun i j => .int (i % j)
theorem h2_lt : H2 pLt eLt := h2_i fun _ _ _ => trivial
theorem h2_le : H2 pLe eLe := h2_i fun _ _ _ => trivial
theorem h2_gt : H2 pGt eGt := h2_i fun _ _ _ => trivial
theorem h2_ge : H2 pGe eGe := h2_i fun _ _ _ => trivial
theorem h2_sub : H2 pSub eSub := h2_i fun _ _ _ => trivial
theorem h2_mod : H2 pMod eMod := h2_i fun _ _ h => of_decide_eq_true h
end Pu
namespace Pu
open PySem PySem.Spec PyProof.Rows L2 SeqAt PuS
def chS (z : Str) : List PyData := z.cps.toList.map fun c => .str ⟨#[c]⟩
def chV (z : Str) : List V := z.cps.toList.map fun c => .str ⟨#[c]⟩
theorem rvs_ch {K : PySem.W.Frag} {F : Hp} (z : Str) : RVs K F (chV z) (chS z) := by
  unfold chV chS
  generalize z.cps.toList = l
  induction l with
  | nil => exact .nil
  | cons c r ih => exact .cons (.str _) ih
/-- list(x) of a list, a tuple, a text -/
def pListA : PyData → (List PyData → Prop) → Prop
  | .list xs, P => P xs
  | .tuple xs, P => P xs
  | .str z, P => z.length ≤ sizeLine ∧ P (chS z)
  | _, _ => False
def eListA : PyData → Option (List PyData)
  | .list xs => some xs
  | .tuple xs => some xs
  | .str z => if z.length ≤ sizeLine then some (chS z) else none
  | _ => none
theorem h1_listA : H1L pListA eListA := fun x P r q k => by
  cases x <;> first | (cases q; exact k) | (obtain ⟨c, e⟩ := ite_some q; subst e; exact ⟨c, k⟩) | cases q
end Pu
namespace Pu
open PySem PySem.Spec PyProof.Rows L2 SeqAt PuS
/-- from env with n draws left at least, t gives an r with m draws left at least, of which Q -/
def ME {α : Type} (t : En → Nat → (α → Nat → Prop) → Prop) (env : En) (n : Nat) (Q : α → Nat → Prop) : Prop :=
  ∀ (b : Nat) (P : α → Nat → Prop), n ≤ b → (∀ r m b', Q r m → m ≤ b' → P r b') → t env b P
def MD (f : WD) (ss : List Sl) (n : Nat) (Q : PyData → Nat → Prop) : Prop :=
  ∀ (b : Nat) (P : PyData → Nat → Prop), n ≤ b → (∀ r m b', Q r m → m ≤ b' → P r b') → f ss b P
/-- a statement: N what follows, R returns, B breaks, C continues -/
def MS (t : WS) (env : En) (n : Nat) (N : En → Nat → Prop) (R : PyData → Nat → Prop) (B C : En → Nat → Prop) : Prop :=
  ∀ (PD : PEnds) (b : Nat), n ≤ b → (∀ e m b', N e m → m ≤ b' → PD.nx e b') → (∀ r m b', R r m → m ≤ b' → PD.rt r b') →
    (∀ e m b', B e m → m ≤ b' → PD.bk e b') → (∀ e m b', C e m → m ≤ b' → PD.ct e b') → t PD env b
section
variable {α : Type} {t u : En → Nat → (α → Nat → Prop) → Prop} {env : En} {n : Nat} {Q : α → Nat → Prop}
theorem ME.imp {Q' : α → Nat → Prop} (h : ME t env n Q) (i : ∀ r m, Q r m → Q' r m) : ME t env n Q' := fun b P hb k => h b P hb fun r m b' q hm => k r m b' (i r m q) hm
theorem ME.pure {e : En → Option α} (ht : ∀ env b P r, e env = some r → P r b → t env b P) {r : α} (he : e env = some r) (q : Q r n) : ME t env n Q := fun b P hb k => ht env b P r he (k r n b q hb)
end
section
variable {f : WD} {ss : List Sl} {n : Nat} {Q Q' : PyData → Nat → Prop}
theorem MD.imp (h : MD f ss n Q) (i : ∀ r m, Q r m → Q' r m) : MD f ss n Q' := fun b P hb k => h b P hb fun r m b' q hm => k r m b' (i r m q) hm
end
section
variable {ta tb tc : WE} {tt tu : WT} {tf : WF} {env : En} {n : Nat} {Q : PyData → Nat → Prop} {QT : Bool → Nat → Prop} {QL : List PyData → Nat → Prop}
theorem m_c {d : PyData} (q : Q d n) : ME (wC d) env n Q := fun b P hb k => k d n b q hb
theorem m_d0 (q : Q (.dict []) n) : ME wD0 env n Q := fun b P hb k => k _ n b q hb
theorem m_var {i : Nat} {x : PyData} (h : vVar i env = some x) (q : Q x n) : ME (wVar i) env n Q := ME.pure h_var h q
theorem m_val {i : Nat} {x : PyData} (h : vVal i env = some x) (q : Q x n) : ME (wVal i) env n Q := ME.pure h_val h q
theorem m_z (h : ME tf env n fun xs m => Q (.list xs) m) : ME (fz tf) env n Q := fun b P hb k => h b _ hb fun r m b' q hm => k _ m b' q hm
theorem m_op {p : P2} {e : PyData → PyData → Option PyData} (hp : H2 p e) (h : ME ta env n fun x m => ME tb env m fun y m' => ∃ z, e x y = some z ∧ Q z m') : ME (wOp p ta tb) env n Q :=
  fun b P hb k => h b _ hb fun x m b1 hx hb1 => hx b1 _ hb1 fun y m' b2 ⟨z, e, q⟩ hb2 => hp x y _ z e (k z m' b2 q hb2)
theorem m_opL {p : PyData → PyData → (List PyData → Prop) → Prop} {e : PyData → PyData → Option (List PyData)} (hp : H2L p e) (h : ME ta env n fun x m => ME tb env m fun y m' => ∃ z, e x y = some z ∧ QL z m') : ME (wOpL p ta tb) env n QL :=
  fun b P hb k => h b _ hb fun x m b1 hx hb1 => hx b1 _ hb1 fun y m' b2 ⟨z, e, q⟩ hb2 => hp x y _ z e (k z m' b2 q hb2)
theorem m_1 {p : P1} {e : PyData → Option PyData} (hp : H1 p e) (h : ME ta env n fun x m => ∃ z, e x = some z ∧ Q z m) : ME (w1 p ta) env n Q :=
  fun b P hb k => h b _ hb fun x m b1 ⟨z, e, q⟩ hb1 => hp x _ z e (k z m b1 q hb1)
theorem m_1L {p : PyData → (List PyData → Prop) → Prop} {e : PyData → Option (List PyData)} (hp : H1L p e) (h : ME ta env n fun x m => ∃ z, e x = some z ∧ QL z m) : ME (w1L p ta) env n QL :=
  fun b P hb k => h b _ hb fun x m b1 ⟨z, e, q⟩ hb1 => hp x _ z e (k z m b1 q hb1)
theorem m_ms {p : PS2} {e : Str → PyData → Option PyData} (hp : HM p e) (h : ME ta env n fun x m => ∃ a, x = .str a ∧ ME tb env m fun y m' => ∃ z, e a y = some z ∧ Q z m') : ME (wMS p ta tb) env n Q :=
  fun b P hb k => h b _ hb fun x m b1 ⟨a, ea, hx⟩ hb1 => by
    subst ea
    exact hx b1 _ hb1 fun y m' b2 ⟨z, e, q⟩ hb2 => hp a y _ z e (k z m' b2 q hb2)
theorem m_tt (h : ME ta env n fun d m => ∃ c, d = .bool c ∧ QT c m) : ME (wTt ta) env n QT :=
  fun b P hb k => h b _ hb fun x m b1 ⟨c, e, q⟩ hb1 => by subst e; exact k c m b1 q hb1
theorem m_tru (h : ME ta env n fun d m => ∃ c, eTru d = some c ∧ QT c m) : ME (wTru ta) env n QT :=
  fun b P hb k => h b _ hb fun x m b1 ⟨c, e, q⟩ hb1 => tru_run e (k c m b1 q hb1)
theorem m_notT (h : ME tt env n fun c m => QT (!c) m) : ME (wNotT tt) env n QT := fun b P hb k => h b _ hb fun c m b1 q hb1 => k _ m b1 q hb1
theorem m_andT (h : ME tt env n fun c m => (c = true → ME tu env m QT) ∧ (c = false → QT false m)) : ME (wAndT tt tu) env n QT :=
  fun b P hb k => h b _ hb fun c m b1 ⟨q1, q2⟩ hb1 => by
    cases c with
    | true => exact q1 rfl b1 P hb1 k
    | false => exact k false m b1 (q2 rfl) hb1
theorem m_orT (h : ME tt env n fun c m => (c = true → QT true m) ∧ (c = false → ME tu env m QT)) : ME (wOrT tt tu) env n QT :=
  fun b P hb k => h b _ hb fun c m b1 ⟨q1, q2⟩ hb1 => by
    cases c with
    | true => exact k true m b1 (q1 rfl) hb1
    | false => exact q2 rfl b1 P hb1 k
theorem m_yes (q : QT true n) : ME wYes env n QT := fun b P hb k => k true n b q hb
theorem m_ifE (h : ME tt env n fun c m => (c = true → ME ta env m Q) ∧ (c = false → ME tb env m Q)) : ME (wIfE tt ta tb) env n Q :=
  fun b P hb k => h b _ hb fun c m b1 ⟨q1, q2⟩ hb1 => by
    cases c with
    | true => exact q1 rfl b1 P hb1 k
    | false => exact q2 rfl b1 P hb1 k
theorem m_andE (h : ME ta env n fun x m => ∃ c, eTru x = some c ∧ (c = true → ME tb env m Q) ∧ (c = false → Q x m)) : ME (wAndE ta tb) env n Q :=
  fun b P hb k => h b _ hb fun x m b1 ⟨c, e, q1, q2⟩ hb1 => tru_run e (by
    cases c with
    | true => exact q1 rfl b1 P hb1 k
    | false => exact k x m b1 (q2 rfl) hb1)
theorem m_orE (h : ME ta env n fun x m => ∃ c, eTru x = some c ∧ (c = true → Q x m) ∧ (c = false → ME tb env m Q)) : ME (wOrE ta tb) env n Q :=
  fun b P hb k => h b _ hb fun x m b1 ⟨c, e, q1, q2⟩ hb1 => tru_run e (by
    cases c with
    | true => exact k x m b1 (q1 rfl) hb1
    | false => exact q2 rfl b1 P hb1 k)
theorem m_notE (h : ME ta env n fun x m => ∃ c, eTru x = some c ∧ Q (.bool (!c)) m) : ME (wNotE ta) env n Q :=
  fun b P hb k => h b _ hb fun x m b1 ⟨c, e, q⟩ hb1 => tru_run e (k _ m b1 q hb1)
theorem m_neg (h : ME ta env n fun x m => ∃ i, x = .int i ∧ Q (.int (-i)) m) : ME (wNeg ta) env n Q :=
  fun b P hb k => h b _ hb fun x m b1 ⟨i, e, q⟩ hb1 => by subst e; exact k _ m b1 q hb1
theorem m_nil (q : QL [] n) : ME wNil env n QL := fun b P hb k => k [] n b q hb
theorem m_cons {tl : WL} (h : ME ta env n fun x m => ME tl env m fun xs m' => QL (x :: xs) m') : ME (wCons ta tl) env n QL :=
  fun b P hb k => h b _ hb fun x m b1 hx hb1 => hx b1 _ hb1 fun xs m' b2 q hb2 => k _ m' b2 q hb2
theorem m_tup {tl : WL} (h : ME tl env n fun xs m => xs.length ≤ sizeLine ∧ Q (.tuple xs) m) : ME (wTup tl) env n Q :=
  fun b P hb k => h b _ hb fun xs m b1 ⟨l, q⟩ hb1 => ⟨l, k _ m b1 q hb1⟩
theorem m_lst {tl : WL} (h : ME tl env n fun xs m => xs.length ≤ sizeLine ∧ QL xs m) : ME (wLst tl) env n QL :=
  fun b P hb k => h b _ hb fun xs m b1 ⟨l, q⟩ hb1 => ⟨l, k _ m b1 q hb1⟩
theorem m_aNil {QA : List Sl → Nat → Prop} (q : QA [] n) : ME wANil env n QA := fun b P hb k => k [] n b q hb
theorem m_aCons {QA : List Sl → Nat → Prop} {tl : WA} (h : ME ta env n fun x m => ME tl env m fun xs m' => QA (.d x :: xs) m') : ME (wACons ta tl) env n QA :=
  fun b P hb k => h b _ hb fun x m b1 hx hb1 => hx b1 _ hb1 fun xs m' b2 q hb2 => k _ m' b2 q hb2
/-- what a name hands on -/
def handed : Option (Option Sl) → Option Sl
  | some (some .p) => some .p
  | some (some (.d x)) => some (.d x)
  | some (some (.l ys)) => some (.r ys)
  | some (some (.r ys)) => some (.r ys)
  | _ => none
theorem m_aName {QA : List Sl → Nat → Prop} {tl : WA} {i : Nat} {s : Sl} (hs : handed env[i]? = some s) (h : ME tl env n fun xs m' => QA (s :: xs) m') : ME (wAName i tl) env n QA := fun b P hb k => by
  unfold wAName
  split
  all_goals first
    | (rename_i e; rw [e] at hs; cases hs; exact h b _ hb fun xs m' b2 q hb2 => k _ m' b2 q hb2)
    | (rename_i x e; rw [e] at hs; cases hs; exact h b _ hb fun xs m' b2 q hb2 => k _ m' b2 q hb2)
    | skip
  rename_i h1 h2 h3 h4
  exfalso
  revert hs
  cases e : env[i]? with
  | none => intro z; cases z
  | some o => cases o with
    | none => intro z; cases z
    | some s' => cases s' with
      | p => exact absurd e h1
      | d x => exact absurd e (h2 x)
      | l x => exact absurd e (h3 x)
      | r x => exact absurd e (h4 x)
      | k x => intro z; cases z
theorem m_call {f : WD} {tl : WA} (h : ME tl env n fun ss m => MD f ss m Q) : ME (wCall f tl) env n Q :=
  fun b P hb k => h b _ hb fun ss m b1 q hb1 => q b1 P hb1 k
theorem m_noPart {QO : Option Int → Nat → Prop} (q : QO none n) : ME wNoPart env n QO := fun b P hb k => k none n b q hb
theorem m_part {QO : Option Int → Nat → Prop} (h : ME ta env n fun x m => ∃ i, x = .int i ∧ QO (some i) m) : ME (wPart ta) env n QO :=
  fun b P hb k => h b _ hb fun x m b1 ⟨i, e, q⟩ hb1 => by subst e; exact k _ m b1 q hb1
theorem sl_run {lo hi : Option Int} {x r : PyData} {P : PyData → Prop} (h : eSl lo hi x = some r) (k : P r) : pSl lo hi x P := by
  cases x <;> first | (cases h; exact k) | (obtain ⟨c, e⟩ := ite_some h; subst e; exact ⟨c, k⟩) | cases h
theorem m_sl {tl th : WO} (h : ME ta env n fun x m => ME tl env m fun lo m1 => ME th env m1 fun hi m2 => ∃ z, eSl lo hi x = some z ∧ Q z m2) : ME (wSl ta tl th) env n Q :=
  fun b P hb k => h b _ hb fun x m b1 hx hb1 => hx b1 _ hb1 fun lo m1 b2 hl hb2 => hl b2 _ hb2 fun hi m2 b3 ⟨z, e, q⟩ hb3 => sl_run e (k z m2 b3 q hb3)
theorem m_slL {tl th : WO} (h : ME ta env n fun x m => ME tl env m fun lo m1 => ME th env m1 fun hi m2 => ∃ xs, x = .list xs ∧ QL (cutD xs lo hi) m2) : ME (wSlL ta tl th) env n QL :=
  fun b P hb k => h b _ hb fun x m b1 hx hb1 => hx b1 _ hb1 fun lo m1 b2 hl hb2 => hl b2 _ hb2 fun hi m2 b3 ⟨xs, e, q⟩ hb3 => by subst e; exact k _ m2 b3 q hb3
theorem m_ch {p p' : P2} {e e' : PyData → PyData → Option PyData} (hp : H2 p e) (hp' : H2 p' e')
    (h : ME ta env n fun x m => ME tb env m fun y m1 => ∃ c, e x y = some (.bool c) ∧ (c = true → ME tc env m1 fun w m2 => ∃ z, e' y w = some z ∧ Q z m2) ∧ (c = false → Q (.bool false) m1)) : ME (wCh p p' ta tb tc) env n Q :=
  fun b P hb k => h b _ hb fun x m b1 hx hb1 => hx b1 _ hb1 fun y m1 b2 ⟨c, e1, q1, q2⟩ hb2 => hp x y _ _ e1 (by
    cases c with
    | true => exact q1 rfl b2 _ hb2 fun w m2 b3 ⟨z, e2, q⟩ hb3 => hp' y w _ z e2 (k z m2 b3 q hb3)
    | false => exact k _ m1 b2 (q2 rfl) hb2)
theorem m_seq (h : ME ta env n fun x m => ∃ xs, seqOf x = some xs ∧ QL xs m) : ME (wSeq ta) env n QL :=
  fun b P hb k => h b _ hb fun x m b1 ⟨xs, e, q⟩ hb1 => by
    show (match seqOf x with | some xs => P xs b1 | none => False)
    rw [e]
    exact k xs m b1 q hb1
theorem m_rng1 (h : ME ta env n fun x m => ∃ j, x = .int j ∧ -(2 ^ 62) ≤ j ∧ j < 2 ^ 62 ∧ QL (rngD 0 j.toNat) m) : ME (wRng1 ta) env n QL :=
  fun b P hb k => h b _ hb fun x m b1 ⟨j, e, l1, l2, q⟩ hb1 => by subst e; exact ⟨l1, l2, k _ m b1 q hb1⟩
theorem m_zip (h : ME ta env n fun x m => ME tb env m fun y m1 => ∃ xs ys, (x = .list xs ∧ y = .list ys ∨ x = .tuple xs ∧ y = .tuple ys) ∧ QL (zipD xs ys) m1) : ME (wZip ta tb) env n QL :=
  fun b P hb k => h b _ hb fun x m b1 hx hb1 => hx b1 _ hb1 fun y m1 b2 ⟨xs, ys, e, q⟩ hb2 => by
    rcases e with ⟨e1, e2⟩ | ⟨e1, e2⟩ <;> subst e1 <;> subst e2 <;> exact k _ m1 b2 q hb2
/-- a comprehension, by what holds of the rest, what is made, the draws left -/
theorem lc_inv {g : Tg} {own : List Nat} {PL : List PyData → Nat → Prop} (J : List PyData → List PyData → Nat → Prop)
    (step : ∀ x rest acc m, J (x :: rest) acc m → ∃ e', setT g x (wipeE env own) = some e' ∧ ME tt e' m fun c m1 => (c = true → ME ta e' m1 fun y m2 => J rest (acc ++ [y]) m2) ∧ (c = false → J rest acc m1))
    (done : ∀ acc m b, J [] acc m → m ≤ b → PL acc b) : ∀ (xs : List PyData) (b : Nat) (acc : List PyData) (m : Nat), J xs acc m → m ≤ b → wLc g tt ta own env xs b acc PL
  | [], b, acc, m, j, hb => by unfold wLc; exact done acc m b j hb
  | x :: xs, b, acc, m, j, hb => by
    obtain ⟨e', h1, h2⟩ := step x xs acc m j
    unfold wLc
    rw [h1]
    refine h2 b _ hb fun c m1 b1 ⟨q1, q2⟩ hb1 => ?_
    cases c with
    | true => exact q1 rfl b1 _ hb1 fun y m2 b2 q hb2 => lc_inv J step done xs b2 (acc ++ [y]) m2 q hb2
    | false => exact lc_inv J step done xs b1 acc m1 (q2 rfl) hb1
theorem m_lc {ti : WI} {g : Tg} {own : List Nat} (h : ME ti env n fun xs m => xs.length < sizeLine ∧ ∃ J : List PyData → List PyData → Nat → Prop, J xs [] m ∧
      (∀ x rest acc m, J (x :: rest) acc m → ∃ e', setT g x (wipeE env own) = some e' ∧ ME tt e' m fun c m1 => (c = true → ME ta e' m1 fun y m2 => J rest (acc ++ [y]) m2) ∧ (c = false → J rest acc m1)) ∧
      ∀ acc m, J [] acc m → QL acc m) : ME (fLc ti g tt ta own) env n QL :=
  fun b P hb k => h b _ hb fun xs m b1 ⟨l, J, j0, step, done⟩ hb1 => ⟨l, lc_inv J step (fun acc m b' j hb' => k acc m b' (done acc m j) hb') xs b1 [] m j0 hb1⟩
/-- one that draws nothing: a filter and a map -/
theorem m_lcF {ti : WI} {g : Tg} {own : List Nat} (c : PyData → Bool) (y : PyData → PyData) (h : ME ti env n fun xs m => xs.length < sizeLine ∧
      (∀ x ∈ xs, ∃ e', setT g x (wipeE env own) = some e' ∧ (∀ m, ME tt e' m fun k m1 => k = c x ∧ m1 = m) ∧ (c x = true → ∀ m, ME ta e' m fun d m1 => d = y x ∧ m1 = m)) ∧
      QL ((xs.filter c).map y) m) : ME (fLc ti g tt ta own) env n QL :=
  m_lc (h.imp fun xs m ⟨l, each, q⟩ => ⟨l, fun rest acc m1 => m1 = m ∧ ∃ pre, xs = pre ++ rest ∧ acc = (pre.filter c).map y, ⟨rfl, [], rfl, rfl⟩, fun x rest acc m1 ⟨em, pre, e1, e2⟩ => by
    subst em
    obtain ⟨e', h1, h2, h3⟩ := each x (by rw [e1]; simp)
    refine ⟨e', h1, (h2 m1).imp fun k m2 ⟨ek, em⟩ => ?_⟩
    subst ek em
    refine ⟨fun ck => (h3 ck m2).imp fun d m3 ⟨ed, em⟩ => ?_, fun ck => ?_⟩
    · subst ed em
      exact ⟨rfl, pre ++ [x], by rw [e1]; simp, by rw [e2, List.filter_append, List.map_append]; simp [ck]⟩
    · exact ⟨rfl, pre ++ [x], by rw [e1]; simp, by rw [e2, List.filter_append, List.map_append]; simp [ck]⟩, fun acc m1 ⟨em, pre, e1, e2⟩ => by
    subst em
    rw [List.append_nil] at e1
    subst e1
    rw [e2]
    exact q⟩)
end
section
variable {t u tb : WS} {ta tc : WE} {tt : WT} {tf : WF} {ti : WI} {env : En} {n i j : Nat} {g : Tg} {N : En → Nat → Prop} {R : PyData → Nat → Prop} {B C : En → Nat → Prop}
theorem n_next (q : N env n) : MS sNext env n N R B C := fun PD b hb kn kr kb kc => kn env n b q hb
theorem n_seq (h : MS t env n (fun e m => MS u e m N R B C) R B C) : MS (sSeq t u) env n N R B C :=
  fun PD b hb kn kr kb kc => h _ b hb (fun e m b' q hm => q PD b' hm kn kr kb kc) kr kb kc
theorem n_ret (h : ME ta env n R) : MS (sRet ta) env n N R B C := fun PD b hb kn kr kb kc => h b _ hb kr
theorem n_if (h : ME tt env n fun c m => (c = true → MS t env m N R B C) ∧ (c = false → MS u env m N R B C)) : MS (sIf tt t u) env n N R B C :=
  fun PD b hb kn kr kb kc => h b _ hb fun c m b1 ⟨q1, q2⟩ hb1 => by
    cases c with
    | true => exact q1 rfl PD b1 hb1 kn kr kb kc
    | false => exact q2 rfl PD b1 hb1 kn kr kb kc
theorem n_asg (h : ME ta env n fun d m => ∃ e', setT g d env = some e' ∧ N e' m) : MS (sAsg ta g) env n N R B C :=
  fun PD b hb kn kr kb kc => h b _ hb fun d m b1 ⟨e', e, q⟩ hb1 => by
    show (match setT g d env with | some env' => PD.nx env' b1 | none => False)
    rw [e]
    exact kn e' m b1 q hb1
theorem n_set (h : ME ta env n fun d m => N (env.set i (some (.d d))) m) : MS (sSet ta i) env n N R B C := fun PD b hb kn kr kb kc => h b _ hb fun d m b1 q hb1 => kn _ m b1 q hb1
theorem n_setL (h : ME tf env n fun d m => N (env.set i (some (.l d))) m) : MS (sSetL tf i) env n N R B C := fun PD b hb kn kr kb kc => h b _ hb fun d m b1 q hb1 => kn _ m b1 q hb1
theorem n_app {xs : List PyData} (hx : env[i]? = some (some (.l xs))) (h : ME ta env n fun d m => xs.length < sizeLine ∧ N (env.set i (some (.l (xs ++ [d])))) m) : MS (sApp i ta) env n N R B C :=
  fun PD b hb kn kr kb kc => by
    unfold sApp
    rw [hx]
    exact h b _ hb fun d m b1 ⟨l, q⟩ hb1 => ⟨l, kn _ m b1 q hb1⟩
theorem n_par (h : ME ta env n fun x m => ME tc env m fun y m1 => N ((env.set i (some (.d x))).set j (some (.d y))) m1) : MS (sPar i j ta tc) env n N R B C :=
  fun PD b hb kn kr kb kc => h b _ hb fun x m b1 hx hb1 => hx b1 _ hb1 fun y m1 b2 q hb2 => kn _ m1 b2 q hb2
theorem n_parL (h : ME ta env n fun x m => ME tf env m fun y m1 => N ((env.set i (some (.d x))).set j (some (.l y))) m1) : MS (sParL i j ta tf) env n N R B C :=
  fun PD b hb kn kr kb kc => h b _ hb fun x m b1 hx hb1 => hx b1 _ hb1 fun y m1 b2 q hb2 => kn _ m1 b2 q hb2
theorem n_fz {xs : List PyData} (hx : env[i]? = some (some (.l xs))) (h : MS t (env.set i (some (.d (.list xs)))) n N R B C) : MS (sFz i t) env n N R B C :=
  fun PD b hb kn kr kb kc => by
    unfold sFz
    rw [hx]
    exact h PD b hb kn kr kb kc
theorem for_inv {PD : PEnds} (I : List PyData → En → Nat → Prop)
    (step : ∀ x rest e m, I (x :: rest) e m → ∃ e', setT g x e = some e' ∧ MS tb e' m (fun e2 m2 => I rest e2 m2) R N (fun e2 m2 => I rest e2 m2))
    (done : ∀ e m, I [] e m → N e m) (kn : ∀ e m b', N e m → m ≤ b' → PD.nx e b') (kr : ∀ r m b', R r m → m ≤ b' → PD.rt r b') :
    ∀ (xs : List PyData) (e : En) (m b : Nat), I xs e m → m ≤ b → wFor g tb PD xs e b
  | [], e, m, b, j, hb => by unfold wFor; exact kn e m b (done e m j) hb
  | x :: xs, e, m, b, j, hb => by
    obtain ⟨e', h1, h2⟩ := step x xs e m j
    unfold wFor
    rw [h1]
    exact h2 _ b hb (fun e2 m2 b2 q h => for_inv I step done kn kr xs e2 m2 b2 q h) kr kn (fun e2 m2 b2 q h => for_inv I step done kn kr xs e2 m2 b2 q h)
theorem n_for (h : ME ti env n fun xs m => ∃ I : List PyData → En → Nat → Prop, I xs env m ∧
      (∀ x rest e m, I (x :: rest) e m → ∃ e', setT g x e = some e' ∧ MS tb e' m (fun e2 m2 => I rest e2 m2) R N (fun e2 m2 => I rest e2 m2)) ∧ ∀ e m, I [] e m → N e m) : MS (sFor ti g tb) env n N R B C :=
  fun PD b hb kn kr kb kc => h b _ hb fun xs m b1 ⟨I, i0, step, done⟩ hb1 => for_inv I step done kn kr xs env m b1 i0 hb1
theorem MS.mid {N' : En → Nat → Prop} {R' : PyData → Nat → Prop} (h : MS t env n N' R' B C) (hn : ∀ e m, N' e m → N e m) (hr : ∀ r m, R' r m → R r m) : MS t env n N R B C :=
  fun PD b hb kn kr kb kc => h PD b hb (fun e m b' q => kn e m b' (hn e m q)) (fun r m b' q => kr r m b' (hr r m q)) kb kc
end
abbrev noEnd : En → Nat → Prop := fun _ _ => False
theorem md_def {np nn : Nat} {t : WS} {ss : List Sl} {n : Nat} {Q : PyData → Nat → Prop} {env : En} (hl : ss.length = np) (he : env0 nn ss = env) (h : MS t env n (fun _ m => Q .none m) Q noEnd noEnd) : MD (wDef np nn t) ss n Q :=
  fun b P hb k => ⟨hl, by subst he; exact h _ b hb (fun e m b' q hm => k _ m b' q hm) k (fun _ _ _ q => q.elim) (fun _ _ _ q => q.elim)⟩
end Pu
namespace PySem
open Sem (wp)
set_option maxHeartbeats 4000000 in
theorem enum1_newB {v : Value} {o : Obj} {H : Heap → Prop} (B : Begins v o H) :
    Meets (Builtin.«enumerate.__new__» ⟨[.type "enumerate", v], []⟩) (fun _ R s => H s.heap ∧
      R (.ok (.ret (.ref (s.heap.push o).objs.size))) { s with heap := (s.heap.push o).push { cls := .type "enumerate", data := .fields #[.none, .bool false, .ref s.heap.objs.size, rawInt 0, .none, .none] } }) :=
  .of_wp fun prog w A R s h => by
    obtain ⟨hp, g, d, tk, os⟩ := s
    obtain ⟨h1, h⟩ := h
    have hsub := sub_enumerate
    have q1 : ∀ {A' : Around} {E : Value → Shared → Prop} {Q : Value → Shared → Prop}, Q (.ref hp.objs.size) ⟨hp.push o, g, d, tk, os⟩ → wpAny (model prog w) A' (pyIter v) Q E ⟨hp, g, d, tk, os⟩ :=
      fun q => B.iter prog w _ _ ⟨hp, g, d, tk, os⟩ _ h1 q
    wp_walk using q1
    refine wpAny_stack_any fun st => wpAny_pure ?_
    split
    · rename_i c _ _ _ _ _
      cases (c == Value.type "enumerate")
      · wp_walk using q1
        exact ⟨_, rfl, h⟩
      · wp_walk using q1
        exact ⟨_, rfl, h⟩
    · wp_walk using q1
      exact ⟨_, rfl, h⟩
section
variable {prog : Program} {w : World} {A : Around} {E : Value → Shared → Prop} {s : Shared}
theorem call_enum1 {v : Value} {o : Obj} {H : Heap → Prop} {Q : Value → Shared → Prop} (B : Begins v o H) (h1 : H s.heap)
    (h : ∀ h', IsEnum h' (s.heap.objs.size + 1) s.heap.objs.size 0 .none → h'.get? s.heap.objs.size = some o → h'.objs.size = s.heap.objs.size + 2 →
      (∀ b o, s.heap.get? b = some o → h'.get? b = some o) → Q (.ref (s.heap.objs.size + 1)) { s with heap := h' }) :
    wpAny (model prog w) A (call (.type "enumerate") [v]) Q E s := by
  refine callType_new F.called_enumerate (by decide) (F.typeCall_enumerate_1 _) (F.newCall_enumerate_1 _) (fun obj => F.args_object_init_2 obj _) F.entry_enumerate_new
    (enum1_newB B) ⟨h1, ?_⟩
  have hz : (s.heap.push o).objs.size = s.heap.objs.size + 1 := Heap.size_push ..
  show _ ∧ _
  rw [hz]
  have he : IsEnum ((s.heap.push o).push { cls := .type "enumerate", data := .fields #[.none, .bool false, .ref s.heap.objs.size, rawInt 0, .none, .none] }) (s.heap.objs.size + 1) s.heap.objs.size 0 .none := by
    have := Heap.get?_push_size (s.heap.push o) (o := { cls := .type "enumerate", data := .fields #[.none, .bool false, .ref s.heap.objs.size, rawInt 0, .none, .none] }) rfl
    rw [hz] at this
    exact this
  exact ⟨⟨_, he, rfl⟩, h _ he (Heap.get?_push_of_some _ (Heap.get?_push_size _ B.free)) (by rw [Heap.size_push, hz]) fun b o x => Heap.get?_push_of_some _ (Heap.get?_push_of_some _ x)⟩
theorem wpAny_pyNext_enum_endT {e it t : Addr} {i : Nat} {items : Array Value} {old : Value} {Q : Option Value → Shared → Prop} (hh : A.handled = none)
    (he : IsEnum s.heap e it i old) (hit : s.heap.IsTupleIter it t i) (ht : s.heap.IsTuple t items) (hx : items[i]? = none)
    (hQ : ∀ h', Heap.ExtBut it s.heap h' → Q none { s with heap := h' }) : wpAny (model prog w) A (pyNext (.ref e)) Q E s := by
  have hT : s.TypeIs (.ref e) "enumerate" := ⟨_, he, rfl⟩
  unfold pyNext
  refine wpAny_bind (wpAny_attempt (wpAny_callSpecial?_slot (name := Str.ofString "__next__") hT F.slot_enumerate_next
    (wpAny_call_entry F.slot_enumerate_next hT F.entry_enumerate_next ?_ (F.args_enumerate_next_1 _))))
  show wpAny _ _ (field (.ref e) 2 >>= _) _ _ _
  refine wpAny_bind (wpAny_field he rfl (x := .ref it) rfl ?_)
  refine wpAny_bind (wpAny_nextOf_tuple_end hh hit ht hx fun h' x he' hx' => ?_)
  obtain ⟨o, ho, hc⟩ := hx'
  refine wpAny_bind (wpAny_isInstance (T := "StopIteration") (b := true) ⟨o, ho, hc⟩ isSubtype_stop ?_)
  exact wpAny_pure (hQ _ he')
theorem wpAny_pyNext_enum_endS {e it : Addr} {x : Str} {t : Tok} {i : Nat} {old : Value} {Q : Option Value → Shared → Prop} (hh : A.handled = none)
    (he : IsEnum s.heap e it i old) (hit : s.heap.IsStrIter it (strIterType x) x t i) (hx : x.cps[i]? = none)
    (hQ : ∀ h', Heap.ExtBut it s.heap h' → Q none { s with heap := h' }) : wpAny (model prog w) A (pyNext (.ref e)) Q E s := by
  have hT : s.TypeIs (.ref e) "enumerate" := ⟨_, he, rfl⟩
  unfold pyNext
  refine wpAny_bind (wpAny_attempt (wpAny_callSpecial?_slot (name := Str.ofString "__next__") hT F.slot_enumerate_next
    (wpAny_call_entry F.slot_enumerate_next hT F.entry_enumerate_next ?_ (F.args_enumerate_next_1 _))))
  show wpAny _ _ (field (.ref e) 2 >>= _) _ _ _
  refine wpAny_bind (wpAny_field he rfl (x := .ref it) rfl ?_)
  cases ha : x.cps.all (· < 128)
  · rw [show strIterType x = "str_iterator" by simp [strIterType, ha]] at hit
    refine wpAny_bind (wpAny_nextOf_wide_end hh hit hx fun h' y he' hx' => ?_)
    obtain ⟨o, ho, hc⟩ := hx'
    refine wpAny_bind (wpAny_isInstance (T := "StopIteration") (b := true) ⟨o, ho, hc⟩ isSubtype_stop ?_)
    exact wpAny_pure (hQ _ he')
  · rw [show strIterType x = "str_ascii_iterator" by simp [strIterType, ha]] at hit
    refine wpAny_bind (wpAny_nextOf_ascii_end hh hit hx fun h' y he' hx' => ?_)
    obtain ⟨o, ho, hc⟩ := hx'
    refine wpAny_bind (wpAny_isInstance (T := "StopIteration") (b := true) ⟨o, ho, hc⟩ isSubtype_stop ?_)
    exact wpAny_pure (hQ _ he')
end
end PySem
namespace Pu
open PySem PySem.Spec PyProof.Rows L2 SeqAt PuS
def IteS (x : Str) : It :=
  ⟨fun i _ => i < x.cps.size, fun i H v H' => ∃ T c, v = .ref T ∧ H T = none ∧ H' = upd H T (.tup [.int (i : Nat), .str ⟨#[c]⟩]) ∧ x.cps[i]? = some c, fun i _ => x.cps.size ≤ i⟩
theorem turn_enumS {P : Program} {w : World} {K : PySem.W.Frag} {elts : List Expr} {kk : Nat} {tpos : Pos} (x : Str) (t : Tok) (e it : Addr) :
    Turn P w K (.Tuple elts kk tpos) (IteS x) [e, it] e (fun i h => (∃ old, IsEnum h e it ((i : Nat) : Int) old) ∧ h.IsStrIter it (strIterType x) x t i ∧ e ≠ it) where
  mem := by simp
  obj := fun i h st b hb => by
    obtain ⟨⟨old, he⟩, ⟨o, ho, hc, hd⟩, _⟩ := st
    have e' : b = e ∨ b = it := by simpa using hb
    rcases e' with z | z
    · rw [z]; exact ⟨_, he, fun v q => nomatch q⟩
    · rw [z]; exact ⟨o, ho, fun v q => by rw [hd] at q; cases q⟩
  keep := fun i h h' st k => let ⟨⟨old, he⟩, ⟨o, ho, r⟩, hne⟩ := st; ⟨⟨old, k e (by simp) _ he⟩, ⟨o, k it (by simp) o ho, r⟩, hne⟩
  item := by
    intro X hP hw hK hc i pins s σ H E I hf st hg
    subst hP hw hK
    obtain ⟨⟨old, he⟩, hit, hne⟩ := st
    have hlt : i < x.cps.size := hg
    have hel : e < s.heap.objs.size := Heap.lt_size he
    have hil : it < s.heap.objs.size := by obtain ⟨_, q, _⟩ := hit; exact Heap.lt_size q
    refine wpAny_pyNext_enum_itemD (Draws.text (A := X.A.in1) (I.ok.hd hc) it x t) he hit hlt hne (by simp [hne]) fun y h' tk hy ho hst hT hsz hk => ?_
    obtain ⟨c, u, hcx, rfl⟩ := hy
    refine ⟨_, rfl, wpAny_letOwnedTupleGo_enum (s := { s with heap := h', toks := tk + 1 }) ho fun h'' he' sb => ?_⟩
    have hT2 : h''.get? s.heap.objs.size = some { cls := .type "tuple", data := .seq #[.int i tk, .str ⟨#[c]⟩ u] } := (sb.2 _ (Nat.ne_of_gt hel)).trans hT
    have new : ObjOk X.prog X.w (upd H s.heap.objs.size (.tup [.int (i : Nat), .str ⟨#[c]⟩])) h'' s.heap.objs.size (.tup [.int (i : Nat), .str ⟨#[c]⟩]) :=
      ⟨by show 2 ≤ sizeLine; decide, [.int i tk, .str ⟨#[c]⟩ u], .cons ⟨_, rfl⟩ (.cons ⟨_, rfl⟩ .nil), ⟨_, hT2, rfl, _, rfl⟩⟩
    have I1 : Inv X pins σ (upd H s.heap.objs.size (.tup [.int (i : Nat), .str ⟨#[c]⟩])) { s with heap := h'', toks := tk + 1 } :=
      I.turnedNew (ch := [e, it]) (fun b ob hb q => (sb.2 b (fun z => hb (by simp [z]))).trans (hk b ob (fun z => hb (by simp [z])) (fun z => hb (by simp [z])) q)) hf (Nat.le_refl _) new
    refine ⟨.ref s.heap.objs.size, _, I1, rfl, ⟨_, c, rfl, I.hok.fresh (Nat.le_refl _), rfl, hcx⟩, ⟨⟨.str ⟨#[c]⟩ u, ?_⟩, ?_, hne⟩, fun b hb => ?_⟩
    · have e1 : ((i + 1 : Nat) : Int) = (i : Int) + 1 := by omega
      rw [e1]; exact he'
    · obtain ⟨o, ho2, r⟩ := hst
      exact ⟨o, (sb.2 it (Ne.symm hne)).trans ho2, r⟩
    · have hb' : b < s.heap.objs.size := by
        have e' : b = e ∨ b = it := by simpa using hb
        rcases e' with z | z
        · rw [z]; exact hel
        · rw [z]; exact hil
      rw [upd_ne (Nat.ne_of_lt hb')]
      exact (hf b hb).1
  done := by
    intro X hP hw hK hc i pins s σ H E I hf st hg
    subst hP hw hK
    obtain ⟨⟨old, he⟩, hit, hne⟩ := st
    obtain ⟨f0, f1, f2, f3, f4, f5⟩ := hf it (by simp)
    exact wpAny_pyNext_enum_endS (I.ok.hd hc) he hit (Array.getElem?_eq_none hg) fun h' eb => ⟨rfl, I.turned (t' := s.toks) (fun b o hb q => eb b o hb q) f0 f1 f3 f4 f5⟩
  self := fun A i s Q E st h => let ⟨⟨_, he⟩, _⟩ := st; wpAny_pyIter_enum he h
def IteT (K : PySem.W.Frag) (a : Addr) : It :=
  ⟨fun i H => ∃ (xs : List V) (x : V), SqT K H a xs ∧ xs[i]? = some x, fun i H v H' => ∃ T x, v = .ref T ∧ H T = none ∧ H' = upd H T (.tup [.int (i : Nat), x]) ∧ ∀ xs, SqT K H a xs → xs[i]? = some x, fun i H => ∃ xs : List V, SqT K H a xs ∧ xs.length ≤ i⟩
theorem tuple_inj {X : Cx} {pins : List (Addr × Obj)} {σ : L2.St} {H : Hp} {s : Shared} (I : Inv X pins σ H s) {a : Addr} {xs ys : List V} (h1 : SqT X.K H a xs) (h2 : SqT X.K H a ys) : ys = xs := I.tuple_inj h2 h1
theorem turn_enumT {P : Program} {w : World} {K : PySem.W.Frag} {elts : List Expr} {kk : Nat} {tpos : Pos} (a e it : Addr) (na : a ≠ e) (nb : a ≠ it) :
    Turn P w K (.Tuple elts kk tpos) (IteT K a) [e, it] e (fun i h => (∃ old, IsEnum h e it ((i : Nat) : Int) old) ∧ h.IsTupleIter it a i ∧ e ≠ it) where
  mem := by simp
  obj := fun i h st b hb => by
    obtain ⟨⟨old, he⟩, ⟨o, ho, hc, hd⟩, _⟩ := st
    have e' : b = e ∨ b = it := by simpa using hb
    rcases e' with z | z
    · rw [z]; exact ⟨_, he, fun v q => nomatch q⟩
    · rw [z]; exact ⟨o, ho, fun v q => by rw [hd] at q; cases q⟩
  keep := fun i h h' st k => let ⟨⟨old, he⟩, hi, hne⟩ := st; ⟨⟨old, k e (by simp) _ he⟩, hi.at fun o q => k it (by simp) o q, hne⟩
  item := by
    intro X hP hw hK hc i pins s σ H E I hf st hg
    subst hP hw hK
    obtain ⟨⟨old, he⟩, hit, hne⟩ := st
    obtain ⟨xs, x, hq, hx⟩ := hg
    obtain ⟨its, rv, p, hz⟩ := I.tuple hq
    obtain ⟨u, hu, ru⟩ := rv.get hx
    have hel : e < s.heap.objs.size := Heap.lt_size he
    have hil : it < s.heap.objs.size := by obtain ⟨_, q, _⟩ := hit; exact Heap.lt_size q
    have hlt : i < its.toArray.size := by
      have := (List.getElem?_eq_some_iff.mp hu).1
      simpa using this
    refine wpAny_pyNext_enum_itemD (Draws.tuple (A := X.A.in1) (I.ok.hd hc) it a nb its.toArray) he ⟨hit, p⟩ hlt hne (by simp [hne, Ne.symm na]) fun y h' tk hy ho hst hT hsz hk => ?_
    have ey : y = u := by
      have : its.toArray[i]? = some u := by simpa using hu
      rw [this] at hy
      exact (Option.some.inj hy).symm
    subst ey
    refine ⟨_, rfl, wpAny_letOwnedTupleGo_enum (s := { s with heap := h', toks := tk + 1 }) ho fun h'' he' sb => ?_⟩
    have hT2 : h''.get? s.heap.objs.size = some { cls := .type "tuple", data := .seq #[.int i tk, y] } := (sb.2 _ (Nat.ne_of_gt hel)).trans hT
    have new : ObjOk X.prog X.w (upd H s.heap.objs.size (.tup [.int (i : Nat), x])) h'' s.heap.objs.size (.tup [.int (i : Nat), x]) :=
      ⟨by show 2 ≤ sizeLine; decide, [.int i tk, y], .cons ⟨_, rfl⟩ (.cons ru .nil), ⟨_, hT2, rfl, _, rfl⟩⟩
    have I1 : Inv X pins σ (upd H s.heap.objs.size (.tup [.int (i : Nat), x])) { s with heap := h'', toks := tk + 1 } :=
      I.turnedNew (ch := [e, it]) (fun b ob hb q => (sb.2 b (fun z => hb (by simp [z]))).trans (hk b ob (fun z => hb (by simp [z])) (fun z => hb (by simp [z])) q)) hf (Nat.le_refl _) new
    refine ⟨.ref s.heap.objs.size, _, I1, rfl, ⟨_, x, rfl, I.hok.fresh (Nat.le_refl _), rfl, fun ys hy => by rw [I.tuple_inj hy hq]; exact hx⟩, ⟨⟨y, ?_⟩, hst.1.at fun o q => (sb.2 it (Ne.symm hne)).trans q, hne⟩, fun b hb => ?_⟩
    · have e1 : ((i + 1 : Nat) : Int) = (i : Int) + 1 := by omega
      rw [e1]; exact he'
    · have hb' : b < s.heap.objs.size := by
        have e' : b = e ∨ b = it := by simpa using hb
        rcases e' with z | z
        · rw [z]; exact hel
        · rw [z]; exact hil
      rw [upd_ne (Nat.ne_of_lt hb')]
      exact (hf b hb).1
  done := by
    intro X hP hw hK hc i pins s σ H E I hf st hg
    subst hP hw hK
    obtain ⟨⟨old, he⟩, hit, hne⟩ := st
    obtain ⟨xs, hq, hx⟩ := hg
    obtain ⟨its, rv, p, hz⟩ := I.tuple hq
    obtain ⟨f0, f1, f2, f3, f4, f5⟩ := hf it (by simp)
    have hl := rv.length
    -- the place of the iterator is at the end or behind it
    exact wpAny_pyNext_enum_endT (I.ok.hd hc) he hit p (by simp; omega) fun h' eb => ⟨rfl, I.turned (t' := s.toks) (fun b o hb q => eb b o hb q) f0 f1 f3 f4 f5⟩
  self := fun A i s Q E st h => let ⟨⟨_, he⟩, _⟩ := st; wpAny_pyIter_enum he h
def iEnumT (K : PySem.W.Frag) (ta : TA) : TI := fun σ H R => ta σ H fun vs H1 => (∃ a, vs = [.ref a] ∧ ((∃ xs, SqL K H1 a xs ∧ R (Ite K a) H1) ∨ ∃ xs, SqT K H1 a xs ∧ R (IteT K a) H1)) ∨ ∃ z : Str, vs = [.str z] ∧ R (IteS z) H1
theorem pi_enumT {X : Cx} {e : Expr} {ta : TA} {p pos tpos : Pos} {elts : List Expr} {kk : Nat} (hg : Gl X "enumerate") (hm : X.mg "enumerate" = none) (ha : PA X [e] ta) (hs : starEach [e] X.env = [(false, eval e X.env)] := by rfl) :
    PI X (.Tuple elts kk tpos) (.Call (.Name "enumerate" p) [e] [] pos) (iEnumT X.K ta) := by
  refine ⟨fun pins s σ H R I h => ?_⟩
  refine Call_ (ld_blt I hg hm boot_enumerate (PyProof.Rows.callWith_type1 (thn (ha.run pos pins s σ H _ I h) fun us s1 ⟨vs, H1, I1, r1, q1⟩ => ?_) hs rfl))
  rcases q1 with ⟨a, ex, q1⟩ | ⟨z, ex, q⟩
  rotate_left
  · subst ex
    obtain ⟨u, eu, ⟨tk, rfl⟩⟩ := vals1 r1
    subst eu
    have two : ∀ b, b ∈ [s1.heap.objs.size + 1, s1.heap.objs.size] → s1.heap.objs.size ≤ b := fun b hb => by
      have e' : b = s1.heap.objs.size + 1 ∨ b = s1.heap.objs.size := by simpa using hb
      rcases e' with z | z
      · rw [z]; exact Nat.le_add_right _ _
      · rw [z]; exact Nat.le_refl _
    refine call_enum1 (begins_text z tk) trivial fun h' he hit hsz hk => wpAny_pyIter_enum he ?_
    have I2 : Inv X pins σ H1 { s1 with heap := h' } := I1.kept (t' := s1.toks) hk
    exact ⟨s1.heap.objs.size + 1, [s1.heap.objs.size + 1, s1.heap.objs.size], _, _, H1, rfl, I2, turn_enumS z tk (s1.heap.objs.size + 1) s1.heap.objs.size, ⟨⟨.none, he⟩, ⟨_, hit, rfl, rfl⟩, Nat.succ_ne_self _⟩, fun b hb => I1.fpOk (two b hb) (I1.hok.fresh (two b hb)), q⟩
  subst ex
  cases r1 with
  | cons r rr =>
    cases rr
    cases r
    have two : ∀ b, b ∈ [s1.heap.objs.size + 1, s1.heap.objs.size] → s1.heap.objs.size ≤ b := fun b hb => by
      have e' : b = s1.heap.objs.size + 1 ∨ b = s1.heap.objs.size := by simpa using hb
      rcases e' with z | z
      · rw [z]; exact Nat.le_add_right _ _
      · rw [z]; exact Nat.le_refl _
    rcases q1 with ⟨xs, hq, q⟩ | ⟨xs, hq, q⟩
    · obtain ⟨its, rv, p', hz⟩ := I1.list hq
      refine call_enumerate_list p'.isList fun h' he hit hsz hk => wpAny_pyIter_enum he ?_
      have I2 : Inv X pins σ H1 { s1 with heap := h' } := I1.kept (t' := s1.toks) hk
      exact ⟨s1.heap.objs.size + 1, [s1.heap.objs.size + 1, s1.heap.objs.size], _, _, H1, rfl, I2, turn_enum a (s1.heap.objs.size + 1) s1.heap.objs.size, ⟨⟨.none, he⟩, hit, Nat.succ_ne_self _⟩, fun b hb => I1.fpOk (two b hb) (I1.hok.fresh (two b hb)), q⟩
    · obtain ⟨its, rv, p', hz⟩ := I1.tuple hq
      refine call_enum1 (begins_tuple a its.toArray) p' fun h' he hit hsz hk => wpAny_pyIter_enum he ?_
      have I2 : Inv X pins σ H1 { s1 with heap := h' } := I1.kept (t' := s1.toks) hk
      have al : a < s1.heap.objs.size := by obtain ⟨_, z, _⟩ := p'; exact Heap.lt_size z
      exact ⟨s1.heap.objs.size + 1, [s1.heap.objs.size + 1, s1.heap.objs.size], _, _, H1, rfl, I2, turn_enumT a (s1.heap.objs.size + 1) s1.heap.objs.size (Nat.ne_of_lt (Nat.lt_succ_of_lt al)) (Nat.ne_of_lt al), ⟨⟨.none, he⟩, ⟨_, hit, rfl, rfl⟩, Nat.succ_ne_self _⟩, fun b hb => I1.fpOk (two b hb) (I1.hok.fresh (two b hb)), q⟩
def wEnumT (t : WE) : WI := fun env b P => t env b fun x b1 => match x with
  | .list xs => P (enumD xs) b1
  | .tuple xs => P (enumD xs) b1
  | .str z => P (enumD (chS z)) b1
  | _ => False
theorem it_enumS {K : PySem.W.Frag} {pn : Pn} {C : Hp → Hp → Prop} {z : Str} : ItOk K pn false C (IteS z) (enumD (chS z)) := fun i F H b o c => by
  have hl : (enumD (chS z)).length = z.cps.size := by simp [enumD, chS]
  refine ⟨fun hi => by rw [hl] at hi; exact hi, fun hi => by rw [hl] at hi; exact hi, fun x H' y hi => ?_⟩
  obtain ⟨T, ch, rfl, nT, rfl, hc⟩ := y
  have e : (chS z)[i]? = some (.str ⟨#[ch]⟩) := by
    unfold chS
    rw [List.getElem?_map, Array.getElem?_toList, hc]
    rfl
  exact ⟨_, _, enumD_at e, .inr ⟨rfl, T, _, _, rfl, rfl, SqT.of upd_same, .cons (.int _) (.one (.str _))⟩, o.new nT, .new o nT⟩
theorem it_enumT {K : PySem.W.Frag} {pn : Pn} {C : Hp → Hp → Prop} {a : Addr} {items : List PyData} (h : ∀ F H b, Ok pn b F H → C F H → ∃ vs, SqT K H a vs ∧ RVs K F vs items) : ItOk K pn false C (IteT K a) (enumD items) := fun i F H b o c => by
  obtain ⟨vs, ha, r⟩ := h F H b o c
  have hl : (enumD items).length = items.length := by simp [enumD]
  refine ⟨fun hi => ?_, fun hi => ⟨vs, ha, by rw [r.len, ← hl]; exact hi⟩, fun x H' y hi => ?_⟩
  · obtain ⟨v, hv, _⟩ := r.at' (List.getElem?_eq_getElem (by rw [← hl]; exact hi))
    exact ⟨vs, v, ha, hv⟩
  · obtain ⟨T, w, rfl, nT, rfl, y1⟩ := y
    have l1 : i < items.length := by rw [← hl]; exact hi
    obtain ⟨v, hv, rv⟩ := r.at' (List.getElem?_eq_getElem l1)
    have e1 := y1 vs ha
    rw [hv] at e1
    cases e1
    exact ⟨_, _, enumD_at (List.getElem?_eq_getElem l1), .inr ⟨rfl, T, _, _, rfl, rfl, SqT.of upd_same, .cons (.int _) (.one (rv.mono (same_new (o.free nT))))⟩, o.new nT, .new o nT⟩
theorem i_enumT {X : Cx} {a : Expr} {t : WE} {p pos tpos : Pos} {elts : List Expr} {kk : Nat} (m : Bool) (hg : Gl X "enumerate") (hm : X.mg "enumerate" = none) (ha : EE X a t) (hs : starEach [a] X.env = [(false, eval a X.env)] := by rfl) :
    PI X (.Tuple elts kk tpos) (.Call (.Name "enumerate" p) [a] [] pos) (lI X.K m false (wEnumT t)) :=
  PI.imp (pi_enumT hg hm (pa_cons ha pa_nil hs) hs) fun σ H R ⟨pn, F, env, b, P, rep, w, k⟩ => by
    refine ⟨pn, F, env, b, _, rep, w, fun v x F1 H1 b1 o1 e1 rv t1 => ?_⟩
    cases rv with
    | lst h r => exact .inl ⟨_, rfl, .inl ⟨_, SqL.of (o1.sub _ _ h), k _ F1 H1 b1 _ o1 e1 (it_enum fun F H b o c => ⟨_, o.sub _ _ (c.same _ _ h), r.mono c.same⟩) t1⟩⟩
    | tup h r => exact .inl ⟨_, rfl, .inr ⟨_, Same.tup o1.sub h.sq, k _ F1 H1 b1 _ o1 e1 (it_enumT fun F H b o c => ⟨_, Same.tup (c.same.trans o.sub) h.sq, r.mono c.same⟩) t1⟩⟩
    | str z => exact .inr ⟨z, rfl, k _ F1 H1 b1 _ o1 e1 it_enumS t1⟩
    | _ => exact t1.elim
theorem m_enumS {ta : WE} {env : En} {n : Nat} {QL : List PyData → Nat → Prop} (h : ME ta env n fun x m => ∃ z, x = .str z ∧ QL (enumD (chS z)) m) : ME (wEnumT ta) env n QL :=
  fun b P hb k => h b _ hb fun x m b1 ⟨xs, e, q⟩ hb1 => by subst e; exact k _ m b1 q hb1
theorem m_enumT {ta : WE} {env : En} {n : Nat} {QL : List PyData → Nat → Prop} (h : ME ta env n fun x m => ∃ xs, (x = .list xs ∨ x = .tuple xs) ∧ QL (enumD xs) m) : ME (wEnumT ta) env n QL :=
  fun b P hb k => h b _ hb fun x m b1 ⟨xs, e, q⟩ hb1 => by rcases e with e | e <;> subst e <;> exact k _ m b1 q hb1
end Pu
namespace Pu
open PySem PySem.Spec PyProof.Rows L2 SeqAt PuS
def revS (z : Str) : Str := ⟨z.cps.toList.reverse.toArray⟩
def pRevE : P1
  | .list xs, P => P (.list xs.reverse)
  | .tuple xs, P => P (.tuple xs.reverse)
  | .str z, P => z.length ≤ sizeLine ∧ P (.str (revS z))
  | _, _ => False
def eRevE : PyData → Option PyData
  | .list xs => some (.list xs.reverse)
  | .tuple xs => some (.tuple xs.reverse)
  | .str z => if z.length ≤ sizeLine then some (.str (revS z)) else none
  | _ => none
theorem h1_revE : H1 pRevE eRevE := fun x P r q k => by
  cases x <;> first | (cases q; exact k) | (obtain ⟨c, e⟩ := ite_some q; subst e; exact ⟨c, k⟩) | cases q
end Pu
namespace Pu
open PySem PySem.Spec PyProof.Rows L2 SeqAt PuS
def tx (l : List Nat) : Str := ⟨l.toArray⟩
def Ls (z : Str) : List Nat := z.cps.toList
abbrev sg (c : Nat) : PyData := .str ⟨#[c]⟩
theorem tx_Ls (z : Str) : tx (Ls z) = z := by cases z; simp [tx, Ls]
theorem Ls_tx (l : List Nat) : Ls (tx l) = l := by simp [tx, Ls]
theorem str_inj {x y : Str} (h : Ls x = Ls y) : x = y := PySem.W.str_of_cps h
theorem len_Ls (z : Str) : z.length = (Ls z).length := by simp [Ls, Str.length]
theorem seq_str (z : Str) : seqOf (.str z) = some ((Ls z).map sg) := rfl
theorem chS_eq (z : Str) : chS z = (Ls z).map sg := rfl
def isS (s : Str) : PyData → Bool
  | .str w => decide (w = s)
  | _ => false
def isOf (ws : List Str) (x : PyData) : Bool := ws.any fun s => isS s x
theorem beq_dec (x y : Str) : (x == y) = decide (x = y) := rfl
theorem eqv_str (x : PyData) (s : Str) : PyData.eqv x (.str s) = isS s x := by cases x <;> simp [PyData.eqv, isS, beq_dec]
theorem eqv_strL (x : PyData) (s : Str) : PyData.eqv (.str s) x = isS s x := by cases x <;> simp [PyData.eqv, isS, beq_dec, eq_comm]
theorem eq_str (x : PyData) (s : Str) : eEq x (.str s) = some (.bool (isS s x)) := by
  unfold eEq
  rw [if_pos (by simp [dfree, PyData.depth]), eqv_str]
theorem dfree_strs : ∀ ws : List Str, dfreeAll (ws.map .str) = true
  | [] => rfl
  | w :: ws => by simp [dfreeAll, dfree, dfree_strs ws]
theorem depth_strs : ∀ ws : List Str, PyData.depthAll (ws.map .str) = 0
  | [] => rfl
  | w :: ws => by simp [PyData.depthAll, PyData.depth, depth_strs ws]
theorem any_strs (x : PyData) : ∀ ws : List Str, ((ws.map PyData.str).any fun z => PyData.eqv z x) = isOf ws x
  | [] => rfl
  | w :: ws => by
    have := any_strs x ws
    simp only [List.map_cons, List.any_cons, isOf] at this ⊢
    rw [this, eqv_strL]
theorem inL_strs {neg : Bool} {x y : PyData} {ws : List Str} (h : itemsD y = some (ws.map .str)) : eInL neg x y = some (.bool (neg ^^ isOf ws x)) := by
  unfold eInL
  rw [h]
  show (if _ then _ else _) = _
  rw [if_pos (by simp [dfree_strs, depth_strs]), any_strs]
theorem in_tup {neg : Bool} (ws : List Str) (x : PyData) : eIn neg x (.tuple (ws.map .str)) = some (.bool (neg ^^ isOf ws x)) := by
  have e : eIn neg x (.tuple (ws.map .str)) = eInL neg x (.tuple (ws.map .str)) := by cases x <;> rfl
  rw [e, inL_strs rfl]
theorem in_lst {neg : Bool} (ws : List Str) (x : PyData) : eIn neg x (.list (ws.map .str)) = some (.bool (neg ^^ isOf ws x)) := by
  have e : eIn neg x (.list (ws.map .str)) = eInL neg x (.list (ws.map .str)) := by cases x <;> rfl
  rw [e, inL_strs rfl]
theorem in_sg {neg : Bool} (c : Nat) (z : Str) : eIn neg (sg c) (.str z) = some (.bool (neg ^^ decide (c ∈ Ls z))) := by
  show some (PyData.bool (neg ^^ !(Builtin.Str.occurrences z ⟨#[c]⟩ 0 z.length 1).isEmpty)) = _
  rw [StrLaws.found_one]
  rfl
def oneIn (K : List Nat) (w : Str) : Bool := match Ls w with
  | [c] => decide (c ∈ K)
  | _ => false
theorem one_eq {w : Str} {c : Nat} : w = (⟨#[c]⟩ : Str) ↔ Ls w = [c] := ⟨fun h => by subst h; rfl, fun h => str_inj (by rw [h]; rfl)⟩
theorem oneIn_true {K : List Nat} {w : Str} : oneIn K w = true ↔ ∃ c, w = ⟨#[c]⟩ ∧ c ∈ K := by
  unfold oneIn
  constructor
  · intro h
    split at h
    · rename_i c e; exact ⟨c, one_eq.mpr e, of_decide_eq_true h⟩
    · cases h
  · rintro ⟨c, e, h⟩
    rw [one_eq] at e
    rw [e]
    simpa using h
theorem isOf_one (K : List Nat) (w : Str) : isOf (K.map fun c => (⟨#[c]⟩ : Str)) (.str w) = oneIn K w := by
  rw [Bool.eq_iff_iff, oneIn_true]
  simp [isOf, isS]
  constructor
  · rintro ⟨c, h, e⟩; exact ⟨c, e, h⟩
  · rintro ⟨c, e, h⟩; exact ⟨c, h, e⟩
theorem map_sg (K : List Nat) : K.map sg = (K.map fun c => (⟨#[c]⟩ : Str)).map .str := by simp
theorem in_chs {neg : Bool} (K : List Nat) (w : Str) : eIn neg (.str w) (.list (K.map sg)) = some (.bool (neg ^^ oneIn K w)) := by
  rw [map_sg, in_lst, isOf_one]
theorem oneIn_sg (K : List Nat) (c : Nat) : oneIn K ⟨#[c]⟩ = decide (c ∈ K) := rfl
theorem len_str {z : Str} (h : (Ls z).length ≤ 1000) : eLen (.str z) = some (.int (Ls z).length) := by
  show (if z.length ≤ sizeLine then some (PyData.int z.length) else none) = _
  rw [len_Ls, if_pos (by rw [sizeLine_eq]; omega)]
theorem tru_str {z : Str} (h : (Ls z).length ≤ 1000) : eTru (.str z) = some (!(Ls z).isEmpty) := by
  show (if z.length ≤ sizeLine then some ((z.length : Int) != 0) else none) = _
  rw [len_Ls, if_pos (by rw [sizeLine_eq]; omega)]
  cases Ls z with
  | nil => rfl
  | cons c r => simp; omega
theorem strsOf_map : ∀ ws : List Str, strsOf (ws.map .str) = some ws
  | [] => rfl
  | w :: ws => by simp [strsOf, strsOf_map ws]
theorem joinL_ones : ∀ l : List Nat, TL.joinL [] (l.map fun c => [c]) = l
  | [] => rfl
  | [c] => rfl
  | c :: d :: r => by
    have := joinL_ones (d :: r)
    simp only [List.map_cons] at this ⊢
    show [c] ++ ([] ++ TL.joinL [] ([d] :: r.map fun c => [c])) = _
    rw [this]
    rfl
theorem sum_ones : ∀ l : List Nat, ((l.map fun c => (⟨#[c]⟩ : Str)).map (·.length)).sum = l.length
  | [] => rfl
  | c :: l => by
    have := sum_ones l
    simp only [List.map_cons, List.sum_cons, List.length_cons, this]
    show 1 + l.length = _
    omega
theorem join_sg {l : List Nat} (h : l.length ≤ 1000) : eJoin "" (.list (l.map sg)) = some (.str (tx l)) := by
  rw [map_sg]
  show ((strsOf (List.map PyData.str _)).bind _) = _
  rw [strsOf_map]
  have e0 : (Str.ofString "").length = 0 := rfl
  have e : Txt.join "" (l.map fun c => (⟨#[c]⟩ : Str)) = tx l := by
    refine str_inj ?_
    rw [TL.join_eq]
    show TL.tl _ = _
    rw [TL.tl_join, Ls_tx]
    have : (l.map fun c => (⟨#[c]⟩ : Str)).map TL.tl = l.map fun c => [c] := by simp [TL.tl]
    rw [this]
    exact joinL_ones l
  show (if _ then _ else _) = _
  rw [if_pos (by rw [sum_ones, e0]; omega), e]
theorem bools_map {α : Type} (f : α → Bool) : ∀ xs : List α, boolsOf (xs.map fun x => .bool (f x)) = some (xs.map f)
  | [] => rfl
  | x :: xs => by simp [boolsOf, bools_map f xs]
theorem all_map {α : Type} (f : α → Bool) (xs : List α) : eAll (.list (xs.map fun x => .bool (f x))) = some (.bool (xs.all f)) := by
  show (boolsOf _).map _ = _
  rw [bools_map]
  simp
theorem snoc_ind {α : Type} {P : List α → Prop} (h0 : P []) (h1 : ∀ l k, P l → P (l ++ [k])) (l : List α) : P l := by
  have : ∀ r : List α, P r.reverse := fun r => by
    induction r with
    | nil => exact h0
    | cons x r ih => rw [List.reverse_cons]; exact h1 _ _ ih
  have := this l.reverse
  rwa [List.reverse_reverse] at this
theorem mem_distA {κ : Type} [DecidableEq κ] (l : List κ) : ∀ x : κ, x ∈ dist l ↔ x ∈ l := by
  induction l using snoc_ind with
  | h0 => simp [dist]
  | h1 l k ih =>
    intro x
    rw [dist_snoc]
    unfold dstep
    split
    · rename_i h
      rw [ih] at h
      rw [ih]
      simp
      intro e
      subst e
      exact h
    · simp [ih]
theorem mem_dist {κ : Type} [DecidableEq κ] {x : κ} (l : List κ) : x ∈ dist l ↔ x ∈ l := mem_distA l x
theorem dist_nodup {κ : Type} [DecidableEq κ] (l : List κ) : (dist l).length = l.length ↔ l.Nodup := by
  induction l using snoc_ind with
  | h0 => simp [dist]
  | h1 l k ih =>
    rw [dist_snoc]
    have h1 := dist_len l
    unfold dstep
    split
    · rename_i h
      rw [mem_dist] at h
      rw [List.length_append]
      constructor
      · intro e; simp at e; omega
      · intro nd
        rw [List.nodup_append] at nd
        exact absurd rfl (nd.2.2 k h k (by simp))
    · rename_i h
      rw [mem_dist] at h
      rw [List.length_append, List.length_append]
      constructor
      · intro e
        have := ih.mp (by simpa using e)
        rw [List.nodup_append]
        exact ⟨this, by simp, fun a ha b hb => by simp at hb; subst hb; intro e; subst e; exact h ha⟩
      · intro nd
        rw [List.nodup_append] at nd
        have := ih.mpr nd.1
        simp [this]
theorem ofStr_eq (z : Str) : ofStr z = (Ls z).map fun c => (Sum.inr (⟨#[c]⟩ : Str) : Key) := rfl
theorem nodup_ofStr (z : Str) : (ofStr z).Nodup ↔ (Ls z).Nodup := by
  rw [ofStr_eq]
  show List.Pairwise _ _ ↔ List.Pairwise _ _
  rw [List.pairwise_map]
  simp
theorem lenSet_str {z : Str} (h : (Ls z).length ≤ 1000) : eLenSet (.str z) = some (.int (dist (ofStr z)).length) := by
  show (if (ofStr z).length + 1 < scanBound then _ else _) = _
  rw [if_pos (by rw [ofStr_eq, List.length_map]; show _ < 4096; omega)]
/-- len(set(z)) == len(z) -/
theorem nodup_eq (z : Str) : eEq (.int (dist (ofStr z)).length) (.int (Ls z).length) = some (.bool (decide (Ls z).Nodup)) := by
  show some (PyData.bool (((dist (ofStr z)).length : Int) == ((Ls z).length : Int))) = _
  refine congrArg (fun b => some (PyData.bool b)) ?_
  rw [Bool.eq_iff_iff]
  simp
  rw [← nodup_ofStr, ← dist_nodup (ofStr z), ofStr_eq, List.length_map]
  omega
theorem one_lt {a b : Nat} : sLt (⟨#[a]⟩ : Str) ⟨#[b]⟩ ↔ a < b := by
  show [a] < [b] ↔ _
  rw [List.cons_lt_cons_iff]
  simp
theorem asc_of : ∀ {l : List Str}, l.Pairwise sLt → asc l = l
  | [], _ => rfl
  | x :: r, h => by
    obtain ⟨h1, h2⟩ := List.pairwise_cons.mp h
    show insS x (asc r) = _
    rw [asc_of h2]
    cases r with
    | nil => rfl
    | cons y r =>
      have hl := h1 y List.mem_cons_self
      unfold insS
      rw [if_neg (fun e => sLt_irrefl y (by rw [e] at hl; exact hl)), if_pos hl]
theorem asc_ones (l : List Nat) : (l.map fun c => (⟨#[c]⟩ : Str)) = asc (l.map fun c => (⟨#[c]⟩ : Str)) ↔ l.Pairwise (· < ·) := by
  have e : (l.map fun c => (⟨#[c]⟩ : Str)).Pairwise sLt ↔ l.Pairwise (· < ·) := by
    rw [List.pairwise_map]
    exact ⟨fun h => h.imp fun {a b} q => one_lt.mp q, fun h => h.imp fun {a b} q => one_lt.mpr q⟩
  rw [← e]
  exact ⟨fun h => by rw [h]; exact asc_asc _, fun h => (asc_of h).symm⟩
theorem eqv_strs : ∀ as bs : List Str, PyData.eqvAll (as.map .str) (bs.map .str) = decide (as = bs)
  | [], [] => rfl
  | [], _ :: _ => rfl
  | _ :: _, [] => rfl
  | a :: as, b :: bs => by
    simp only [List.map_cons, PyData.eqvAll, PyData.eqv, eqv_strs as bs, beq_dec]
    rw [Bool.eq_iff_iff]
    simp
theorem eq_strs (as bs : List Str) : eEq (.list (as.map .str)) (.list (bs.map .str)) = some (.bool (decide (as = bs))) := by
  unfold eEq
  rw [if_pos (by simp [dfree, dfree_strs, PyData.depth, depth_strs])]
  simp only [PyData.eqv, eqv_strs]
/-- list(z) == sorted(set(z)) -/
theorem sorted_eq (z : Str) : eEq (.list ((Ls z).map sg)) (.list ((asc ((Ls z).map fun c => (⟨#[c]⟩ : Str))).map .str)) = some (.bool (decide ((Ls z).Pairwise (· < ·)))) := by
  rw [map_sg, eq_strs]
  refine congrArg (fun b => some (PyData.bool b)) ?_
  rw [Bool.eq_iff_iff]
  simp [asc_ones]
def isT0 : PyData → Bool
  | .tuple [] => true
  | _ => false
theorem eq_tup0 (x : PyData) : eEq x (.tuple []) = some (.bool (isT0 x)) := by
  unfold eEq
  rw [if_pos (by simp [dfree, dfreeAll, PyData.depth, PyData.depthAll]; try omega)]
  cases x with
  | tuple xs => cases xs <;> simp [PyData.eqv, PyData.eqvAll, isT0]
  | _ => simp [PyData.eqv, isT0]
theorem canLay_strs : ∀ {ws : List Str}, (∀ w ∈ ws, PyData.strOk w = true) → PyData.canLayAll0 (ws.map .str) = true
  | [], _ => rfl
  | w :: ws, h => by simp [PyData.canLayAll0, PyData.canLay0, h w List.mem_cons_self, canLay_strs fun v hv => h v (List.mem_cons_of_mem _ hv)]
theorem ok_ones {l : List Nat} (h : ∀ c ∈ l, c < 0x110000) : ∀ w ∈ l.map fun c => (⟨#[c]⟩ : Str), PyData.strOk w = true := fun w hw => by
  obtain ⟨c, hc, e⟩ := List.mem_map.mp hw
  subst e
  simp [PyData.strOk]
  exact h c hc
theorem ne_nilL {l : List Nat} (h : ∀ c ∈ l, c < 0x110000) : eNe (.list (l.map sg)) (.list []) = some (.bool (!l.isEmpty)) := by
  unfold eNe
  have s1 : SeqAt.shaped (.list (l.map sg)) = true := by
    have a := canLay_strs (ok_ones h)
    have b := depth_strs (l.map fun c => (⟨#[c]⟩ : Str))
    rw [← map_sg] at a b
    simp only [SeqAt.shaped, PyData.canLay0, PyData.depth, a, b]
    rfl
  rw [if_pos (by rw [s1]; rfl)]
  cases l <;> simp [PyData.eqv, PyData.eqvAll]
theorem cut_to (l : List Nat) (k : Nat) (h : k ≤ l.length) : cutS (tx l) none (some (k : Int)) = tx (l.take k) := by
  unfold cutS
  have e : (tx l).length = l.length := by simp [tx, Str.length]
  rw [HT.sIx_none, HT.sIx_nat, e, Nat.min_eq_left h]
  simp [tx]
theorem cut_from (l : List Nat) (k : Nat) (h : k ≤ l.length) : cutS (tx l) (some (k : Int)) none = tx (l.drop k) := by
  unfold cutS
  have e : (tx l).length = l.length := by simp [tx, Str.length]
  rw [HT.sIx_none, HT.sIx_nat, e, Nat.min_eq_left h]
  simp only [tx, List.toList_toArray]
  rw [List.take_of_length_le (by rw [List.length_drop]; exact Nat.le_refl _)]
theorem cutD_to (l : List PyData) (k : Nat) : cutD l none (some (k : Int)) = l.take k := by
  unfold cutD
  rw [HT.sIx_none, HT.sIx_nat]
  by_cases h : k ≤ l.length
  · rw [Nat.min_eq_left h]; simp
  · rw [Nat.min_eq_right (by omega)]
    simp
    rw [List.take_of_length_le (by omega)]
theorem cutD_from (l : List PyData) (k : Nat) : cutD l (some (k : Int)) none = l.drop k := by
  unfold cutD
  rw [HT.sIx_none, HT.sIx_nat]
  by_cases h : k ≤ l.length
  · rw [Nat.min_eq_left h, List.take_of_length_le (by rw [List.length_drop]; exact Nat.le_refl _)]
  · rw [Nat.min_eq_right (by omega)]
    simp
    omega
end Pu
namespace Pu
open PySem PySem.Spec PyProof.Rows L2 SeqAt PuS
theorem eq_int (i j : Int) : eEq (.int i) (.int j) = some (.bool (decide (i = j))) := by
  have : (i == j) = decide (i = j) := by rw [Bool.eq_iff_iff]; simp
  show some (PyData.bool (i == j)) = _
  rw [this]
theorem ne_int (i j : Int) : eNe (.int i) (.int j) = some (.bool (!decide (i = j))) := by
  have : (i == j) = decide (i = j) := by rw [Bool.eq_iff_iff]; simp
  show some (PyData.bool (!(i == j))) = _
  rw [this]
def okS (z : Str) : Prop := (Ls z).length ≤ 1000 ∧ ∀ c ∈ Ls z, c < 0x110000
mutual
def okR : PyData → Prop
  | .str z => okS z
  | .list xs => okRs xs
  | .tuple xs => okRs xs
  | _ => True
def okRs : List PyData → Prop
  | [] => True
  | x :: xs => okR x ∧ okRs xs
end
theorem okRs_mem : ∀ {xs : List PyData} {x : PyData}, okRs xs → x ∈ xs → okR x
  | [], _, _, h => by simp at h
  | y :: ys, x, ⟨h1, h2⟩, h => (List.mem_cons.mp h).elim (fun e => e ▸ h1) fun h => okRs_mem h2 h
theorem okRs_of : ∀ {xs : List PyData}, (∀ x ∈ xs, okR x) → okRs xs
  | [], _ => trivial
  | x :: xs, h => ⟨h x List.mem_cons_self, okRs_of fun y hy => h y (List.mem_cons_of_mem _ hy)⟩
theorem okS_sub {z y : Str} (h : okS z) (s : (Ls y).length ≤ (Ls z).length) (m : ∀ c ∈ Ls y, c ∈ Ls z) : okS y := ⟨Nat.le_trans s h.1, fun c hc => h.2 c (m c hc)⟩
def isCol (K : List Nat) : PyData → Bool
  | .str w => oneIn K w
  | _ => false
def isPl : PyData → Bool
  | .int _ => true
  | _ => false
def isOrd (K l : List Nat) : Bool := l.all (fun c => decide (c ∈ K)) && decide l.Nodup
def isSet (K l : List Nat) : Bool := l.all (fun c => decide (c ∈ K)) && decide (l.Pairwise (· < ·))
def ordB (K : List Nat) : PyData → Bool
  | .str z => isOrd K (Ls z)
  | _ => false
def setB (K : List Nat) : PyData → Bool
  | .str z => isSet K (Ls z)
  | _ => false
theorem nodup_len : ∀ {l K : List Nat}, l.Nodup → (∀ c ∈ l, c ∈ K) → l.length ≤ K.length
  | [], _, _, _ => Nat.zero_le _
  | c :: r, K, nd, h => by
    obtain ⟨h1, h2⟩ := List.nodup_cons.mp nd
    have hc := h c List.mem_cons_self
    have ih := nodup_len (l := r) (K := K.erase c) h2 fun d hd => by
      have ne : d ≠ c := fun e => h1 (e ▸ hd)
      exact (List.mem_erase_of_ne ne).mpr (h d (List.mem_cons_of_mem _ hd))
    rw [List.length_erase_of_mem hc] at ih
    have : 0 < K.length := List.length_pos_of_mem hc
    simp only [List.length_cons]
    omega
theorem asc_nodup {l : List Nat} (h : l.Pairwise (· < ·)) : l.Nodup := h.imp fun {a b} q => Nat.ne_of_lt q
theorem isOrd_len {K l : List Nat} (h : isOrd K l = true) : l.length ≤ K.length := by
  unfold isOrd at h
  simp at h
  exact nodup_len h.2 h.1
theorem isSet_len {K l : List Nat} (h : isSet K l = true) : l.length ≤ K.length := by
  unfold isSet at h
  simp at h
  exact nodup_len (asc_nodup h.2) h.1
theorem filter_asc {K l : List Nat} (hK : K.Pairwise (· < ·)) : l = K.filter (fun c => decide (c ∈ l)) ↔ isSet K l = true := by
  constructor
  · intro e
    have h1 : l.Pairwise (· < ·) := by rw [e]; exact hK.sublist List.filter_sublist
    have h2 : ∀ c ∈ l, c ∈ K := fun c hc => by rw [e] at hc; exact (List.mem_filter.mp hc).1
    unfold isSet
    simp
    exact ⟨h2, h1⟩
  · intro h
    unfold isSet at h
    simp at h
    obtain ⟨h1, h2⟩ := h
    have h3 : (K.filter fun c => decide (c ∈ l)).Pairwise (· < ·) := hK.sublist List.filter_sublist
    have mem : ∀ c, c ∈ l ↔ c ∈ K.filter fun c => decide (c ∈ l) := fun c => by
      rw [List.mem_filter]
      simp
      exact h1 c
    exact asc_ext h2 h3 mem
where
  asc_ext : ∀ {a b : List Nat}, a.Pairwise (· < ·) → b.Pairwise (· < ·) → (∀ c, c ∈ a ↔ c ∈ b) → a = b
    | [], [], _, _, _ => rfl
    | [], y :: b, _, _, h => by have := (h y).mpr List.mem_cons_self; simp at this
    | x :: a, [], _, _, h => by have := (h x).mp List.mem_cons_self; simp at this
    | x :: a, y :: b, ha, hb, h => by
      obtain ⟨a1, a2⟩ := List.pairwise_cons.mp ha
      obtain ⟨b1, b2⟩ := List.pairwise_cons.mp hb
      have e : x = y := by
        rcases List.mem_cons.mp ((h x).mp List.mem_cons_self) with e | m
        · exact e
        · rcases List.mem_cons.mp ((h y).mpr List.mem_cons_self) with e | m2
          · exact e.symm
          · have := b1 x m; have := a1 y m2; omega
      subst e
      rw [asc_ext (a := a) (b := b) a2 b2 fun c => ?_]
      have := h c
      simp only [List.mem_cons] at this
      constructor
      · intro m
        rcases this.mp (.inr m) with e | q
        · subst e; have := a1 c m; omega
        · exact q
      · intro m
        rcases this.mpr (.inr m) with e | q
        · subst e; have := b1 c m; omega
        · exact q
end Pu
namespace Pu
open PySem PySem.Spec PyProof.Rows L2 SeqAt PuS
theorem ix_t0 (a : PyData) (r : List PyData) : eIx (.tuple (a :: r)) (.int 0) = some a := atI_nat (j := 0) (xs := a :: r) rfl
theorem ix_t1 (a b : PyData) (r : List PyData) : eIx (.tuple (a :: b :: r)) (.int 1) = some b := atI_nat (j := 1) (xs := a :: b :: r) rfl
theorem ix_t2 (a b c : PyData) (r : List PyData) : eIx (.tuple (a :: b :: c :: r)) (.int 2) = some c := atI_nat (j := 2) (xs := a :: b :: c :: r) rfl
end Pu
namespace Pu
open PySem PySem.Spec PyProof.Rows L2 SeqAt PuS
theorem add_str {s t : Str} (h : (Ls s).length + (Ls t).length ≤ 100000) : eAdd (.str s) (.str t) = some (.str (tx (Ls s ++ Ls t))) := by
  show (if s.length + t.length ≤ sizeLine then some (PyData.str (s ++ t)) else none) = _
  rw [if_pos (by rw [len_Ls, len_Ls, sizeLine_eq]; omega)]
  have : s ++ t = tx (Ls s ++ Ls t) := str_inj (by rw [Ls_tx]; exact TL.tl_append s t)
  rw [this]
theorem sl_to {l : List Nat} {k : Nat} (h : l.length ≤ 1000) (hk : k ≤ l.length) : eSl none (some (k : Int)) (.str (tx l)) = some (.str (tx (l.take k))) := by
  show (if (tx l).length ≤ sizeLine then some (PyData.str (cutS (tx l) none (some (k : Int)))) else none) = _
  rw [if_pos (by rw [len_Ls, Ls_tx, sizeLine_eq]; omega), cut_to l k hk]
theorem sl_from {l : List Nat} {k : Nat} (h : l.length ≤ 1000) (hk : k ≤ l.length) : eSl (some (k : Int)) none (.str (tx l)) = some (.str (tx (l.drop k))) := by
  show (if (tx l).length ≤ sizeLine then some (PyData.str (cutS (tx l) (some (k : Int)) none)) else none) = _
  rw [if_pos (by rw [len_Ls, Ls_tx, sizeLine_eq]; omega), cut_from l k hk]
theorem add_tup {xs ys : List PyData} (h : xs.length + ys.length ≤ 100000) : eAdd (.tuple xs) (.tuple ys) = some (.tuple (xs ++ ys)) := if_pos (by rw [sizeLine_eq]; omega)
theorem add_lst {xs ys : List PyData} (h : xs.length + ys.length ≤ 100000) : eAdd (.list xs) (.list ys) = some (.list (xs ++ ys)) := if_pos (by rw [sizeLine_eq]; omega)
theorem slT_to (xs : List PyData) (k : Nat) : eSl none (some (k : Int)) (.tuple xs) = some (.tuple (xs.take k)) := by
  show some (PyData.tuple (cutD xs none (some (k : Int)))) = _
  rw [cutD_to]
theorem slT_from (xs : List PyData) (k : Nat) : eSl (some (k : Int)) none (.tuple xs) = some (.tuple (xs.drop k)) := by
  show some (PyData.tuple (cutD xs (some (k : Int)) none)) = _
  rw [cutD_from]
theorem mul_def (xs : List PyData) (k : Int) : eMul (.list xs) (.int k) = if -(2 ^ 63) ≤ k ∧ k < 2 ^ 63 ∧ xs.length * k.toNat ≤ sizeLine then some (.list (List.replicate k.toNat xs).flatten) else none := rfl
theorem mul_nat {xs : List PyData} (k : Nat) (h : xs.length * k ≤ 100000) (hk : k ≤ 1000) : eMul (.list xs) (.int (k : Int)) = some (.list (List.replicate k xs).flatten) := by
  have z := sizeLine_eq
  rw [mul_def, if_pos ⟨by omega, by omega, by rw [Int.toNat_natCast]; omega⟩, Int.toNat_natCast]
/-- x * int(test) -/
theorem mul_tst {xs : List PyData} (c : Bool) (h : xs.length ≤ 100000) : eMul (.list xs) (.int (if c then 1 else 0)) = some (.list (if c then xs else [])) := by
  cases c with
  | false =>
    have := mul_nat (xs := xs) 0 (by omega) (by omega)
    exact this
  | true =>
    have := mul_nat (xs := xs) 1 (by omega) (by omega)
    rw [show (List.replicate 1 xs).flatten = xs by simp] at this
    exact this
theorem replL_one (c : Nat) : ∀ l : List Nat, StrLaws.replL [c] [] l = l.filter fun d => decide (d ≠ c)
  | [] => StrLaws.replL_nil
  | d :: r => by
    by_cases e : d = c
    · subst e
      rw [StrLaws.replL_hit (by simp) (by simp)]
      show [] ++ StrLaws.replL [d] [] r = _
      rw [replL_one d r, List.filter_cons]
      simp
    · rw [StrLaws.replL_miss (by simpa using e), replL_one c r, List.filter_cons]
      simp [e]
theorem replace_one (z : Str) (c : Nat) : Txt.replace z ⟨#[c]⟩ Str.empty = tx ((Ls z).filter fun d => decide (d ≠ c)) := by
  refine str_inj ?_
  rw [Ls_tx]
  show (Txt.replace z ⟨#[c]⟩ Str.empty).cps.toList = _
  rw [StrLaws.replace_list (by show 1 ≤ 1; omega)]
  exact replL_one c (Ls z)
end Pu
namespace Pu
open PySem PySem.Spec PyProof.Rows L2 SeqAt PuS
abbrev Rule : Type := List Nat × Nat
def ruD (p : Rule) : PyData := .tuple [.str (tx p.1), sg p.2]
def keD (k : List Nat) : PyData := .str (tx k)
def schD (K : List Nat) (rules : List Rule) (keys : List (List Nat)) : PyData := .tuple [.str (tx K), .tuple (rules.map ruD), .tuple (keys.map keD)]
structure ColsOk (K : List Nat) : Prop where
  asc : K.Pairwise (· < ·)
  few : K.length ≤ 5
  some : K ≠ []
  low : ∀ c ∈ K, c < 128
structure RulesOk (K : List Nat) (rules : List Rule) : Prop where
  one : ∀ p ∈ rules, p.1.Sublist K ∧ p.2 ∈ K ∧ p.2 ∉ p.1
  nodup : rules.Nodup
  few : rules.length ≤ 6
structure KeysOk (K : List Nat) (keys : List (List Nat)) : Prop where
  one : ∀ k ∈ keys, k.Sublist K ∧ k ≠ []
  nodup : keys.Nodup
  few : keys.length ≤ 4
theorem tx_inj {a b : List Nat} (h : tx a = tx b) : a = b := by
  have := congrArg Ls h
  rwa [Ls_tx, Ls_tx] at this
theorem sg_inj {a b : Nat} (h : (⟨#[a]⟩ : Str) = ⟨#[b]⟩) : a = b := by
  have := congrArg Ls h
  have : [a] = [b] := this
  exact List.head_eq_of_cons_eq this
theorem eqv_ru (p q : Rule) : PyData.eqv (ruD p) (ruD q) = decide (p = q) := by
  obtain ⟨a, b⟩ := p
  obtain ⟨c, d⟩ := q
  rw [Bool.eq_iff_iff, decide_eq_true_eq]
  show (decide (tx a = tx c) && (decide ((⟨#[b]⟩ : Str) = ⟨#[d]⟩) && true)) = true ↔ _
  rw [Bool.and_true, Bool.and_eq_true, decide_eq_true_eq, decide_eq_true_eq]
  constructor
  · rintro ⟨h1, h2⟩; rw [tx_inj h1, sg_inj h2]
  · intro h; cases h; exact ⟨rfl, rfl⟩
theorem dfree_ru : ∀ rules : List Rule, dfreeAll (rules.map ruD) = true
  | [] => rfl
  | p :: r => by simp [dfreeAll, dfree, ruD, dfree_ru r]
theorem depth_ru : ∀ rules : List Rule, PyData.depthAll (rules.map ruD) ≤ 1
  | [] => Nat.zero_le _
  | p :: r => by
    have := depth_ru r
    simp only [List.map_cons, PyData.depthAll, ruD, PyData.depth]
    simp
    omega
theorem in_rules {neg : Bool} (p : Rule) (rules : List Rule) : eIn neg (ruD p) (.list (rules.map ruD)) = some (.bool (neg ^^ decide (p ∈ rules))) := by
  show eInL neg (ruD p) (.list (rules.map ruD)) = _
  unfold eInL
  show (if _ then _ else _) = _
  have hd : ((dfreeAll (rules.map ruD) || dfree (ruD p)) && decide (min (PyData.depthAll (rules.map ruD)) (ruD p).depth ≤ 60)) = true := by
    have h1 := depth_ru rules
    have h2 : min (PyData.depthAll (rules.map ruD)) (ruD p).depth ≤ 60 := Nat.le_trans (Nat.min_le_left _ _) (by omega)
    rw [dfree_ru, Bool.true_or, Bool.true_and, decide_eq_true h2]
  rw [if_pos hd]
  refine congrArg (fun b => some (PyData.bool (neg ^^ b))) ?_
  rw [Bool.eq_iff_iff, List.any_eq_true, decide_eq_true_eq]
  constructor
  · rintro ⟨x, hx, e⟩
    obtain ⟨q, hq, rfl⟩ := List.mem_map.mp hx
    rw [eqv_ru, decide_eq_true_eq] at e
    exact e ▸ hq
  · intro h
    exact ⟨ruD p, List.mem_map.mpr ⟨p, h, rfl⟩, by rw [eqv_ru]; simp⟩
theorem in_keys {neg : Bool} (k : List Nat) (keys : List (List Nat)) : eIn neg (.str (tx k)) (.list (keys.map keD)) = some (.bool (neg ^^ decide (k ∈ keys))) := by
  have e : keys.map keD = (keys.map tx).map .str := by simp [keD]
  rw [e, in_lst]
  refine congrArg (fun b => some (PyData.bool (neg ^^ b))) ?_
  rw [Bool.eq_iff_iff, decide_eq_true_eq]
  simp [isOf, isS]
  constructor
  · rintro ⟨q, hq, e⟩; exact tx_inj e ▸ hq
  · intro h; exact ⟨k, h, rfl⟩
theorem ix_nat {xs : List PyData} {k : Nat} (h : k < xs.length) : eIx (.list xs) (.int (k : Int)) = some xs[k] := atI_nat (List.getElem?_eq_getElem h)
/-- a written list of numbers at a drawn place -/
theorem ix_ints {ns : List Int} {k : Nat} (h : k < ns.length) : eIx (.list (ns.map .int)) (.int (k : Int)) = some (.int ns[k]) := by
  rw [ix_nat (by simpa using h)]
  simp
/-- a sign of a text -/
theorem ix_str {l : List Nat} {k : Nat} (h : k < l.length) (hl : l.length ≤ 1000) : eIx (.str (tx l)) (.int (k : Int)) = some (sg l[k]) := by
  show (if (tx l).length ≤ sizeLine then _ else _) = _
  rw [len_Ls, Ls_tx, if_pos (by rw [sizeLine_eq]; omega)]
  have : atI (tx l).cps.toList (k : Int) = some l[k] := by
    show atI (Ls (tx l)) _ = _
    rw [Ls_tx]
    exact atI_nat (List.getElem?_eq_getElem h)
  rw [this]
  rfl
/-- .. the last one -/
theorem ix_last {l : List Nat} (h : l ≠ []) (hl : l.length ≤ 1000) : eIx (.str (tx l)) (.int (-1)) = some (sg (l.getLast h)) := by
  show (if (tx l).length ≤ sizeLine then _ else _) = _
  rw [len_Ls, Ls_tx, if_pos (by rw [sizeLine_eq]; omega)]
  have hp : 0 < l.length := List.length_pos_iff.mpr h
  have : atI (tx l).cps.toList (-1) = some (l.getLast h) := by
    show atI (Ls (tx l)) _ = _
    rw [Ls_tx]
    unfold atI ixN
    rw [if_neg (by decide), if_pos (by omega)]
    have e : ((l.length : Int) + (-1)).toNat = l.length - 1 := by omega
    show l[((-1 : Int) + (l.length : Int)).toNat]? = _
    rw [show ((-1 : Int) + (l.length : Int)).toNat = l.length - 1 by omega, List.getLast_eq_getElem]
    exact List.getElem?_eq_getElem _
  rw [this]
  rfl
end Pu
namespace PuT
open PySem PySem.Spec PyProof.Rows L2
open AutoSeq1 (wpAny_loadPart')
section
variable {prog : Program} {w : World} {A : Around} {E : Value → Shared → Prop} {s : Shared}
theorem code_tuple_str {Q₁ : Value → Shared → Prop} (hh : A.handled = none) (x : Str) (t : Tok) (hn : x.cps.size ≤ sizeLine)
    (h : ∀ (h' : Heap) (tk : Nat) (acc : Array Value), (∀ b o, s.heap.get? b = some o → h'.get? b = some o) → ItemsOf (SignAt x) acc x.cps.size →
      Q₁ (.ref h'.objs.size) { s with heap := h'.push { cls := .type "tuple", data := .seq acc }, toks := tk }) :
    codeAny (model prog w) A (.call (.builtin "tuple.__new__") ⟨[.type "tuple", .str x t], []⟩) (wants Q₁ E) s := by
  refine codeAny_of_tree ?_
  show wpAny _ A.in1 (do checkBuiltinCall "tuple.__new__" ⟨[.type "tuple", .str x t], []⟩; again (.builtin "tuple.__new__" ⟨[.type "tuple", .str x t], []⟩)) _ _ s
  refine wpAny_bind (wpAny_of_eq (F.newCall_tuple_1 _) (wpAny_pure ⟨plainId_quiet F.plain_tuple_new _, codeAny_builtin F.entry_tuple_new ?_⟩))
  rw [Around.under_plainId F.plain_tuple_new _]
  have hsub := sub_tuple_self
  have hinit := init_tuple_lookup
  have hmh := madeHere_tuple
  have hTI : s.TypeIs (.str x t) "str" := rfl
  have hh1 : A.in1.handled = none := hh
  have col : ∀ {Q : List Value → Shared → Prop} {E' : Value → Shared → Prop}, (∀ h' tk acc, (∀ b o, s.heap.get? b = some o → h'.get? b = some o) → ItemsOf (SignAt x) acc x.cps.size → Q acc.toList { s with heap := h', toks := tk }) → wpAny (model prog w) A.in1 (collect (.str x t)) Q E' s := fun {Q E'} hQ =>
    wpAny_collect_str hh1 x t (fun s' acc k1 k2 k3 k4 hi => by
      obtain ⟨h', g', d', tk', os'⟩ := s'
      simp only at k1 k2 k3 k4
      subst k2 k3 k4
      exact hQ h' tk' acc k1 hi) hn
  wp_walk using wpAny_typeOf hTI, col
  intro h' tk acc hk hacc
  show wpAny _ _ (Builtin.Tuple.tupleExact acc.toList.toArray >>= fun v => ret v) _ _ _
  unfold Builtin.Tuple.tupleExact
  refine wpAny_bind (wpAny_newObj_type ?_ (by show acc.toList.toArray.size ≤ sizeLine; simp only [Array.toArray_toList]; rw [hacc.1]; exact hn))
  refine wpAny_pure ?_
  have e : acc.toList.toArray = acc := by simp
  rw [e]
  exact h h' tk acc hk hacc
theorem call_tuple_text {Q : Value → Shared → Prop} (hh : A.handled = none) (x : Str) (t : Tok) (hn : x.cps.size ≤ sizeLine)
    (hQ : ∀ (h' : Heap) (tk : Nat) (acc : Array Value), (∀ b o, s.heap.get? b = some o → h'.get? b = some o) → ItemsOf (SignAt x) acc x.cps.size →
      Q (.ref h'.objs.size) { s with heap := h'.push { cls := .type "tuple", data := .seq acc }, toks := tk }) :
    wpAny (model prog w) A (call (.type "tuple") [.str x t]) Q E s := by
  refine callType_codes (Q₁ := fun obj s₁ => s₁.TypeIs obj "tuple" ∧ Q obj s₁) F.called_tuple (F.typeCall_tuple_1 _) F.entry_object_init
    (code_tuple_str (A := A.in1) hh x t hn fun h' tk acc hk hacc => ⟨⟨_, Heap.get?_push_size _ rfl, rfl⟩, hQ h' tk acc hk hacc⟩) fun obj s₁ h₁ => ?_
  exact ⟨h₁.1, F.args_object_init_2 obj _, object_init_meets F.called_tuple.init.lookup F.called_tuple.made (by decide) prog w A.in1 _ s₁ ⟨h₁.1, rfl, h₁.2⟩⟩
end
end PuT
namespace Pu
open PySem PySem.Spec PyProof.Rows L2 SeqAt PuS PuT
def rTupS : List V → Hp → VK → Prop := fun xs H Q => ∃ z, xs = [.str z] ∧ z.length ≤ sizeLine ∧ NewT H Q (chV z)
theorem call_tupS {X : Cx} (hc : X.calm = true) : CallR X (.type "tuple") rTupS := by
  intro pins s σ H xs us Q I r h
  obtain ⟨z, e, hl, q⟩ := h
  subst e
  obtain ⟨u, eu, rx⟩ := vals1 r
  subst eu
  obtain ⟨t, rfl⟩ := rx
  have lz : (chV z).length = z.cps.size := by simp [chV]
  refine call_tuple_text (I.ok.hd hc) z t hl fun h' tk acc hk hi => ?_
  have vs : Vals (chV z) acc.toList := by
    refine vals_of_at (by rw [lz, Array.length_toList, hi.1]) fun j x u h1 h2 => ?_
    obtain ⟨c, tk, e1, rfl⟩ := hi.2 j u (by rw [← h2, Array.getElem?_toList])
    unfold chV at h1
    rw [List.getElem?_map, Array.getElem?_toList, e1] at h1
    cases h1
    exact ⟨tk, rfl⟩
  have I1 : Inv X pins σ H { s with heap := h', toks := tk } := I.kept hk
  cases acc with
  | mk l => exact ⟨.ref h'.objs.size, _, laidT I1 (its := l) vs (by rw [lz]; exact hl), rfl, newT I1 q⟩
def pTupA : P1
  | .list xs, P => P (.tuple xs)
  | .tuple xs, P => P (.tuple xs)
  | .str z, P => z.length ≤ sizeLine ∧ P (.tuple (chS z))
  | _, _ => False
def rTupA (K : PySem.W.Frag) : List V → Hp → VK → Prop := fun xs H Q => (∃ p ys, xs = [.ref p] ∧ ((SqL K H p ys ∧ NewT H Q ys) ∨ (SqT K H p ys ∧ Q (.ref p) H))) ∨ rTupS xs H Q
theorem call_tupA {X : Cx} (hc : X.calm = true) : CallR X (.type "tuple") (rTupA X.K) := fun pins s σ H xs us Q I r h => h.elim (fun h => call_tupleP pins s σ H xs us Q I r h) fun h => call_tupS hc pins s σ H xs us Q I r h
theorem c_tupA {X : Cx} : Cl1 X.K (rTupA X.K) pTupA := by
  intro pn b F H v x P Q o bv q k
  match x, q with
  | .list xs, q =>
    obtain ⟨a, vs, rfl, h1, r1⟩ := bv.list o
    exact .inl ⟨_, vs, rfl, .inl ⟨SqL.of h1, k.tup o r1 q⟩⟩
  | .tuple xs, q =>
    rcases bv with bv | ⟨_, e, _⟩
    · cases bv with
      | tup h r => exact .inl ⟨_, _, rfl, .inr ⟨Same.tup o.sub h.sq, k _ _ F H o .refl (.tup h r) q⟩⟩
    · cases e
  | .str z, ⟨hl, q⟩ =>
    rw [bv.str]
    exact .inr ⟨z, rfl, hl, k.tup o (rvs_ch z) q⟩
def eTupA : PyData → Option PyData
  | .list xs => some (.tuple xs)
  | .tuple xs => some (.tuple xs)
  | .str z => if z.length ≤ sizeLine then some (.tuple (chS z)) else none
  | _ => none
theorem h1_tupA : H1 pTupA eTupA := fun x P r q k => by
  cases x <;> first | (cases q; exact k) | (obtain ⟨c, e⟩ := ite_some q; subst e; exact ⟨c, k⟩) | cases q
def pMulT : P2
  | .int i, .int j, P => CMul i j ∧ P (.int (i * j))
  | .list xs, .int k, P => -(2 ^ 63) ≤ k ∧ k < 2 ^ 63 ∧ xs.length * k.toNat ≤ sizeLine ∧ P (.list (List.replicate k.toNat xs).flatten)
  | _, _, _ => False
def rMulT (K : PySem.W.Frag) : R2 := fun x y H Q => rMulA x y H Q
theorem opr_mulT {X : Cx} : OpR X (binaryOp .Mult) (rMulT X.K) := opr_mul
theorem o_mulT {K : PySem.W.Frag} : Op2 K (rMulT K) pMulT := by
  intro pn b F H v u x y P Q o bv bu q k
  match x, y, q with
  | .int i, .int j, ⟨c, q⟩ => exact .inl ⟨i, j, bv.int, bu.int, c, k _ _ F H o .refl (.int _) q⟩
  | .list xs, .int n, ⟨z1, z2, z3, q⟩ =>
    obtain ⟨a, vs, rfl, h1, r1⟩ := bv.list o
    exact .inr ⟨a, n, vs, rfl, bu.int, h1, z1, z2, by rw [r1.len]; exact z3, k.lst o (r1.rep _) q⟩
def eMulT : PyData → PyData → Option PyData
  | .tuple _, _ => none
  | x, y => eMul x y
theorem h2_mulT : H2 pMulT eMulT := fun x y P r q k => by
  cases x with
  | tuple xs => cases y with
    | _ => cases q
  | int i => cases y with
    | int j => exact h2_mul (.int i) (.int j) P r q k
    | _ => cases q
  | list xs => cases y with
    | int j => exact h2_mul (.list xs) (.int j) P r q k
    | _ => cases q
  | _ => cases y <;> cases q
abbrev ePow := eI (fun i j => decide (0 ≤ j) && (decide (j ≤ 1000000) && decide (i.natAbs < 2 ^ 64))) fun i j => .int (i ^ j.toNat)
theorem h2_pow : H2 pPow ePow := h2_i fun i j h => by
  obtain ⟨h1, h⟩ := Bool.and_eq_true_iff.mp h
  obtain ⟨h2, h3⟩ := Bool.and_eq_true_iff.mp h
  exact ⟨of_decide_eq_true h1, of_decide_eq_true h2, of_decide_eq_true h3⟩
end Pu
namespace Pu
open PySem PySem.Spec PyProof.Rows L2 SeqAt PuS
theorem mulT_list (xs : List PyData) (k : Int) : eMulT (.list xs) (.int k) = eMul (.list xs) (.int k) := rfl
theorem mulT_tst {xs : List PyData} (c : Bool) (h : xs.length ≤ 100000) : eMulT (.list xs) (.int (if c then 1 else 0)) = some (.list (if c then xs else [])) := by rw [mulT_list, mul_tst c h]
structure Fit (B D : Nat) (d : PyData) : Prop where
  shw : d.showable = true
  leaf : d.leavesShort 60 = true
  ok : okR d
  bulk : d.bulk ≤ B
  deep : d.depth ≤ D
structure FitS (B D : Nat) (xs : List PyData) : Prop where
  shw : PyData.showableAll xs = true
  leaf : PyData.leavesShortAll 60 xs = true
  ok : okRs xs
  bulk : PyData.bulkAll xs ≤ B
  deep : PyData.depthAll xs ≤ D
section
variable {B C D E : Nat} {d : PyData} {xs ys : List PyData}
theorem Fit.le (h : Fit B D d) (hB : B ≤ C) (hD : D ≤ E) : Fit C E d := ⟨h.shw, h.leaf, h.ok, Nat.le_trans h.bulk hB, Nat.le_trans h.deep hD⟩
theorem FitS.le (h : FitS B D xs) (hB : B ≤ C) (hD : D ≤ E) : FitS C E xs := ⟨h.shw, h.leaf, h.ok, Nat.le_trans h.bulk hB, Nat.le_trans h.deep hD⟩
theorem FitS.nil : FitS 0 0 [] := ⟨rfl, rfl, trivial, Nat.le_refl _, Nat.le_refl _⟩
theorem FitS.cons (h : Fit B D d) (hs : FitS C D xs) : FitS (B + 1 + C) D (d :: xs) := by
  refine ⟨?_, ?_, ⟨h.ok, hs.ok⟩, ?_, ?_⟩
  · simp [PyData.showableAll, h.shw, hs.shw]
  · simp [PyData.leavesShortAll, h.leaf, hs.leaf]
  · have := h.bulk; have := hs.bulk; simp only [PyData.bulkAll]; omega
  · have := h.deep; have := hs.deep; simp only [PyData.depthAll]; omega
theorem FitS.uncons (h : FitS B D (d :: xs)) : ∃ B1 B2, Fit B1 D d ∧ FitS B2 D xs ∧ B1 + 1 + B2 ≤ B := by
  have h1 := h.shw; have h2 := h.leaf; have h3 := h.bulk; have h4 := h.deep
  simp [PyData.showableAll] at h1
  simp [PyData.leavesShortAll] at h2
  simp only [PyData.bulkAll] at h3
  simp only [PyData.depthAll] at h4
  exact ⟨d.bulk, PyData.bulkAll xs, ⟨h1.1, h2.1, h.ok.1, Nat.le_refl _, by omega⟩, ⟨h1.2, h2.2, h.ok.2, Nat.le_refl _, by omega⟩, h3⟩
theorem FitS.mem : ∀ {xs : List PyData} {B : Nat}, FitS B D xs → ∀ d ∈ xs, Fit B D d
  | [], _, _, d, h => by cases h
  | x :: xs, B, hs, d, h => by
    obtain ⟨B1, B2, h1, h2, hb⟩ := hs.uncons
    rcases List.mem_cons.mp h with e | h
    · subst e; exact h1.le (by omega) (Nat.le_refl _)
    · exact (h2.mem d h).le (by omega) (Nat.le_refl _)
theorem FitS.len : ∀ {xs : List PyData} {B : Nat}, FitS B D xs → xs.length ≤ B
  | [], _, _ => Nat.zero_le _
  | x :: xs, B, hs => by
    obtain ⟨B1, B2, h1, h2, hb⟩ := hs.uncons
    have := h2.len
    simp only [List.length_cons]
    omega
theorem FitS.append : ∀ {xs : List PyData} {B : Nat}, FitS B D xs → FitS C D ys → FitS (B + C) D (xs ++ ys)
  | [], B, _, h => h.le (by omega) (Nat.le_refl _)
  | x :: xs, B, hs, h => by
    obtain ⟨B1, B2, h1, h2, hb⟩ := hs.uncons
    exact (FitS.cons h1 (h2.append h)).le (by omega) (Nat.le_refl _)
theorem FitS.sub : ∀ {ys xs : List PyData} {B : Nat}, FitS B D ys → xs.Sublist ys → FitS B D xs
  | _, _, B, hs, .slnil => hs.le (by omega) (Nat.le_refl _)
  | y :: ys, xs, B, hs, .cons _ s => by
    obtain ⟨B1, B2, h1, h2, hb⟩ := hs.uncons
    exact (h2.sub s).le (by omega) (Nat.le_refl _)
  | y :: ys, _ :: xs, B, hs, .cons₂ _ s => by
    obtain ⟨B1, B2, h1, h2, hb⟩ := hs.uncons
    exact (FitS.cons h1 (h2.sub s)).le (by omega) (Nat.le_refl _)
theorem FitS.take (h : FitS B D xs) (n : Nat) : FitS B D (xs.take n) := h.sub (List.take_sublist n xs)
theorem FitS.drop (h : FitS B D xs) (n : Nat) : FitS B D (xs.drop n) := h.sub (List.drop_sublist n xs)
theorem FitS.rep (h : FitS B D xs) : ∀ n, FitS (n * B) D (List.replicate n xs).flatten
  | 0 => FitS.nil.le (by omega) (Nat.zero_le _)
  | n + 1 => by
    rw [List.replicate_succ, List.flatten_cons]
    exact (h.append (h.rep n)).le (by rw [Nat.add_mul]; omega) (Nat.le_refl _)
theorem Fit.tup (h : FitS B D xs) : Fit B (D + 1) (.tuple xs) := ⟨by simp [PyData.showable, h.shw], by simp [PyData.leavesShort, h.leaf], h.ok, by have := h.bulk; simpa [PyData.bulk] using this, by have := h.deep; simpa [PyData.depth] using this⟩
theorem Fit.lst (h : FitS B D xs) : Fit B (D + 1) (.list xs) := ⟨by simp [PyData.showable, h.shw], by simp [PyData.leavesShort, h.leaf], h.ok, by have := h.bulk; simpa [PyData.bulk] using this, by have := h.deep; simpa [PyData.depth] using this⟩
theorem Fit.str {z : Str} (h : (Ls z).length ≤ 100) (h2 : ∀ c ∈ Ls z, c < 128) : Fit 100 0 (.str z) := by
  refine ⟨by simp [PyData.showable], ?_, ⟨by omega, fun c hc => by have := h2 c hc; omega⟩, ?_, by simp [PyData.depth]⟩
  · simp only [PyData.leavesShort, List.all_eq_true, decide_eq_true_eq]
    intro c hc
    have := h2 c hc
    omega
  · simp only [PyData.bulk]
    show z.cps.size ≤ 100
    have : z.cps.size = (Ls z).length := by simp [Ls]
    omega
theorem Fit.non : Fit 0 0 .none := ⟨rfl, rfl, trivial, Nat.le_refl _, Nat.le_refl _⟩
theorem Fit.bl (b : Bool) : Fit 0 0 (.bool b) := ⟨rfl, rfl, trivial, Nat.le_refl _, Nat.le_refl _⟩
theorem Fit.dct : Fit 0 1 (.dict []) := ⟨rfl, rfl, trivial, Nat.le_refl _, by simp [PyData.depth, PyData.depthKv]⟩
theorem lg_lt {n k : Nat} (h : n < 10 ^ 55) (hk : 183 ≤ k) : n.log2 < k := by
  by_cases e : n = 0
  · rw [e, show Nat.log2 0 = 0 from by decide]; omega
  · rw [Nat.log2_lt e]
    exact Nat.lt_of_lt_of_le (Nat.lt_trans h (show 10 ^ 55 < 2 ^ 183 by decide)) (Nat.pow_le_pow_right (by decide) hk)
theorem Fit.int {i : Int} (h : i.natAbs < 10 ^ 55) : Fit 0 0 (.int i) := by
  have hl : (toString i).length ≤ 55 + 1 := int_text_length_le10 (by decide) h
  have hg : i.natAbs.log2 < 1920 := lg_lt h (by decide)
  refine ⟨by simp [PyData.showable, hg], ?_, trivial, Nat.le_refl _, Nat.le_refl _⟩
  simp only [PyData.leavesShort, decide_eq_true_eq]
  show (Str.ofString (toString i)).length ≤ 60
  rw [Str.ofString_eq_toList]
  have : (toString i).toList.length = (toString i).length := by first | exact String.length_toList | rfl
  show ((toString i).toList.map Char.toNat).toArray.size ≤ 60
  rw [List.size_toArray, List.length_map]
  omega
end
end Pu
namespace Pu
open PySem PySem.Spec PyProof.Rows L2 SeqAt PuS
def pNe2 : P2 := fun x y P => pNe x y P ∨ ∃ s t, x = .str s ∧ y = .str t ∧ P (.bool (!decide (s = t)))
def rNe2 (K : PySem.W.Frag) : R2 := fun x y H Q => rNeD K x y H Q ∨ rNe x y H Q
theorem opr_ne2 {X : Cx} (hu : X.A.units + 64 < cLine) : OpR X (compareOp .NotEq) (rNe2 X.K) := OpR.or (op_neD (by omega)) op_ne
theorem o_ne2 {K : PySem.W.Frag} : Op2 K (rNe2 K) pNe2 := by
  intro pn b F H v u x y P Q o bv bu q k
  rcases q with q | ⟨s, t, rfl, rfl, q⟩
  · exact .inl (o_ne pn b F H v u x y P Q o bv bu q k)
  · refine .inr ?_
    rw [bv.str, bu.str]
    refine ⟨rfl, ?_⟩
    have e : (decide (V.str s = V.str t)) = decide (s = t) := by rw [Bool.eq_iff_iff]; simp
    rw [e]
    exact k _ _ F H o .refl (.bl _) q
def eNe2 : PyData → PyData → Option PyData
  | .str s, .str t => some (.bool (!decide (s = t)))
  | x, y => eNe x y
theorem h2_ne2 : H2 pNe2 eNe2 := fun x y P r q k => by
  cases x with
  | str s => cases y with
    | str t => cases q; exact .inr ⟨s, t, rfl, rfl, k⟩
    | _ => exact .inl (h2_ne _ _ P r q k)
  | _ => exact .inl (h2_ne _ y P r (by cases y <;> exact q) k)
theorem ne2_str (s t : Str) : eNe2 (.str s) (.str t) = some (.bool (!decide (s = t))) := rfl
theorem ne2_int (i j : Int) : eNe2 (.int i) (.int j) = some (.bool (!decide (i = j))) := ne_int i j
theorem ne2_nilL {l : List Nat} (h : ∀ c ∈ l, c < 0x110000) : eNe2 (.list (l.map sg)) (.list []) = some (.bool (!l.isEmpty)) := ne_nilL h
theorem FitS.all {B D : Nat} : ∀ {xs : List PyData}, (∀ x ∈ xs, Fit B D x) → FitS ((B + 1) * xs.length) D xs
  | [], _ => FitS.nil.le (Nat.zero_le _) (Nat.zero_le _)
  | x :: xs, h => (FitS.cons (h x List.mem_cons_self) (FitS.all fun y hy => h y (List.mem_cons_of_mem _ hy))).le (by rw [List.length_cons, Nat.mul_add]; omega) (Nat.le_refl _)
end Pu
namespace Pu
open PySem PySem.Spec PyProof.Rows L2 SeqAt PuS
abbrev Ent := List Key × Addr × Value
structure DRaw (P : Program) (w : World) (a : Addr) (xs : List Ent) (h : Heap) : Prop where
  out : (a == sysModules) = false
  ex : ∃ (o : Obj) (es : Array DictEntry) (ep : Nat), h.get? a = some o ∧ o.ExactDict ∧ o.data = .dict es ep ∧ es.toList = xs.map (entryOfKey (tupleKind (mixKind P w))) ∧ (xs.map (·.1)).Nodup
def DOwn (P : Program) (w : World) (a : Addr) (xs : List Ent) : HO := .ext (DRaw P w a xs)
end Pu
namespace Pu
open PySem PySem.Spec PyProof.Rows L2 SeqAt PuS
def SeenE (K : PySem.W.Frag) (F : Hp) (xs : List Ent) (s : List Int → Option (List Int)) : Prop :=
  ∀ ns : List Int, (atKey xs (ns.map Sum.inl) = none ∧ s ns = none) ∨ ∃ b c u, atKey xs (ns.map Sum.inl) = some (b, .ref c) ∧ s ns = some u ∧ RV K F (.ref c) (tI u)
theorem inl_inj {a b : List Int} (h : (a.map Sum.inl : List Key) = b.map Sum.inl) : a = b := by
  induction a generalizing b with
  | nil => cases b with
    | nil => rfl
    | cons => simp at h
  | cons x r ih => cases b with
    | nil => simp at h
    | cons y t =>
      simp only [List.map_cons, List.cons.injEq, Sum.inl.injEq] at h
      rw [h.1, ih h.2]
theorem SeenE.mono {K : PySem.W.Frag} {F G : Hp} {xs : List Ent} {s : List Int → Option (List Int)} (h : SeenE K F xs s) (e : Same F G) : SeenE K G xs s := fun ns =>
  (h ns).imp id fun ⟨b, c, u, h1, h2, r⟩ => ⟨b, c, u, h1, h2, r.mono e⟩
theorem atKey_snoc {xs : List Ent} {k j : List Key} {p : Addr × Value} (h : atKey xs k = none) : atKey (xs ++ [(k, p)]) j = if j = k then some p else atKey xs j := by
  unfold atKey at h ⊢
  rw [List.find?_append]
  by_cases e : j = k
  · subst e
    rw [if_pos rfl]
    rw [Option.map_eq_none_iff.mp h]
    simp
  · rw [if_neg e]
    have : ([(k, p)] : List Ent).find? (fun x => decide (x.1 = j)) = none := by simp [List.find?_cons, Ne.symm e]
    rw [this]
    simp
theorem SeenE.put {K : PySem.W.Frag} {F : Hp} {xs : List Ent} {s : List Int → Option (List Int)} (h : SeenE K F xs s) {g w : List Int} {b c : Addr} (n : atKey xs (g.map Sum.inl) = none) (r : RV K F (.ref c) (tI w)) :
    SeenE K F (xs ++ [(g.map Sum.inl, b, .ref c)]) (fun x => if x = g then some w else s x) := fun ns => by
  rw [atKey_snoc n]
  by_cases e : ns = g
  · subst e
    exact .inr ⟨b, c, w, if_pos rfl, if_pos rfl, r⟩
  · have e1 : ¬ (ns.map Sum.inl : List Key) = g.map Sum.inl := fun q => e (inl_inj q)
    rw [if_neg e1]
    rcases h ns with ⟨h1, h2⟩ | ⟨b', c', u, h1, h2, h3⟩
    · exact .inl ⟨h1, (if_neg e).trans h2⟩
    · exact .inr ⟨b', c', u, h1, (if_neg e).trans h2, h3⟩
section
variable {K : PySem.W.Frag} {pn : Pn} {b : Nat} {F0 H0 F H : Hp} {σ : L2.St} {env : En} {j : Nat} {a : Addr} {P : Program} {w : World} {xs ys : List Ent}
theorem PenIs.apart (k : PenIs pn b F H) (h : H a = some (DOwn P w a xs)) : NotPen pn a ∧ NotCa pn a := by
  match pn, k with
  | none, _ => exact ⟨fun _ z => (nomatch z), fun _ z => (nomatch z)⟩
  | some q, ⟨_, _, _, tb, cells, at_, cur, h1, h2, _⟩ =>
    refine ⟨fun p e => ?_, fun p e z => ?_⟩
    · cases e
      refine ⟨fun z => (by rw [z, h1] at h; exact (nomatch h)), fun t ht z => ?_⟩
      obtain ⟨_, ps, hps, _⟩ := tb t ht
      rw [z, hps] at h; exact nomatch h
    · cases e; rw [z, h2] at h; exact nomatch h
end
end Pu
namespace PuT
open PySem PySem.Spec PyProof.Rows L2
end PuT
namespace Pu
open PySem PySem.Spec PyProof.Rows L2 SeqAt PuT
end Pu
namespace Pu
open PySem PySem.Spec PyProof.Rows L2 SeqAt PuS
end Pu
namespace Pu
open PySem PySem.Spec PyProof.Rows L2 SeqAt PuS
section
variable {ta : WE} {tt : WT} {ti : WI} {env : En} {n : Nat} {Q : PyData → Nat → Prop} {QL : List PyData → Nat → Prop} {g : Tg} {own : List Nat} {α : Type}
theorem m_lcM (zs : List α) (dz y : α → PyData) (h : ME ti env n fun xs m => xs = zs.map dz ∧ zs.length < sizeLine ∧
      (∀ z ∈ zs, ∃ e', setT g (dz z) (wipeE env own) = some e' ∧ ∀ m, ME ta e' m fun d m1 => d = y z ∧ m1 = m) ∧ QL (zs.map y) m) : ME (fLc ti g wYes ta own) env n QL :=
  m_lc (h.imp fun xs m ⟨ex, l, each, q⟩ => ⟨by rw [ex, List.length_map]; exact l, fun rest acc m1 => m1 = m ∧ ∃ pre post, zs = pre ++ post ∧ rest = post.map dz ∧ acc = pre.map y, ⟨rfl, [], zs, rfl, ex, rfl⟩, fun x rest acc m1 ⟨em, pre, post, e1, e2, e3⟩ => by
    subst em
    cases post with
    | nil => cases e2
    | cons z post =>
    rw [List.map_cons] at e2
    obtain ⟨rfl, rfl⟩ := List.cons.inj e2
    obtain ⟨e', h1, h3⟩ := each z (by rw [e1]; simp)
    refine ⟨e', h1, m_yes ⟨fun _ => (h3 m1).imp fun d m3 ⟨ed, em⟩ => ?_, fun h => Bool.noConfusion h⟩⟩
    subst ed em
    exact ⟨rfl, pre ++ [z], post, by rw [e1]; simp, rfl, by rw [e3]; simp⟩, fun acc m1 ⟨em, pre, post, e1, e2, e3⟩ => by
    subst em
    have e0 : post = [] := by cases post with | nil => rfl | cons c r => cases e2
    subst e0
    rw [List.append_nil] at e1
    subst e1
    rw [e3]
    exact q⟩)
theorem m_lcK (zs : List α) (dz y : α → PyData) (c : α → Bool) (h : ME ti env n fun xs m => xs = zs.map dz ∧ zs.length < sizeLine ∧
      (∀ z ∈ zs, ∃ e', setT g (dz z) (wipeE env own) = some e' ∧ (∀ m, ME tt e' m fun k m1 => k = c z ∧ m1 = m) ∧ ∀ m, ME ta e' m fun d m1 => d = y z ∧ m1 = m) ∧ QL ((zs.filter c).map y) m) : ME (fLc ti g tt ta own) env n QL :=
  m_lc (h.imp fun xs m ⟨ex, l, each, q⟩ => ⟨by rw [ex, List.length_map]; exact l, fun rest acc m1 => m1 = m ∧ ∃ pre post, zs = pre ++ post ∧ rest = post.map dz ∧ acc = (pre.filter c).map y, ⟨rfl, [], zs, rfl, ex, rfl⟩, fun x rest acc m1 ⟨em, pre, post, e1, e2, e3⟩ => by
    subst em
    cases post with
    | nil => cases e2
    | cons z post =>
    rw [List.map_cons] at e2
    obtain ⟨rfl, rfl⟩ := List.cons.inj e2
    obtain ⟨e', h1, h2, h3⟩ := each z (by rw [e1]; simp)
    refine ⟨e', h1, (h2 m1).imp fun k m2 ⟨ek, em⟩ => ?_⟩
    subst ek em
    refine ⟨fun ck => (h3 m2).imp fun d m3 ⟨ed, em⟩ => ?_, fun ck => ?_⟩
    · subst ed em
      exact ⟨rfl, pre ++ [z], post, by rw [e1]; simp, rfl, by rw [e3, List.filter_append, List.map_append]; simp [ck]⟩
    · exact ⟨rfl, pre ++ [z], post, by rw [e1]; simp, rfl, by rw [e3, List.filter_append, List.map_append]; simp [ck]⟩, fun acc m1 ⟨em, pre, post, e1, e2, e3⟩ => by
    subst em
    have e0 : post = [] := by cases post with | nil => rfl | cons c r => cases e2
    subst e0
    rw [List.append_nil] at e1
    subst e1
    rw [e3]
    exact q⟩)
end
end Pu
namespace Pu
section
variable {K : List Nat} {rules : List (List Nat × Nat)} {keys : List (List Nat)} {X f g : List Nat}
/-- all of the part are found -/
def inB (part found : List Nat) : Bool := part.all fun c => decide (c ∈ found)
theorem inB_iff {part found : List Nat} : inB part found = true ↔ ∀ c ∈ part, c ∈ found := by simp [inB]
structure Closed (K : List Nat) (rules : List (List Nat × Nat)) (keys : List (List Nat)) (S : Nat → Prop) : Prop where
  rule : ∀ p ∈ rules, (∀ c ∈ p.1, S c) → S p.2
  key : ∀ k ∈ keys, (∀ c ∈ k, S c) → ∀ c ∈ K, S c
/-- between the columns and each closed set that holds them -/
structure Btw (K : List Nat) (rules : List (List Nat × Nat)) (keys : List (List Nat)) (X f : List Nat) : Prop where
  low : ∀ c ∈ X, c ∈ f
  high : ∀ S, Closed K rules keys S → (∀ c ∈ X, S c) → ∀ c ∈ f, S c
/-- a round of the package's -/
def rnd (K : List Nat) (rules : List (List Nat × Nat)) (keys : List (List Nat)) (f : List Nat) : List Nat :=
  if keys.any (fun k => inB k f) = true then K else K.filter fun c => decide (c ∈ f ++ (rules.filter fun p => inB p.1 f).map (·.2))
def rnds (K : List Nat) (rules : List (List Nat × Nat)) (keys : List (List Nat)) : Nat → List Nat → List Nat
  | 0, f => f
  | n + 1, f => rnds K rules keys n (rnd K rules keys f)
theorem rnd_btw (hr : ∀ p ∈ rules, p.2 ∈ K) (hf : ∀ c ∈ f, c ∈ K) (h : Btw K rules keys X f) : Btw K rules keys X (rnd K rules keys f) := by
  unfold rnd
  by_cases a : keys.any (fun k => inB k f) = true
  · rw [if_pos a]
    obtain ⟨k, hk, hi⟩ := List.any_eq_true.mp a
    exact ⟨fun c hc => hf c (h.low c hc), fun S cl hX c hc => cl.key k hk (fun d hd => h.high S cl hX d (inB_iff.mp hi d hd)) c hc⟩
  · rw [if_neg a]
    refine ⟨fun c hc => List.mem_filter.mpr ⟨hf c (h.low c hc), by simp [h.low c hc]⟩, fun S cl hX c hc => ?_⟩
    have := of_decide_eq_true (List.mem_filter.mp hc).2
    rcases List.mem_append.mp this with hc | hc
    · exact h.high S cl hX c hc
    · obtain ⟨p, hp, rfl⟩ := List.mem_map.mp hc
      obtain ⟨hp, hi⟩ := List.mem_filter.mp hp
      exact cl.rule p hp fun d hd => h.high S cl hX d (inB_iff.mp hi d hd)
theorem rnd_in : ∀ c ∈ rnd K rules keys f, c ∈ K := fun c hc => by
  unfold rnd at hc
  split at hc
  · exact hc
  · exact (List.mem_filter.mp hc).1
theorem rnd_sub (f : List Nat) : (rnd K rules keys f).Sublist K := by
  unfold rnd
  split
  · exact List.Sublist.refl _
  · exact List.filter_sublist
theorem sub_filter : ∀ {K f : List Nat}, K.Nodup → f.Sublist K → K.filter (fun c => decide (c ∈ f)) = f
  | [], f, _, h => by rw [List.sublist_nil.mp h]; rfl
  | k :: K, f, nd, h => by
    obtain ⟨h1, h2⟩ := List.nodup_cons.mp nd
    cases h with
    | cons _ h =>
      have : k ∉ f := fun q => h1 (h.subset q)
      rw [List.filter_cons_of_neg (by simpa using this)]
      exact sub_filter h2 h
    | @cons_cons f _ _ h =>
      rw [List.filter_cons_of_pos (by simp)]
      have e : K.filter (fun c => decide (c ∈ k :: f)) = K.filter (fun c => decide (c ∈ f)) := List.filter_congr fun c hc => by
        have : c ≠ k := fun e => h1 (e ▸ hc)
        simp [this]
      rw [e, sub_filter h2 h]
theorem rnd_grow (nd : K.Nodup) (h : f.Sublist K) : f.Sublist (rnd K rules keys f) := by
  unfold rnd
  split
  · exact h
  · have e := sub_filter nd h
    have : (K.filter fun c => decide (c ∈ f)).Sublist (K.filter fun c => decide (c ∈ f ++ (rules.filter fun p => inB p.1 f).map (·.2))) := by
      have e2 : (K.filter fun c => decide (c ∈ f)) = (K.filter fun c => decide (c ∈ f ++ (rules.filter fun p => inB p.1 f).map (·.2))).filter fun c => decide (c ∈ f) := by
        rw [List.filter_filter]
        refine List.filter_congr fun c _ => ?_
        by_cases q : c ∈ f <;> simp [q]
      rw [e2]
      exact List.filter_sublist
    rw [e] at this
    exact this
theorem fix_closed (hr : ∀ p ∈ rules, p.2 ∈ K) (e : rnd K rules keys f = f) : Closed K rules keys (· ∈ f) := by
  constructor
  · intro p hp hc
    rw [← e]
    unfold rnd
    split
    · exact hr p hp
    · refine List.mem_filter.mpr ⟨hr p hp, decide_eq_true ?_⟩
      exact List.mem_append_right _ (List.mem_map.mpr ⟨p, List.mem_filter.mpr ⟨hp, inB_iff.mpr hc⟩, rfl⟩)
  · intro k hk hc c hK
    have a : keys.any (fun k => inB k f) = true := List.any_eq_true.mpr ⟨k, hk, inB_iff.mpr hc⟩
    rw [← e]
    unfold rnd
    rw [if_pos a]
    exact hK
theorem rnds_fix (e : rnd K rules keys f = f) : ∀ n, rnds K rules keys n f = f
  | 0 => rfl
  | n + 1 => by
    show rnds K rules keys n (rnd K rules keys f) = f
    rw [e]
    exact rnds_fix e n
theorem rnds_end (nd : K.Nodup) : ∀ (n : Nat) (f : List Nat), f.Sublist K → K.length ≤ f.length + n → rnd K rules keys (rnds K rules keys n f) = rnds K rules keys n f
  | 0, f, h, hn => by
    have e : f = K := h.eq_of_length (Nat.le_antisymm h.length_le hn)
    subst e
    show rnd f rules keys f = f
    exact (rnd_sub f).eq_of_length (Nat.le_antisymm (rnd_sub f).length_le (rnd_grow nd h).length_le)
  | n + 1, f, h, hn => by
    by_cases e : rnd K rules keys f = f
    · rw [rnds_fix e (n + 1)]
      exact e
    · have g1 := rnd_grow (rules := rules) (keys := keys) nd h
      have : f.length ≠ (rnd K rules keys f).length := fun q => e (g1.eq_of_length q).symm
      have := g1.length_le
      exact rnds_end nd n _ (rnd_sub f) (by omega)
theorem rnds_btw (hr : ∀ p ∈ rules, p.2 ∈ K) : ∀ (n : Nat) (f : List Nat), (∀ c ∈ f, c ∈ K) → Btw K rules keys X f → Btw K rules keys X (rnds K rules keys n f)
  | 0, _, _, h => h
  | n + 1, f, hf, h => rnds_btw hr n _ rnd_in (rnd_btw hr hf h)
theorem rnds_sub : ∀ (n : Nat) (f : List Nat), f.Sublist K → (rnds K rules keys n f).Sublist K
  | 0, _, h => h
  | n + 1, f, _ => rnds_sub n _ (rnd_sub f)
/-- the closure -/
def clos (K : List Nat) (rules : List (List Nat × Nat)) (keys : List (List Nat)) (X : List Nat) : List Nat := rnds K rules keys K.length X
theorem clos_spec (nd : K.Nodup) (hr : ∀ p ∈ rules, p.2 ∈ K) (h : X.Sublist K) : Btw K rules keys X (clos K rules keys X) ∧ Closed K rules keys (· ∈ clos K rules keys X) ∧ (clos K rules keys X).Sublist K :=
  ⟨rnds_btw hr _ _ (fun c hc => h.subset hc) ⟨fun c hc => hc, fun S _ hX c hc => hX c hc⟩, fix_closed hr (rnds_end nd _ _ h (by omega)), rnds_sub _ _ h⟩
end
end Pu
namespace Pu
open PySem PySem.Spec PyProof.Rows L2 SeqAt PuS
end Pu
namespace Pu
open PySem PySem.Spec PyProof.Rows L2 SeqAt PuS
def pStarts : PS2
  | a, .str c, P => P (.bool (Txt.startswith a c))
  | _, _, _ => False
theorem m_starts {K : PySem.W.Frag} : MsR K (fun x xs H Q => ∃ a b, x = .str a ∧ xs = [.str b] ∧ Q (.bl (Txt.startswith a b)) H) pStarts := by
  intro pn b F H a u y P Q o bu q k
  match y, q with
  | .str c, q => exact ⟨a, c, rfl, by rw [bu.str], k _ _ F H o .refl (.bl _) q⟩
section
variable {X : Cx} {o e : Expr} {ta tb : WE} {apos pos : Pos}
theorem e_startswith (ho : EB X o ta) (he : EB X e tb) (hs : starEach [e] X.env = [(false, eval e X.env)] := by rfl) (hbase : attributeBase o "startswith" X.env (eval o X.env) = eval o X.env := by rfl) (hline : (apos.endLine == pos.line) = true := by rfl) :
    EE X (.Call (.Attribute o "startswith" apos) [e] [] pos) (wMS pStarts ta tb) := PE.imp (pe_m1 F.slot_str_startswith F.type_str_startswith mt_startswith ho he hs hbase hline) fun σ H Q h => ms_run m_starts h
end
def eStarts : Str → PyData → Option PyData
  | a, .str c => some (.bool (Txt.startswith a c))
  | _, _ => none
theorem hm_starts : HM pStarts eStarts := fun a y P r q k => by
  cases y with
  | str c => cases q; exact k
  | _ => cases q
end Pu
namespace PuT
open PySem PySem.Spec PyProof.Rows L2 PuS Pu
section
variable {P : Program} {w : World} {A : Around} {E : Value → Shared → Prop} {s : Shared}
abbrev TKy (P : Program) (w : World) (h : Heap) (k : List Key) (a : Addr) : Prop := IsTupleKey (mixKind P w) h k a
abbrev hsh (P : Program) (w : World) (k : List Key) : Int := tupleKeyHash (mixKind P w) k
/-- an int or a text -/
def Sm (v : Value) : Prop := (∃ i t, v = .int i t) ∨ ∃ z t, v = .str z t
theorem items_sm {k : List Key} {vs : List Value} (h : ItemsAre (mixKind P w) k vs) : ∀ u ∈ vs, Sm u := by
  induction h with
  | nil => exact fun u hu => absurd hu List.not_mem_nil
  | cons h1 _ ih =>
    refine fun u hu => (List.mem_cons.mp hu).elim (fun e => ?_) (ih u)
    subst e
    rcases keyIs_shape h1 with ⟨i, t, _, q⟩ | ⟨z, t, _, q⟩
    · exact .inl ⟨i, t, q⟩
    · exact .inr ⟨z, t, q⟩
theorem cls_sm {u : Value} (h : Sm u) (n : Nat) : ofAClassStatement n u = pure false := by
  rcases h with ⟨i, t, rfl⟩ | ⟨z, t, rfl⟩ <;> cases n <;> rfl
theorem hbv_sm {u : Value} (h : Sm u) (n : Nat) : hashByValue n u = pure (plainKind u) := hashByValue_scannable n (by rcases h with ⟨i, t, rfl⟩ | ⟨z, t, rfl⟩ <;> rfl)
theorem cls_tky {k : List Key} {b : Addr} {Q : Bool → Shared → Prop} (x : TKy P w s.heap k b) (q : Q false s) : wpAny (model P w) A (ofAClassStatement 8 (.ref b)) Q E s := by
  have ty := x.typeIs
  obtain ⟨o, its, n, e1, e2, e3, e4⟩ := x
  have sm := items_sm e4
  unfold ofAClassStatement
  refine wpAny_bind (wpAny_typeOf ty ?_)
  dsimp only
  simp only [show (("tuple" : String) == "tuple") = true from by decide, if_true, Bool.not_true, Bool.false_eq_true, if_false]
  try refine wpAny_bind (wpAny_pure ?_)
  try simp only [Bool.not_true, Bool.false_eq_true, if_false]
  refine wpAny_bind (m := seqItems? (.ref b)) (wpAny_seqItems e1 e3 ?_)
  dsimp only
  refine wpAny_bind ?_
  show wpAny (model P w) A (forIn its _ _) _ _ _
  rw [← Array.forIn_toList]
  refine wpAny_forIn_list _ (fun todo acc s2 => (s2 = s ∧ acc.1 = none) ∧ ∀ u ∈ todo, Sm u) _ (fun u todo acc s2 z => ?_) (fun acc s2 z => ?_) _ _ ⟨⟨rfl, rfl⟩, sm⟩
  · obtain ⟨⟨rfl, _⟩, each⟩ := z
    rw [cls_sm (each u List.mem_cons_self)]
    refine wpAny_bind (wpAny_pure ?_)
    simp only [Bool.false_eq_true, if_false]
    exact wpAny_pure ⟨⟨rfl, rfl⟩, fun y hy => each y (List.mem_cons_of_mem _ hy)⟩
  · obtain ⟨a1, a2⟩ := acc
    obtain ⟨⟨rfl, z1⟩, _⟩ := z
    cases z1
    exact wpAny_pure q
theorem hbv_tky {k : List Key} {b : Addr} {Q : Bool → Shared → Prop} (x : TKy P w s.heap k b) (q : ∀ r, Q r s) : wpAny (model P w) A (hashByValue 8 (.ref b)) Q E s := by
  have ty := x.typeIs
  obtain ⟨o, its, n, e1, e2, e3, e4⟩ := x
  have sm := items_sm e4
  unfold hashByValue
  refine wpAny_bind (wpAny_specialOf ty F.slot_tuple_hash.lookup ?_)
  refine wpAny_bind (m := seqItems? (.ref b)) (wpAny_seqItems e1 e3 ?_)
  refine wpAny_bind ?_
  show wpAny (model P w) A (forIn its _ _) _ _ _
  rw [← Array.forIn_toList]
  refine wpAny_forIn_list _ (fun todo acc s2 => (s2 = s ∧ acc.1 = none) ∧ ∀ u ∈ todo, Sm u) _ (fun u todo acc s2 z => ?_) (fun acc s2 z => ?_) _ _ ⟨⟨rfl, rfl⟩, sm⟩
  · obtain ⟨⟨rfl, _⟩, each⟩ := z
    rw [hbv_sm (each u List.mem_cons_self)]
    refine wpAny_bind (wpAny_pure ?_)
    cases plainKind u with
    | true =>
      simp only [Bool.not_true, Bool.false_eq_true, if_false]
      exact wpAny_pure ⟨⟨rfl, rfl⟩, fun y hy => each y (List.mem_cons_of_mem _ hy)⟩
    | false =>
      simp only [Bool.not_false, if_true]
      exact wpAny_pure (wpAny_pure (q false))
  · obtain ⟨a1, a2⟩ := acc
    obtain ⟨⟨rfl, z1⟩, _⟩ := z
    cases z1
    exact wpAny_pure (q true)
theorem byv {α : Type} {k : List Key} {b : Addr} {k2 : Bool → Sem α} {Q : α → Shared → Prop} (fl : Bool) (x : TKy P w s.heap k b) (q : ∀ r, wpAny (model P w) A (k2 r) Q E s) :
    wpAny (model P w) A (if fl = true then hashByValue 8 (.ref b) >>= k2 else pure true >>= k2) Q E s := by
  cases fl with
  | true => exact wpAny_bind (hbv_tky x q)
  | false => exact wpAny_bind (wpAny_pure (q true))
theorem _root_.L2.TabOk.same {t t2 : SetTable} {hs : List Int} (T : TabOk t hs) (e1 : t2.place = t.place) (e2 : t2.dummies = t.dummies) (e3 : t2.mask = t.mask) : TabOk t2 hs :=
  ⟨by rw [e1]; exact T.ris, e2.trans T.dm, by rw [e1]; exact T.sz, by rw [e3]; exact T.mok, by rw [e1, e3]; exact T.bd, by rw [e1, e3]; exact T.reach⟩
/-- nobody sees a search among tuples -/
theorem unseen {k : List Key} {b : Addr} {Q : Bool → Shared → Prop} (x : TKy P w s.heap k b) {us : List Value} (hu : ∀ u ∈ us, ∃ k2 c, TKy P w s.heap k2 c ∧ u = .ref c) (q : Q false s) : wpAny (model P w) A (searchCouldBeSeen (.ref b) us) Q E s := by
  unfold searchCouldBeSeen
  refine wpAny_bind (wpAny_forIn_list _ (fun todo acc s2 => (s2 = s ∧ acc.1 = none) ∧ ∀ u ∈ todo, ∃ k2 c, TKy P w s.heap k2 c ∧ u = .ref c) _ (fun u todo acc s2 z => ?_) (fun acc s2 z => ?_) _ _ ⟨⟨rfl, rfl⟩, hu⟩)
  · obtain ⟨⟨rfl, _⟩, each⟩ := z
    obtain ⟨k2, c, y, rfl⟩ := each u List.mem_cons_self
    have next : ∀ u ∈ todo, ∃ k2 c, TKy P w s2.heap k2 c ∧ u = .ref c := fun y hy => each y (List.mem_cons_of_mem _ hy)
    dsimp only
    rcases Bool.eq_false_or_eq_true (b == c || (carriedByValue (.ref b) && carriedByValue (.ref c))) with g | g
    · exact wp_if_pos g (wpAny_pure ⟨⟨rfl, rfl⟩, next⟩)
    · refine wp_if_neg (by rw [g]; exact Bool.false_ne_true) (wpAny_bind (wpAny_eqIsQuiet_tuple x ?_))
      simp only [Bool.not_true, Bool.false_eq_true, if_false]
      refine wpAny_bind (wpAny_eqIsQuiet_tuple y ?_)
      simp only [Bool.not_true, Bool.false_eq_true, if_false]
      refine wpAny_bind (cls_tky x ?_)
      simp only [Bool.false_eq_true, if_false]
      refine wpAny_bind (cls_tky y ?_)
      simp only [Bool.false_eq_true, if_false]
      exact wpAny_pure ⟨⟨rfl, rfl⟩, next⟩
  · obtain ⟨a1, a2⟩ := acc
    obtain ⟨⟨rfl, z1⟩, _⟩ := z
    cases z1
    exact wpAny_pure q
def rowOf (P : Program) (w : World) (q : Addr × List Key) : Int × Value := (hsh P w q.2, .ref q.1)
/-- the set at b: its members m (where, what), row for row -/
structure Lies (P : Program) (w : World) (h : Heap) (b : Addr) (m : List (Addr × List Key)) (rows : Array (Int × Value)) (e : Nat) (t : SetTable) : Prop where
  obj : ∃ o, h.get? b = some o ∧ o.ExactSet ∧ o.data = .set rows e t
  eqs : rows.toList = m.map (rowOf P w)
  good : TabOk t (m.map fun q => hsh P w q.2)
  once : (m.map (·.2)).Nodup
  each : ∀ q ∈ m, TKy P w h q.2 q.1
  ledg : w.params.followText "set-order" = true ∨ t.led = true
  air : m.length * 5 < t.mask * 3
  most : m.length < 64
variable {b : Addr} {m : List (Addr × List Key)} {rows : Array (Int × Value)} {e : Nat} {t : SetTable}
theorem eqs_len (h : rows.toList = m.map (rowOf P w)) : rows.size = m.length := by
  rw [← Array.length_toList, h, List.length_map]
theorem fit_of (sz : t.place.size = rows.size) (dm : t.dummies = #[]) (le : rows.size ≤ t.mask) : t.fits rows.size = true := by
  unfold SetTable.fits SetTable.fill
  rw [dm]
  simp only [Bool.and_eq_true, beq_iff_eq, decide_eq_true_eq, List.size_toArray, List.length_nil]
  exact ⟨sz, by omega⟩
theorem Lies.place (R : Lies P w s.heap b m rows e t) : t.place.size = m.length := R.good.sz.trans (List.length_map _)
theorem Lies.fit (R : Lies P w s.heap b m rows e t) : t.fits rows.size = true := fit_of (R.place.trans (eqs_len R.eqs).symm) R.good.dm (by have := eqs_len R.eqs; have := R.air; omega)
theorem row_at (h : rows.toList = m.map (rowOf P w)) {i : Nat} {q : Addr × List Key} (hi : m[i]? = some q) : rows[i]? = some (rowOf P w q) := by
  rw [← Array.getElem?_toList, h, List.getElem?_map, hi, Option.map_some]
theorem Lies.sound (R : Lies P w s.heap b m rows e t) : ¬ t.gaveWay = true := by
  show ¬ (t.mask % 2 == 0) = true
  rw [mask_odd R.good.mok]
  decide
end
end PuT
namespace PuT
open PySem PySem.Spec PyProof.Rows L2 PuS Pu
section
variable {P : Program} {w : World} {A : Around} {E : Value → Shared → Prop} {s : Shared} {b : Addr} {m : List (Addr × List Key)} {rows : Array (Int × Value)} {e : Nat} {t : SetTable}
theorem nth_plain (mk : Nat) : ∀ (n : Nat) (p : SetTable.Probe), p.dummy = none → (nth mk p n).dummy = none
  | 0, _, h => h
  | n + 1, p, h => nth_plain mk n (adv mk p) (by unfold adv; split <;> exact h)
/-- the search, as adding asks for it: the tuple is there, or the first free slot on its way -/
theorem look (R : Lies P w s.heap b m rows e t) {x : Addr} {k : List Key} (hx : TKy P w s.heap k x) (hu : A.units < cLine) {Q : SetFound → Shared → Prop} (inn : k ∈ m.map (·.2) → Q (.there none) s)
    (out : ∀ K, k ∉ m.map (·.2) → way t.mask (hsh P w k) K ∉ t.place.toList → (∀ c, c < K → way t.mask (hsh P w k) c ∈ t.place.toList) → Q (.free (way t.mask (hsh P w k) K) false) s) :
    wpAny (model P w) A (setSearch b (.ref x) (hsh P w k) true) Q E s := by
  have air := R.air
  obtain ⟨K, lim, nK, occ⟩ := R.good.first (by rw [List.length_map]; omega) (hsh P w k)
  have out := fun z => out K z nK occ
  have small : 10 * SetTable.turns t.mask ≤ 99000 := by
    unfold SetTable.turns
    rcases R.good.mok with z | z | z <;> omega
  have siz := R.place
  -- where a member of this key stands: on the way, ahead of K
  have ahead : ∀ (i : Nat) (q : Addr × List Key), m[i]? = some q → q.2 = k → ∃ c, c < K ∧ t.place.toList[i]? = some (way t.mask (hsh P w k) c) := fun i q hq hk => by
    have il : i < t.place.toList.length := by
      rw [Array.length_toList, siz]
      exact (List.getElem?_eq_some_iff.mp hq).1
    obtain ⟨c, c1, c2⟩ := R.good.before (i := i) nK (by rw [List.getElem?_map, hq, ← hk]; rfl) (List.getElem?_eq_getElem il)
    exact ⟨c, c1, by rw [c2]; exact List.getElem?_eq_getElem il⟩
  obtain ⟨o, ho, hex, hd⟩ := R.obj
  suffices walk : ∀ (f c : Nat) (at_ : Option SetTable.Probe), at_.getD (t.probeStart (hsh P w k)) = nth t.mask (t.probeStart (hsh P w k)) c → c ≤ K → K - c < f →
      (∀ (i : Nat) (q : Addr × List Key), m[i]? = some q → q.2 = k → ∃ c2, c ≤ c2 ∧ c2 < K ∧ t.place.toList[i]? = some (way t.mask (hsh P w k) c2)) →
      wpAny (model P w) A (setSearchFrom b (.ref x) (hsh P w k) true f at_) Q E s by
    unfold setSearch
    exact walk 100000 0 none rfl (Nat.zero_le K) (by omega) fun i q hq hk => let ⟨c, c1, c2⟩ := ahead i q hq hk; ⟨c, Nat.zero_le c, c1, c2⟩
  intro f
  induction f with
  | zero => exact fun c _ _ _ z => absurd z (Nat.not_lt_zero _)
  | succ f ih =>
    intro c at_ ea le lt on
    rw [setSearchFrom_succ]
    refine wpAny_bind (wpAny_setState_of ho hd R.fit ?_)
    dsimp only
    refine wp_if_neg R.sound ?_
    try refine wpAny_bind (wpAny_pure ?_)
    have wj : ∀ n, (nth t.mask (t.probeStart (hsh P w k)) n).j = way t.mask (hsh P w k) n := fun _ => rfl
    have hv : ∀ (i : Nat) (q : Addr × List Key), m[i]? = some q → (rows[i]?.map (·.1)).getD 0 = hsh P w q.2 := fun i q hq => by
      rw [row_at R.eqs hq]
      rfl
    have sp := go_spec t R.good.ris R.good.dm (fun i => (rows[i]?.map (·.1)).getD 0) (hsh P w k) (10 * SetTable.turns t.mask) (K - c) (nth t.mask (t.probeStart (hsh P w k)) c) (nth_plain _ _ _ rfl) (by omega)
      (fun n hn => by rw [← nth_add, wj]; exact occ _ (by omega)) (by rw [← nth_add, wj, show c + (K - c) = K by omega]; exact nK)
    simp only [← nth_add, wj] at sp
    rcases sp with ⟨n, i, s1, s2, s3, s4, s5⟩ | ⟨s4, s5⟩
    · have pr : t.probe (fun i => (rows[i]?.map (·.1)).getD 0) (hsh P w k) (at_.getD (t.probeStart (hsh P w k))) = _ := (congrArg (t.probe _ _) ea).trans s5
      rw [pr]
      dsimp only
      have il : i < m.length := by
        rw [← siz, ← Array.length_toList]
        exact (List.getElem?_eq_some_iff.mp s2).1
      obtain ⟨q, hq⟩ : ∃ q, m[i]? = some q := ⟨_, List.getElem?_eq_getElem il⟩
      have qm := List.mem_of_getElem? hq
      have slot := slot_live R.good.ris s2
      have tail : wpAny (model P w) A (searchRest b (.ref x) (hsh P w k) true f rows t (way t.mask (hsh P w k) (c + n)) i (nth t.mask (t.probeStart (hsh P w k)) (c + (n + 1)))) Q E s := by
        unfold searchRest
        rw [row_at R.eqs hq]
        dsimp only [rowOf]
        refine wpAny_bind (wpAny_holding (wpAny_eqBool_tuple hu (R.each q qm) hx (wpAny_bind (wpAny_setState_of ho hd R.fit ?_))))
        dsimp only
        by_cases same : q.2 = k
        · exact wp_if_pos (by simp [same]) (wpAny_pure (inn (List.mem_map.mpr ⟨q, qm, same⟩)))
        · refine wp_if_neg (by simp [same]) ?_
          try refine wpAny_bind (wpAny_pure ?_)
          rw [sameMem]
          dsimp only
          simp only [if_true, slot, row_at R.eqs hq, rowOf]
          refine wpAny_bind (wpAny_isSame_ref_self (wpAny_bind (wpAny_pure ?_)))
          simp only [if_true]
          refine wp_if_neg (by simp [same]) (ih (c + (n + 1)) _ rfl (by omega) (by omega) fun i2 q2 h2 k2 => ?_)
          obtain ⟨c2, g1, g2, g3⟩ := on i2 q2 h2 k2
          refine ⟨c2, ?_, g2, g3⟩
          rcases Nat.lt_trichotomy c2 (c + n) with z | z | z
          · refine absurd ((hv i2 q2 h2).trans (by rw [k2])) (s4 (c2 - c) i2 (by omega) ?_)
            rw [show c + (c2 - c) = c2 by omega]
            exact g3
          · rw [z] at g3
            have two := (slot_live R.good.ris g3).symm.trans slot
            injection two with two
            rw [two, hq] at h2
            injection h2 with h2
            exact absurd (by rw [h2]; exact k2) same
          · omega
      by_cases hl : t.led = true
      · refine wp_if_neg (by rw [hl]; decide) ?_
        try refine wpAny_bind (wpAny_pure ?_)
        exact tail
      · refine wp_if_pos (by simp [hl]) (wpAny_bind (unseen hx (fun y hy => ?_) (wp_if_neg (by decide) ?_)))
        · obtain ⟨r, hr, rfl⟩ := List.mem_map.mp hy
          have r1 : r ∈ rows.toList := by
            have z : r ∈ rows ∧ r.1 = hsh P w k := by simpa using hr
            exact Array.mem_toList_iff.mpr z.1
          rw [R.eqs] at r1
          obtain ⟨q2, h2, rfl⟩ := List.mem_map.mp r1
          exact ⟨q2.2, q2.1, R.each q2 h2, rfl⟩
        · try refine wpAny_bind (wpAny_pure ?_)
          exact tail
    · have pr : t.probe (fun i => (rows[i]?.map (·.1)).getD 0) (hsh P w k) (at_.getD (t.probeStart (hsh P w k))) = _ := (congrArg (t.probe _ _) ea).trans s5
      rw [pr]
      dsimp only
      have eK : c + (K - c) = K := by omega
      rw [eK]
      refine wpAny_pure (out fun z => ?_)
      obtain ⟨q, qm, qk⟩ := List.mem_map.mp z
      obtain ⟨i, hi⟩ := List.getElem?_of_mem qm
      obtain ⟨c2, g1, g2, g3⟩ := on i q hi qk
      refine absurd ((hv i q hi).trans (by rw [qk])) (s4 (c2 - c) i (by omega) ?_)
      rw [show c + (c2 - c) = c2 by omega]
      exact g3
end
end PuT
namespace PuT
open PySem PySem.Spec PyProof.Rows L2 PuS Pu
section
variable {P : Program} {w : World} {A : Around} {E : Value → Shared → Prop} {s : Shared} {b : Addr} {m : List (Addr × List Key)} {rows : Array (Int × Value)} {e : Nat} {t : SetTable}
theorem tky_but {h h2 : Heap} {k : List Key} {a : Addr} {o : Obj} (x : TKy P w h k a) (ho : h.get? b = some o) (hd : o.data = .set rows e t) (sb : Heap.SameBut b h h2) : TKy P w h2 k a := by
  obtain ⟨o2, its, n, e1, e2, e3, e4⟩ := x
  refine ⟨o2, its, n, (sb.2 a fun z => ?_).trans e1, e2, e3, e4⟩
  rw [z, ho] at e1
  injection e1 with e1
  rw [← e1, hd] at e3
  cases e3
theorem all_range {α : Type} (l : List α) : (List.range l.length).filterMap (fun i => l[i]?) = l := by
  have h : (List.range l.length).map (fun i => l[i]?) = l.map some := by
    refine List.ext_getElem (by simp) fun i h1 h2 => ?_
    simp at h1
    simp [h1]
  have g : (List.range l.length).filterMap (fun i => l[i]?) = ((List.range l.length).map (fun i => l[i]?)).filterMap id := by
    rw [List.filterMap_map]
    rfl
  rw [g, h, List.filterMap_map]
  exact List.filterMap_some
theorem in_order (er : rows.toList = m.map (rowOf P w)) : ∀ l : List Nat, (∀ i ∈ l, i < m.length) →
    l.filterMap (fun i => rows[i]?) = (l.filterMap (fun i => m[i]?)).map (rowOf P w) ∧ (l.filterMap (fun i => m[i]?)).map (fun q => hsh P w q.2) = l.map fun i => (rows.map (·.1)).getD i 0
  | [], _ => ⟨rfl, rfl⟩
  | i :: l, h => by
    obtain ⟨g1, g2⟩ := in_order er l fun j hj => h j (List.mem_cons_of_mem _ hj)
    obtain ⟨q, hq⟩ : ∃ q, m[i]? = some q := ⟨_, List.getElem?_eq_getElem (h i List.mem_cons_self)⟩
    have hr := row_at er hq
    have hg : (rows.map (·.1)).getD i 0 = hsh P w q.2 := by
      rw [Array.getD_eq_getD_getElem?, Array.getElem?_map, hr]
      rfl
    rw [List.filterMap_cons_some hr, List.filterMap_cons_some hq, List.map_cons, List.map_cons, List.map_cons, g1, g2, hg]
    exact ⟨rfl, rfl⟩
theorem laid_anew {o : Obj} (ho : s.heap.get? b = some o) (hex : o.ExactSet) (hd : o.data = .set rows e t) (er : rows.toList = m.map (rowOf P w)) (sz : t.place.size = rows.size) (dm : t.dummies = #[]) (le : rows.size ≤ t.mask)
    (once : (m.map (·.2)).Nodup) (each : ∀ q ∈ m, TKy P w s.heap q.2 q.1) (ledg : w.params.followText "set-order" = true ∨ t.led = true) (most : m.length < 64) {want M : Nat} (ew : SetTable.sizeAbove want - 1 = M) (okM : MaskOk M)
    (cap : SetTable.sizeAbove want ≤ 128) (air : m.length * 5 < M * 3) {Q : Unit → Shared → Prop} (kq : ∀ h2 m2 rows2 e2 t2, Heap.SameBut b s.heap h2 → Lies P w h2 b m2 rows2 e2 t2 → m2.Perm m → Q () { s with heap := h2 }) :
    wpAny (model P w) A (setRelay b want) Q E s := by
  have rl := eqs_len er
  obtain ⟨t2, ord, e1, e2, e3, e4, e5, e6, e7⟩ := relaid_ok t (hs := rows.map (·.1)) (wanted := want) ew okM (by rw [Array.size_map, rl]; omega)
  rw [Array.size_map, rl] at e2
  obtain ⟨g1, g2⟩ := in_order er ord.toList fun i hi => List.mem_range.mp (e2.mem_iff.mp hi)
  have pm : (ord.toList.filterMap (fun i => m[i]?)).Perm m := by
    have := e2.filterMap (fun i => m[i]?)
    rwa [all_range] at this
  have g3 : (ord.filterMap (rows[·]?)).toList = (ord.toList.filterMap (fun i => m[i]?)).map (rowOf P w) := by rw [Array.toList_filterMap]; exact g1
  rw [← g2] at e3
  generalize ord.toList.filterMap (fun i => m[i]?) = m2 at pm g3 e3
  have zz : (ord.filterMap (rows[·]?)).size = rows.size := (eqs_len g3).trans (pm.length_eq.trans rl.symm)
  rw [setRelay_eq]
  refine wpAny_bind (wpAny_setState_of ho hd (fit_of sz dm le) ?_)
  dsimp only
  refine wp_if_neg (by rw [sizeLine_eq]; omega) ?_
  try refine wpAny_bind (wpAny_pure ?_)
  rw [e1]
  dsimp only
  refine wpAny_bind (wp_if_neg (by rw [zz]; simp) ?_)
  try refine wpAny_bind (wpAny_pure ?_)
  refine wpAny_pure ?_
  dsimp only
  have sb := Heap.SameBut.update s.heap b (Obj.putSet (ord.filterMap (rows[·]?)) t2)
  refine wpAny_storeSet_of ho hd (kq _ m2 (ord.filterMap (rows[·]?)) (e + 1) t2 sb ?_ pm) (by rw [zz, rl, sizeLine_eq]; omega)
  exact { obj := ⟨_, store_at ho hd, hex, rfl⟩, eqs := g3, good := e3, once := (pm.map (·.2)).nodup_iff.mpr once, each := fun q hq => tky_but (each q (pm.mem_iff.mp hq)) ho hd sb
          ledg := ledg.imp id fun z => e5.trans z, air := by rw [pm.length_eq, e4]; exact air, most := by rw [pm.length_eq]; exact most }
theorem put_in (R : Lies P w s.heap b m rows e t) {x : Addr} {k : List Key} (hx : TKy P w s.heap k x) (hu : A.units < cLine) (few : m.length + 1 < 64) {Q : Bool → Shared → Prop}
    (kq : ∀ r h2 m2 rows2 e2 t2, Heap.SameBut b s.heap h2 → Lies P w h2 b m2 rows2 e2 t2 → (k ∈ m.map (·.2) → m2 = m) → (k ∉ m.map (·.2) → m2.Perm ((x, k) :: m)) → Q r { s with heap := h2 }) :
    wpAny (model P w) A (setAddHashed b (.ref x) (hsh P w k)) Q E s := by
  obtain ⟨o, ho, hex, hd⟩ := R.obj
  have rl := eqs_len R.eqs
  have air := R.air
  unfold setAddHashed
  refine wpAny_holding ?_
  rw [show (100000 : Nat) = 99999 + 1 from rfl, setAddHashedIn_succ]
  refine wpAny_bind (wpAny_setState_of ho hd R.fit ?_)
  dsimp only
  refine wp_if_neg (by simp [byScan, Value.scannable]) ?_
  try refine wpAny_bind (wpAny_pure ?_)
  refine wpAny_bind (look R hx hu (fun inn => wpAny_pure (kq false s.heap m rows e t (Heap.SameBut.refl b s.heap) R (fun _ => rfl) fun z => absurd inn z)) fun K out nK occ => ?_)
  dsimp only
  refine wpAny_bind (wpAny_setState_of ho hd R.fit ?_)
  dsimp only
  obtain ⟨p1, p2, p3, p4, p5, -, -, -, p9⟩ := R.good.put nK occ
  rw [List.length_map] at p2 p9
  generalize t.put (way t.mask (hsh P w k) K) = tp at p1 p3 p4 p5 p9 ⊢
  obtain ⟨t1, at_⟩ := tp
  dsimp only at p1 p3 p4 p5 p9 ⊢
  rw [← p1] at p2 p3
  clear p1
  refine byv _ hx fun r => ?_
  generalize ht2 : (if r = true then t1 else { t1 with plain := false }) = t2
  have f1 : t2.place = t1.place := by subst ht2; cases r <;> rfl
  have f2 : t2.dummies = t1.dummies := by subst ht2; cases r <;> rfl
  have f3 : t2.mask = t1.mask := by subst ht2; cases r <;> rfl
  have f4 : t2.led = t1.led := by subst ht2; cases r <;> rfl
  replace p3 := p3.same f1 f2 f3
  replace p4 := f3.trans p4
  replace p5 := f4.trans p5
  replace p9 : t2.fill = m.length + 1 := by
    rw [← p9]
    show t2.place.size + t2.dummies.size = t1.place.size + t1.dummies.size
    rw [f1, f2]
  clear ht2 f1 f2 f3 f4
  clear r
  generalize t2 = t1 at p3 p4 p5 p9 ⊢
  have pm := put_perm m at_ (x, k)
  have q1 : (SetTable.insertAt rows at_ (hsh P w k, Value.ref x)).toList = (m.take at_ ++ (x, k) :: m.drop at_).map (rowOf P w) := by
    rw [SetTable.toList_insertAt, R.eqs, List.map_append, List.map_cons, List.map_take, List.map_drop]
    rfl
  have q2 : (m.map fun q => hsh P w q.2).take at_ ++ hsh P w k :: (m.map fun q => hsh P w q.2).drop at_ = (m.take at_ ++ (x, k) :: m.drop at_).map fun q => hsh P w q.2 := by
    rw [List.map_append, List.map_cons, List.map_take, List.map_drop]
  rw [q2] at p3
  generalize m.take at_ ++ (x, k) :: m.drop at_ = m1 at pm q1 p3
  generalize SetTable.insertAt rows at_ (hsh P w k, Value.ref x) = rows1 at q1 ⊢
  have l1 : m1.length = m.length + 1 := pm.length_eq
  have r1 := eqs_len q1
  have sb := Heap.SameBut.update s.heap b (Obj.putSet rows1 t1)
  have ho1 := store_at (es' := rows1) (t' := t1) ho hd
  refine wpAny_bind (wpAny_storeSet_of ho hd ?_ (by rw [r1, l1, sizeLine_eq]; omega))
  generalize s.heap.update b (Obj.putSet rows1 t1) = h1 at sb ho1 ⊢
  have once : (m1.map (·.2)).Nodup := (pm.map (·.2)).nodup_iff.mpr (by rw [List.map_cons]; exact List.nodup_cons.mpr ⟨out, R.once⟩)
  have each : ∀ q ∈ m1, TKy P w h1 q.2 q.1 := fun q hq => (List.mem_cons.mp (pm.mem_iff.mp hq)).elim (fun z => by rw [z]; exact tky_but hx ho hd sb) fun z => tky_but (R.each q z) ho hd sb
  have ledg : w.params.followText "set-order" = true ∨ t1.led = true := R.ledg.imp id fun z => p5.trans z
  have full : t1.tooFull = decide ((m.length + 1) * 5 ≥ t1.mask * 3) := by
    unfold SetTable.tooFull
    rw [p9]
  by_cases tf : t1.tooFull = true
  · first
      | (refine wpAny_bind ?_; refine wp_if_pos (by simp [tf]) ?_)
      | (refine wp_if_pos (by simp [tf]) ?_; refine wpAny_bind ?_)
    have tf2 := tf
    rw [full, decide_eq_true_eq, p4] at tf2
    rw [rl]
    have which : (t.mask = 7 ∧ m.length + 1 = 5) ∨ (t.mask = 31 ∧ m.length + 1 = 19) := by
      rcases R.good.mok with z | z | z <;> rw [z] at air tf2 <;> omega
    have le1 : rows1.size ≤ t1.mask := by
      rw [p4, r1, l1]
      omega
    have sz1 : t1.place.size = rows1.size := by rw [p3.sz, List.length_map, r1]
    have more : ∀ M, SetTable.sizeAbove (SetTable.grown (m.length + 1)) - 1 = M → MaskOk M → SetTable.sizeAbove (SetTable.grown (m.length + 1)) ≤ 128 → (m.length + 1) * 5 < M * 3 →
        wpAny (model P w) A (setRelay b (SetTable.grown (m.length + 1))) (fun _ s2 => wpAny (model P w) A (pure true) Q E s2) E { s with heap := h1 } := fun M z1 z2 z3 z4 =>
      laid_anew (s := { s with heap := h1 }) ho1 hex rfl q1 sz1 p3.dm le1 once each ledg (by omega) z1 z2 z3 (by rw [l1]; exact z4) fun h2 m2 rows2 e2 t2 sb2 R2 pm2 =>
        wpAny_pure (kq true h2 m2 rows2 e2 t2 (sb.trans sb2) R2 (fun z => absurd z out) fun _ => pm2.trans pm)
    rcases which with ⟨-, z⟩ | ⟨-, z⟩
    · exact more 31 (by rw [z, size_20]) (.inr (.inl rfl)) (by rw [z, size_20]; decide) (by omega)
    · exact more 127 (by rw [z, size_76]) (.inr (.inr rfl)) (by rw [z, size_76]; decide) (by omega)
  · first
      | refine wp_if_neg (by simp [tf]) ?_
      | (refine wpAny_bind ?_; refine wp_if_neg (by simp [tf]) ?_; refine wpAny_pure ?_)
    have tf2 := tf
    rw [full, decide_eq_true_eq] at tf2
    exact wpAny_pure (kq true h1 m1 rows1 (e + 1) t1 sb { obj := ⟨_, ho1, hex, rfl⟩, eqs := q1, good := p3, once := once, each := each, ledg := ledg, air := by omega, most := by omega } (fun z => absurd z out) fun _ => pm)
end
end PuT
namespace PuT
open PySem PySem.Spec PyProof.Rows L2 PuS Pu
section
variable {P : Program} {w : World} {A : Around} {E : Value → Shared → Prop} {s : Shared} {b : Addr} {m : List (Addr × List Key)} {rows : Array (Int × Value)} {e : Nat} {t : SetTable}
theorem Lies.on {h h2 : Heap} (R : Lies P w h b m rows e t) (ob : ∀ o, h.get? b = some o → h2.get? b = some o) (ea : ∀ q ∈ m, TKy P w h2 q.2 q.1) : Lies P w h2 b m rows e t :=
  { R with obj := let ⟨o, x, y⟩ := R.obj; ⟨o, ob o x, y⟩, each := ea }
theorem tky_up {h h2 : Heap} {k : List Key} {a : Addr} (x : TKy P w h k a) (u : ∀ c o, h.get? c = some o → h2.get? c = some o) : TKy P w h2 k a :=
  let ⟨o, its, n, e1, r⟩ := x; ⟨o, its, n, u _ _ e1, r⟩
/-- the set at S holds the first i of ks; what stood in h0 still stands -/
def Hold (P : Program) (w : World) (h0 : Heap) (S : Addr) (ks : List (Addr × List Key)) (i : Nat) (h : Heap) : Prop :=
  (∀ c o, h0.get? c = some o → h.get? c = some o) ∧ ∃ m rows e t, Lies P w h S m rows e t ∧ m.length ≤ i ∧ (∀ q ∈ m, q ∈ ks) ∧ ∀ z, z ∈ m.map (·.2) ↔ z ∈ (ks.take i).map (·.2)
theorem hold_new {h0 h : Heap} {S : Addr} {ks : List (Addr × List Key)} (u : ∀ c o, h0.get? c = some o → h.get? c = some o) (ho : h.get? S = some { cls := .type "set", dict := none, data := .set #[] 0 (.fresh 0 0 (!w.params.followText "set-order")) }) : Hold P w h0 S ks 0 h :=
  ⟨u, [], #[], 0, _, { obj := ⟨_, ho, ⟨rfl, rfl, rfl⟩, rfl⟩, eqs := rfl, good := ⟨List.Pairwise.nil, rfl, rfl, .inl rfl, fun x hx => absurd hx List.not_mem_nil, fun i h j hi => by simp at hi⟩, once := List.nodup_nil
                       each := fun q hq => absurd hq List.not_mem_nil, ledg := by show _ ∨ (!w.params.followText "set-order") = true; cases w.params.followText "set-order" <;> simp
                       air := by show 0 * 5 < 7 * 3; decide, most := by show 0 < 64; decide }, Nat.le_refl _, fun q hq => absurd hq List.not_mem_nil, fun z => by simp⟩
theorem loopT {R : Result → Shared → Prop} {I S : Addr} {fp wr : List Addr} {G : Array GenState → Array GenState → Prop} {n : Nat} {Pv : Nat → Value → Prop} {St : Nat → Shared → Prop} (W : WalksS P w A.in1 I fp wr G n Pv St) (nS : S ∉ fp)
    {h0 : Heap} {ks : List (Addr × List Key)} (hn : n = ks.length) (few : ks.length < 64) (hu : A.in1.units < cLine) (val : ∀ i v, Pv i v → ∃ q, ks[i]? = some q ∧ v = .ref q.1) (each : ∀ q ∈ ks, TKy P w h0 q.2 q.1) (S0 : h0.get? S = none)
    (wr0 : ∀ c ∈ wr, h0.get? c = none) :
    ∀ (m i : Nat) (s : Shared), n - i = m → i ≤ n → St i s → Hold P w h0 S ks i s.heap → (∀ s', Moved (S :: wr) G s s' → Hold P w h0 S ks n s'.heap → R (.ok (.ret .none)) s') →
      codeAny (model P w) A (.builtin "set.update.loop" ⟨[.ref S, .ref I], []⟩) R s := by
  have nw : S ∉ wr := fun z => nS (W.sub _ z)
  have up : ∀ b ∈ wr, b ∈ S :: wr := fun b z => List.mem_cons_of_mem _ z
  have mvd : ∀ {i : Nat} {s s' : Shared}, Moved wr G s s' → Hold P w h0 S ks i s.heap → Hold P w h0 S ks i s'.heap := fun mv ⟨a1, m, rows, e, t, a2, a3, a4, a5⟩ => by
    have k0 : ∀ c o, h0.get? c = some o → _ := fun c o z => mv.heap c o (fun zz => by rw [wr0 c zz] at z; cases z) (a1 c o z)
    exact ⟨k0, m, rows, e, t, a2.on (fun o z => mv.heap S o nw z) (fun q hq => tky_up (each q (a4 q hq)) k0), a3, a4, a5⟩
  intro m
  induction m with
  | zero =>
    intro i s e0 e1 st R0 hR
    obtain rfl : i = n := by omega
    refine codeAny_builtin F.entry_set_update_loop ?_
    rw [Around.under_plainId F.plain_set_update_loop _]
    exact wpAny_bind (W.done s _ _ st fun s' mv => wpAny_pure (hR s' (mv.mono up) (mvd mv R0)))
  | succ m ih =>
    intro i s e0 e1 st R0 hR
    refine codeAny_builtin F.entry_set_update_loop ?_
    rw [Around.under_plainId F.plain_set_update_loop _]
    refine wpAny_bind (W.item i s _ _ (by omega) st fun v s' pv st' mv => ?_)
    obtain ⟨q, hk, rfl⟩ := val i v pv
    obtain ⟨k0, mm, rows, e, t, r1, r2, r3, r4⟩ := mvd mv R0
    have qm := List.mem_of_getElem? hk
    have hx : TKy P w s'.heap q.2 q.1 := tky_up (each q qm) k0
    show wpAny _ A.in1 (holding [Value.ref q.1] (setAdd S (Value.ref q.1)) >>= _) _ _ s'
    unfold setAdd
    refine wpAny_bind (wpAny_holding (wpAny_holding (wpAny_bind (wpAny_pyHash_tuple hu hx (put_in (s := { s' with toks := s'.toks + (q.2.length + 1) }) r1 hx hu (by omega) fun rr h2 m2 rows2 e2 t2 sb R2 same more => ?_)))))
    have k2 : ∀ c o, h0.get? c = some o → h2.get? c = some o := fun c o z => (sb.2 c fun zz => by rw [zz, S0] at z; cases z).trans (k0 c o z)
    have R3 : Hold P w h0 S ks (i + 1) h2 := by
      refine ⟨k2, m2, rows2, e2, t2, R2, ?_, ?_, ?_⟩
      · by_cases c : q.2 ∈ mm.map (·.2)
        · rw [same c]; omega
        · rw [(more c).length_eq, List.length_cons]; omega
      · by_cases c : q.2 ∈ mm.map (·.2)
        · rw [same c]; exact r3
        · exact fun y hy => (List.mem_cons.mp ((more c).mem_iff.mp hy)).elim (fun z => by rw [z]; exact qm) (r3 y)
      · intro z
        rw [L2.take_next hk, List.map_append, List.mem_append, ← r4 z, List.map_singleton, List.mem_singleton]
        by_cases c : q.2 ∈ mm.map (·.2)
        · rw [same c]
          exact ⟨.inl, fun y => y.elim id fun y => by rw [y]; exact c⟩
        · rw [((more c).map (·.2)).mem_iff, List.map_cons, List.mem_cons]
          exact Or.comm
    refine wpAny_pure ⟨plainId_quiet F.plain_set_update_loop _, ih (i + 1) _ (by omega) (by omega) (W.frame _ s' _ _ st' (Nat.le_add_right _ _) fun b hb o e => ?_) R3 fun s'' mv' R4 => ?_⟩
    · exact (sb.2 b fun z => nS (by rw [← z]; exact hb)).trans e
    · exact hR s'' (Moved.trans W.gtrans ((mv.mono up).then_heap (Nat.le_add_right _ _) fun b o hb e => (sb.2 b fun z => hb (by rw [z]; exact List.mem_cons_self)).trans e) mv') R4
/-- what update makes of the new set -/
def UpdF (P : Program) (w : World) (A : Around) (s : Shared) (x : Value) (F : Heap → Prop) : Prop := ∀ (A' : Around) (E' : Value → Shared → Prop) (Q' : Unit → Shared → Prop), A'.handled = A.handled → A'.units ≤ A.units + 2 →
  (∀ h' tk, F h' → Q' () { s with heap := h', toks := tk }) → wpAny (model P w) A' (Builtin.Frozenset.updateFrom "set.__init__" s.heap.objs.size x) Q' E' { s with heap := nset w s }
set_option maxHeartbeats 3200000 in
theorem callF {x : Value} {F0 : Heap → Prop} {Q : Value → Shared → Prop} (U : UpdF P w A s x F0) (h : ∀ h' tk, F0 h' → Q (.ref s.heap.objs.size) { s with heap := h', toks := tk }) : wpAny (model P w) A (call (.type "set") [x]) Q E s := by
  obtain ⟨c, tl, hmro⟩ := F.called_set.mro
  have c1 := F.called_set.made
  have c2 := F.called_set.sub
  have c3 := F.called_set.notType
  have c4 := F.called_set.canCreate
  have c5 := F.typeCall_set_1 x
  refine wpAny_call (codeAny_of_tree ?_)
  show wpAny _ _ (callAny (.type "set") _) _ _ _
  refine wpAny_pure ⟨Code.quiet_builtin _ (by decide +kernel), codeAny_builtin F.entry_type_call ?_⟩
  rw [Around.under_plain (weight_type_call_type "set" [x] []) rfl]
  repeat (any_goals (first | assumption | wp_step))
  refine codeAny_mono (code_set_led1 x (E := E) (Q₁ := fun obj s₁ => obj = .ref s.heap.objs.size ∧ s₁ = { s with heap := nset w s }) ⟨rfl, rfl⟩) fun r s₁ hr => ?_
  cases r with
  | error e => exact hr
  | ok fl =>
    cases fl with
    | ret obj =>
      obtain ⟨rfl, rfl⟩ := hr
      have gS : (nset w s).get? s.heap.objs.size = some { cls := .type "set", dict := none, data := .set #[] 0 (.fresh 0 0 (!w.params.followText "set-order")) } := Heap.get?_push_size _ rfl
      have hT : Shared.TypeIs { s with heap := nset w s } (.ref s.heap.objs.size) "set" := ⟨_, gS, rfl⟩
      have c6 := F.called_set.init.lookup
      have c7 := F.called_set.init.bind (.ref s.heap.objs.size)
      repeat (any_goals (first | assumption | wp_step))
      refine codeAny_mono (codeAny_call_builtin (R := wants (fun r s₂ => r = .none ∧ ∃ h' tk, s₂ = { s with heap := h', toks := tk } ∧ F0 h') E) F.called_set.init.plain F.entry_set_init (check_set_init_1 hT ?_)) fun r₂ s₂ hr₂ => ?_
      · unfold Builtin.«set.__init__» noKeywords
        have u := fun (A' : Around) => U A'
        generalize Builtin.Frozenset.updateFrom = UF at u ⊢
        wp_walk
        refine u A.in1.in1 _ _ rfl (Nat.le_refl _) fun h' tk R => ?_
        exact wpAny_pure ⟨rfl, h', tk, rfl, R⟩
      · cases r₂ with
        | error e => exact hr₂
        | ok fl₂ =>
          cases fl₂ with
          | ret r =>
            obtain ⟨rfl, h', tk, rfl, R⟩ := hr₂
            repeat (any_goals (first | assumption | wp_step))
            exact h _ _ R
          | _ => exact hr₂.elim
    | _ => exact hr.elim
theorem endF {F0 : Heap → Prop} {o : Obj} {s' : Shared} {Q' : Unit → Shared → Prop} (hm : Moved [s.heap.objs.size, (nset w s).objs.size] (fun a b => b = a) { s with heap := (nset w s).push o } s') (R : F0 s'.heap)
    (q : ∀ h' tk, F0 h' → Q' () { s with heap := h', toks := tk }) : Q' () s' := by
  obtain ⟨h', g', d', tk', os'⟩ := s'
  have eg : g' = s.gens := hm.gens
  have ed : d' = s.drawn := hm.drawn
  have eo : os' = s.os := hm.os
  subst eg; subst ed; subst eo
  exact q h' tk' R
theorem none_at {h : Heap} {c : Addr} (le : h.objs.size ≤ c) : h.get? c = none := by
  cases z : h.get? c with
  | none => rfl
  | some o => exact absurd (Heap.lt_size z) (Nat.not_lt.mpr le)
theorem at_keys {items : Array Value} {ks : List (Addr × List Key)} (hi : items.toList = ks.map fun p => Value.ref p.1) {i : Nat} {v : Value} (h : items[i]? = some v) : ∃ q, ks[i]? = some q ∧ v = .ref q.1 := by
  rw [← Array.getElem?_toList, hi, List.getElem?_map] at h
  obtain ⟨q, h1, h2⟩ := Option.map_eq_some_iff.mp h
  exact ⟨q, h1, h2.symm⟩
set_option maxHeartbeats 3200000 in
theorem updT_list {l : Addr} {items : Array Value} {ks : List (Addr × List Key)} (hh : A.handled = none) (hu : A.units + 8 < cLine) (hl : s.heap.IsList l items) (hi : items.toList = ks.map fun p => Value.ref p.1) (each : ∀ q ∈ ks, TKy P w s.heap q.2 q.1) (few : ks.length < 64) :
    UpdF P w A s (.ref l) (Hold P w s.heap s.heap.objs.size ks ks.length) := fun A' E' Q' ha hw q => by
  have hA : A'.handled = none := ha.trans hh
  obtain ⟨ol, hol, hcl, nl, hdl⟩ := hl
  obtain ⟨ocls, odict, odata, oslots⟩ := ol
  simp only at hcl hdl
  subst hcl; subst hdl
  have d1 : (nset w s).get? l = some { cls := .type "list", dict := odict, data := .seq items nl, slots := oslots } := Heap.get?_push_of_some _ hol
  have d2 := F.sub_list_set
  have d3 := F.sub_list_frozenset
  have d4 : (Value.type "list" == Value.type "dict") = false := by decide
  have d5 : (nset w s).IsList l items := ⟨_, d1, rfl, nl, rfl⟩
  unfold Builtin.Frozenset.updateFrom
  generalize hPI : pyIter = PI
  wp_walk
  subst hPI
  have lt : l < s.heap.objs.size := Heap.lt_size hol
  have ne : l ≠ (nset w s).objs.size := by rw [nset_size]; exact Nat.ne_of_lt (Nat.lt_succ_of_lt lt)
  have sz : items.size = ks.length := by rw [← Array.length_toList, hi, List.length_map]
  refine wpAny_pyIter_list d5 (wpAny_bind (wpAny_runValue (loopT (h0 := s.heap) (ks := ks) ((Walks.list (by simp [hA]) _ l ne items).toS) ?_ sz few ?_ (fun i v hv => at_keys hi hv) each (none_at (Nat.le_refl _)) (fun c hc => none_at ?_) (items.size - 0) 0 _ (by omega) (Nat.zero_le _)
    ⟨⟨_, Heap.get?_push_size _ rfl, rfl, rfl⟩, d5.push _⟩ (hold_new (fun c o z => Heap.get?_push_of_some _ (Heap.get?_push_of_some _ z)) nset_get) fun s' hm R => ?_)))
  · simp only [List.mem_cons, List.mem_singleton, List.not_mem_nil, or_false, not_or, nset_size]
    exact ⟨Nat.ne_of_lt (Nat.lt_succ_self _), Nat.ne_of_gt lt⟩
  · first | (show A'.units + 1 + 1 < cLine; omega) | (show A'.units + 1 < cLine; omega) | (show A'.units < cLine; omega) | (show A'.units + 1 + 1 + 1 < cLine; omega)
  · rw [List.mem_singleton.mp hc, nset_size]
    omega
  · rw [sz] at R
    exact wpAny_pure (endF (F0 := Hold P w s.heap s.heap.objs.size ks ks.length) hm R q)
set_option maxHeartbeats 3200000 in
theorem updT_tuple {l : Addr} {items : Array Value} {ks : List (Addr × List Key)} (hh : A.handled = none) (hu : A.units + 8 < cLine) (hl : s.heap.IsTuple l items) (hi : items.toList = ks.map fun p => Value.ref p.1) (each : ∀ q ∈ ks, TKy P w s.heap q.2 q.1) (few : ks.length < 64) :
    UpdF P w A s (.ref l) (Hold P w s.heap s.heap.objs.size ks ks.length) := fun A' E' Q' ha hw q => by
  have hA : A'.handled = none := ha.trans hh
  obtain ⟨ol, hol, hcl, nl, hdl⟩ := hl
  obtain ⟨ocls, odict, odata, oslots⟩ := ol
  simp only at hcl hdl
  subst hcl; subst hdl
  have d1 : (nset w s).get? l = some { cls := .type "tuple", dict := odict, data := .seq items nl, slots := oslots } := Heap.get?_push_of_some _ hol
  have d2 := F.sub_tuple_set
  have d3 := F.sub_tuple_frozenset
  have d4 : (Value.type "tuple" == Value.type "dict") = false := by decide
  have d5 : (nset w s).IsTuple l items := ⟨_, d1, rfl, nl, rfl⟩
  unfold Builtin.Frozenset.updateFrom
  generalize hPI : pyIter = PI
  wp_walk
  subst hPI
  have lt : l < s.heap.objs.size := Heap.lt_size hol
  have ne : l ≠ (nset w s).objs.size := by rw [nset_size]; exact Nat.ne_of_lt (Nat.lt_succ_of_lt lt)
  have sz : items.size = ks.length := by rw [← Array.length_toList, hi, List.length_map]
  refine wpAny_pyIter_tuple d5 (wpAny_bind (wpAny_runValue (loopT (h0 := s.heap) (ks := ks) ((Walks.tuple (by simp [hA]) _ l ne items).toS) ?_ sz few ?_ (fun i v hv => at_keys hi hv) each (none_at (Nat.le_refl _)) (fun c hc => none_at ?_) (items.size - 0) 0 _ (by omega) (Nat.zero_le _)
    ⟨⟨_, Heap.get?_push_size _ rfl, rfl, rfl⟩, d5.push _⟩ (hold_new (fun c o z => Heap.get?_push_of_some _ (Heap.get?_push_of_some _ z)) nset_get) fun s' hm R => ?_)))
  · simp only [List.mem_cons, List.mem_singleton, List.not_mem_nil, or_false, not_or, nset_size]
    exact ⟨Nat.ne_of_lt (Nat.lt_succ_self _), Nat.ne_of_gt lt⟩
  · first | (show A'.units + 1 + 1 < cLine; omega) | (show A'.units + 1 < cLine; omega) | (show A'.units < cLine; omega) | (show A'.units + 1 + 1 + 1 < cLine; omega)
  · rw [List.mem_singleton.mp hc, nset_size]
    omega
  · rw [sz] at R
    exact wpAny_pure (endF (F0 := Hold P w s.heap s.heap.objs.size ks ks.length) hm R q)
theorem Lies.fitH {h : Heap} (R : Lies P w h b m rows e t) : t.fits rows.size = true := fit_of ((R.good.sz.trans (List.length_map _)).trans (eqs_len R.eqs).symm) R.good.dm (by have := eqs_len R.eqs; have := R.air; omega)
theorem Hold.count {h0 h : Heap} {S : Addr} {ks : List (Addr × List Key)} (H : Hold P w h0 S ks ks.length h) : ∃ o es ep t, h.get? S = some o ∧ o.ExactSet ∧ o.data = .set es ep t ∧ t.fits es.size = true ∧ es.size = (dist (ks.map (·.2))).length := by
  obtain ⟨_, m, rows, e, t, r1, r2, r3, r4⟩ := H
  obtain ⟨o, o1, o2, o3⟩ := r1.obj
  rw [List.take_length] at r4
  refine ⟨o, rows, e, t, o1, o2, o3, r1.fitH, ?_⟩
  rw [eqs_len r1.eqs, ← List.length_map (f := (·.2))]
  exact dist_count r1.once r4
end
section
variable {X : Cx} {pins : List (Addr × Obj)} {σ : L2.St} {H : Hp} {s : Shared} {a : Expr} {ta : TE} {p p2 q pos : Pos}
theorem items_vals {P : Program} {w : World} : ∀ {k : List Key} {us : List Value}, Vals (k.map kV) us → ItemsAre (mixKind P w) k us
  | [], _, .nil => .nil
  | _ :: _, _, .cons r t => .cons (kV_is r) (items_vals t)
theorem refsK : ∀ {ks : List (Addr × List Key)} {us : List Value}, Vals (ks.map fun p => V.ref p.1) us → us = ks.map fun p => Value.ref p.1
  | [], _, .nil => rfl
  | _ :: _, _, .cons r t => by
    cases r
    rw [refsK t]
    rfl
theorem tky_of (I : Inv X pins σ H s) {l : Addr} {k : List Key} (h : SqT X.K H l (k.map kV)) : TKy X.prog X.w s.heap k l := by
  obtain ⟨its, rv, ⟨o, e1, e2, n, e3⟩, _⟩ := I.tuple h
  exact ⟨o, its.toArray, n, e1, e2, e3, by simpa using items_vals rv⟩
def tLenSetU (K : PySem.W.Frag) (ta : TE) : TE := fun σ H Q => ta σ H fun x H1 => (∃ ks, KeysOfV K H1 x ks ∧ ks.length + 1 < scanBound ∧ Q (.int (dist ks).length) H1) ∨
  ∃ (l : Addr) (ks : List (Addr × List Key)), x = .ref l ∧ (SqL K H1 l (ks.map fun p => V.ref p.1) ∨ SqT K H1 l (ks.map fun p => V.ref p.1)) ∧ (∀ p ∈ ks, SqT K H1 p.1 (p.2.map kV)) ∧ ks.length < 64 ∧ Q (.int (dist (ks.map (·.2))).length) H1
theorem pe_lenSetU (hu : X.A.units + 64 < cLine) (hc : X.calm = true) (hg : Gl X "len") (hm : X.mg "len" = none) (hg2 : Gl X "set") (hm2 : X.mg "set" = none) (ha : PE X a ta)
    (na : starEach [a] X.env = (false, eval a X.env) :: starEach [] X.env := by rfl) : PE X (.Call (.Name "len" p) [.Call (.Name "set" p2) [a] [] q] [] pos) (tLenSetU X.K ta) := by
  refine ⟨fun pins s σ H Q I h => ?_⟩
  refine Call_ (ld_blt I hg hm boot_len (PyProof.Rows.callWith_builtin1 (PyProof.Rows.args_cons (Call_ (ld_blt I hg2 hm2 boot_set ?_)) rfl) rfl rfl))
  refine PyProof.Rows.callWith_type1 (PyProof.Rows.args_cons (thn (ha.run pins s σ H _ I h) fun v s1 ⟨x, H1, I1, r1, q1⟩ => PyProof.Rows.args_nil ?_) na) na rfl
  rcases q1 with ⟨ks, hk, room, q1⟩ | ⟨l, ks, rfl, hl, ht, few, q1⟩
  · refine callG (upd_of I1 hc r1 hk room) fun h' tk R k => PyProof.Rows.args_nil ?_
    obtain ⟨o, es, ep, t, ho, r⟩ := R
    have I2 : Inv X pins σ H1 { s1 with heap := h', toks := tk } := I1.kept fun b o e => k b o (Heap.lt_size e) e
    have lim := dist_len ks
    have sb : scanBound ≤ sizeLine := by rw [sizeLine_eq]; decide
    exact call_len_set ho r.ex r.dt r.fit (by rw [r.num]; unfold scanBound at room; omega) ⟨.int (dist ks).length, H1, I2.tok _, ⟨_, by rw [r.num]⟩, q1⟩
  · cases r1
    have each : ∀ p ∈ ks, TKy X.prog X.w s1.heap p.2 p.1 := fun p hp => tky_of I1 (ht p hp)
    have U : UpdF X.prog X.w X.A s1 (.ref l) (Hold X.prog X.w s1.heap s1.heap.objs.size ks ks.length) := by
      rcases hl with hl | hl
      · obtain ⟨its, rv, pl, hz⟩ := I1.list hl
        exact updT_list (I1.ok.hd hc) (by omega) pl.isList (by simpa using refsK rv) each few
      · obtain ⟨its, rv, pl, hz⟩ := I1.tuple hl
        exact updT_tuple (I1.ok.hd hc) (by omega) pl (by simpa using refsK rv) each few
    refine callF U fun h' tk R => PyProof.Rows.args_nil ?_
    have I2 : Inv X pins σ H1 { s1 with heap := h', toks := tk } := I1.kept fun b o e => R.1 b o e
    obtain ⟨o, es, ep, t, c1, c2, c3, c4, c5⟩ := R.count
    have lim := dist_len (ks.map (·.2))
    rw [List.length_map] at lim
    exact call_len_set c1 c2 c3 c4 (by rw [c5]; omega) ⟨.int (dist (ks.map (·.2))).length, H1, I2.tok _, ⟨_, by rw [c5]⟩, q1⟩
end
end PuT
namespace Pu
open PySem PySem.Spec PyProof.Rows L2 PuS PuT
def tK (k : List Key) : PyData := .tuple (k.map kD)
def pLenSet2 : P1 := fun x P => (∃ ks, KeysD x ks ∧ ks.length + 1 < scanBound ∧ P (.int (dist ks).length)) ∨ ∃ ns : List (List Key), (x = .list (ns.map tK) ∨ x = .tuple (ns.map tK)) ∧ ns.length < 64 ∧ P (.int (dist ns).length)
section
variable {K : PySem.W.Frag} {pn : Pn} {b : Nat} {F H : Hp} {v : V}
theorem rvs_ktups : ∀ {ns : List (List Key)} {vs : List V}, RVs K F vs (ns.map tK) → ∃ ks : List (Addr × List Key), vs = ks.map (fun p => V.ref p.1) ∧ ks.map (·.2) = ns ∧ ∀ p ∈ ks, SqT K F p.1 (p.2.map kV)
  | [], _, .nil => ⟨[], rfl, rfl, fun p h => absurd h List.not_mem_nil⟩
  | n :: ns, _, .cons r t => by
    obtain ⟨ks, e1, e2, e3⟩ := rvs_ktups t
    cases r with
    | tup h q =>
      rename_i a xs
      rw [rvs_keys q] at h
      exact ⟨(a, n) :: ks, by rw [e1]; rfl, by rw [← e2]; rfl, fun p hp => (List.mem_cons.mp hp).elim (fun e => by rw [e]; exact h.sq) (e3 p)⟩
end
section
variable {X : Cx} {a : Expr} {ta : WE} {p p2 q pos : Pos}
theorem e_lenSet2 (hu : X.A.units + 64 < cLine) (hc : X.calm = true) (hg : Gl X "len") (hm : X.mg "len" = none) (hg2 : Gl X "set") (hm2 : X.mg "set" = none) (ha : EB X a ta) (na : starEach [a] X.env = (false, eval a X.env) :: starEach [] X.env := by rfl) :
    EE X (.Call (.Name "len" p) [.Call (.Name "set" p2) [a] [] q] [] pos) (w1 pLenSet2 ta) := PE.imp (pe_lenSetU hu hc hg hm hg2 hm2 ha na) fun σ H Q h => by
  obtain ⟨pn, F, env, b, P, rep, t, k⟩ := h
  refine ⟨pn, F, env, b, _, rep, t, fun v x F1 H1 b1 o1 e1 bv t1 => ?_⟩
  rcases t1 with ⟨ks, hk, room, z⟩ | ⟨ns, hx, few, z⟩
  · exact .inl ⟨ks, bv.keys o1 hk, room, k _ _ F1 H1 b1 o1 e1 (.int _) z⟩
  · rcases hx with rfl | rfl
    · obtain ⟨a, vs, rfl, hx, r⟩ := bv.list o1
      obtain ⟨ks, e2, e3, e4⟩ := rvs_ktups r
      subst e3
      exact .inr ⟨a, ks, rfl, .inl (SqL.of (by rw [← e2]; exact hx)), fun p hp => Same.tup o1.sub (e4 p hp), by rw [List.length_map] at few; exact few, k _ _ F1 H1 b1 o1 e1 (.int _) z⟩
    · obtain ⟨a, vs, rfl, hx, r⟩ := bv.tup o1
      obtain ⟨ks, e2, e3, e4⟩ := rvs_ktups r
      subst e3
      exact .inr ⟨a, ks, rfl, .inr (by rw [← e2]; exact hx), fun p hp => Same.tup o1.sub (e4 p hp), by rw [List.length_map] at few; exact few, k _ _ F1 H1 b1 o1 e1 (.int _) z⟩
end
end Pu
namespace Pu
open PySem PySem.Spec PyProof.Rows L2
end Pu
namespace Pu
open PySem PySem.Spec PyProof.Rows L2
end Pu
namespace Pu
open PySem PySem.Spec PyProof.Rows L2 PuS
section
variable {K X Y f : List Nat} {rules : List (List Nat × Nat)} {keys : List (List Nat)} {p : List Nat × Nat} {k : List Nat} {S : Nat → Prop}
theorem clos_low (nd : K.Nodup) (hr : ∀ p ∈ rules, p.2 ∈ K) (h : X.Sublist K) : ∀ c ∈ X, c ∈ clos K rules keys X := (clos_spec nd hr h).1.low
theorem clos_cl (nd : K.Nodup) (hr : ∀ p ∈ rules, p.2 ∈ K) (h : X.Sublist K) : Closed K rules keys (· ∈ clos K rules keys X) := (clos_spec nd hr h).2.1
theorem clos_least (nd : K.Nodup) (hr : ∀ p ∈ rules, p.2 ∈ K) (h : X.Sublist K) (cl : Closed K rules keys S) (hX : ∀ c ∈ X, S c) : ∀ c ∈ clos K rules keys X, S c := (clos_spec nd hr h).1.high S cl hX
end
end Pu
namespace Pu
open PySem PySem.Spec PyProof.Rows L2 PuS
/-- what a sorted thing holds -/
def itemsOf : PyData → Option (List PyData)
  | .list ds => some ds
  | .tuple ds => some ds
  | .str z => some (chS z)
  | _ => none
/-- ds in ascending order, equal ones as they stood -/
def srt (ds : List PyData) : List PyData := ds.mergeSort (W.dataLe false id)
def pSort : PyData → (List PyData → Prop) → Prop := fun x P => ∃ ds, itemsOf x = some ds ∧ W.AllAlike ds ∧ W.Sortable ds ∧ ds.length ≤ 100000 ∧ (∀ d ∈ ds, d.depth ≤ 40) ∧ P (srt ds)
section
variable {X : Cx} {pins : List (Addr × Obj)} {σ : L2.St} {F H : Hp} {s : Shared}
/-- a value that stands for a datum -/
def Stands (K : PySem.W.Frag) (F : Hp) (u : Value) (d : PyData) : Prop := ∃ v, RelV v u ∧ RV K F v d
theorem of_stands {K : PySem.W.Frag} : ∀ {us : List Value} {ds : List PyData}, W.EachIs (Stands K F) us ds → ∃ vs, Vals vs us ∧ RVs K F vs ds
  | _, _, .nil => ⟨[], .nil, .nil⟩
  | _, _, .cons ⟨v, r, q⟩ t => let ⟨vs, h1, h2⟩ := of_stands t; ⟨v :: vs, .cons r h1, .cons q h2⟩
theorem each_at {α β : Type} {R : α → β → Prop} : ∀ {us : List α} {ds : List β}, us.length = ds.length → (∀ (i : Nat) (u : α) (d : β), us[i]? = some u → ds[i]? = some d → R u d) → W.EachIs R us ds
  | [], [], _, _ => .nil
  | [], _ :: _, h, _ => nomatch h
  | _ :: _, [], h, _ => nomatch h
  | u :: us, d :: ds, h, k => .cons (k 0 u d rfl rfl) (each_at (Nat.succ.inj h) fun i x y e1 e2 => k (i + 1) x y (by simpa using e1) (by simpa using e2))
theorem boot_sorted2 : bootBuiltins "sorted" = some (.builtin "sorted") := by decide +kernel
end
end Pu
namespace Pu
open PySem PySem.Spec PyProof.Rows L2 PuS
section
variable {X : Cx} {pins : List (Addr × Obj)} {σ : L2.St} {H : Hp} {s : Shared}
theorem plT_raw (I : Inv X pins σ H s) {a : Addr} {xs : List V} (h : PlT X.K H a xs) : ∃ (its : List Value) (o : Obj) (n : Nat), Vals xs its ∧ s.heap.get? a = some o ∧ o.cls = .type "tuple" ∧ o.dict = none ∧ o.data = .seq its.toArray n := by
  rcases h with ⟨o, e, d⟩ | ⟨o, its, n, h1, h2, h3, h4, h5, h6⟩
  · obtain ⟨g, z, its, r, ⟨o', e1, c1, n, d1⟩⟩ := I.hok a _ e
    rw [g] at e1
    cases e1
    exact ⟨its, o, n, r, g, c1, d, d1⟩
  · exact ⟨its.toList, o, n, h5, I.kIn a o h1, h2, h6, by simpa using h3⟩
theorem pairs_raw (I : Inv X pins σ H s) : ∀ {ps : List Addr} {kvs : List (Key × V)}, Paired (fun p kv => SqT X.K H p [kV kv.1, kv.2]) ps kvs → ∃ (vs : List (Value × Value)) (prs : List (Key × Value)), KV kvs prs ∧ vs.length = ps.length ∧ prs.length = ps.length ∧
    (∀ (j : Nat) (k v : Value), vs[j]? = some (k, v) → (∃ b, ps[j]? = some b ∧ s.heap.IsTuple b #[k, v]) ∧ ∃ κ, prs[j]? = some (κ, v) ∧ (mixKind X.prog X.w).is κ k = true)
  | _, _, .nil => ⟨[], [], .nil, rfl, rfl, fun j k v e => by simp at e⟩
  | _, _, .cons (a := p) (b := kv) h t => by
    obtain ⟨vs, prs, r, l1, l2, each⟩ := pairs_raw I t
    obtain ⟨its, rv, ht, _⟩ := I.tuple h
    obtain ⟨u, y, ei, ru, ry⟩ := vals2 rv
    subst ei
    refine ⟨(u, y) :: vs, (kv.1, y) :: prs, .cons ⟨rfl, ry⟩ r, by simp [l1], by simp [l2], fun j k v e => ?_⟩
    cases j with
    | zero =>
      have e' : (u, y) = (k, v) := Option.some.inj e
      cases e'
      exact ⟨⟨p, rfl, ht⟩, kv.1, rfl, kV_is ru⟩
    | succ j =>
      obtain ⟨⟨b, e1, e2⟩, κ, e3, e4⟩ := each j k v (by simpa using e)
      exact ⟨⟨b, by simpa using e1, e2⟩, κ, by simpa using e3, e4⟩
def rDictT (K : PySem.W.Frag) : List V → Hp → VK → Prop := fun xs H Q => ∃ (a : Addr) (ps : List Addr) (kvs : List (Key × V)), xs = [.ref a] ∧ PlT K H a (ps.map V.ref) ∧ Paired (fun p kv => SqT K H p [kV kv.1, kv.2]) ps kvs ∧ kvs.length ≤ 100000 ∧
  ∀ p, H p = none → Q (.ref p) (upd H p (.dK (mergeK [] kvs)))
theorem call_dictT (hcalm : X.calm = true) : CallR X (.type "dict") (rDictT X.K) := by
  intro pins s σ H xs us Q I r ⟨a, ps, kvs, ex, hq, hp, few, q⟩
  subst ex
  obtain ⟨u, rfl, rx⟩ := vals1 r
  cases rx
  obtain ⟨its, o, n, rv, g, c, d, da⟩ := plT_raw I hq
  have ei := refs_at rv
  subst ei
  obtain ⟨vs, prs, rel, l1, l2, each⟩ := pairs_raw I hp
  have lk : kvs.length = prs.length := rel.length
  refine PySem.call_dict_pairs (knd := mixKind X.prog X.w) (kvs := prs) (PairArg.tuple a (ps.map Value.ref).toArray (fun j => ps.getD j 0) vs) (I.ok.hd hcalm) ⟨⟨o, n, g, c, d, da⟩, by simp [l1], fun j k v hj => ?_⟩ ⟨by rw [l1, l2], fun i k v hi => (each i k v hi).2⟩ (by rw [sizeLine_eq]; omega) fun h2 tk hd hk => ?_
  · obtain ⟨⟨b, e1, e2⟩, _⟩ := each j k v hj
    have e3 : ps.getD j 0 = b := by rw [List.getD_eq_getElem?_getD, e1, Option.getD_some]
    refine ⟨?_, .inl ?_⟩
    · show (ps.map Value.ref).toArray[j]? = some (Value.ref (ps.getD j 0))
      rw [e3]
      simp [e1]
    · show s.heap.IsTuple (ps.getD j 0) #[k, v]
      rw [e3]
      exact e2
  · have hm : (s.heap.objs.size == sysModules) = false := beq_eq_false_iff_ne.mpr (Nat.ne_of_gt I.big)
    have lm := length_mergeK kvs []
    rw [List.length_nil, Nat.zero_add] at lm
    exact ⟨.ref s.heap.objs.size, upd H s.heap.objs.size (.dK (mergeK [] kvs)), I.laid (t' := tk) (fun b u e => hk b u List.not_mem_nil e) (Nat.le_refl _) (show ObjOk X.prog X.w _ _ _ (.dK (mergeK [] kvs)) from ⟨by rw [sizeLine_eq]; omega, hm, merged [] prs, KV.merge rel .nil, hd⟩), rfl, q _ (I.hok.fresh (Nat.le_refl _))⟩
end
end Pu
namespace Pu
open PySem PySem.Spec PyProof.Rows L2 PuS
/-- what stands at a key -/
def lookS (xs : List (Str × PyData)) (s : Str) : Option PyData := (xs.find? fun p => decide (p.1 = s)).map (·.2)
def putS (xs : List (Str × PyData)) (s : Str) (d : PyData) : List (Str × PyData) := if (xs.any fun p => decide (p.1 = s)) = true then xs.map fun p => if p.1 = s then (p.1, d) else p else xs ++ [(s, d)]
def pairS (p : Str × PyData) : PyData := .tuple [.str p.1, p.2]
section
variable {K : PySem.W.Frag} {pn : Pn} {F H F0 H0 : Hp} {b : Nat} {env : En} {σ : L2.St}
theorem KVs.len : ∀ {vs : List (Key × V)} {xs : List (Str × PyData)}, KVs K F vs xs → vs.length = xs.length
  | _, _, .nil => rfl
  | _, _, .cons _ t => congrArg (· + 1) t.len
theorem KVs.get (s : Str) : ∀ {vs : List (Key × V)} {xs : List (Str × PyData)}, KVs K F vs xs → (∃ v d, valV vs (.inr s) = some v ∧ lookS xs s = some d ∧ RV K F v d) ∨ (valV vs (.inr s) = none ∧ lookS xs s = none)
  | _, _, .nil => .inr ⟨rfl, rfl⟩
  | _, _, .cons (x := x) (v := v) (d := d) r t => by
    by_cases e : x = s
    · subst e
      exact .inl ⟨v, d, by simp [valV, List.find?_cons], by simp [lookS, List.find?_cons], r⟩
    · have e1 : ¬ ((Sum.inr x : Key) = Sum.inr s) := fun z => e (Sum.inr.inj z)
      rcases t.get s with ⟨v', d', h1, h2, h3⟩ | ⟨h1, h2⟩
      · exact .inl ⟨v', d', by simpa [valV, List.find?_cons, e1, e] using h1, by simpa [lookS, List.find?_cons, e] using h2, h3⟩
      · exact .inr ⟨by simpa [valV, List.find?_cons, e] using h1, by simpa [lookS, List.find?_cons, e] using h2⟩
theorem KVs.any (s : Str) : ∀ {vs : List (Key × V)} {xs : List (Str × PyData)}, KVs K F vs xs → (vs.any fun kv => decide (kv.1 = .inr s)) = xs.any fun p => decide (p.1 = s)
  | _, _, .nil => rfl
  | _, _, .cons (x := x) r t => by
    rw [List.any_cons, List.any_cons, t.any s]
    congr 1
    exact decide_eq_decide.mpr ⟨fun z => Sum.inr.inj z, fun z => by rw [show x = s from z]⟩
theorem KVs.mapS {s : Str} {v : V} {d : PyData} (r : RV K F v d) : ∀ {vs : List (Key × V)} {xs : List (Str × PyData)}, KVs K F vs xs → KVs K F (vs.map fun kv => if kv.1 = .inr s then (kv.1, v) else kv) (xs.map fun p => if p.1 = s then (p.1, d) else p)
  | _, _, .nil => .nil
  | _, _, .cons (x := x) q t => by
    rw [List.map_cons, List.map_cons]
    by_cases e : x = s
    · subst e
      rw [if_pos rfl, if_pos rfl]
      exact .cons r (t.mapS r)
    · rw [if_neg (fun z => e (Sum.inr.inj z)), if_neg e]
      exact .cons q (t.mapS r)
theorem KVs.app {vs' : List (Key × V)} {xs' : List (Str × PyData)} (q : KVs K F vs' xs') : ∀ {vs : List (Key × V)} {xs : List (Str × PyData)}, KVs K F vs xs → KVs K F (vs ++ vs') (xs ++ xs')
  | _, _, .nil => q
  | _, _, .cons r t => .cons r (KVs.app q t)
theorem KVs.put {s : Str} {v : V} {d : PyData} (r : RV K F v d) {vs : List (Key × V)} {xs : List (Str × PyData)} (h : KVs K F vs xs) : KVs K F (putK vs (.inr s) v) (putS xs s d) := by
  unfold putK putS
  rw [h.any s]
  split
  · exact h.mapS r
  · exact KVs.app (.cons r .nil) h
theorem KVs.keys : ∀ {vs : List (Key × V)} {xs : List (Str × PyData)}, KVs K F vs xs → vs.map (fun kv => kV kv.1) = xs.map fun p => V.str p.1
  | _, _, .nil => rfl
  | _, _, .cons _ t => by rw [List.map_cons, List.map_cons, t.keys]; rfl
theorem RVs.keys : ∀ (xs : List (Str × PyData)), RVs K F (xs.map fun p => V.str p.1) (xs.map fun p => PyData.str p.1)
  | [] => .nil
  | p :: r => .cons (.str _) (RVs.keys r)
theorem putK_fresh {vs : List (Key × V)} {k : Key} {v : V} (h : k ∉ vs.map (·.1)) : putK vs k v = vs ++ [(k, v)] := by
  unfold putK
  rw [if_neg]
  intro z
  obtain ⟨p, hp, e⟩ := List.any_eq_true.mp z
  exact h (List.mem_map.mpr ⟨p, hp, of_decide_eq_true e⟩)
theorem mergeK_nodup : ∀ (kvs acc : List (Key × V)), ((acc ++ kvs).map (·.1)).Nodup → mergeK acc kvs = acc ++ kvs
  | [], acc, _ => by simp [mergeK]
  | p :: r, acc, h => by
    show mergeK (putK acc p.1 p.2) r = _
    have hn : p.1 ∉ acc.map (·.1) := fun z => by
      rw [List.map_append, List.map_cons, List.nodup_append] at h
      exact h.2.2 _ z _ List.mem_cons_self rfl
    rw [putK_fresh hn, mergeK_nodup r (acc ++ [p]) (by simpa using h)]
    simp
/-- a dict just made goes to a name -/
theorem RepS.setK (r : RepS K pn F0 H0 F H σ env b) {i : Nat} {v : V} {d : List (Str × PyData)} (ow : OwnK K pn F H v d) (new : ∀ a, v = .ref a → H0 a = none) : RepS K pn F0 H0 F H (σ.set i (some v)) (env.set i (some (.k d))) b := by
  have get1 : ∀ (j : Nat) (s : Sl), (env.set i (some (.k d)))[j]? = some (some s) → (j = i ∧ s = .k d ∧ j < σ.length) ∨ (j ≠ i ∧ env[j]? = some (some s)) := fun j s h => by
    by_cases e : j = i
    · subst e
      have hl : j < env.length := by have := (List.getElem?_eq_some_iff.mp h).1; simpa using this
      rw [List.getElem?_set_self hl] at h
      cases h
      exact .inl ⟨rfl, rfl, by rw [r.rep.len]; exact hl⟩
    · rw [List.getElem?_set_ne (Ne.symm e)] at h
      exact .inr ⟨e, h⟩
  have get2 : ∀ (j : Nat), j ≠ i → (σ.set i (some v))[j]? = σ[j]? := fun j e => List.getElem?_set_ne (Ne.symm e)
  have get3 : i < σ.length → (σ.set i (some v))[i]? = some (some v) := fun h => List.getElem?_set_self h
  refine ⟨⟨r.rep.ok, by simp [r.rep.len], fun j s h => ?_, fun j k a xs ys n h1 h2 h3 => ?_, r.rep.tk⟩, r.ext, fun j a s hs h1 h2 => ?_⟩
  · rcases get1 j s h with ⟨rfl, rfl, hl⟩ | ⟨e, h⟩
    · exact ⟨v, get3 hl, ow⟩
    · rw [get2 j e]; exact r.rep.slot j s h
  · rcases get1 j _ h1 with ⟨_, e, _⟩ | ⟨e, g1⟩
    · cases e
    · rw [get2 j e] at h3
      rcases h2 with h2 | h2
      · rcases get1 k _ h2 with ⟨_, e2, _⟩ | ⟨e2, g2⟩
        · cases e2
        · rw [get2 k e2]; exact r.rep.apart j k a xs ys n g1 (.inl g2) h3
      · rcases get1 k _ h2 with ⟨_, e2, _⟩ | ⟨e2, g2⟩
        · cases e2
        · rw [get2 k e2]; exact r.rep.apart j k a xs ys n g1 (.inr g2) h3
  · rcases get1 j _ h1 with ⟨rfl, _, hl⟩ | ⟨e, h1⟩
    · rw [get3 hl] at h2
      cases h2
      exact new a rfl
    · rw [get2 j e] at h2
      exact r.own j a s hs h1 h2
/-- other dicts are forgotten when one is written -/
def noK : Option Sl → Option Sl
  | some (.k _) => none
  | s => s
theorem noK_some {s : Option Sl} {t : Sl} (h : noK s = some t) : s = some t ∧ ∀ xs, t ≠ .k xs := by
  cases s with
  | none => cases h
  | some u => cases u with
    | k _ => cases h
    | _ => cases h; exact ⟨rfl, fun _ z => nomatch z⟩
theorem RepS.writeK (r : RepS K pn F0 H0 F H σ env b) {i : Nat} {xs ys : List (Str × PyData)} {a : Addr} {ws : List (Key × V)} (h : env[i]? = some (some (Sl.k xs))) (hs : σ[i]? = some (some (V.ref a))) (rv : KVs K F ws ys) :
    RepS K pn F0 H0 F (upd H a (.dK ws)) σ ((env.map noK).set i (some (.k ys))) b := by
  have il : i < env.length := (List.getElem?_eq_some_iff.mp h).1
  have il' : i < (env.map noK).length := by rw [List.length_map]; exact il
  obtain ⟨v, hv, ow⟩ := r.rep.slot i _ h
  rw [hs] at hv
  cases hv
  obtain ⟨a', vs, e, fa, np, nc, ha, _⟩ := ow
  cases e
  have n0 : H0 a = none := r.own i a _ rfl h hs
  have get : ∀ (j : Nat) (s : Sl), ((env.map noK).set i (some (.k ys)))[j]? = some (some s) → (j = i ∧ s = .k ys) ∨ (j ≠ i ∧ env[j]? = some (some s) ∧ ∀ zs, s ≠ .k zs) := fun j s hj => by
    by_cases e : j = i
    · subst e
      rw [List.getElem?_set_self il'] at hj
      cases hj
      exact .inl ⟨rfl, rfl⟩
    · rw [List.getElem?_set_ne (Ne.symm e), List.getElem?_map] at hj
      obtain ⟨o, h1, h2⟩ := Option.map_eq_some_iff.mp hj
      obtain ⟨h3, h4⟩ := noK_some h2
      subst h3
      exact .inr ⟨e, h1, h4⟩
  have keepO : ∀ {w : V} {zs : List PyData}, OwnL K pn F H w zs → OwnL K pn F (upd H a (.dK ws)) w zs := fun ⟨c, us, e, f, p, q, hc, rc⟩ => by
    subst e
    exact ⟨c, us, rfl, f, p, q, by rw [upd_ne (fun z => by rw [z, ha] at hc; exact nomatch hc)]; exact hc, rc⟩
  have pen' : PenIs pn b F (upd H a (.dK ws)) := r.rep.ok.pen.wr np nc
  refine ⟨⟨⟨fun c o q => ?_, pen'⟩, by simp [r.rep.len], fun j s hj => ?_, fun j k c zs us n h1 h2 h3 => ?_, r.rep.tk⟩, ⟨r.ext.fsub, fun c o hc f p => ?_⟩, fun j c s hq h1 h2 => ?_⟩
  · rw [upd_ne (fun z => by rw [z, fa] at q; cases q)]; exact r.rep.ok.sub c o q
  · rcases get j s hj with ⟨rfl, rfl⟩ | ⟨e, hj, nk⟩
    · exact ⟨_, hs, a, ws, rfl, fa, np, nc, upd_same, rv⟩
    · obtain ⟨w, hw, sl⟩ := r.rep.slot j s hj
      refine ⟨w, hw, ?_⟩
      match s, sl, nk with
      | .d x, sl, _ => exact sl
      | .l zs, sl, _ => exact keepO sl
      | .r zs, sl, _ => exact keepO sl
      | .p, sl, _ => exact sl
      | .k zs, _, nk => exact absurd rfl (nk zs)
  · rcases get j _ h1 with ⟨_, e⟩ | ⟨_, h1, _⟩
    · cases e
    · rcases h2 with h2 | h2
      · rcases get k _ h2 with ⟨_, e⟩ | ⟨_, h2, _⟩
        · cases e
        · exact r.rep.apart j k c zs us n h1 (.inl h2) h3
      · rcases get k _ h2 with ⟨_, e⟩ | ⟨_, h2, _⟩
        · cases e
        · exact r.rep.apart j k c zs us n h1 (.inr h2) h3
  · obtain ⟨q1, q2⟩ := r.ext.keep c o hc f p
    exact ⟨by rw [upd_ne (fun z => by rw [z, n0] at hc; cases hc)]; exact q1, q2⟩
  · rcases get j _ h1 with ⟨rfl, _⟩ | ⟨_, h1, _⟩
    · rw [hs] at h2
      cases h2
      exact n0
    · exact r.own j c s hq h1 h2
end
end Pu
namespace Pu
open PySem PySem.Spec PyProof.Rows L2 PuS
section
variable {K : PySem.W.Frag} {pn : Pn} {F H F0 H0 : Hp} {b : Nat} {env : En} {σ : L2.St}
theorem pairs_of (s : Same F H) : ∀ {xs : List V} {kvs : List (Str × PyData)}, RVs K F xs (kvs.map pairS) → ∃ (ps : List Addr) (vs : List (Key × V)), xs = ps.map V.ref ∧ Paired (fun p kv => SqT K H p [kV kv.1, kv.2]) ps vs ∧ KVs K F vs kvs
  | _, [], .nil => ⟨[], [], rfl, .nil, .nil⟩
  | _, p :: r, .cons h t => by
    obtain ⟨ps, vs, e, pr, kv⟩ := pairs_of s (kvs := r) t
    subst e
    cases h with
    | tup hp rs =>
      cases rs with
      | cons r1 t1 => cases t1 with
        | cons r2 t2 => cases t2 with
          | nil => cases r1 with
            | str z => exact ⟨_ :: ps, (.inr p.1, _) :: vs, rfl, .cons (Same.tup s hp.sq) pr, .cons r2 kv⟩
theorem KVs.fsts : ∀ {vs : List (Key × V)} {xs : List (Str × PyData)}, KVs K F vs xs → vs.map (·.1) = xs.map fun p => Sum.inr p.1
  | _, _, .nil => rfl
  | _, _, .cons _ t => by rw [List.map_cons, List.map_cons, t.fsts]
theorem nodup_inr {xs : List (Str × PyData)} (h : (xs.map (·.1)).Nodup) : (xs.map fun p => (Sum.inr p.1 : Key)).Nodup := by
  have : (xs.map fun p => (Sum.inr p.1 : Key)) = (xs.map (·.1)).map Sum.inr := by rw [List.map_map]; rfl
  rw [this]
  exact h.map _ fun a c n z => n (Sum.inr.inj z)
theorem Ok.apartN (o : Ok pn b F H) {p : Addr} (hp : H p = none) : NotPen pn p ∧ NotCa pn p := o.pen.apartN hp
end
/-- dict(x), x a tuple of pairs -/
def dictOf (d : PyData) (kvs : List (Str × PyData)) : Prop := d = .tuple (kvs.map pairS) ∧ (kvs.map (·.1)).Nodup ∧ kvs.length ≤ 100000
def sDictK (t : WE) (i : Nat) : WS := fun PD env b => t env b fun d b' => ∃ kvs, dictOf d kvs ∧ PD.nx (env.set i (some (.k kvs))) b'
section
variable {X : Cx} {e : Expr} {te : WE} {p pos : Pos}
theorem boot_dict2 : bootBuiltins "dict" = some (.type "dict") := by decide +kernel
theorem boot_list2 : bootBuiltins "list" = some (.type "list") := by decide +kernel
theorem pe_dict (hc : X.calm = true) (hg : Gl X "dict") (hm : X.mg "dict" = none) (he : EB X e te) (na : starEach [e] X.env = (false, eval e X.env) :: starEach [] X.env := by rfl) :
    PE X (.Call (.Name "dict" p) [e] [] pos) (tCB (rDictT X.K) (tCons (lB X.K te) tNil)) := pe_callTy (call_dictT hc) hg hm boot_dict2 (pa_cons he pa_nil na) (he := na)
theorem dict_run {K : PySem.W.Frag} {σ : L2.St} {H : Hp} {Q : VK} (h : ∃ pn F env b P, Rep K pn F H σ env b ∧ te env b P ∧ ∀ d F' H' b', Ok pn b' F' H' → Ext pn F H F' H' → P d b' → ∃ kvs, dictOf d kvs ∧ ∀ p vs, H' p = none → NotPen pn p → NotCa pn p → KVs K F' vs kvs → Q (.ref p) (upd H' p (.dK vs))) :
    tCB (rDictT K) (tCons (lB K te) tNil) σ H Q := by
  obtain ⟨pn, F, env, b, P, rep, t, k⟩ := h
  refine ⟨pn, F, env, b, P, rep, t, fun v d F' H' b' o x bv q => ?_⟩
  obtain ⟨kvs, ⟨ed, nd, few⟩, k⟩ := k d F' H' b' o x q
  subst ed
  show rDictT K [v] H' Q
  rcases bv with bv | ⟨_, z, _⟩
  · cases bv with
    | tup h r =>
      obtain ⟨ps, vs, ex, pr, kv⟩ := pairs_of o.sub r
      subst ex
      refine ⟨_, ps, vs, rfl, h.mono o.sub, pr, by rw [kv.len]; exact few, fun q hq => ?_⟩
      rw [mergeK_nodup vs [] (by rw [List.nil_append, kv.fsts]; exact nodup_inr nd), List.nil_append]
      exact k q vs hq (o.apartN hq).1 (o.apartN hq).2 kv
  · cases z
variable {i : Nat} {x : Str} {cpos spos pos' : Pos}
theorem s_dictK (hc : X.calm = true) (hN : X.N.Nodup) (hi : X.N[i]? = some x) (hx : Loc X.env.scope x) (hg : Gl X "dict") (hm : X.mg "dict" = none) (he : EB X e te) (na : starEach [e] X.env = (false, eval e X.env) :: starEach [] X.env := by rfl) (hs : swapsWith (.Call (.Name "dict" p) [e] [] pos) (some (.Name x pos')) spos.line X.env = pure false := by rfl) (hf : X.fn x = true ∨ X.env.scope.names.lookup x = some .local := by first | exact .inl rfl | exact .inr rfl) :
    SS X (.Assign [.Name x pos'] (.Call (.Name "dict" p) [e] [] pos) spos) (sDictK te i) := PS.imp (ps_set hN hi hx (pe_dict hc hg hm he na) hs hf) fun D σ H ⟨pn, F0, H0, F, env, b, PD, rep, t, k, r⟩ =>
  dict_run ⟨pn, F, env, b, _, rep.rep, t, fun d F' H' b' o x ⟨kvs, hd, q⟩ => ⟨kvs, hd, fun p vs hp np nc kv => by
    have rep2 := (rep.ext' o x).ext' (o.own (o := .dK vs) hp) (.own hp)
    exact (k _ F' _ _ b' (rep2.setK (v := .ref p) ⟨p, vs, rfl, o.free hp, np, nc, upd_same, kv⟩ fun a ea => by cases ea; exact (rep.ext.trans x).bk o hp)).1 q⟩⟩
/-- x in d -/
def wKIn (te : WE) (i : Nat) (neg : Bool) : WE := fun env b P => te env b fun y b1 => match y, env[i]? with
  | .str s, some (some (.k kvs)) => P (.bool (neg ^^ (lookS kvs s).isSome)) b1
  | _, _ => False
theorem kin_run {K : PySem.W.Frag} {σ : L2.St} {H : Hp} {Q : VK} (h : lE K (wKIn te i false) σ H Q) : tDIn (lB K te) (tVar i) σ H Q := by
  obtain ⟨pn, F, env, b, P, rep, t, k⟩ := h
  refine ⟨pn, F, env, b, _, rep, t, fun v d F1 H1 b1 o1 x1 bv q => ?_⟩
  split at q
  · rename_i s kvs ek
    obtain ⟨w, hw, a, vs, rfl, fa, np, nc, ha, kv⟩ := (rep.ext o1 x1).slot i _ ek
    refine ⟨_, hw, ?_⟩
    have ev := bv.str
    subst ev
    rcases kv.get s with ⟨u, dd, g1, g2, _⟩ | ⟨g1, g2⟩
    · exact ⟨a, some u, rfl, .inl ⟨vs, .inr s, .inl ha, rfl, g1.symm⟩, k _ _ F1 H1 b1 o1 x1 (.bl _) (by rw [g2] at q; simpa using q)⟩
    · exact ⟨a, none, rfl, .inl ⟨vs, .inr s, .inl ha, rfl, g1.symm⟩, k _ _ F1 H1 b1 o1 x1 (.bl _) (by rw [g2] at q; simpa using q)⟩
  · exact q.elim
theorem t_kin (hu : X.A.units + 64 < cLine) {o : Expr} (ho : PE X o (tVar i)) (he : EB X e te) (hm : behindInMarks .In o = false := by rfl) : ET X (.Compare e [.In] [o] pos) (wTt (wKIn te i false)) := PT.imp (pt_cmp (pc_din (by omega) he ho) hm) fun _ _ _ h => kin_run (tt_of h)
/-- d[x] -/
def wKGet (te : WE) (i : Nat) : WE := fun env b P => match env[i]? with
  | some (some (.k kvs)) => te env b fun y b1 => match y with
    | .str s => (match lookS kvs s with | some d => P d b1 | none => False)
    | _ => False
  | _ => False
theorem e_kget (hu : X.A.units + 64 < cLine) {o : Expr} (ho : PE X o (tVar i)) (he : EB X e te) (hs : NoSl e := by intro _ _; rfl) : EE X (.Subscript o e pos) (wKGet te i) := PE.imp (pe_dget (by omega) ho he hs) fun σ H Q ⟨pn, F, env, b, P, rep, t, k⟩ => by
  unfold wKGet at t
  split at t
  · rename_i kvs ek
    obtain ⟨w, hw, sl⟩ := rep.slot i _ ek
    refine ⟨w, hw, pn, F, env, b, _, rep, t, fun v d F1 H1 b1 o1 x1 bv q => ?_⟩
    obtain ⟨a, vs, rfl, fa, np, nc, ha, kv⟩ := OwnK.ext sl x1
    cases d with
    | str s =>
      have q : (match lookS kvs s with | some d => P d b1 | none => False) := q
      have ev := bv.str
      subst ev
      rcases kv.get s with ⟨u, dd, g1, g2, g3⟩ | ⟨g1, g2⟩
      · rw [g2] at q
        exact ⟨a, u, rfl, .inl ⟨vs, .inr s, .inl ha, rfl, g1.symm⟩, k _ _ F1 H1 b1 o1 x1 g3 q⟩
      · rw [g2] at q
        exact q.elim
    | _ => exact q.elim
  · exact t.elim
/-- d[x] = e -/
def sKSet (i : Nat) (tk te : WE) : WS := fun PD env b => match env[i]? with
  | some (some (.k xs)) => te env b fun d b1 => tk env b1 fun y b2 => match y with
    | .str s => xs.length < sizeLine ∧ PD.nx ((env.map noK).set i (some (.k (putS xs s d)))) b2
    | _ => False
  | _ => False
theorem s_kset (hu : X.A.units + 64 < cLine) {ek : Expr} {tk : WE} {tpos : Pos} (h : PE X (.Name x p) (tVar i)) (he : EE X e te) (hk : EB X ek tk)
    (ha : ∀ v, assign (.Subscript (.Name x p) ek tpos) X.env v = (do
      let ov ← holding [v] (eval (.Name x p) X.env)
      let iv ← holding [v, ov] (eval ek X.env)
      standAt tpos
      holding [v, ov, iv] (setItem ov iv v)
      release [v, ov, iv] []) := by intro _; rfl)
    (hs : swapsWithSole [.Subscript (.Name x p) ek tpos] e pos.line X.env = pure false := by rfl) (hw : swappedStores [.Subscript (.Name x p) ek tpos] e X.env = pure none := by rfl) (h1 : (assignEach [.Subscript (.Name x p) ek tpos] X.env).map (·.2) = [assign (.Subscript (.Name x p) ek tpos) X.env] := by rfl) :
    SS X (.Assign [.Subscript (.Name x p) ek tpos] e pos) (sKSet i tk te) :=
  PS.imp (ps_asg he (pg_sub h hk (set_dict (by omega)) ha) hs hw h1) fun D σ H ⟨pn, F0, H0, F, env, b, PD, rep, t, k, r⟩ => by
    unfold sKSet at t
    split at t
    · rename_i xs hx
      obtain ⟨v, hv, ow⟩ := rep.rep.slot i _ hx
      refine ⟨pn, F, env, b, _, rep.rep, t, fun w d F1 H1 b1 o1 x1 rv t1 => ?_⟩
      have ow1 := OwnK.ext ow x1
      have rep1 := rep.ext' o1 x1
      obtain ⟨a, vs, rfl, fa, np, nc, ha, kv⟩ := id ow1
      refine ⟨.ref a, hv, pn, F1, env, b1, _, rep1.rep, t1, fun u kk F2 H2 b2 o2 x2 bu t2 => ?_⟩
      obtain ⟨ha2, fa2⟩ := x2.keep a _ ha fa np
      cases kk with
      | str s =>
        obtain ⟨lz, t2⟩ : xs.length < sizeLine ∧ _ := t2
        have ev := bu.str
        subst ev
        refine ⟨a, _, rfl, .inl ⟨vs, .inr s, ha2, rfl, by rw [kv.len]; exact lz, rfl⟩, ?_⟩
        exact (k σ F2 _ _ b2 ((rep1.ext' o2 x2).writeK hx hv ((kv.mono x2.fsub).put (rv.mono x2.fsub)))).1 t2
      | _ => exact t2.elim
    · exact t.elim
/-- list(d) -/
def wKList (i : Nat) : WF := fun env b P => match env[i]? with
  | some (some (.k xs)) => P (xs.map fun p => .str p.1) b
  | _ => False
theorem f_klist (hc : X.calm = true) (hg : Gl X "list") (hm : X.mg "list" = none) {o : Expr} (ho : PE X o (tVar i)) (na : starEach [o] X.env = (false, eval o X.env) :: starEach [] X.env := by rfl) :
    EF X (.Call (.Name "list" p) [o] [] pos) (wKList i) := PE.imp (pe_callTy (call_list_dK hc) hg hm boot_list2 (pa_cons ho pa_nil na) (he := na)) fun σ H Q ⟨pn, F, env, b, P, rep, t, k⟩ => by
  unfold wKList at t
  split at t
  · rename_i xs hx
    obtain ⟨v, hv, a, vs, rfl, fa, np, nc, ha, kv⟩ := rep.slot i _ hx
    refine ⟨.ref a, hv, a, vs, rfl, ha, ?_⟩
    rw [kv.keys]
    exact GoL.lst (P := fun d => P d b) (fun w z F' H' o e rv nw q => k w z F' H' b o e rv nw q) rep.ok (RVs.keys xs) t
  · exact t.elim
/-- dict(x).get(c, z) -/
def wDGet (te tc tz : WE) : WE := fun env b P => te env b fun d b1 => ∃ kvs, dictOf d kvs ∧ tc env b1 fun y b2 => match y with
  | .str s => tz env b2 fun z b3 => P ((lookS kvs s).getD z) b3
  | _ => False
end
end Pu
namespace Pu
open PySem PySem.Spec PyProof.Rows L2 PuS
section
variable {P : Program} {w : World} {A : Around} {E : Value → Shared → Prop} {s : Shared}
/-- as sortedD, where what is collected may be new -/
theorem sortedG {x : Value} {ds : List PyData} {K : Shared → (Value → PyData → Prop) → Prop} {Q : Value → Shared → Prop} (hr : ∀ s1 R0, K s1 R0 → ∀ v d, R0 v d → ∃ as, Reads s1.heap v d as) (hal : W.AllAlike ds) (hk : W.Sortable ds) (hL : ds.length ≤ sizeLine) (hu : ∀ d ∈ ds, A.units + 4 + d.depth < cLine)
    (hc : ∀ (R : List Value → Shared → Prop), (∀ (s1 : Shared) (vs : List Value) (R0 : Value → PyData → Prop), K s1 R0 → W.EachIs R0 vs ds → R vs s1) → wpAny (model P w) A.in1 (collect x) R E s)
    (ha : argsOk "sorted" ⟨[x], []⟩)
    (hQ : ∀ (s1 s' : Shared) (R0 : Value → PyData → Prop) (p : Addr) (out : Array Value) (c : Nat), K s1 R0 → (∀ b o, s1.heap.get? b = some o → s'.heap.get? b = some o) → s'.gens = s1.gens → s'.os = s1.os → s1.heap.objs.size ≤ p → s'.heap.get? p = some (seqObj "list" out c) → W.EachIs R0 out.toList (ds.mergeSort (W.dataLe false id)) → Q (.ref p) s') :
    wpAny (model P w) A (call (.builtin "sorted") [x]) Q E s := by
  refine Calls.call_function_entry kind_sorted plain_sorted entry_sorted ha ?_
  unfold Builtin.«sorted»
  refine wpAny_bind (m := checkCount "sorted" 1 1 _) (wpAny_pure ?_)
  refine wpAny_bind (hc _ fun s1 vs R0 k1 each => ?_)
  have lv : vs.length = ds.length := each.length
  refine wpAny_bind (wpAny_newList ?_ (by rw [lv]; exact hL))
  have hoL : (s1.heap.push (seqObj "list" vs.toArray 0)).get? s1.heap.objs.size = some (seqObj "list" vs.toArray 0) := Heap.get?_push_size _ rfl
  have up : ∀ b o, s1.heap.get? b = some o → (W.sortingHeap (s1.heap.push (seqObj "list" vs.toArray 0)) s1.heap.objs.size vs).get? b = some o := fun b o e1 => by
    exact W.sortingHeap_old (Nat.ne_of_lt (Heap.lt_size e1)) (Heap.get?_push_of_some _ e1)
  have er : W.EachIs (fun v d => ∃ as, Reads (W.sortingHeap (s1.heap.push (seqObj "list" vs.toArray 0)) s1.heap.objs.size vs) v (id d) as) vs ds := each.mono fun v d h => let ⟨as, r⟩ := hr s1 R0 k1 v d h; ⟨as, PyProof.Rows.Reads.keeps up r⟩
  have hal2 : W.AllAlike (ds.map id) := by rw [List.map_id]; exact hal
  have hk2 : W.Sortable (ds.map id) := by rw [List.map_id]; exact hk
  refine wpAny_bind (wpAny_holding (wpAny_call_entry slot_list_sort ⟨_, hoL, rfl⟩ entry_list_sort (W.list_sort_vals (κ := W.dataKind (W.sortingHeap (s1.heap.push (seqObj "list" vs.toArray 0)) s1.heap.objs.size vs) (ds.map id)) hoL
    (W.SortsAt.data (s := { s1 with heap := W.sortingHeap (s1.heap.push (seqObj "list" vs.toArray 0)) s1.heap.objs.size vs }) (W.each_map (R := fun v d => ∃ as, Reads (W.sortingHeap (s1.heap.push (seqObj "list" vs.toArray 0)) s1.heap.objs.size vs) v d as) id er) hal2 hk2 (W.bound_map fun d hd => ?_)) (by rw [lv]; exact hL) ⟨_, rfl, ?_⟩) (args_list_sort _)))
  · have := hu d hd
    show A.units + 1 + 1 + d.depth < cLine
    omega
  · have so := W.sortVals_data false each er hal2
    generalize W.sortVals _ false vs vs = out at so ⊢
    obtain ⟨c, hcc⟩ := sortedHeap_at (vs := vs) (out := out.toArray) hoL
    refine wpAny_pure ⟨_, rfl, hQ s1 _ R0 s1.heap.objs.size out.toArray c k1 (fun b u q => ?_) rfl rfl (Nat.le_refl _) hcc (by simpa using so)⟩
    have hlt := Heap.lt_size q
    show (sortedHeap (s1.heap.push (seqObj "list" vs.toArray 0)) s1.heap.objs.size vs out.toArray).get? b = some u
    rw [sortedHeap_old (Nat.ne_of_lt hlt) (by rw [size_push']; exact Nat.lt_succ_of_lt hlt)]
    exact Heap.get?_push_of_some _ q
end
def putG (G H : Hp) : Hp := fun b => match G b with
  | some u => some u
  | none => H b
section
variable {h' : Heap}
def TupAt (h' : Heap) (a : Addr) (ob : Obj) (xs : List V) : Prop := ∃ its, ob = tupO its ∧ h'.get? a = some (tupO its) ∧ Vals xs its ∧ xs.length ≤ sizeLine
theorem lays {as : List Addr} {xss : List (List V)} (nd : as.Nodup) (hp : Paired (fun a xs => ∃ ob, TupAt h' a ob xs) as xss) :
    ∃ G : Hp, (∀ b, b ∉ as → G b = none) ∧ Paired (fun a xs => ∃ ob, G a = some (.frz ob (.tup xs)) ∧ ob.dict = none) as xss ∧ ∀ b u, G b = some u → b ∈ as ∧ ∃ ob xs, u = .frz ob (.tup xs) ∧ TupAt h' b ob xs := by
  induction hp with
  | nil => exact ⟨fun _ => none, fun _ _ => rfl, .nil, fun b u e => nomatch e⟩
  | @cons a xs as xss h t ih =>
    obtain ⟨ob, h⟩ := h
    obtain ⟨G, g1, g2, g3⟩ := ih (List.nodup_cons.mp nd).2
    have na := (List.nodup_cons.mp nd).1
    refine ⟨fun b => if b = a then some (.frz ob (.tup xs)) else G b, fun b hb => ?_, .cons ⟨ob, if_pos rfl, ?_⟩ ?_, fun b u e => ?_⟩
    · show (if b = a then some (HO.frz ob (.tup xs)) else G b) = none
      rw [if_neg (fun z => hb (by rw [z]; exact List.mem_cons_self))]
      exact g1 b fun z => hb (List.mem_cons_of_mem _ z)
    · obtain ⟨its, e, _⟩ := h
      rw [e]
    · have : ∀ {bs : List Addr} {yss : List (List V)}, (∀ b ∈ bs, b ≠ a) → Paired (fun a xs => ∃ ob, G a = some (.frz ob (.tup xs)) ∧ ob.dict = none) bs yss → Paired (fun c xs' => ∃ ob', (if c = a then some (HO.frz ob (.tup xs)) else G c) = some (.frz ob' (.tup xs')) ∧ ob'.dict = none) bs yss := by
        intro bs yss hne hp
        induction hp with
        | nil => exact .nil
        | cons h _ ih =>
          refine .cons ?_ (ih fun b hb => hne b (List.mem_cons_of_mem _ hb))
          rw [if_neg (hne _ List.mem_cons_self)]
          exact h
      exact this (fun b hb z => na (by rw [← z]; exact hb)) g2
    · have e : (if b = a then some (HO.frz ob (.tup xs)) else G b) = some u := e
      by_cases z : b = a
      · subst z
        rw [if_pos rfl] at e
        cases e
        exact ⟨List.mem_cons_self, ob, xs, rfl, h⟩
      · rw [if_neg z] at e
        obtain ⟨q1, q2⟩ := g3 b u e
        exact ⟨List.mem_cons_of_mem _ q1, q2⟩
end
section
variable {X : Cx} {pins : List (Addr × Obj)} {σ : L2.St} {F H G : Hp} {s : Shared} {h' : Heap} {tk : Nat} {as : List Addr} {pn : Pn} {b : Nat}
theorem putG_in (I : Inv X pins σ H s) (hk : ∀ b o, s.heap.get? b = some o → h'.get? b = some o) (lo : ∀ a ∈ as, s.heap.objs.size ≤ a) (g3 : ∀ b u, G b = some u → b ∈ as ∧ ∃ ob xs, u = .frz ob (.tup xs) ∧ TupAt h' b ob xs) :
    Inv X pins σ (putG G H) { s with heap := h', toks := tk } := by
  have new : ∀ t ∈ as, H t = none := fun t ht => I.hok.fresh (lo t ht)
  have kp : ∀ b u, H b = some u → putG G H b = some u := fun b u e => by
    unfold putG
    cases g : G b with
    | some u' => rw [new b (g3 b u' g).1] at e; cases e
    | none => exact e
  refine I.call' (ch := []) rfl ⟨fun b o q _ _ _ => hk b o q, fun b o q _ _ _ => ⟨o.slots, hk b o q⟩, fun b o q n _ => ?_, fun b o q _ => ⟨o, hk b o q⟩, fun b xs q => kp b _ q, fun b o u q => kp b _ q, fun b ps q => ⟨#[], by rw [kp b _ q]; simp⟩⟩ (fun b u q => ?_) I.bare fun b z => by simp at z
  · unfold putG
    cases g : G b with
    | some u' => exact absurd (Heap.lt_size q) (Nat.not_lt.mpr (lo b (g3 b u' g).1))
    | none => exact n
  · unfold putG at q
    cases g : G b with
    | some u' =>
      rw [g] at q
      cases q
      obtain ⟨_, ob, xs, e, its, eo, h1, h2, h3⟩ := g3 b u g
      subst e eo
      exact ⟨h1, h3, its, h2, ⟨_, h1, rfl, _, rfl⟩⟩
    | none =>
      rw [g] at q
      exact (I.hok b u q).stay (fun d v _ y => hk d v y) (fun d y => kp d _ y) fun d xs y => kp d _ y
theorem putG_ok (o : Ok pn b F H) (new : ∀ t ∈ as, H t = none) (g3 : ∀ b u, G b = some u → b ∈ as ∧ ∃ ob xs, u = .frz ob (.tup xs) ∧ TupAt h' b ob xs) : Ok pn b (putG G F) (putG G H) ∧ Ext pn F H (putG G F) (putG G H) := by
  have gn : ∀ c u, H c = some u → G c = none := fun c u e => by
    cases g : G c with
    | some u' => rw [new c (g3 c u' g).1] at e; cases e
    | none => rfl
  refine ⟨⟨fun c u e => ?_, ?_⟩, ⟨fun c u e => ?_, fun c u e f n => ?_⟩⟩
  · unfold putG at e ⊢
    cases g : G c with
    | some u' => rw [g] at e; exact e
    | none => rw [g] at e; exact o.sub c u e
  · have kp := o.pen
    match pn, kp with
    | none, _ => trivial
    | some q, ⟨f1, f2, ne, tb, cells, at_, cur, h1, h2, iv⟩ =>
      have n1 := gn q.pa _ h1
      have n2 := gn q.ca _ h2
      refine ⟨by unfold putG; rw [n1]; exact f1, by unfold putG; rw [n2]; exact f2, ne, tb.to (fun c u e => ?_) fun t ht => ?_, cells, at_, cur, by unfold putG; rw [n1]; exact h1, by unfold putG; rw [n2]; exact h2, iv⟩
      · unfold putG
        rw [gn c u (o.sub c u e)]
        exact e
      · obtain ⟨ft, ps, hps, _⟩ := tb t ht
        exact ⟨by unfold putG; rw [gn t.1 _ hps]; exact ft, by unfold putG; rw [gn t.1 _ hps]⟩
  · unfold putG
    rw [gn c u (o.sub c u e)]
    exact e
  · unfold putG
    rw [gn c u e]
    exact ⟨e, f⟩
end
section
variable {X : Cx}
def rItemsK : V → List V → Hp → VK → Prop := fun x xs H Q => ∃ (a : Addr) (kvs : List (Key × V)), x = .ref a ∧ xs = [] ∧ H a = some (.dK kvs) ∧ ∀ p, H p = none → Q (.ref p) (upd H p (DX.itemsO p a))
theorem mt_itemsK : MtR X "dict.items" rItemsK := by
  intro pins s σ H x xs v us Q I rx rxs h
  obtain ⟨a, kvs, rfl, rfl, ha, q⟩ := h
  cases rx
  cases rxs
  obtain ⟨z, hd, vs, rel, o, es, ep, ho, hx, hdat, _⟩ := dk_of I.hok ha
  refine DT.callItems (es := es) (ep := ep) hd ⟨o, ho, hx, hdat⟩ ?_
  have hf : H s.heap.objs.size = none := I.hok.fresh (Nat.le_refl _)
  exact ⟨.ref s.heap.objs.size, upd H s.heap.objs.size (DX.itemsO s.heap.objs.size a), I.laid (t' := s.toks) (fun b u e => Heap.get?_push_of_some _ e) (Nat.le_refl _) (DX.itemsO_ok (Heap.get?_push_size _ rfl)), rfl, q _ hf⟩
end
end Pu
namespace Pu
open PySem PySem.Spec PyProof.Rows L2 PuS
theorem paired_at {α β : Type} {R : α → β → Prop} : ∀ {us : List α} {ds : List β}, us.length = ds.length → (∀ (i : Nat) (u : α) (d : β), us[i]? = some u → ds[i]? = some d → R u d) → Paired R us ds
  | [], [], _, _ => .nil
  | [], _ :: _, h, _ => nomatch h
  | _ :: _, [], h, _ => nomatch h
  | u :: us, d :: ds, h, k => .cons (k 0 u d rfl rfl) (paired_at (Nat.succ.inj h) fun i x y e1 e2 => k (i + 1) x y (by simpa using e1) (by simpa using e2))
theorem paired_get' {α β : Type} {R : α → β → Prop} : ∀ {us : List α} {ds : List β}, Paired R us ds → ∀ (i : Nat) (u : α) (d : β), us[i]? = some u → ds[i]? = some d → R u d
  | _, _, .nil, i, u, d, h, _ => by simp at h
  | _, _, .cons r _, 0, u, d, h1, h2 => by simp at h1 h2; subst h1 h2; exact r
  | _, _, .cons _ t, i + 1, u, d, h1, h2 => paired_get' t i u d (by simpa using h1) (by simpa using h2)
theorem KVs.get' {K : PySem.W.Frag} {F : Hp} : ∀ {vs : List (Key × V)} {xs : List (Str × PyData)}, KVs K F vs xs → ∀ (i : Nat) (q : Key × V) (p : Str × PyData), vs[i]? = some q → xs[i]? = some p → q.1 = .inr p.1 ∧ RV K F q.2 p.2
  | _, _, .nil, i, q, p, h, _ => by simp at h
  | _, _, .cons r _, 0, q, p, h1, h2 => by simp at h1 h2; subst h1 h2; exact ⟨rfl, r⟩
  | _, _, .cons _ t, i + 1, q, p, h1, h2 => t.get' i q p (by simpa using h1) (by simpa using h2)
def wKSort (i : Nat) : WF := fun env b P => match env[i]? with
  | some (some (.k kvs)) => pSort (.list (kvs.map pairS)) fun z => P z b
  | _ => False
section
variable {X : Cx} {i : Nat} {o : Expr} {p pos apos cpos : Pos}
theorem f_ksort (hu : X.A.units + 64 < cLine) (hc : X.calm = true) (hg : Gl X "sorted") (hm : X.mg "sorted" = none) (ho : PE X o (tVar i)) (hbase : attributeBase o "items" X.env (eval o X.env) = eval o X.env := by rfl) (hline : (apos.endLine == cpos.line) = true := by rfl)
    (na : starEach [.Call (.Attribute o "items" apos) [] [] cpos] X.env = (false, eval (.Call (.Attribute o "items" apos) [] [] cpos) X.env) :: starEach [] X.env := by rfl) :
    EF X (.Call (.Name "sorted" p) [.Call (.Attribute o "items" apos) [] [] cpos] [] pos) (wKSort i) := by
  refine ⟨fun pins s σ H Q I h => ?_⟩
  obtain ⟨pn, F, env, b, P, rep, t, k⟩ := h
  unfold wKSort at t
  split at t
  · rename_i kvs ek
    obtain ⟨v, hv, a, vsV, rfl, fa, np, nc, ha, kv⟩ := rep.slot i _ ek
    have hit : PE X (.Call (.Attribute o "items" apos) [] [] cpos) (tBM0 X.K "dict" rItemsK (tVar i)) := pe_bm0 PySem.F.plainAttrs_dict PySem.F.slot_dict_items PySem.F.type_dict_items mt_itemsK ho hbase hline
    refine Call_ (ld_blt I hg hm boot_sorted2 ?_)
    refine PyProof.Rows.callWith_builtin1 (PyProof.Rows.args_cons (thn (hit.run pins s σ H (fun v H1 => ∃ q, v = .ref q ∧ H q = none ∧ H1 = upd H q (DX.itemsO q a)) I ⟨.ref a, hv, .inr (.inr (.inl ⟨rfl, .inl ⟨vsV, ha⟩⟩)), a, vsV, rfl, rfl, ha, fun q hq => ⟨q, rfl, hq, rfl⟩⟩) fun v s1 ⟨x, H1, I1, r1, q1⟩ => PyProof.Rows.args_nil ?_) na) na rfl
    obtain ⟨q, rfl, hq, rfl⟩ := q1
    cases r1
    have o1 : Ok pn b F (upd H q (DX.itemsO q a)) := rep.ok.own hq
    have x1 : Ext pn F H F (upd H q (DX.itemsO q a)) := .own hq
    have hqa : a ≠ q := fun z => by rw [z, hq] at ha; cases ha
    have ha1 : (upd H q (DX.itemsO q a)) a = some (.dK vsV) := by rw [upd_ne hqa]; exact ha
    have hview : s1.heap.IsItemsView q a := (I1.hok q (DX.itemsO q a) upd_same).1
    obtain ⟨hz, hs0, vs, rel, hdo⟩ := dk_of I1.hok ha1
    obtain ⟨ep, hat⟩ := hdo.dictAt
    have lk : vsV.length = vs.length := Paired.length rel
    obtain ⟨ds, ei, al, so, ln, dp, q⟩ := t
    cases ei
    have lz : (kvs.map pairS).length ≤ sizeLine := by rw [sizeLine_eq]; omega
    refine sortedG (ds := kvs.map pairS) (K := fun s2 R0 => ∃ F2 H2, R0 = Stands X.K F2 ∧ L2.Inv X pins σ H2 s2 ∧ Ok pn b F2 H2 ∧ Ext pn F H F2 H2) (fun s2 R0 ⟨F2, H2, e, J, o2, x2⟩ u y h => ?_) al so lz (fun y hy => by have := dp y hy; omega) (fun R hR => ?_) (args_sorted1 _) fun s2 s3 R0 p out c ⟨F2, H2, e, J, o2, x2⟩ k2 g2 z2 hp ha2 hout => ?_
    · subst e
      obtain ⟨w, rw_, rd⟩ := h
      obtain ⟨as, ra, _⟩ := reads_of J o2.sub rd rw_
      exact ⟨as, ra⟩
    · refine PySem.W.kdx_collect (knd := mixKind X.prog X.w) (kvs := vs) (ep := ep) (A := X.A.in1) (by have := I1.ok.hd hc; simpa using this) hview hat (by omega) fun h' tk as hk hl hG => ?_
      have nd : as.Nodup := List.Pairwise.imp (fun {a b} (h : a < b) => Nat.ne_of_lt h) hG.rise
      have lo : ∀ c ∈ as, s1.heap.objs.size ≤ c := fun c hc => Nat.le_of_lt (hG.above c hc)
      have hp : Paired (fun c xs => ∃ ob, TupAt h' c ob xs) as (vsV.map fun q => [kV q.1, q.2]) := by
        refine paired_at (by rw [List.length_map]; omega) fun j c xs e1 e2 => ?_
        obtain ⟨key, kk, x, f1, f2, f3⟩ := hG.pairs j c e1
        rw [List.getElem?_map] at e2
        obtain ⟨qv, g1, g2⟩ := Option.map_eq_some_iff.mp e2
        subst g2
        obtain ⟨r1, r2⟩ := paired_get' rel j qv (kk, x) g1 f1
        have rk : RelV (kV qv.1) key := by
          rw [r1]
          exact relV_key (show keyIs kk key = true from f2)
        exact ⟨_, [key, x], rfl, f3, .cons rk (.cons r2 .nil), by show 2 ≤ sizeLine; decide⟩
      obtain ⟨G, g1, g2, g3⟩ := lays nd hp
      have J := putG_in (tk := tk) I1 hk lo g3
      obtain ⟨o2, x2⟩ := putG_ok o1 (fun t ht => I1.hok.fresh (lo t ht)) g3
      refine hR _ _ (Stands X.K (putG G F)) ⟨_, _, rfl, J, o2, x1.trans x2⟩ (each_at (by rw [List.length_map, List.length_map, ← kv.len]; omega) fun j u d e1 e2 => ?_)
      rw [List.getElem?_map] at e1 e2
      obtain ⟨c, e1', rfl⟩ := Option.map_eq_some_iff.mp e1
      obtain ⟨pr, e2', rfl⟩ := Option.map_eq_some_iff.mp e2
      clear e1 e2
      have e1 := e1'
      have e2 := e2'
      have jl : j < vsV.length := by rw [kv.len]; exact (List.getElem?_eq_some_iff.mp e2).1
      obtain ⟨ob, gc, gd⟩ := paired_get' g2 j c [kV vsV[j].1, vsV[j].2] e1 (by rw [List.getElem?_map, List.getElem?_eq_getElem jl]; rfl)
      obtain ⟨kq, rq⟩ := kv.get' j _ pr (List.getElem?_eq_getElem jl) e2
      refine ⟨.ref c, rfl, .tup (.inl ⟨ob, by unfold putG; rw [gc], gd⟩) (.cons ?_ (.cons (rq.mono (x1.trans x2).fsub) .nil))⟩
      rw [kq]
      exact .str _
    · subst e
      obtain ⟨ws, hw, hr⟩ := of_stands hout
      have hok2 : HOk X.prog X.w H2 s2.heap := J.hok
      have hn : H2 p = none := hok2.fresh hp
      have lw : ws.length ≤ sizeLine := by
        rw [hr.len]
        show ((kvs.map pairS).mergeSort _).length ≤ sizeLine
        rw [List.length_mergeSort]
        exact lz
      have J2 : Inv X pins σ (upd H2 p (.lst ws)) s3 := J.call' (ch := []) z2 (Un.laid k2 hp hn) (hok2.laid k2 hp ⟨lw, out.toList, c, hw, ha2⟩) (by rw [g2]; exact J.bare) (fun _ z => nomatch z)
      have g : GoL X.K pn b F2 H2 (fun d => P d b) Q := fun w z F' H' o3 e3 rv nw pz => k w z F' H' b o3 (x2.trans e3) rv (fun a e => x2.back rep.ok o2 (nw a e)) pz
      exact ⟨.ref p, _, J2, rfl, g.lst o2 hr q p hn⟩
  · exact t.elim
end
end Pu
namespace Pu
open PySem PySem.Spec PyProof.Rows L2 PuS
abbrev WDO := List Sl → Nat → (PyData → Nat → Prop) → (List PyData → Nat → Prop) → Prop
/-- return x, the list a name holds stays one's own -/
def sRetO (i : Nat) : WS := fun PD env b => match env[i]? with
  | some (some (.d x)) => PD.rt x b
  | some (some (.l xs)) => PD.rl xs b
  | _ => False
def wDefO (np nn : Nat) (t : WS) : WDO := fun ss b P L => ss.length = np ∧ t { nx := fun _ b' => P .none b', rt := P, rl := L } (env0 nn ss) b
/-- .. and settled at once -/
def fzO (f : WDO) : WD := fun ss b P => f ss b P fun ds b' => P (.list ds) b'
def spO (K : PySem.W.Frag) (f : WDO) : Sp := fun vs H Q _ => ∃ pn F ss b P L, Ok pn b F H ∧ ArgsAre K pn F H vs ss ∧ f ss b P L ∧
  (∀ v d F' H' b', Ok pn b' F' H' → Ext pn F H F' H' → RV K F' v d → P d b' → Q v H') ∧
  (∀ v ds F' H' b', Ok pn b' F' H' → Ext pn F H F' H' → OwnL K pn F' H' v ds → (∀ a, v = .ref a → H a = none) → L ds b' → Q v H')
section
variable {X : Cx} {i : Nat} {x : Str} {p pos spos pos' : Pos} {tf : WF} {e : Expr}
theorem s_retO (h : PE X (.Name x p) (tVar i)) : SS X (.Return (some (.Name x p)) pos) (sRetO i) := PS.imp (ps_ret h) fun D σ H ⟨pn, F0, H0, F, env, b, PD, rep, t, k, r⟩ => by
  unfold sRetO at t
  split at t
  · rename_i y h
    obtain ⟨v, h1, h2⟩ := rep.rep.slot i _ h
    exact ⟨v, h1, r.1 v y F H b rep.rep.ok rep.ext h2 t⟩
  · rename_i ys h
    obtain ⟨v, h1, h2⟩ := rep.rep.slot i _ h
    exact ⟨v, h1, r.2 v ys F H b rep.rep.ok rep.ext h2 (fun a ea => rep.own i a _ rfl h (by rw [h1, ea])) t⟩
  · exact t.elim
end
section
variable {P : Program} {w : World} {K : PySem.W.Frag} {mg : Str → Option Value} {base : Heap}
theorem ok_fnO {x qual : Str} {st : Stmt} {f : Addr} {fd : FuncData} {N ps : List Str} {k : Nat} {t : WS} (F : Fun K x qual st f fd) (S : FnScope N ps (defScope st))
    (body : ∀ (cdv : Value) (A : Around) (outer : List Env) (s : Shared) (H : Hp) (E : XK), Room k (A.deeper (envOfC qual (defScope st) s.heap.objs.size f cdv)) → SB (cxOf CX0 P w K mg base N qual (defScope st) f cdv A outer s H E).nox (defBody st) t) :
    FnOk P w K mg base CX0 (k + 1) f fd ps (spO K (wDefO ps.length N.length t)) := by
  refine F.ok S (fun vs H Q E h => ?_) (fun cdv A outer s H vs Q E hr h => ?_)
  · obtain ⟨pn, F, ss, b, P, L, o, ar, ⟨hl, _⟩, _⟩ := h
    rw [ar.len, hl]
  · obtain ⟨pn, F, ss, b, PP, L, o, ar, ⟨hl, q⟩, kk, kl⟩ := h
    exact ⟨lS K t, body cdv A outer s H E hr, pn, F, H, F, _, b, _, start_rep o ar, q,
      fun σ' F' H' env' b' rep' => ⟨fun q => kk .non .none F' H' b' rep'.rep.ok rep'.ext .non q, fun q => q, fun q => q⟩, ⟨fun v d F' H' b' o' x' rv q => kk v d F' H' b' o' x' rv q, fun v d F' H' b' o' x' ow nw q => kl v d F' H' b' o' x' ow nw q⟩⟩
theorem spO.fz {f : Addr} {fd : FuncData} {ps : List Str} {k : Nat} {t : WDO} (G : FnOk P w K mg base CX0 k f fd ps (spO K t)) : FnOk P w K mg base CX0 k f fd ps (spW K (fzO t)) :=
  G.imp fun vs H Q E ⟨pn, F, ss, b, PP, o, ar, q, kk⟩ => ⟨pn, F, ss, b, PP, _, o, ar, q, kk, fun v ds F' H' b' o' x ow nw q => by
    obtain ⟨a, us, rfl, f, n, nc, ha, rv⟩ := ow
    refine kk (.ref a) (.list ds) (upd F' a (.lst us)) H' b' (o'.settle ha f n nc) ⟨x.fsub.trans (same_new f), fun c u hc fc ncp => ?_⟩ (.lst upd_same (rv.mono (same_new f))) q
    obtain ⟨h1, f1⟩ := x.keep c u hc fc ncp
    exact ⟨h1, by rw [upd_ne (fun z => by rw [z, nw a rfl] at hc; cases hc)]; exact f1⟩⟩
end
def MDO (f : WDO) (ss : List Sl) (n : Nat) (R : PyData → Nat → Prop) (L : List PyData → Nat → Prop) : Prop :=
  ∀ (b : Nat) (P : PyData → Nat → Prop) (PL : List PyData → Nat → Prop), n ≤ b → (∀ r m b', R r m → m ≤ b' → P r b') → (∀ r m b', L r m → m ≤ b' → PL r b') → f ss b P PL
def MSO (t : WS) (env : En) (n : Nat) (N : En → Nat → Prop) (R : PyData → Nat → Prop) (L : List PyData → Nat → Prop) (B C : En → Nat → Prop) : Prop :=
  ∀ (PD : PEnds) (b : Nat), n ≤ b → (∀ e m b', N e m → m ≤ b' → PD.nx e b') → (∀ r m b', R r m → m ≤ b' → PD.rt r b') → (∀ r m b', L r m → m ≤ b' → PD.rl r b') →
    (∀ e m b', B e m → m ≤ b' → PD.bk e b') → (∀ e m b', C e m → m ≤ b' → PD.ct e b') → t PD env b
section
variable {t u tb : WS} {ta tc : WE} {tt : WT} {tf : WF} {ti : WI} {env : En} {n i j : Nat} {g : Tg} {N : En → Nat → Prop} {R : PyData → Nat → Prop} {L : List PyData → Nat → Prop} {B C : En → Nat → Prop}
theorem o_seq (h : MS t env n (fun e m => MSO u e m N R L B C) R B C) : MSO (sSeq t u) env n N R L B C :=
  fun PD b hb kn kr kl kb kc => h _ b hb (fun e m b' q hm => q PD b' hm kn kr kl kb kc) kr kb kc
theorem o_retO {xs : List PyData} (hx : env[i]? = some (some (.l xs))) (q : L xs n) : MSO (sRetO i) env n N R L B C :=
  fun PD b hb kn kr kl kb kc => by unfold sRetO; rw [hx]; exact kl _ n b q hb
theorem mdo_def {np nn : Nat} {t : WS} {ss : List Sl} {n : Nat} {Q : PyData → Nat → Prop} {L : List PyData → Nat → Prop} {env : En} (hl : ss.length = np) (he : env0 nn ss = env) (h : MSO t env n (fun _ m => Q .none m) Q L noEnd noEnd) : MDO (wDefO np nn t) ss n Q L :=
  fun b P PL hb k kl => ⟨hl, by subst he; exact h _ b hb (fun e m b' q hm => k _ m b' q hm) k kl (fun _ _ _ q => q.elim) (fun _ _ _ q => q.elim)⟩
theorem md_fz {f : WDO} {ss : List Sl} {n : Nat} {Q : PyData → Nat → Prop} (h : MDO f ss n Q fun ds m => Q (.list ds) m) : MD (fzO f) ss n Q := fun b P hb k => h b P _ hb k fun r m b' q hm => k _ m b' q hm
theorem MDO.imp {f : WDO} {ss : List Sl} {n : Nat} {Q Q' : PyData → Nat → Prop} {L L' : List PyData → Nat → Prop} (h : MDO f ss n Q L) (i : ∀ r m, Q r m → Q' r m) (j : ∀ r m, L r m → L' r m) : MDO f ss n Q' L' :=
  fun b P PL hb k kl => h b P PL hb (fun r m b' q hm => k r m b' (i r m q) hm) fun r m b' q hm => kl r m b' (j r m q) hm
theorem n_dictK (h : ME ta env n fun d m => ∃ kvs, dictOf d kvs ∧ N (env.set i (some (.k kvs))) m) : MS (sDictK ta i) env n N R B C :=
  fun PD b hb kn kr kb kc => h b _ hb fun d m b1 ⟨kvs, hd, q⟩ hb1 => ⟨kvs, hd, kn _ m b1 q hb1⟩
theorem m_kin {kvs : List (Str × PyData)} {Q : PyData → Nat → Prop} {neg : Bool} (hx : env[i]? = some (some (.k kvs))) (h : ME ta env n fun d m => ∃ s, d = .str s ∧ Q (.bool (neg ^^ (lookS kvs s).isSome)) m) : ME (wKIn ta i neg) env n Q :=
  fun b P hb k => h b _ hb fun d m b1 ⟨s, e, q⟩ hb1 => by
    subst e
    rw [hx]
    exact k _ m b1 q hb1
theorem m_kget {kvs : List (Str × PyData)} {Q : PyData → Nat → Prop} (hx : env[i]? = some (some (.k kvs))) (h : ME ta env n fun d m => ∃ s z, d = .str s ∧ lookS kvs s = some z ∧ Q z m) : ME (wKGet ta i) env n Q :=
  fun b P hb k => by
    unfold wKGet
    rw [hx]
    refine h b _ hb fun d m b1 ⟨s, z, e, e2, q⟩ hb1 => ?_
    subst e
    show (match lookS kvs s with | some d => P d b1 | none => False)
    rw [e2]
    exact k _ m b1 q hb1
theorem n_kset {kvs : List (Str × PyData)} (hx : env[i]? = some (some (.k kvs))) (h : ME tc env n fun d m => ME ta env m fun y m' => ∃ s, y = .str s ∧ kvs.length < sizeLine ∧ N ((env.map noK).set i (some (.k (putS kvs s d)))) m') : MS (sKSet i ta tc) env n N R B C :=
  fun PD b hb kn kr kb kc => by
    unfold sKSet
    rw [hx]
    refine h b _ hb fun d m b1 hd hb1 => hd b1 _ hb1 fun y m' b2 ⟨s, e, l, q⟩ hb2 => ?_
    subst e
    exact ⟨l, kn _ m' b2 q hb2⟩
theorem m_klist {kvs : List (Str × PyData)} {QL : List PyData → Nat → Prop} (hx : env[i]? = some (some (.k kvs))) (q : QL (kvs.map fun p => .str p.1) n) : ME (wKList i) env n QL := fun b P hb k => by
  unfold wKList
  rw [hx]
  exact k _ n b q hb
theorem m_ksort {kvs : List (Str × PyData)} {QL : List PyData → Nat → Prop} (hx : env[i]? = some (some (.k kvs))) (al : W.AllAlike (kvs.map pairS)) (so : W.Sortable (kvs.map pairS)) (few : kvs.length ≤ 100000) (dp : ∀ d ∈ kvs.map pairS, d.depth ≤ 40) (q : QL (srt (kvs.map pairS)) n) : ME (wKSort i) env n QL := fun b P hb k => by
  unfold wKSort
  rw [hx]
  exact ⟨_, rfl, al, so, by rw [List.length_map]; exact few, dp, k _ n b q hb⟩
theorem m_dget2 {te tz : WE} {Q : PyData → Nat → Prop} (h : ME te env n fun d m => ∃ kvs, dictOf d kvs ∧ ME ta env m fun y m1 => ∃ s, y = .str s ∧ ME tz env m1 fun z m2 => Q ((lookS kvs s).getD z) m2) : ME (wDGet te ta tz) env n Q :=
  fun b P hb k => h b _ hb fun d m b1 ⟨kvs, hd, h2⟩ hb1 => ⟨kvs, hd, h2 b1 _ hb1 fun y m1 b2 ⟨s, e, h3⟩ hb2 => by subst e; exact h3 b2 _ hb2 fun z m2 b3 q hb3 => k _ m2 b3 q hb3⟩
/-- sorted(x) -/
theorem m_sort {QL : List PyData → Nat → Prop} (h : ME ta env n fun d m => ∃ ds, itemsOf d = some ds ∧ W.AllAlike ds ∧ W.Sortable ds ∧ ds.length ≤ 100000 ∧ (∀ d ∈ ds, d.depth ≤ 40) ∧ QL (srt ds) m) : ME (w1L pSort ta) env n QL :=
  fun b P hb k => h b _ hb fun d m b1 ⟨ds, h1, h2, h3, h4, h5, q⟩ hb1 => ⟨ds, h1, h2, h3, h4, h5, k _ m b1 q hb1⟩
end
end Pu
namespace Pu
open PySem PySem.Spec PyProof.Rows L2 PuS
def pMulV : P2
  | .str s, .int n, P => -(2 ^ 63) ≤ n ∧ n ≤ 1 ∧ P (.str (Txt.mul s n))
  | x, y, P => pMulT x y P
def eMulV : PyData → PyData → Option PyData
  | .str s, .int n => if -(2 ^ 63) ≤ n ∧ n ≤ 1 then some (.str (Txt.mul s n)) else none
  | x, y => eMulT x y
theorem h2_mulV : H2 pMulV eMulV := fun x y P r q k => by
  unfold eMulV at q
  unfold pMulV
  split at q
  · obtain ⟨c, e⟩ := ite_some q
    subst e
    exact ⟨c.1, c.2, k⟩
  · rename_i h
    split
    · rename_i s n
      exact absurd rfl (h s n rfl)
    · exact h2_mulT _ _ P r q k
end Pu
namespace Pu
open PySem PySem.Spec PyProof.Rows L2 SeqAt PuS
theorem h1_lenSet2 : H1 pLenSet2 eLenSet := fun x P r q k => by
  obtain ⟨ks, h1, q⟩ := bnd q
  obtain ⟨c, e⟩ := ite_some q
  subst e
  exact .inl ⟨ks, keysF_ok h1, c, k⟩
end Pu
namespace Pu
open PySem PySem.Spec PyProof.Rows L2 SeqAt PuS
abbrev CsT := List (Nat × Int)
def cD (p : Nat × Int) : PyData := .tuple [sg p.1, .int p.2]
def csS (cs : CsT) : List (Str × PyData) := cs.map fun p => ((⟨#[p.1]⟩ : Str), PyData.int p.2)
def colsC (cs : CsT) : List Nat := cs.map (·.1)
def fixC (cs : CsT) (c : Nat) : Option Int := (cs.find? fun p => decide (p.1 = c)).map (·.2)
theorem csS_pair (cs : CsT) : (csS cs).map pairS = cs.map cD := by
  unfold csS
  rw [List.map_map]
  rfl
theorem csS_keys (cs : CsT) : ((csS cs).map fun p => PyData.str p.1) = (colsC cs).map sg := by
  unfold csS colsC
  rw [List.map_map, List.map_map]
  rfl
theorem csS_nodup {cs : CsT} (h : (colsC cs).Nodup) : ((csS cs).map (·.1)).Nodup := by
  unfold csS
  rw [List.map_map]
  have : ((fun x : Str × PyData => x.1) ∘ fun p : Nat × Int => ((⟨#[p.1]⟩ : Str), PyData.int p.2)) = (fun c : Nat => (⟨#[c]⟩ : Str)) ∘ fun p => p.1 := rfl
  rw [this, ← List.map_map]
  exact h.map _ fun a b n z => n (sg_inj z)
theorem lookS_cs (c : Nat) : ∀ cs : CsT, lookS (csS cs) ⟨#[c]⟩ = (fixC cs c).map .int
  | [] => rfl
  | p :: r => by
    have ih := lookS_cs c r
    unfold lookS csS fixC at ih ⊢
    rw [List.map_cons, List.find?_cons, List.find?_cons]
    by_cases e : p.1 = c
    · rw [decide_eq_true (by show (⟨#[p.1]⟩ : Str) = ⟨#[c]⟩; rw [e]), decide_eq_true e]
      rfl
    · rw [decide_eq_false (fun z => e (sg_inj z)), decide_eq_false e]
      exact ih
theorem fixC_none {cs : CsT} {c : Nat} : fixC cs c = none ↔ c ∉ colsC cs := by
  unfold fixC colsC
  rw [Option.map_eq_none_iff, List.find?_eq_none]
  constructor
  · intro h z
    obtain ⟨p, hp, e⟩ := List.mem_map.mp z
    exact h p hp (decide_eq_true e)
  · intro h p hp z
    exact h (List.mem_map.mpr ⟨p, hp, of_decide_eq_true z⟩)
theorem putS_cs {cs : CsT} {c : Nat} {v : Int} (h : fixC cs c = none) : putS (csS cs) ⟨#[c]⟩ (.int v) = csS (cs ++ [(c, v)]) := by
  have hn := fixC_none.mp h
  unfold putS
  rw [if_neg]
  · unfold csS; rw [List.map_append]; rfl
  · intro z
    obtain ⟨p, hp, e⟩ := List.any_eq_true.mp z
    unfold csS at hp
    obtain ⟨q, hq, rfl⟩ := List.mem_map.mp hp
    exact hn (List.mem_map.mpr ⟨q, hq, sg_inj (of_decide_eq_true e)⟩)
theorem cs_alike (cs : CsT) : W.AllAlike (cs.map cD) := by
  intro d hd d' hd'
  obtain ⟨p, _, rfl⟩ := List.mem_map.mp hd
  obtain ⟨q, _, rfl⟩ := List.mem_map.mp hd'
  rfl
theorem cs_sortable (cs : CsT) : W.Sortable (cs.map cD) := .inl fun d hd => by
  obtain ⟨p, _, rfl⟩ := List.mem_map.mp hd
  exact ⟨_, _, rfl⟩
theorem cs_depth (cs : CsT) : ∀ d ∈ cs.map cD, d.depth ≤ 40 := fun d hd => by
  obtain ⟨p, _, rfl⟩ := List.mem_map.mp hd
  show PyData.depth (.tuple [.str _, .int _]) ≤ 40
  simp [PyData.depth, PyData.depthAll]
def srtC (cs : CsT) : CsT := cs.mergeSort fun a b => decide (a.1 ≤ b.1)
theorem ones_lt {a b : Nat} : ([a] : List Nat) < [b] ↔ a < b := by rw [List.cons_lt_cons_iff]; simp
theorem le_cD (a b : Nat × Int) : W.dataLe false id (cD a) (cD b) = !(if b.1 = a.1 then decide (b.2 < a.2) else decide (b.1 < a.1)) := by
  show (!W.dataLt (cD b) (cD a)) = _
  unfold cD
  rw [show W.dataLt (.tuple [sg b.1, .int b.2]) (.tuple [sg a.1, .int a.2]) = _ from W.dataLt_pair rfl rfl]
  congr 1
  have e1 : PyData.eqv (sg b.1) (sg a.1) = decide (b.1 = a.1) := by
    show decide ((⟨#[b.1]⟩ : Str) = ⟨#[a.1]⟩) = _
    exact decide_eq_decide.mpr ⟨sg_inj, fun z => by rw [z]⟩
  have e2 : PyData.eqv (.int b.2) (.int a.2) = decide (b.2 = a.2) := by rw [PyData.eqv]; exact Bool.eq_iff_iff.mpr (by simp)
  have e3 : W.dataLt (sg b.1) (sg a.1) = decide (b.1 < a.1) := by
    show W.dataLt (.str ⟨#[b.1]⟩) (.str ⟨#[a.1]⟩) = _
    rw [W.dataLt_str]
    exact decide_eq_decide.mpr ones_lt
  rw [e1, e2, e3, W.dataLt_int]
  by_cases h : b.1 = a.1
  · rw [if_pos (decide_eq_true h), if_pos h]
    by_cases h2 : b.2 = a.2
    · rw [if_pos (decide_eq_true h2), h2]
      simp
    · rw [if_neg (by simpa using h2)]
  · rw [if_neg (by simpa using h), if_neg h]
theorem nodup_same {cs : CsT} (nd : (colsC cs).Nodup) {a b : Nat × Int} (ha : a ∈ cs) (hb : b ∈ cs) (e : a.1 = b.1) : a = b := by
  induction cs with
  | nil => exact nomatch ha
  | cons p r ih =>
    obtain ⟨n1, n2⟩ := List.nodup_cons.mp (show (p.1 :: colsC r).Nodup from nd)
    rcases List.mem_cons.mp ha with ea | ha'
    · rcases List.mem_cons.mp hb with eb | hb'
      · rw [ea, eb]
      · exact absurd (show p.1 ∈ colsC r from List.mem_map.mpr ⟨b, hb', by rw [← e, ea]⟩) n1
    · rcases List.mem_cons.mp hb with eb | hb'
      · exact absurd (show p.1 ∈ colsC r from List.mem_map.mpr ⟨a, ha', by rw [e, eb]⟩) n1
      · exact ih n2 ha' hb'
theorem srt_cs {cs : CsT} (nd : (colsC cs).Nodup) : srt (cs.map cD) = (srtC cs).map cD := by
  unfold srt srtC
  rw [List.map_mergeSort (s := W.dataLe false id)]
  intro a ha b hb
  rw [le_cD]
  by_cases e : b.1 = a.1
  · have := nodup_same nd hb ha e
    subst this
    simp
  · rw [if_neg e]
    by_cases h : a.1 ≤ b.1
    · rw [decide_eq_true h, decide_eq_false (by omega)]; rfl
    · rw [decide_eq_false h, decide_eq_true (by omega)]; rfl
theorem srtC_perm (cs : CsT) : (srtC cs).Perm cs := List.mergeSort_perm _ _
theorem srtC_asc {cs : CsT} (nd : (colsC cs).Nodup) : (colsC (srtC cs)).Pairwise (· < ·) := by
  have h := List.pairwise_mergeSort (le := fun a b : Nat × Int => decide (a.1 ≤ b.1)) (fun a b c h1 h2 => decide_eq_true (Nat.le_trans (of_decide_eq_true h1) (of_decide_eq_true h2))) (fun a b => by
    rcases Nat.le_total a.1 b.1 with z | z <;> simp [z]) cs
  have nd2 : (colsC (srtC cs)).Nodup := (((srtC_perm cs).map (·.1)).symm : (cs.map (·.1)).Perm ((srtC cs).map (·.1))).nodup nd
  have h2 : (colsC (srtC cs)).Pairwise (· ≤ ·) := by
    unfold colsC
    rw [List.pairwise_map]
    exact h.imp fun {a b} z => of_decide_eq_true z
  exact (h2.and nd2).imp fun {a b} z => Nat.lt_of_le_of_ne z.1 z.2
inductive Kn where
  | emp
  | kn (cs : CsT) (o k : List Nat) (c : Bool) (m : Option Int)
def mostD : Option Int → PyData
  | none => .none
  | some i => .int i
def knD : Kn → PyData
  | .emp => .tuple [.str "empty"]
  | .kn cs o k c m => .tuple [.tuple (cs.map cD), .str (tx o), .str (tx k), .bool c, mostD m]
structure CsOk (K : List Nat) (cs : CsT) : Prop where
  asc : (colsC cs).Pairwise (· < ·)
  sub : ∀ c ∈ colsC cs, c ∈ K
structure KnP (K : List Nat) (cs : CsT) (o k : List Nat) (m : Option Int) : Prop where
  cs : CsOk K cs
  osub : ∀ c ∈ o, c ∈ K
  ond : o.Nodup
  known : k.Sublist K
  most : ∀ i, m = some i → 1 ≤ i
def KnOk (K : List Nat) : Kn → Prop
  | .emp => True
  | .kn cs o k _ m => KnP K cs o k m
inductive Stp where
  | whr (c : Nat) (v : Int)
  | srt (b : Bool) (p : List Nat)
  | cut (b : Bool) (n : Nat)
  | col (l : List Nat)
  | grp (w : Str) (r : List PyData)
def stpD : Stp → PyData
  | .whr c v => .tuple [.str "where", sg c, .int v]
  | .srt true p => .tuple [.str "stable", .str (tx p)]
  | .srt false p => .tuple [.str "sort", .str (tx p)]
  | .cut true n => .tuple [.str "first", .int (n : Nat)]
  | .cut false n => .tuple [.str "skip", .int (n : Nat)]
  | .col l => .tuple [.str "columns", .str (tx l)]
  | .grp w r => .tuple (.str w :: r)
def StpOk (K : List Nat) : Stp → Prop
  | .whr c _ => c ∈ K
  | .srt _ p => (∀ c ∈ p, c ∈ K) ∧ p.Nodup
  | .cut _ _ => True
  | .col l => l.Sublist K
  | .grp w _ => w = Str.ofString "count" ∨ w = Str.ofString "sum" ∨ w = Str.ofString "heads"
section
variable (K : List Nat) (rules : List Rule) (keys : List (List Nat))
/-- the closure of some columns holds a key -/
def oneK (X : List Nat) : Bool := keys.any fun k => inB k (clos K rules keys (K.filter fun c => decide (c ∈ X)))
def plcK (cs : CsT) (o k : List Nat) : List Nat := k.filter fun c => decide (c ∈ clos K rules keys (K.filter fun c => decide (c ∈ o ++ colsC cs)))
def afW (cs : CsT) (o k : List Nat) (n : Bool) (m : Option Int) (c : Nat) (v : Int) : Kn := match fixC cs c with
  | some u => if u = v then .kn cs o k n m else .emp
  | none => .kn (srtC (cs ++ [(c, v)])) o (if c ∈ k then k else []) (n && decide (c ∈ k)) (if oneK K rules keys (colsC cs ++ [c]) = true then some 1 else m)
def preS (k p : List Nat) : List Nat := p.takeWhile fun c => decide (c ∈ k)
def afS (k o : List Nat) (b : Bool) (p : List Nat) : List Nat := if b = true ∧ preS k p = p then p ++ o.filter fun c => !decide (c ∈ p) else preS k p
def afC (cs : CsT) (o k : List Nat) (n : Bool) (m : Option Int) (b : Bool) (i : Nat) : Kn :=
  if i = 0 then (if b = true then .emp else .kn cs o k n m) else match m with
    | some j => if j ≤ (i : Int) then (if b = true then .kn cs o k n m else .emp) else .kn cs o (plcK K rules keys cs o k) n (some (if b = true then (i : Int) else j - i))
    | none => .kn cs o (plcK K rules keys cs o k) n (if b = true then some (i : Int) else none)
def aft : Kn → Stp → Kn
  | .emp, _ => .emp
  | .kn cs o k n m, .whr c v => afW K rules keys cs o k n m c v
  | .kn cs o k n m, .srt b p => .kn cs (afS k o b p) k n m
  | .kn cs o k n m, .cut b i => afC K rules keys cs o k n m b i
  | .kn cs o k n m, .col l => .kn cs o (k.filter fun c => decide (c ∈ l)) n m
  | .kn cs o k n m, .grp _ _ => .kn cs o k n m
def stK : Kn := .kn [] [] K true (if oneK K rules keys [] = true then some 1 else none)
end
section
variable {K : List Nat} {rules : List Rule} {keys : List (List Nat)}
theorem CsOk.few (hK : ColsOk K) {cs : CsT} (h : CsOk K cs) : cs.length ≤ 5 := by
  have := nodup_len (asc_nodup h.asc) h.sub
  unfold colsC at this
  rw [List.length_map] at this
  have := hK.few
  omega
theorem CsOk.put {cs : CsT} {c : Nat} {v : Int} (h : CsOk K cs) (hc : c ∈ K) (hf : fixC cs c = none) : CsOk K (srtC (cs ++ [(c, v)])) ∧ (colsC (cs ++ [(c, v)])).Nodup := by
  have nd : (colsC (cs ++ [(c, v)])).Nodup := by
    unfold colsC
    rw [List.map_append, List.nodup_append]
    exact ⟨asc_nodup h.asc, by simp, fun a ha b hb => by
      have : b = c := by simpa using hb
      subst this
      exact fun e => fixC_none.mp hf (e ▸ ha)⟩
  refine ⟨⟨srtC_asc nd, fun d hd => ?_⟩, nd⟩
  have : d ∈ colsC (cs ++ [(c, v)]) := ((srtC_perm _).map (·.1)).mem_iff.mp hd
  unfold colsC at this
  rw [List.map_append] at this
  rcases List.mem_append.mp this with z | z
  · exact h.sub d z
  · have : d = c := by simpa using z
    rw [this]; exact hc
theorem aft_ok (hK : ColsOk K) {q : Kn} {s : Stp} (h : KnOk K q) (hs : StpOk K s) : KnOk K (aft K rules keys q s) := by
  cases q with
  | emp => trivial
  | kn cs o k n m =>
    have h : KnP K cs o k m := h
    cases s with
    | whr c v =>
      show KnOk K (afW K rules keys cs o k n m c v)
      unfold afW
      split
      · split
        · exact h
        · trivial
      · rename_i hf
        refine ⟨(h.cs.put hs hf).1, h.osub, h.ond, ?_, fun i e => ?_⟩
        · split
          · exact h.known
          · exact List.nil_sublist _
        · split at e
          · cases e; decide
          · exact h.most i e
    | srt b p =>
      show KnP K cs (afS k o b p) k m
      refine ⟨h.cs, fun c hc => ?_, ?_, h.known, h.most⟩
      · unfold afS at hc
        split at hc
        · rcases List.mem_append.mp hc with z | z
          · exact hs.1 c z
          · exact h.osub c (List.mem_filter.mp z).1
        · exact hs.1 c ((List.takeWhile_sublist _).subset hc)
      · unfold afS
        split
        · rw [List.nodup_append]
          refine ⟨hs.2, h.ond.filter _, fun a ha b hb e => ?_⟩
          have := (List.mem_filter.mp hb).2
          simp at this
          exact this (e ▸ ha)
        · exact hs.2.sublist (List.takeWhile_sublist _)
    | cut b i =>
      show KnOk K (afC K rules keys cs o k n m b i)
      unfold afC
      have sub : (plcK K rules keys cs o k).Sublist K := List.filter_sublist.trans h.known
      split
      · split
        · trivial
        · exact h
      · split
        · split
          · split
            · exact h
            · trivial
          · refine ⟨h.cs, h.osub, h.ond, sub, fun j e => ?_⟩
            cases e
            split <;> omega
        · refine ⟨h.cs, h.osub, h.ond, sub, fun j e => ?_⟩
          split at e
          · cases e; omega
          · cases e
    | col l => exact ⟨h.cs, h.osub, h.ond, List.filter_sublist.trans h.known, h.most⟩
    | grp w r => exact h
theorem stK_ok : KnOk K (stK K rules keys) := ⟨⟨.nil, fun _ h => nomatch h⟩, fun _ h => (nomatch h), .nil, List.Sublist.refl _, fun i e => by
  split at e
  · cases e; decide
  · cases e⟩
end
end Pu
namespace Pu
open PySem PySem.Spec PyProof.Rows L2
end Pu
namespace Pu
open PySem PySem.Spec PyProof.Rows L2 PuS
/-- x, y, z = [..], e, e2 -/
def sParF3 (i j l : Nat) (t : WF) (u w : WE) : WS := fun PD env b => t env b fun x b1 => u env b1 fun y b2 => w env b2 fun z b3 => PD.nx (((env.set i (some (.l x))).set j (some (.d y))).set l (some (.d z))) b3
section
variable {X : Cx} {pos : Pos} {a c e : Expr} {ta tb tc : WE} {tf : WF} {x y z : Str} {px py pz pt : Pos} {kt k2 : Nat} {pt2 : Pos} {i j l : Nat}
theorem s_parF3 (hc : X.calm = true) (hN : X.N.Nodup) (hi : X.N[i]? = some x) (hj : X.N[j]? = some y) (hl : X.N[l]? = some z) (hij : i ≠ j) (hil : i ≠ l) (hjl : j ≠ l) (hx : X.env.scope.names.lookup x = some .local) (hy : X.env.scope.names.lookup y = some .local) (hz : X.env.scope.names.lookup z = some .local)
    (ha : EF X a tf) (hb : EE X c tb) (he : EE X e tc)
    (hw : swappedStores [.Tuple [.Name x px, .Name y py, .Name z pz] kt pt] (.Tuple [a, c, e] k2 pt2) X.env = pure (some [x, y, z])) (hs : swapsWithSole [.Tuple [.Name x px, .Name y py, .Name z pz] kt pt] (.Tuple [a, c, e] k2 pt2) pos.line X.env = pure false := by rfl)
    (h1 : starEach [a, c, e] X.env = (false, eval a X.env) :: starEach [c, e] X.env := by rfl) (h2 : starEach [c, e] X.env = (false, eval c X.env) :: starEach [e] X.env := by rfl) (h3 : starEach [e] X.env = (false, eval e X.env) :: starEach [] X.env := by rfl) :
    SS X (.Assign [.Tuple [.Name x px, .Name y py, .Name z pz] kt pt] (.Tuple [a, c, e] k2 pt2) pos) (sParF3 i j l tf tb tc) := PS.imp (ps_par3 hc hN hi hj hl hij hil hjl hx hy hz (pa_cons ha (pa_cons hb (pa_cons he pa_nil h3) h2) h1) hw hs) fun D σ H ⟨pn, F0, H0, F, env, b, PD, rep, t, k, r⟩ => by
  refine ⟨pn, F, env, b, _, rep.rep, t, fun v d F1 H1 b1 o1 x1 ow nw t1 => ?_⟩
  have rep1 := rep.ext' o1 x1
  have f1 := rep.fresh nw
  refine ⟨pn, F1, env, b1, _, rep1.rep, t1, fun u g F2 H2 b2 o2 x2 ru t2 => ?_⟩
  have rep2 := rep1.ext' o2 x2
  refine ⟨pn, F2, env, b2, _, rep2.rep, t2, fun w g' F3 H3 b3 o3 x3 rw' t3 => ?_⟩
  exact ⟨v, u, w, rfl, (k _ F3 H3 _ b3 ((((rep2.ext' o3 x3).setL (ow.ext (x2.trans x3)) f1).setD (ru.mono x3.fsub)).setD rw')).1 t3⟩
end
section
variable (X : Cx) (ir : Nat) (xr : Str)
/-- the name xr in slot ir holds a text that is not empty, its token known -/
structure Sign (y : Str) (tk : Tok) (σ : L2.St) (s : Shared) : Prop where
  at_ : σ[ir]? = some (some (.str y))
  raw : Raw X xr (.str y tk) s
  t0 : tk ≠ 0
  tl : tk < s.toks
  ny : (y == Str.empty) = false
def PER (e : Expr) (t : TE) : Prop := ∀ (pins : List (Addr × Obj)) (s : Shared) (σ : L2.St) (H : Hp) (Q : VK) (y : Str) (tk : Tok), Sign X ir xr y tk σ s → Inv X pins σ H s → t σ H Q → wpAny (model X.prog X.w) X.A (eval e X.env) (EP X pins σ Q) X.xe s
def PAR (es : List Expr) (t : TA) : Prop := ∀ (pos : Pos) (pins : List (Addr × Obj)) (s : Shared) (σ : L2.St) (H : Hp) (Q : List V → Hp → Prop) (y : Str) (tk : Tok), Sign X ir xr y tk σ s → Inv X pins σ H s → t σ H Q → wpAny (model X.prog X.w) X.A (spliced (backTo pos (starEach es X.env))) (AP X pins σ Q) X.xe s
def PSR (st : Stmt) (t : TS) : Prop := ∀ (pins : List (Addr × Obj)) (s : Shared) (σ : L2.St) (H : Hp) (D : Ends) (y : Str) (tk : Tok), Sign X ir xr y tk σ s → Inv X pins σ H s → t D σ H → wpAny (model X.prog X.w) X.A (exec st X.env) (SP X pins D) X.xe s
end
/-- z.replace(y, ''), y in slot ir a sign whose token is known -/
def wRepl (ic ir : Nat) : WE := fun env b P => match env[ic]?, env[ir]? with
  | some (some (.d (.str z))), some (some (.d (.str y))) => z.length ≤ 16777216 ∧ P (.str (Txt.replace z y Str.empty)) b
  | _, _ => False
/-- f(pen, e) -/
def wCallPR (f : WD) (ip : Nat) (te : WE) : WE := fun env b P => match env[ip]? with
  | some (some .p) => te env b fun x b1 => f [.p, .d x] b1 P
  | _ => False
section
variable {X : Cx} {ir : Nat} {xr : Str} {e : Expr} {es : List Expr} {te : WE}
theorem PER.imp {t u : TE} (h : PER X ir xr e t) (i : ∀ σ H Q, u σ H Q → t σ H Q) : PER X ir xr e u := fun pins s σ H Q y tk sg I q => h pins s σ H Q y tk sg I (i _ _ _ q)
theorem PAR.imp {t u : TA} (h : PAR X ir xr es t) (i : ∀ σ H Q, u σ H Q → t σ H Q) : PAR X ir xr es u := fun pos pins s σ H Q y tk sg I q => h pos pins s σ H Q y tk sg I (i _ _ _ q)
theorem PSR.imp {st : Stmt} {t u : TS} (h : PSR X ir xr st t) (i : ∀ D σ H, u D σ H → t D σ H) : PSR X ir xr st u := fun pins s σ H D y tk sg I q => h pins s σ H D y tk sg I (i _ _ _ q)
theorem per_repl {ic : Nat} {c : Str} {p1 p2 apos pos c0 : Pos} {j : Nat} (hN : X.N[ic]? = some c) (hv : Vis X.env.scope c) (dc : (c == ("__debug__" : Str)) = false := by decide) (cc : (c == ("__classdict__" : Str)) = false := by decide)
    (hst : starEach [.Name xr p2, .Constant (.str "") j c0] X.env = [(false, eval (.Name xr p2) X.env), (false, eval (.Constant (.str "") j c0) X.env)] := by rfl) (hbase : attributeBase (.Name c p1) "replace" X.env (eval (.Name c p1) X.env) = eval (.Name c p1) X.env := by rfl) (hline : (apos.endLine == pos.line) = true := by rfl) :
    PER X ir xr (.Call (.Attribute (.Name c p1) "replace" apos) [.Name xr p2, .Constant (.str "") j c0] [] pos) (lE X.K (wRepl ic ir)) := by
  intro pins s σ H Q y tk sg I h
  obtain ⟨pn, F, env, b, P, rep, t, k⟩ := h
  unfold wRepl at t
  split at t
  · rename_i z y' hc hr
    obtain ⟨len, t⟩ := t
    obtain ⟨vc, hvz, rz⟩ := rep.slot ic _ hc
    cases rz
    obtain ⟨vr, hvr, rr⟩ := rep.slot ir _ hr
    cases rr
    rw [sg.at_] at hvr
    cases hvr
    exact strike_raw hN hv dc cc I hvz sg.raw sg.t0 sg.tl sg.ny len hst hbase hline (k _ _ F H b rep.ok .refl (.str _) t)
  · exact t.elim
theorem per_call {ip : Nat} {pen gt : Str} {g : Addr} {gd : FuncData} {qs : List Str} {k2 : Nat} {wg : WD} {q2 q3 q9 : Pos} (he : PER X ir xr e (lE X.K te)) (hNp : X.N[ip]? = some pen) (hvp : Vis X.env.scope pen)
    (G2 : FnOk X.prog X.w X.K X.mg X.base CX0 k2 g gd qs (spW X.K wg)) (hr2 : Room k2 X.A) (hg2 : Gl X gt) (hm2 : X.mg gt = some (.ref g)) (hk2 : PySem.W.keepIn X.K (.ref g) = true) (hb2 : Binds X.K gd qs [])
    (hf : starEach [.Name pen q3, e] X.env = (false, eval (.Name pen q3) X.env) :: starEach [e] X.env := by rfl) (hf2 : starEach [e] X.env = (false, eval e X.env) :: starEach [] X.env := by rfl)
    (dp : (pen == ("__debug__" : Str)) = false := by decide) (cp : (pen == ("__classdict__" : Str)) = false := by decide) (dg : (gt == ("__debug__" : Str)) = false := by decide) :
    PER X ir xr (.Call (.Name gt q2) [.Name pen q3, e] [] q9) (lE X.K (wCallPR wg ip te)) := by
  intro pins s σ H Q y tk sg I h
  obtain ⟨pn, F, env, b, P, rep, t, k⟩ := h
  unfold wCallPR at t
  split at t
  · rename_i hp
    obtain ⟨vp, hvpv, pa, ca, epn, ep⟩ := rep.slot ip _ hp
    refine wpAny_Call_Name_kw (ld_glob I hg2 hm2 ?_ dg)
    refine PySem.W.callWith_K (h₀ := X.base) I.ok.mod.kin hk2 ?_ hf (by rw [hf2]; rfl)
    rw [hf]
    show wpAny _ _ (spliced ((false, eval (.Name pen q3) X.env) :: backTo q9 (starEach [e] X.env))) _ _ s
    refine Calls.spliced_cons (raw_name hNp hvp I hvpv (fun vpen rpen => ?_) dp cp)
    rw [hf2]
    show wpAny _ _ (spliced ((false, eval e X.env) :: backTo q9 (starEach [] X.env))) _ _ s
    refine Calls.spliced_cons (thn (he pins s σ H (fun v H1 => ∃ d F1 b1, RV X.K F1 v d ∧ Ok pn b1 F1 H1 ∧ Ext pn F H F1 H1 ∧ wg [.p, .d d] b1 P) y tk sg I ⟨pn, F, env, b, _, rep, t, fun v d F1 H1 b1 o1 x1 rv q => ⟨d, F1, b1, rv, o1, x1, q⟩⟩) fun w s4 q4 => Calls.spliced_nil ?_)
    obtain ⟨v4, H4, I4, r4, d, F1, b1, rv, o1, x1, q⟩ := q4
    refine ⟨I4.kIn, run_fn G2 hr2 hb2 .nil pass0 (vs := [vp, v4]) I4 (Paired.cons rpen (.cons r4 .nil)) ?_⟩
    exact ⟨pn, F1, [.p, .d d], b1, _, o1, ⟨⟨pa, ca, epn, ep⟩, rfl, rv, rfl, rep.tk⟩, q, fun v e F2 H2 b2 o2 x2 rv q => k v e F2 H2 b2 o2 (x1.trans x2) rv q⟩
  · exact t.elim
theorem par_cons {te : TE} {ta : TA} (ha : PER X ir xr e te) (hr : PA X es ta) (hs : starEach (e :: es) X.env = (false, eval e X.env) :: starEach es X.env := by rfl) : PAR X ir xr (e :: es) (tCons te ta) := by
  intro pos pins s σ H Q y tk sg I h
  rw [hs]
  refine Calls.spliced_cons (s := s) (thn (ha pins s σ H _ y tk sg I h) fun v s1 q => ?_)
  obtain ⟨x, H1, I1, r1, q1⟩ := q
  exact thn (hr.run pos pins s1 σ H1 _ I1 q1) fun us s2 q2 => let ⟨xs, H2, I2, r2, q3⟩ := q2; ⟨x :: xs, H2, I2, .cons r1 r2, q3⟩
theorem dar_cons {t : WL} (ha : PER X ir xr e (lE X.K te)) (hr : ED X es t) (hs : starEach (e :: es) X.env = (false, eval e X.env) :: starEach es X.env := by rfl) : PAR X ir xr (e :: es) (lD X.K (wCons te t)) := PAR.imp (par_cons ha hr hs) fun σ H Q ⟨pn, F, env, b, P, rep, t, k⟩ =>
  ⟨pn, F, env, b, _, rep, t, fun v x F1 H1 b1 o1 e1 rv t1 => ⟨pn, F1, env, b1, _, rep.ext o1 e1, t1, fun vs ds F2 H2 b2 o2 e2 rvs q => k _ _ F2 H2 b2 o2 (e1.trans e2) (.cons (rv.mono e2.fsub) rvs) q⟩⟩
theorem per_tup {t : WL} {x1 : Nat} {pos : Pos} (h : PAR X ir xr es (lD X.K t)) : PER X ir xr (.Tuple es x1 pos) (lE X.K (wTup t)) := by
  intro pins s σ H Q y tk sg I hq
  obtain ⟨pn, F, env, b, P, rep, t, k⟩ := hq
  refine wpAny_Tuple_spliced (thn (h pos pins s σ H (fun vs H1 => vs.length ≤ sizeLine ∧ NewT H1 Q vs) y tk sg I ⟨pn, F, env, b, _, rep, t, fun vs ds F1 H1 b1 o1 e1 rvs q => ⟨by rw [rvs.len]; exact q.1, ?_⟩⟩) fun us s1 q => ?_)
  · exact Go.tup (P := fun d => P d b1) (fun w z F' H' o2 e2 rv q => k w z F' H' b1 o2 (e1.trans e2) rv q) o1 rvs q.2
  · obtain ⟨vs, H1, I1, r, z, q⟩ := q
    exact ⟨by rw [← r.length]; exact z, .ref s1.heap.objs.size, _, laidT I1 r z, rfl, newT I1 q⟩
theorem psr_set {i : Nat} {x : Str} {pos pos' : Pos} (hN : X.N.Nodup) (hi : X.N[i]? = some x) (hx : Loc X.env.scope x) (he : PER X ir xr e (lE X.K te)) (hs : swapsWith e (some (.Name x pos')) pos.line X.env = pure false := by rfl) (hf : X.fn x = true ∨ X.env.scope.names.lookup x = some .local := by first | exact .inl rfl | exact .inr rfl) :
    PSR X ir xr (.Assign [.Name x pos'] e pos) (lS X.K (sSet te i)) := by
  intro pins s σ H D y tk sg I h
  obtain ⟨pn, F0, H0, F, env, b, PD, rep, t, k, r⟩ := h
  refine wpAny_Assign_Name (thn (he pins s σ H (fun v H1 => D.nx (σ.set i (some v)) H1) y tk sg I ⟨pn, F, env, b, _, rep.rep, t, fun v d F' H' b' o x rv q => (k _ F' H' _ b' ((rep.ext' o x).setD rv)).1 q⟩) fun v s1 q => ?_) hs
  obtain ⟨u, H1, I1, r1, q1⟩ := q
  exact store_ok I1 hN hi hx r1 (fun s2 I2 => ⟨_, H1, I2, q1⟩) hf
end
end Pu
namespace Pu
open PySem PySem.Spec PyProof.Rows L2 PuS
section
variable {X : Cx} {ir : Nat} {xr : Str}
/-- a, b = e1, e2, the first of them said where the sign's token is known -/
theorem psr_par {i j : Nat} {x y : Str} {a b : Expr} {ta tb : WE} {px py pt pos : Pos} {kt k2 : Nat} {pt2 : Pos} (hc : X.calm = true) (hN : X.N.Nodup) (hi : X.N[i]? = some x) (hj : X.N[j]? = some y) (hij : i ≠ j) (hx : X.env.scope.names.lookup x = some .local) (hy : X.env.scope.names.lookup y = some .local)
    (ha : PER X ir xr a (lE X.K ta)) (hb : EE X b tb)
    (hw : swappedStores [.Tuple [.Name x px, .Name y py] kt pt] (.Tuple [a, b] k2 pt2) X.env = pure (some [x, y])) (hs : swapsWithSole [.Tuple [.Name x px, .Name y py] kt pt] (.Tuple [a, b] k2 pt2) pos.line X.env = pure false := by rfl)
    (h1 : starEach [a, b] X.env = (false, eval a X.env) :: starEach [b] X.env := by rfl) (h2 : starEach [b] X.env = (false, eval b X.env) :: starEach [] X.env := by rfl) :
    PSR X ir xr (.Assign [.Tuple [.Name x px, .Name y py] kt pt] (.Tuple [a, b] k2 pt2) pos) (lS X.K (sPar i j ta tb)) := by
  intro pins s σ H D z tk sg I h
  obtain ⟨pn, F0, H0, F, env, b, PD, rep, t, k, r⟩ := h
  have hp := par_cons ha (pa_cons hb pa_nil h2) h1
  rw [exec_Assign_arm]
  refine wpAny_bind (wpAny_standAt (by
    rw [hs]
    refine wpAny_bind (wpAny_pure (by
      rw [if_neg (by decide)]
      refine wpAny_bind (Tuple_ (thn (hp _ pins s σ H (fun vs H1 => ∃ v w F1 env1 b1, vs = [v, w] ∧ RepS X.K pn F0 H0 F1 H1 ((σ.set i (some v)).set j (some w)) env1 b1 ∧ PD.nx env1 b1) z tk sg I ⟨pn, F, env, b, _, rep.rep, t, fun v d F1 H1 b1 o1 x1 rv t1 => ⟨pn, F1, env, b1, _, rep.rep.ext o1 x1, t1, fun u e F2 H2 b2 o2 x2 ru t2 => ?_⟩⟩) fun us s1 q => ?_))
      · exact ⟨v, u, F2, _, b2, rfl, (((rep.ext' o1 x1).ext' o2 x2).setD (rv.mono x2.fsub)).setD ru, t2⟩
      · obtain ⟨vs, H1, I1, r1, v, w, F1, env1, b1, e1, rep1, q1⟩ := q
        subst e1
        obtain ⟨u1, us1, r2, r3, rfl⟩ : ∃ u1 us1, RelV v u1 ∧ Vals [w] us1 ∧ us = u1 :: us1 := by cases r1 with | cons p q => exact ⟨_, _, p, q, rfl⟩
        obtain ⟨u2, rfl, r4⟩ := vals1 r3
        refine wpAny_newObj_type (T := "tuple") (by
          have I2 : Inv X pins σ H1 { s1 with heap := s1.heap.push { cls := .type "tuple", data := .seq [u1, u2].toArray } } := I1.kept (t' := s1.toks) fun b o e => Heap.get?_push_of_some _ e
          rw [hw]
          refine wpAny_bind (wpAny_pure (show wpAny (model X.prog X.w) X.A (do rule "assign.swapped-stores"; let items ← unpackItems (.ref s1.heap.objs.size) 2 none; assignInOrder [fun v => bindName X.env y v, fun v => bindName X.env x v] items.reverse; pure Flow.next) _ _ _ from ?_))
          refine wpAny_bind (wpAny_rule (wpAny_bind (unpackItems_tuple (items := #[u1, u2]) (I.ok.hd hc) (IsTup.new s1.heap _) fun h' hx' => ?_)))
          have I3 := I2.kept (h' := h') (t' := s1.toks) fun b o e => hx' b o (Nat.ne_of_lt (Heap.lt_size e)) e
          refine (show wpAny (model X.prog X.w) X.A (assignInOrder [fun v => bindName X.env y v, fun v => bindName X.env x v] [u2, u1] >>= fun _ => pure Flow.next) _ _ _ from wpAny_bind (assignInOrder_cons (wpAny_bindName (store_ok I3 hN hj (.inl hy) r4 (fun s2 I4 => ?_) (.inr hy)))))
          refine assignInOrder_cons (wpAny_bindName (store_ok I4 hN hi (.inl hx) r2 (fun s3 I5 => assignInOrder_nil (wpAny_pure ?_)) (.inr hx)))
          rw [List.set_comm _ _ (Ne.symm hij)] at I5
          exact ⟨_, H1, I5, (k _ F1 H1 _ b1 rep1).1 q1⟩) (by show 2 ≤ sizeLine; decide)))))
end
/-- a number that tells a sign -/
def oneP (z : Str) (PP : Nat → Nat → Prop) : PyData → Nat → Prop := fun y b1 => match y with
  | .int i => match atI z.cps.toList i with
    | some c => PP c b1
    | none => False
  | _ => False
/-- its promise: the sign's token is out -/
def OneRun (P : Program) (w : World) (K : PySem.W.Frag) (mg : Str → Option Value) (base : Heap) (k : Nat) (f : Addr) (fd : FuncData) (ps : List Str) (wt : WD) : Prop :=
  ∀ (A : Around) (outer : List Env) (s : Shared) (H : Hp) (args : Args) (us : List Value) (vp : V) (z : Str) (Q : VK) (E : XK) (pn : Pn) (b : Nat) (F : Hp) (PP : Nat → Nat → Prop), Room k A → Env0 P w K mg base A outer s H → BindsTo s fd args (ps.zip us) → Vals [vp, .str z] us →
    Ok pn b F H → (∃ (u : Unit) (q : Pens), pn = some q ∧ vp = .ref q.pa) → (∃ q, pn = some q ∧ q.tb = tabF K) → z.length ≤ 16777216 → wt [.p, .d (.int z.length)] b (oneP z PP) →
    (∀ c b1 F1 H1, Ok pn b1 F1 H1 → Ext pn F H F1 H1 → PP c b1 → Q (.str ⟨#[c]⟩) H1) →
    codeAny (model P w) A (.call (.ref f) args) (fun r s' => ∃ (y : Str) (t : Tok), r = .ok (.ret (.str y t)) ∧ t ≠ 0 ∧ t < s'.toks ∧ (y == Str.empty) = false ∧ CE outer P w H s Q (.str y t) s') s
section
variable {P : Program} {w : World} {K : PySem.W.Frag} {mg : Str → Option Value} {base : Heap}
theorem one_run {x qual pen c ft : Str} {st : Stmt} {f g : Addr} {fd gd : FuncData} {qs : List Str} {k : Nat} {wt : WD} {p1 p2 p3 p4 p5 p6 p7 p10 rp : Pos} (F : Fun K x qual st f fd) (S : FnScope [pen, c] [pen, c] (defScope st))
    (hbd : defBody st = [.Return (some (.Subscript (.Name c p1) (.Call (.Name ft p2) [.Name pen p3, .Call (.Name "len" p4) [.Name c p5] [] p6] [] p7) p10)) rp])
    (G : FnOk P w K mg base CX0 k g gd qs (spW K wt)) (hm : mg ft = some (.ref g)) (hk : PySem.W.keepIn K (.ref g) = true) (hb : Binds K gd qs []) (hml : mg "len" = none)
    (hvc : Vis (defScope st) c) (hvp : Vis (defScope st) pen) (hg : (defScope st).names.lookup ft = some .globalImplicit) (hgl : (defScope st).names.lookup ("len" : Str) = some .globalImplicit)
    (dc : (c == ("__debug__" : Str)) = false := by decide) (cc : (c == ("__classdict__" : Str)) = false := by decide) (dp : (pen == ("__debug__" : Str)) = false := by decide) (cp : (pen == ("__classdict__" : Str)) = false := by decide) (df : (ft == ("__debug__" : Str)) = false := by decide) :
    OneRun P w K mg base (k + 1) f fd [pen, c] wt := by
  intro A outer s H args us vp z Q E pn b F' PP hr e0 hbt r o ep etk len hw kk
  obtain ⟨oc, od, kV, doc, pm, an, cdv, ct, osl, rfl, lk, hcd⟩ := F.ex
  have KX : K.In s.heap := e0.mod.kin.keeps fun b o e => (e0.bs b o e).1
  have nl : s.heap.NoLimit := e0.mod.nolimit.keeps fun b o e => (e0.bs b o e).1
  have kinds : ∀ y ∈ [pen, c].zip us, (defScope st).names.lookup y.1 = some .local ∨ ((defScope st).names.lookup y.1 = some .cell ∧ ((cellsFrom (s.heap.objs.size + 1) (defScope st).names []).lookup y.1).isSome = true) := fun y hy =>
    (S.par y.1 (List.of_mem_zip (a := y.1) (b := y.2) hy).1).imp id fun q => ⟨q, PySem.W.cellsFrom_some _ _ _ (.inl q)⟩
  refine codeAny_call_function hr.depth (KX _ _ lk) rfl S.co S.gen rfl (PySem.W.codeRec_of KX hcd) (hbt _ _ _ _ (wpAny_newFunctionEnv_cells S.kind kinds fun env he s1 x => ?_))
  subst he
  have I := inv_start (CX := CX0) (E := E) S hr.hd e0 rfl r x
  have hr' := hr.deeper (envOfC qual (defScope st) s.heap.objs.size f cdv)
  obtain ⟨pa, ca, epn, evp⟩ := ep
  refine ⟨nl.keeps x.toInCall.keep, codeAny_func (wpAny_mono (Q := fun fl s' => ∃ (y : Str) (t : Tok), fl = .ret (.str y t) ∧ t ≠ 0 ∧ t < s'.toks ∧ (y == Str.empty) = false ∧ CE outer P w H s Q (.str y t) s') (E := (cxOf CX0 P w K mg base [pen, c] qual (defScope st) f cdv A outer s H E).xe) ?_ (fun fl s' z => ?_) fun e s' z => wpAny_mono z (fun _ _ q => (show False from q).elim) fun _ _ q => (show False from q).elim)⟩
  · suffices key : ∀ bd, bd = [Stmt.Return (some (.Subscript (.Name c p1) (.Call (.Name ft p2) [.Name pen p3, .Call (.Name "len" p4) [.Name c p5] [] p6] [] p7) p10)) rp] →
        wpAny (model P w) (cxOf CX0 P w K mg base [pen, c] qual (defScope st) f cdv A outer s H E).A (execs bd (cxOf CX0 P w K mg base [pen, c] qual (defScope st) f cdv A outer s H E).env) (fun fl s' => ∃ (y : Str) (t : Tok), fl = .ret (.str y t) ∧ t ≠ 0 ∧ t < s'.toks ∧ (y == Str.empty) = false ∧ CE outer P w H s Q (.str y t) s') (cxOf CX0 P w K mg base [pen, c] qual (defScope st) f cdv A outer s H E).xe s1 from key _ hbd
    intro bd ebd
    subst ebd
    refine wpAny_execs_cons (wpAny_Return_some (thn (pick_raw (X := cxOf CX0 P w K mg base [pen, c] qual (defScope st) f cdv A outer s H E) (ic := 1) (ip := 0) (Q := Q) rfl hvc dc cc rfl hvp dp cp G hr' hg hm hk hb df hgl hml rfl rfl rfl I rfl rfl len ?_) fun u s2 q => ?_))
    · exact ⟨pn, F', [.p, .d (.int z.length)], b, _, o, ⟨⟨pa, ca, epn, evp⟩, rfl, .int _, rfl, etk⟩, hw, fun v d F1 H1 b1 o1 x1 rv q => by
        unfold oneP at q
        cases rv with
        | int i =>
          simp only at q
          cases e : atI z.cps.toList i with
          | none => rw [e] at q; exact q.elim
          | some d' => rw [e] at q; exact ⟨i, d', rfl, e, kk d' b1 F1 H1 o1 x1 q⟩
        | _ => exact q.elim⟩
    · obtain ⟨y, t, H1, rfl, t0, tl, J, ny, q⟩ := q
      exact ⟨y, t, rfl, t0, tl, ny, .str y, H1, J.os, J.bare, J.base, J.hok, ⟨t, rfl⟩, q⟩
  · obtain ⟨y, t, rfl, h⟩ := z
    exact ⟨y, t, rfl, h⟩
end
/-- right = f(pen, c); .. c.replace(right, '') .. -/
def sOne (ip ic ir : Nat) (wt : WD) (u : WS) : WS := fun PD env b => match env[ip]?, env[ic]? with
  | some (some .p), some (some (.d (.str z))) => z.length ≤ 16777216 ∧ wt [.p, .d (.int z.length)] b (oneP z fun c b1 => u PD (env.set ir (some (.d (.str ⟨#[c]⟩)))) b1)
  | _, _ => False
section
variable {X : Cx}
theorem sb_pickOne {ip ic ir : Nat} {pen c xr ot : Str} {f : Addr} {fd : FuncData} {ps : List Str} {k : Nat} {wt : WD} {p2 p3 p5 p7 p8 p9 : Pos} {st : Stmt} {rest : List Stmt} {t2 u : WS} (nd : X.N.Nodup)
    (hNp : X.N[ip]? = some pen) (hvp : Vis X.env.scope pen) (hNc : X.N[ic]? = some c) (hvc : Vis X.env.scope c) (hNr : X.N[ir]? = some xr) (hlr : X.env.scope.names.lookup xr = some .local)
    (G : OneRun X.prog X.w X.K X.mg X.base k f fd ps wt) (hr : Room k X.A) (hg : Gl X ot) (hm : X.mg ot = some (.ref f)) (hk : PySem.W.keepIn X.K (.ref f) = true) (hb : Binds X.K fd ps []) (hps : ps.length = 2)
    (h2 : PSR X ir xr st (lS X.K t2)) (hrest : SB X rest u)
    (he : starEach [.Name pen p3, .Name c p5] X.env = (false, eval (.Name pen p3) X.env) :: starEach [.Name c p5] X.env := by rfl) (he2 : starEach [.Name c p5] X.env = (false, eval (.Name c p5) X.env) :: starEach [] X.env := by rfl)
    (hs : swapsWith (.Call (.Name ot p2) [.Name pen p3, .Name c p5] [] p7) (some (.Name xr p8)) p9.line X.env = pure false := by rfl)
    (dp : (pen == ("__debug__" : Str)) = false := by decide) (cp : (pen == ("__classdict__" : Str)) = false := by decide) (dc : (c == ("__debug__" : Str)) = false := by decide) (cc : (c == ("__classdict__" : Str)) = false := by decide) (dr : (xr == ("__debug__" : Str)) = false := by decide) (dot : (ot == ("__debug__" : Str)) = false := by decide) :
    SB X (.Assign [.Name xr p8] (.Call (.Name ot p2) [.Name pen p3, .Name c p5] [] p7) p9 :: st :: rest) (sOne ip ic ir wt (sSeq t2 u)) := by
  refine ⟨fun pins s σ H D I h => ?_⟩
  obtain ⟨pn, F0, H0, F, env, b, PD, rep, t, kk, r⟩ := h
  unfold sOne at t
  split at t
  case h_2 => exact t.elim
  rename_i z hp hc
  obtain ⟨len, t⟩ := t
  obtain ⟨vc, hvz, rz⟩ := rep.rep.slot ic _ hc
  cases rz
  obtain ⟨vp, hvpv, pa, ca, epn, ep⟩ := rep.rep.slot ip _ hp
  refine wpAny_execs_cons (asg_raw (σ := σ) (pins := pins) nd hNr hlr dr (wpAny_Call_Name_kw (ld_glob I hg hm ?_ dot)) hs)
  refine PySem.W.callWith_K (h₀ := X.base) I.ok.mod.kin hk ?_ he (by rw [he2]; rfl)
  rw [he]
  show wpAny _ _ (spliced ((false, eval (.Name pen p3) X.env) :: backTo p7 (starEach [.Name c p5] X.env))) _ _ s
  refine Calls.spliced_cons (raw_name hNp hvp I hvpv (fun vpen rpen => ?_) dp cp)
  rw [he2]
  show wpAny _ _ (spliced ((false, eval (.Name c p5) X.env) :: backTo p7 (starEach [] X.env))) _ _ s
  refine Calls.spliced_cons (raw_name hNc hvc I hvz (fun vz rz => Calls.spliced_nil ⟨I.kIn, ?_⟩) dc cc)
  have bt := hb s [vpen, vz] I.kIn (by rw [List.append_nil, hps]; rfl)
  rw [List.append_nil] at bt
  refine wpAny_call (codeAny_mono (G X.A X.stack s H ⟨[vpen, vz], []⟩ [vpen, vz] vp z (fun v H1 => ∃ d F1 b1, v = .str ⟨#[d]⟩ ∧ Ok pn b1 F1 H1 ∧ Ext pn F H F1 H1 ∧ sSeq t2 u PD (env.set ir (some (.d (.str ⟨#[d]⟩)))) b1) E0 pn b F (fun d b1 => sSeq t2 u PD (env.set ir (some (.d (.str ⟨#[d]⟩)))) b1)
    hr I.env0 bt (.cons rpen (.cons rz .nil)) rep.rep.ok ⟨pa, ca, epn, ep⟩ rep.rep.tk len t fun d b1 F1 H1 o1 x1 q => ⟨d, F1, b1, rfl, o1, x1, q⟩) fun r' s1 q => ?_)
  obtain ⟨y, tk, rfl, t0, tl, ny, ce⟩ := q
  obtain ⟨v, H1, I1, r1, d, F1, b1, ev, o1, x1, q⟩ := I.after ce
  subst ev
  obtain ⟨t', e'⟩ := r1
  cases e'
  refine ⟨_, tk, H1, rfl, t0, tl, I1, fun s2 I2 raw tl2 => ?_⟩
  have rep1 := (rep.ext' o1 x1).setD (i := ir) (d := .str ⟨#[d]⟩) (RV.str _)
  have bound : ir < σ.length := I.len.symm ▸ (List.getElem?_eq_some_iff.mp hNr).1
  have hin := lS_in (K := X.K) (D := D) (σ := σ.set ir (some (.str ⟨#[d]⟩))) (H := H1) (t := t2) (u := u) ⟨pn, F0, H0, F1, _, b1, PD, rep1, q, kk, r⟩
  refine wpAny_execs_cons (thn (h2 pins s2 _ H1 _ ⟨#[d]⟩ tk ⟨List.getElem?_set_self bound, raw, t0, tl2, ny⟩ I2 hin) fun f s3 q3 => ?_)
  cases f with
  | next =>
    obtain ⟨σ3, H3, I3, q4⟩ := q3
    exact hrest.run pins s3 σ3 H3 D I3 q4
  | ret v => exact q3
  | brk => exact q3
  | cont => exact q3
end
end Pu
namespace Pu
open PySem PySem.Spec PyProof.Rows L2 SeqAt PuS
section
variable {env : En} {n i j l ip ic ir : Nat} {N : En → Nat → Prop} {R Q : PyData → Nat → Prop} {B C : En → Nat → Prop} {ta tb : WE} {tf : WF} {u : WS} {f wt : WD}
theorem n_parF3 (h : ME tf env n fun x m => ME ta env m fun y m1 => ME tb env m1 fun z m2 => N (((env.set i (some (.l x))).set j (some (.d y))).set l (some (.d z))) m2) : MS (sParF3 i j l tf ta tb) env n N R B C :=
  fun PD b hb kn kr kb kc => h b _ hb fun x m b1 hx hb1 => hx b1 _ hb1 fun y m1 b2 hy hb2 => hy b2 _ hb2 fun z m2 b3 q hb3 => kn _ m2 b3 q hb3
theorem m_repl {z : Str} {c : Nat} (hc : env[ic]? = some (some (.d (.str z)))) (hr : env[ir]? = some (some (.d (sg c)))) (hl : (Ls z).length ≤ 1000) (q : Q (.str (tx ((Ls z).filter fun d => decide (d ≠ c)))) n) : ME (wRepl ic ir) env n Q := fun b P hb k => by
  unfold wRepl
  rw [hc, hr]
  refine ⟨by rw [len_Ls]; omega, ?_⟩
  rw [replace_one]
  exact k _ n b q hb
theorem m_callPR (hp : env[ip]? = some (some .p)) (h : ME ta env n fun x m => MD f [.p, .d x] m Q) : ME (wCallPR f ip ta) env n Q := fun b P hb k => by
  unfold wCallPR
  rw [hp]
  exact h b _ hb fun x m b1 q hb1 => q b1 P hb1 k
theorem n_one {z : Str} (hp : env[ip]? = some (some .p)) (hc : env[ic]? = some (some (.d (.str z)))) (hl : (Ls z).length ≤ 1000)
    (h : MD wt [.p, .d (.int (Ls z).length)] n fun y m => ∃ i c, y = .int i ∧ atI (Ls z) i = some c ∧ MS u (env.set ir (some (.d (sg c)))) m N R B C) : MS (sOne ip ic ir wt u) env n N R B C := fun PD b hb kn kr kb kc => by
  unfold sOne
  rw [hp, hc]
  refine ⟨by rw [len_Ls]; omega, ?_⟩
  rw [len_Ls]
  refine h b _ hb fun y m b1 ⟨i, c, ey, hat, q⟩ hb1 => ?_
  subst ey
  show (match atI (Ls z) i with | some c => _ | none => False)
  rw [hat]
  exact q PD b1 hb1 kn kr kb kc
end
end Pu
namespace Lw
open PySem PySem.Spec PyProof.Rows L2 Pu
def t__law_spread : WS := (sSeq (sIf (wTt (wOp pGe (wVar 0) (wOp pPow (wC (.int 10)) (wC (.int 18)))))
  (sRet (wVal 0))
  sNext)
  (sSeq (sSet (fz (wLst (wCons (wC (.int 2147483629)) (wCons (wC (.int 2147483587)) (wCons (wC (.int 2147483579)) (wCons (wC (.int 2147483563)) (wCons (wC (.int 2147483549)) (wCons (wC (.int 2147483543)) (wCons (wC (.int 2147483497)) (wCons (wC (.int 2147483489)) wNil)))))))))) 2)
  (sSeq (sSet (wOp pAdd (wVar 2) (fz (wLst (wCons (wC (.int 2147483477)) (wCons (wC (.int 2147483423)) (wCons (wC (.int 2147483399)) (wCons (wC (.int 2147483353)) (wCons (wC (.int 2147483323)) wNil)))))))) 2)
  (sSeq (sSet (wOp pMod (wOp pPow (wOp pAdd (wOp pAdd (wOp pMulT (wOp pMod (wVar 0) (wC (.int 1000000007))) (wOp pAdd (wOp pMulT (wC (.int 2)) (wVar 1)) (wC (.int 69069)))) (wOp pMulT (wVar 1) (wC (.int 40503)))) (wC (.int 977))) (wC (.int 3))) (wOp pIx (wVar 2) (wOp pMod (wVar 1) (wC (.int 13))))) 3)
  (sSeq (sSet (wOp pMod (wOp pPow (wOp pAdd (wOp pAdd (wOp pMulT (wVar 3) (wOp pAdd (wVar 1) (wC (.int 3)))) (wOp pMod (wVar 0) (wC (.int 65537)))) (wC (.int 5))) (wC (.int 5))) (wOp pIx (wVar 2) (wOp pMod (wOp pAdd (wVar 1) (wC (.int 5))) (wC (.int 13))))) 4)
  (sSeq (sSet (wOp pMod (wOp pPow (wOp pAdd (wOp pAdd (wVar 4) (wOp pMod (wVar 3) (wC (.int 1009)))) (wVar 1)) (wC (.int 3))) (wOp pIx (wVar 2) (wOp pMod (wOp pAdd (wVar 1) (wC (.int 7))) (wC (.int 13))))) 5)
  (sRet (wOp pAdd (wOp pMulT (wOp pAdd (wOp pMulT (wVar 3) (wC (.int 2147483647))) (wVar 4)) (wC (.int 2147483647))) (wVar 5)))))))))
def w__law_spread : WD := wDef 2 6 t__law_spread
/-- a draw: any number below the amount -/
def w__law_take : WD := fun ss b P => ∃ n : Int, ss = [.p, .d (.int n)] ∧ 0 < n ∧ n < 1073741824 ∧ 0 < b ∧ ∀ r : Int, 0 ≤ r → r < n → P (.int r) (b - 1)
def t_contains : WS := (sRet (w1 pAll (fz (fLc (wSeq (wVar 1)) (.nm 2) wYes (wOp (pIn2 false) (wVar 2) (wVar 0)) [2]))))
def w_contains : WD := wDef 2 3 t_contains
def t__has_key : WS := (sRet (w1 pAny (fz (fLc (wSeq (wVar 1)) (.nm 2) wYes (wCall w_contains (wAName 0 (wAName 2 wANil))) [2]))))
def w__has_key : WD := wDef 2 3 t__has_key
def t_common : WS := (sRet (wMS pJoin (wC (.str "")) (fz (fLc (wSeq (wVar 0)) (.nm 2) (wTt (wOp (pIn2 false) (wVar 2) (wVar 1))) (wVal 2) [2]))))
def w_common : WD := wDef 2 3 t_common
def t__closure_round : WS := (sSeq (sAsg (wVal 0) (.tp [2, 3, 4]))
  (sSeq (sIf (wTru (wCall w__has_key (wAName 1 (wAName 4 wANil))))
  (sRet (wVal 2))
  sNext)
  (sSeq (sSet (fz (fLc (wSeq (wVar 3)) (.tp [6, 7]) (wTru (wCall w_contains (wAName 1 (wAName 6 wANil)))) (wVal 7) [6, 7])) 5)
  (sRet (wCall w_common (wAName 2 (wACons (wOp pAdd (wVar 1) (wMS pJoin (wC (.str "")) (wVar 5))) wANil)))))))
def w__closure_round : WD := wDef 2 8 t__closure_round
def t_closure : WS := (sSeq (sSet (wVal 1) 2)
  (sSeq (sFor (wSeq (wOp pIx (wVar 0) (wC (.int 0)))) (.nm 3)
  (sSet (wCall w__closure_round (wAName 0 (wAName 2 wANil))) 2))
  (sRet (wVal 2))))
def w_closure : WD := wDef 2 4 t_closure
def t_is_unique : WS := (sRet (wCall w__has_key (wACons (wCall w_closure (wAName 0 (wAName 1 wANil))) (wACons (wOp pIx (wVar 0) (wC (.int 2))) wANil))))
def w_is_unique : WD := wDef 2 2 t_is_unique
def t_start_knowledge : WS := (sSeq (sSet (wIfE (wTru (wCall w_is_unique (wAName 0 (wACons (wC (.str "")) wANil)))) (wC (.int 1)) (wC .none)) 1)
  (sRet (wTup (wCons (wTup wNil) (wCons (wC (.str "")) (wCons (wOp pIx (wVar 0) (wC (.int 0))) (wCons (wC (.bool true)) (wCons (wVal 1) wNil))))))))
def w_start_knowledge : WD := wDef 1 2 t_start_knowledge
def d_EMPTY : PyData := .tuple [.str "empty"]
def t__after_where : WS := (sSeq (sAsg (wVal 1) (.tp [4, 5, 6, 7, 8]))
  (sSeq (sDictK (wVar 4) 9)
  (sSeq (sIf (wTt (wKIn (wVar 2) 9 false))
  (sRet (wIfE (wTt (wOp pEq2 (wKGet (wVar 2) 9) (wVar 3))) (wVal 1) (wC d_EMPTY)))
  sNext)
  (sSeq (sKSet 9 (wVar 2) (wVal 3))
  (sSeq (sIf (wTt (wOp (pIn2 true) (wVar 2) (wVar 6)))
  (sAsg (wTup (wCons (wC (.str "")) (wCons (wC (.bool false)) wNil))) (.tp [6, 7]))
  sNext)
  (sSeq (sIf (wTru (wCall w_is_unique (wAName 0 (wACons (wCall w_common (wACons (wOp pIx (wVar 0) (wC (.int 0))) (wACons (fz (wKList 9)) wANil))) wANil))))
  (sSet (wC (.int 1)) 8)
  sNext)
  (sRet (wTup (wCons (w1 pTupA (fz (wKSort 9))) (wCons (wVal 5) (wCons (wVal 6) (wCons (wVal 7) (wCons (wVal 8) wNil)))))))))))))
def w__after_where : WD := wDef 4 10 t__after_where
def t__known_beginning : WS := (sSeq (sFor (wEnumT (wVal 1)) (.tp [2, 3])
  (sIf (wTt (wOp (pIn2 true) (wVar 3) (wVar 0)))
  (sRet (wSl (wVar 1) wNoPart (wPart (wVar 2))))
  sNext))
  (sRet (wVal 1)))
def w__known_beginning : WD := wDef 2 4 t__known_beginning
def t__after_sorting : WS := (sSeq (sAsg (wVal 0) (.tp [3, 4, 5, 6, 7]))
  (sSeq (sSet (wCall w__known_beginning (wAName 5 (wAName 2 wANil))) 8)
  (sSeq (sIf (wAndT (wTt (wOp pEq2 (wVar 1) (wC (.str "stable")))) (wTt (wOp pEq2 (wVar 8) (wVar 2))))
  (sSet (wOp pAdd (wVar 2) (wMS pJoin (wC (.str "")) (fz (fLc (wSeq (wVar 4)) (.nm 9) (wTt (wOp (pIn2 true) (wVar 9) (wVar 2))) (wVal 9) [9])))) 8)
  sNext)
  (sRet (wTup (wCons (wVal 3) (wCons (wVal 8) (wCons (wVal 5) (wCons (wVal 6) (wCons (wVal 7) wNil))))))))))
def w__after_sorting : WD := wDef 3 10 t__after_sorting
def t_determined : WS := (sSeq (sAsg (wSl (wVar 1) wNoPart (wPart (wC (.int 2)))) (.tp [3, 4]))
  (sSeq (sSet (wOp pAdd (wOp pAdd (wMS pJoin (wC (.str "")) (fz (fLc (wSeq (wVar 3)) (.tp [6, 7]) wYes (wVal 6) [6, 7]))) (wVar 4)) (wVar 2)) 5)
  (sRet (wCall w_closure (wAName 0 (wACons (wCall w_common (wACons (wOp pIx (wVar 0) (wC (.int 0))) (wAName 5 wANil))) wANil))))))
def w_determined : WD := wDef 3 8 t_determined
def t__placed : WS := (sRet (wCall w_common (wACons (wOp pIx (wVar 1) (wC (.int 2))) (wACons (wCall w_determined (wAName 0 (wAName 1 (wACons (wC (.str "")) wANil)))) wANil))))
def w__placed : WD := wDef 2 2 t__placed
def t__after_first : WS := (sSeq (sAsg (wVal 1) (.tp [3, 4, 5, 6, 7]))
  (sSeq (sIf (wTt (wOp pEq2 (wVar 2) (wC (.int 0))))
  (sRet (wC d_EMPTY))
  sNext)
  (sSeq (sIf (wAndT (wTt (wOp (pIs true) (wVar 7) (wC .none))) (wTt (wOp pLe (wVar 7) (wVar 2))))
  (sRet (wVal 1))
  sNext)
  (sRet (wTup (wCons (wVal 3) (wCons (wVal 4) (wCons (wCall w__placed (wAName 0 (wAName 1 wANil))) (wCons (wVal 6) (wCons (wVal 2) wNil))))))))))
def w__after_first : WD := wDef 3 8 t__after_first
def t__after_skip : WS := (sSeq (sAsg (wVal 1) (.tp [3, 4, 5, 6, 7]))
  (sSeq (sIf (wTt (wOp pEq2 (wVar 2) (wC (.int 0))))
  (sRet (wVal 1))
  sNext)
  (sSeq (sIf (wTt (wOp (pIs false) (wVar 7) (wC .none)))
  (sRet (wTup (wCons (wVal 3) (wCons (wVal 4) (wCons (wCall w__placed (wAName 0 (wAName 1 wANil))) (wCons (wVal 6) (wCons (wC .none) wNil)))))))
  sNext)
  (sSeq (sIf (wTt (wOp pLe (wVar 7) (wVar 2)))
  (sRet (wC d_EMPTY))
  sNext)
  (sRet (wTup (wCons (wVal 3) (wCons (wVal 4) (wCons (wCall w__placed (wAName 0 (wAName 1 wANil))) (wCons (wVal 6) (wCons (wOp pSub (wVar 7) (wVar 2)) wNil)))))))))))
def w__after_skip : WD := wDef 3 8 t__after_skip
def d_SORTING : PyData := .tuple [.str "sort", .str "stable"]
def d_GROUPING : PyData := .tuple [.str "count", .str "sum", .str "heads"]
def t_knowledge_after : WS := (sSeq (sSet (wOp pIx (wVar 2) (wC (.int 0))) 3)
  (sSeq (sIf (wOrT (wTt (wOp pEq2 (wVar 1) (wC d_EMPTY))) (wTt (wOp (pIn2 false) (wVar 3) (wC d_GROUPING))))
  (sRet (wVal 1))
  sNext)
  (sSeq (sIf (wTt (wOp pEq2 (wVar 3) (wC (.str "where"))))
  (sRet (wCall w__after_where (wAName 0 (wAName 1 (wACons (wOp pIx (wVar 2) (wC (.int 1))) (wACons (wOp pIx (wVar 2) (wC (.int 2))) wANil))))))
  sNext)
  (sSeq (sIf (wTt (wOp (pIn2 false) (wVar 3) (wC d_SORTING)))
  (sRet (wCall w__after_sorting (wAName 1 (wAName 3 (wACons (wOp pIx (wVar 2) (wC (.int 1))) wANil)))))
  sNext)
  (sSeq (sIf (wTt (wOp pEq2 (wVar 3) (wC (.str "first"))))
  (sRet (wCall w__after_first (wAName 0 (wAName 1 (wACons (wOp pIx (wVar 2) (wC (.int 1))) wANil)))))
  sNext)
  (sSeq (sIf (wTt (wOp pEq2 (wVar 3) (wC (.str "skip"))))
  (sRet (wCall w__after_skip (wAName 0 (wAName 1 (wACons (wOp pIx (wVar 2) (wC (.int 1))) wANil)))))
  sNext)
  (sSeq (sAsg (wVal 1) (.tp [4, 5, 6, 7, 8]))
  (sRet (wTup (wCons (wVal 4) (wCons (wVal 5) (wCons (wCall w_common (wAName 6 (wACons (wOp pIx (wVar 2) (wC (.int 1))) wANil))) (wCons (wVal 7) (wCons (wVal 8) wNil))))))))))))))
def w_knowledge_after : WD := wDef 3 9 t_knowledge_after
def t_derive : WS := (sSeq (sSetL (wLst (wCons (wCall w_start_knowledge (wAName 0 wANil)) wNil)) 2)
  (sSeq (sFor (wSeq (wVal 1)) (.nm 3)
  (sApp 2 (wCall w_knowledge_after (wAName 0 (wACons (wOp pIx (wVar 2) (wNeg (wC (.int 1)))) (wAName 3 wANil))))))
  (sRetO 2)))
def w_derive : WDO := wDefO 2 4 t_derive
def t_kept_after : WS := (sRet (wIfE (wTt (wOp pEq2 (wOp pIx (wVar 1) (wC (.int 0))) (wC (.str "columns")))) (wOp pIx (wVar 1) (wC (.int 1))) (wVal 0)))
def w_kept_after : WD := wDef 2 2 t_kept_after
def t_kept_columns : WS := (sSeq (sSet (wOp pIx (wVar 0) (wC (.int 0))) 2)
  (sSeq (sFor (wSeq (wVal 1)) (.nm 3)
  (sSet (wCall w_kept_after (wAName 2 (wAName 3 wANil))) 2))
  (sRet (wVal 2))))
def w_kept_columns : WD := wDef 2 4 t_kept_columns
def t_settles : WS := (sSeq (sIf (wTt (wOp pEq2 (wVar 2) (wC d_EMPTY)))
  (sRet (wC (.bool true)))
  sNext)
  (sSeq (sAsg (wSl (wVar 2) (wPart (wC (.int 2))) wNoPart) (.tp [3, 4, 5]))
  (sSeq (sIf (wNotT (wTru (wVar 4)))
  (sRet (wC (.bool false)))
  sNext)
  (sSeq (sSet (wIfE (wTru (wVar 1)) (wOp pIx (wOp pIx (wVar 1) (wNeg (wC (.int 1)))) (wC (.int 0))) (wC (.str ""))) 6)
  (sSeq (sIf (wTt (wOp pEq2 (wVar 6) (wC (.str "count"))))
  (sRet (wCall w_contains (wAName 3 (wACons (wOp pIx (wOp pIx (wVar 1) (wNeg (wC (.int 1)))) (wC (.int 1))) wANil))))
  sNext)
  (sSeq (sIf (wTt (wOp pEq2 (wVar 6) (wC (.str "sum"))))
  (sRet (wCall w_contains (wAName 3 (wACons (wOp pAdd (wOp pIx (wOp pIx (wVar 1) (wNeg (wC (.int 1)))) (wC (.int 1))) (wOp pIx (wOp pIx (wVar 1) (wNeg (wC (.int 1)))) (wC (.int 2)))) wANil))))
  sNext)
  (sSeq (sSet (wCall w_kept_columns (wAName 0 (wAName 1 wANil))) 7)
  (sSeq (sIf (wNotT (wTru (wCall w_contains (wAName 3 (wAName 7 wANil)))))
  (sRet (wC (.bool false)))
  sNext)
  (sSeq (sSet (wIfE (wTt (wOp pEq2 (wVar 6) (wC (.str "heads")))) (wOp pIx (wOp pIx (wVar 1) (wNeg (wC (.int 1)))) (wC (.int 1))) (wC (.str ""))) 8)
  (sRet (wOrE (wOp pEq2 (wVar 5) (wC (.int 1))) (wCall w_contains (wACons (wCall w_determined (wAName 0 (wAName 2 (wAName 8 wANil)))) (wAName 7 wANil))))))))))))))
def w_settles : WD := wDef 3 9 t_settles
def t_is_settled : WS := (sRet (wCall w_settles (wAName 0 (wAName 1 (wACons (wOp pIx (wCall (fzO w_derive) (wAName 0 (wAName 1 wANil))) (wNeg (wC (.int 1)))) wANil)))))
def w_is_settled : WD := wDef 2 2 t_is_settled
def t__law_one_of : WS := (sRet (wOp pIx (wVar 1) (wCall w__law_take (wAName 0 (wACons (w1 pLen (wVar 1)) wANil)))))
def w__law_one_of : WD := wDef 2 2 t__law_one_of
def t__law_some : WS := (sRet (wMS pJoin (wC (.str "")) (fz (fLc (wSeq (wVar 1)) (.nm 2) (wTt (wOp pEq2 (wCall w__law_take (wAName 0 (wACons (wC (.int 3)) wANil))) (wC (.int 0)))) (wVal 2) [2]))))
def w__law_some : WD := wDef 2 3 t__law_some
def t__law_draw_schema_v1 : WS := (sSeq (sSet (fz (wLst (wCons (wC (.str "a")) (wCons (wC (.str "z")) (wCons (wC (.str "ab")) (wCons (wC (.str "kx")) (wCons (wC (.str "abc")) (wCons (wC (.str "bmz")) (wCons (wC (.str "acy")) (wCons (wC (.str "abcd")) (wCons (wC (.str "abcde")) wNil))))))))))) 2)
  (sSeq (sSet (wCall w__law_one_of (wAName 0 (wACons (wSl (wVar 2) wNoPart (wPart (wOp pIx (fz (wLst (wCons (wC (.int 2)) (wCons (wC (.int 4)) (wCons (wC (.int 7)) (wCons (wC (.int 8)) (wCons (wC (.int 9)) wNil))))))) (wOp pSub (wVar 1) (wC (.int 1)))))) wANil))) 3)
  (sSeq (sPar 4 5 (fz (wLst wNil)) (fz (wLst wNil)))
  (sSeq (sIf (wAndT (wTt (wOp pEq2 (wVar 3) (wC (.str "abcde")))) (wTt (wOp pEq2 (wCall w__law_take (wAName 0 (wACons (wC (.int 2)) wANil))) (wC (.int 0)))))
  (sRet (wTup (wCons (wVal 3) (wCons (wTup (wCons (wTup (wCons (wC (.str "d")) (wCons (wC (.str "e")) wNil))) (wCons (wTup (wCons (wC (.str "c")) (wCons (wC (.str "d")) wNil))) (wCons (wTup (wCons (wC (.str "b")) (wCons (wC (.str "c")) wNil))) (wCons (wTup (wCons (wC (.str "")) (wCons (wC (.str "b")) wNil))) wNil))))) (wCons (wTup (wCons (wC (.str "abc")) wNil)) wNil)))))
  sNext)
  (sSeq (sFor (wRng1 (wCall w__law_take (wAName 0 (wACons (wC (.int 4)) wANil)))) (.nm 6)
  (sOne 0 3 7 w__law_take (sSeq (sSet (wTup (wCons (wCallPR w__law_some 0 (wRepl 3 7)) (wCons (wVal 7) wNil))) 8)
  (sSet (wOp pAdd (wVar 4) (wOp pMulT (fz (wLst (wCons (wVal 8) wNil))) (w1 pInt (wOp (pIn2 true) (wVar 8) (wVar 4))))) 4))))
  (sSeq (sFor (wRng1 (wCall w__law_one_of (wAName 0 (wACons (fz (wLst (wCons (wC (.int 0)) (wCons (wC (.int 0)) (wCons (wC (.int 1)) (wCons (wC (.int 1)) (wCons (wC (.int 2)) wNil))))))) wANil)))) (.nm 6)
  (sSeq (sSet (wCall w__law_some (wAName 0 (wAName 3 wANil))) 9)
  (sSet (wOp pAdd (wVar 5) (wOp pMulT (fz (wLst (wCons (wVal 9) wNil))) (w1 pInt (wAndE (wOp pNe2 (wVar 9) (wC (.str ""))) (wOp (pIn2 true) (wVar 9) (wVar 5)))))) 5)))
  (sRet (wTup (wCons (wVal 3) (wCons (w1 pTupA (wVar 4)) (wCons (w1 pTupA (wVar 5)) wNil)))))))))))
def w__law_draw_schema_v1 : WD := wDef 2 10 t__law_draw_schema_v1
def t__law_mixed_v1 : WS := (sSeq (sSet (wC (.str "")) 3)
  (sSeq (sFor (wSeq (wVal 1)) (.nm 4)
  (sIf (wOrT (wTt (wOp pEq2 (wCall w__law_take (wAName 0 (wACons (wC (.int 2)) wANil))) (wC (.int 0)))) (wAndT (wTt (wOp pLt (w1 pLen (wVar 3)) (wVar 2))) (wTt (wOp pEq2 (wVar 4) (wOp pIx (wVar 1) (wNeg (wC (.int 1))))))))
  (sSeq (sSet (wCall w__law_take (wAName 0 (wACons (wOp pAdd (w1 pLen (wVar 3)) (wC (.int 1))) wANil))) 5)
  (sSet (wOp pAdd (wOp pAdd (wSl (wVar 3) wNoPart (wPart (wVar 5))) (wVar 4)) (wSl (wVar 3) (wPart (wVar 5)) wNoPart)) 3))
  sNext))
  (sRet (wVal 3))))
def w__law_mixed_v1 : WD := wDef 3 6 t__law_mixed_v1
def t__law_draw_step_v1 : WS := (sSeq (sSet (wCall w__law_take (wAName 0 (wACons (wC (.int 9)) wANil))) 3)
  (sSeq (sIf (wAndT (wTt (wOp pLt (wVar 3) (wC (.int 4)))) (wNotT (wTru (wVar 2))))
  (sRet (wTup (wCons (wOp pIx (fz (wLst (wCons (wC (.str "sort")) (wCons (wC (.str "sort")) (wCons (wC (.str "sort")) (wCons (wC (.str "stable")) wNil)))))) (wVar 3)) (wCons (wCall w__law_mixed_v1 (wAName 0 (wAName 1 (wACons (wC (.int 1)) wANil)))) wNil))))
  sNext)
  (sSeq (sIf (wTt (wOp pLt (wVar 3) (wC (.int 6))))
  (sRet (wTup (wCons (wC (.str "where")) (wCons (wCall w__law_one_of (wAName 0 (wAName 1 wANil))) (wCons (wCall w__law_one_of (wAName 0 (wACons (fz (wLst (wCons (wC (.int 0)) (wCons (wC (.int 0)) (wCons (wC (.int 1)) (wCons (wC (.int 1)) (wCons (wC (.int 2)) (wCons (wC (.int 9)) (wCons (wC (.int 10)) (wCons (wNeg (wC (.int 2))) (wCons (wNeg (wC (.int 1000))) (wCons (wC (.int 257)) wNil)))))))))))) wANil))) wNil)))))
  sNext)
  (sSeq (sIf (wTt (wOp pEq2 (wVar 3) (wC (.int 6))))
  (sRet (wTup (wCons (wC (.str "columns")) (wCons (wOrE (wCall w__law_some (wAName 0 (wAName 1 wANil))) (wCall w__law_one_of (wAName 0 (wAName 1 wANil)))) wNil))))
  sNext)
  (sRet (wTup (wCons (wOp pIx (fz (wLst (wCons (wC (.str "first")) (wCons (wC (.str "skip")) wNil)))) (wOp pSub (wVar 3) (wC (.int 7)))) (wCons (wCall w__law_one_of (wAName 0 (wACons (fz (wLst (wCons (wC (.int 0)) (wCons (wC (.int 1)) (wCons (wC (.int 1)) (wCons (wC (.int 2)) (wCons (wC (.int 2)) (wCons (wC (.int 3)) (wCons (wC (.int 4)) (wCons (wC (.int 6)) wNil)))))))))) wANil))) wNil))))))))
def w__law_draw_step_v1 : WD := wDef 3 4 t__law_draw_step_v1
def t__law_draw_report_v1 : WS := (sSeq (sParF3 4 5 6 (wLst wNil) (wOp pIx (wVar 1) (wC (.int 0))) (wC (.bool false)))
  (sSeq (sFor (wRng1 (wCall w__law_take (wAName 0 (wACons (wOp pAdd (wVar 2) (wC (.int 1))) wANil)))) (.nm 7)
  (sSeq (sSet (wCall w__law_draw_step_v1 (wAName 0 (wAName 5 (wAName 6 wANil)))) 8)
  (sSeq (sSet (wIfE (wTt (wOp pEq2 (wOp pIx (wVar 8) (wC (.int 0))) (wC (.str "columns")))) (wOp pIx (wVar 8) (wC (.int 1))) (wVal 5)) 5)
  (sSeq (sSet (wOrE (wVal 6) (wOp (pIn2 false) (wOp pIx (wVar 8) (wC (.int 0))) (wTup (wCons (wC (.str "first")) (wCons (wC (.str "skip")) wNil))))) 6)
  (sApp 4 (wVal 8))))))
  (sSeq (sIf (wAndT (wTru (wVar 3)) (wAndT (wTt (wOp pLt (w1 pLen (wVar 4)) (wVar 2))) (wTt (wOp pEq2 (wCall w__law_take (wAName 0 (wACons (wC (.int 3)) wANil))) (wC (.int 0))))))
  (sSeq (sSet (wOrE (wCall w__law_some (wAName 0 (wAName 5 wANil))) (wCall w__law_one_of (wAName 0 (wAName 5 wANil)))) 9)
  (sSeq (sSet (fz (fLc (wSeq (wVar 5)) (.nm 12) (wTt (wOp (pIn2 true) (wVar 12) (wVar 9))) (wVal 12) [12])) 10)
  (sSeq (sSet (wCall w__law_one_of (wAName 0 (wACons (wIfE (wTt (wOp pNe2 (wVar 10) (fz (wLst wNil)))) (fz (wLst (wCons (wC (.str "count")) (wCons (wC (.str "heads")) (wCons (wC (.str "sum")) wNil))))) (fz (wLst (wCons (wC (.str "count")) (wCons (wC (.str "heads")) wNil))))) wANil))) 11)
  (sApp 4 (wIfE (wTt (wOp pEq2 (wVar 11) (wC (.str "sum")))) (wTup (wCons (wVal 11) (wCons (wVal 9) (wCons (wCall w__law_one_of (wAName 0 (wAName 10 wANil))) wNil)))) (wTup (wCons (wVal 11) (wCons (wVal 9) wNil))))))))
  sNext)
  (sRet (w1 pTupA (wVar 4))))))
def w__law_draw_report_v1 : WD := wDef 4 13 t__law_draw_report_v1
def t__law_wider : WS := (sSeq (sAsg (wVal 1) (.tp [2, 3, 4]))
  (sOne 0 2 5 w__law_take (sSeq (sPar 6 7 (wTup (wCons (wCallPR w__law_some 0 (wRepl 2 5)) (wCons (wVal 5) wNil))) (wCall w__law_some (wAName 0 (wAName 2 wANil))))
  (sSeq (sSet (wIfE (wTt (wOp (pIn2 false) (wVar 6) (wVar 3))) (wVal 3) (wOp pAdd (wVar 3) (wTup (wCons (wVal 6) wNil)))) 3)
  (sRet (wTup (wCons (wVal 2) (wCons (wVal 3) (wCons (wIfE (wOrT (wTt (wOp pEq2 (wVar 7) (wC (.str "")))) (wTt (wOp (pIn2 false) (wVar 7) (wVar 4)))) (wVal 4) (wOp pAdd (wVar 4) (wTup (wCons (wVal 7) wNil)))) wNil)))))))))
def w__law_wider : WD := wDef 2 8 t__law_wider
def t__law_more_steps : WS := (sSeq (sAsg (wTup (wCons (wCall w__law_one_of (wAName 0 (wAName 1 wANil))) (wCons (wOrE (wCall w__law_some (wAName 0 (wAName 1 wANil))) (wOp pIx (wVar 1) (wC (.int 0)))) wNil))) (.tp [2, 3]))
  (sSeq (sSet (fz (wLst (wCons (wTup (wCons (wC (.str "where")) (wCons (wVal 2) (wCons (wCall w__law_take (wAName 0 (wACons (wC (.int 3)) wANil))) wNil)))) (wCons (wTup (wCons (wC (.str "first")) (wCons (wCall w__law_take (wAName 0 (wACons (wC (.int 5)) wANil))) wNil))) (wCons (wTup (wCons (wC (.str "skip")) (wCons (wCall w__law_take (wAName 0 (wACons (wC (.int 5)) wANil))) wNil))) wNil))))) 4)
  (sSeq (sSet (wOp pAdd (wVar 4) (fz (wLst (wCons (wTup (wCons (wC (.str "columns")) (wCons (wVal 3) wNil))) (wCons (wTup (wCons (wC (.str "count")) (wCons (wVal 3) wNil))) (wCons (wTup (wCons (wC (.str "heads")) (wCons (wVal 3) wNil))) wNil)))))) 4)
  (sSeq (sSet (fz (fLc (wSeq (wVar 1)) (.nm 6) (wTt (wOp (pIn2 true) (wVar 6) (wVar 3))) (wVal 6) [6])) 5)
  (sRet (wOp pAdd (wVar 4) (fz (fLc (wSeq (wVar 5)) (.nm 6) wYes (wTup (wCons (wC (.str "sum")) (wCons (wVal 3) (wCons (wVal 6) wNil)))) [6]))))))))
def w__law_more_steps : WD := wDef 2 7 t__law_more_steps
def t_is_column_set : WS := (sSeq (sIf (wOrT (wNotT (wTru (w1 (pIsi ["str"]) (wVar 1)))) (wTt (wOp pGt (w1 pLen (wVar 1)) (w1 pLen (wVar 0)))))
  (sRet (wC (.bool false)))
  sNext)
  (sRet (wOp pEq2 (wVar 1) (wCall w_common (wAName 0 (wAName 1 wANil))))))
def w_is_column_set : WD := wDef 2 2 t_is_column_set
def t_is_column : WS := (sRet (wAndE (w1 (pIsi ["str"]) (wVar 1)) (wAndE (wOp pEq2 (w1 pLen (wVar 1)) (wC (.int 1))) (wOp (pIn2 false) (wVar 1) (wVar 0)))))
def w_is_column : WD := wDef 2 2 t_is_column
def t__is_rule : WS := (sSeq (sIf (wOrT (wNotT (wTru (w1 (pIsi ["tuple"]) (wVar 1)))) (wTt (wOp pNe2 (w1 pLen (wVar 1)) (wC (.int 2)))))
  (sRet (wC (.bool false)))
  sNext)
  (sSeq (sAsg (wVal 1) (.tp [2, 3]))
  (sRet (wAndE (wCall w_is_column_set (wAName 0 (wAName 2 wANil))) (wAndE (wCall w_is_column (wAName 0 (wAName 3 wANil))) (wOp (pIn2 true) (wVar 3) (wVar 2)))))))
def w__is_rule : WD := wDef 2 4 t__is_rule
def t__are_rules : WS := (sSeq (sIf (wOrT (wNotT (wTru (w1 (pIsi ["tuple"]) (wVar 1)))) (wNotT (wTru (w1 pAll (fz (fLc (wSeq (wVar 1)) (.nm 2) wYes (wCall w__is_rule (wAName 0 (wAName 2 wANil))) [2]))))))
  (sRet (wC (.bool false)))
  sNext)
  (sRet (wOp pEq2 (w1 pLenSet2 (wVar 1)) (w1 pLen (wVar 1)))))
def w__are_rules : WD := wDef 2 3 t__are_rules
def t__are_keys : WS := (sSeq (sIf (wOrT (wNotT (wTru (w1 (pIsi ["tuple"]) (wVar 1)))) (wNotT (wTru (w1 pAll (fz (fLc (wSeq (wVar 1)) (.nm 2) wYes (wCall w_is_column_set (wAName 0 (wAName 2 wANil))) [2]))))))
  (sRet (wC (.bool false)))
  sNext)
  (sRet (wAndE (wOp (pIn2 true) (wC (.str "")) (wVar 1)) (wOp pEq2 (w1 pLenSet2 (wVar 1)) (w1 pLen (wVar 1))))))
def w__are_keys : WD := wDef 2 3 t__are_keys
def d_LETTERS : PyData := .str "abcdefghijklmnopqrstuvwxyz"
def d_MOST_COLUMNS : PyData := .int 5
def t_is_schema : WS := (sSeq (sIf (wOrT (wNotT (wTru (w1 (pIsi ["tuple"]) (wVar 0)))) (wTt (wOp pNe2 (w1 pLen (wVar 0)) (wC (.int 3)))))
  (sRet (wC (.bool false)))
  sNext)
  (sSeq (sAsg (wVal 0) (.tp [1, 2, 3]))
  (sSeq (sIf (wOrT (wNotT (wTru (wCall w_is_column_set (wACons (wC d_LETTERS) (wAName 1 wANil))))) (wNotT (wTt (wCh pLe pLe (wC (.int 1)) (w1 pLen (wVar 1)) (wC d_MOST_COLUMNS)))))
  (sRet (wC (.bool false)))
  sNext)
  (sRet (wAndE (wCall w__are_rules (wAName 1 (wAName 2 wANil))) (wCall w__are_keys (wAName 1 (wAName 3 wANil))))))))
def w_is_schema : WD := wDef 1 4 t_is_schema
def t_is_weaker : WS := (sSeq (sIf (wOrT (wTt (wOp pEq2 (wVar 0) (wC d_EMPTY))) (wTt (wOp pEq2 (wVar 1) (wC d_EMPTY))))
  (sRet (wOp pEq2 (wVar 1) (wC d_EMPTY)))
  sNext)
  (sSeq (sAsg (wVal 0) (.tp [2, 3, 4, 5, 6]))
  (sSeq (sAsg (wVal 1) (.tp [7, 8, 9, 10, 11]))
  (sSeq (sIf (wNotT (wTru (w1 pAll (fz (fLc (wSeq (wVar 2)) (.nm 12) wYes (wOp (pIn2 false) (wVar 12) (wVar 7)) [12])))))
  (sRet (wC (.bool false)))
  sNext)
  (sSeq (sIf (wOrT (wNotT (wTru (wMS pStarts (wVar 8) (wVar 3)))) (wNotT (wTru (wCall w_contains (wAName 9 (wAName 4 wANil))))))
  (sRet (wC (.bool false)))
  sNext)
  (sSeq (sIf (wAndT (wTru (wVar 5)) (wNotT (wTru (wVar 10))))
  (sRet (wC (.bool false)))
  sNext)
  (sRet (wOrE (wOp (pIs false) (wVar 6) (wC .none)) (wAndE (wOp (pIs true) (wVar 11) (wC .none)) (wOp pLe (wVar 11) (wVar 6)))))))))))
def w_is_weaker : WD := wDef 2 13 t_is_weaker
def t_is_plain_integer : WS := (sRet (wAndE (w1 (pIsi ["int"]) (wVar 0)) (wNotE (w1 (pIsi ["bool"]) (wVar 0)))))
def w_is_plain_integer : WD := wDef 1 1 t_is_plain_integer
def t__is_bound : WS := (sRet (wOrE (wOp (pIs false) (wVar 0) (wC .none)) (wAndE (wCall w_is_plain_integer (wAName 0 wANil)) (wOp pGe (wVar 0) (wC (.int 1))))))
def w__is_bound : WD := wDef 1 1 t__is_bound
def t__is_constant : WS := (sSeq (sIf (wOrT (wNotT (wTru (w1 (pIsi ["tuple"]) (wVar 1)))) (wTt (wOp pNe2 (w1 pLen (wVar 1)) (wC (.int 2)))))
  (sRet (wC (.bool false)))
  sNext)
  (sRet (wAndE (wCall w_is_column (wAName 0 (wACons (wOp pIx (wVar 1) (wC (.int 0))) wANil))) (wCall w_is_plain_integer (wACons (wOp pIx (wVar 1) (wC (.int 1))) wANil)))))
def w__is_constant : WD := wDef 2 2 t__is_constant
def t__are_constants : WS := (sSeq (sIf (wOrT (wNotT (wTru (w1 (pIsi ["tuple"]) (wVar 1)))) (wNotT (wTru (w1 pAll (fz (fLc (wSeq (wVar 1)) (.nm 2) wYes (wCall w__is_constant (wAName 0 (wAName 2 wANil))) [2]))))))
  (sRet (wC (.bool false)))
  sNext)
  (sRet (wCall w_is_column_set (wAName 0 (wACons (wMS pJoin (wC (.str "")) (fz (fLc (wSeq (wVar 1)) (.tp [3, 4]) wYes (wVal 3) [3, 4]))) wANil)))))
def w__are_constants : WD := wDef 2 5 t__are_constants
def t_is_order : WS := (sSeq (sIf (wOrT (wNotT (wTru (w1 (pIsi ["str"]) (wVar 1)))) (wTt (wOp pGt (w1 pLen (wVar 1)) (w1 pLen (wVar 0)))))
  (sRet (wC (.bool false)))
  sNext)
  (sRet (wAndE (w1 pAll (fz (fLc (wSeq (wVar 1)) (.nm 2) wYes (wCall w_is_column (wAName 0 (wAName 2 wANil))) [2]))) (wOp pEq2 (w1 pLenSet2 (wVar 1)) (w1 pLen (wVar 1))))))
def w_is_order : WD := wDef 2 3 t_is_order
def t_is_knowledge : WS := (sSeq (sIf (wOrT (wNotT (wTru (w1 (pIsi ["tuple"]) (wVar 1)))) (wTt (wOp (pIn2 true) (w1 pLen (wVar 1)) (wTup (wCons (wC (.int 1)) (wCons (wC (.int 5)) wNil))))))
  (sRet (wC (.bool false)))
  sNext)
  (sSeq (sIf (wTt (wOp pEq2 (w1 pLen (wVar 1)) (wC (.int 1))))
  (sRet (wOp pEq2 (wVar 1) (wC d_EMPTY)))
  sNext)
  (sSeq (sSet (wOp pIx (wVar 0) (wC (.int 0))) 2)
  (sSeq (sAsg (wVal 1) (.tp [3, 4, 5, 6, 7]))
  (sSeq (sIf (wOrT (wNotT (wTru (wCall w__are_constants (wAName 2 (wAName 3 wANil))))) (wOrT (wNotT (wTru (wCall w_is_order (wAName 2 (wAName 4 wANil))))) (wNotT (wTru (wCall w_is_column_set (wAName 2 (wAName 5 wANil)))))))
  (sRet (wC (.bool false)))
  sNext)
  (sRet (wAndE (w1 (pIsi ["bool"]) (wVar 6)) (wCall w__is_bound (wAName 7 wANil)))))))))
def w_is_knowledge : WD := wDef 2 8 t_is_knowledge
def t_is_derivation : WS := (sSeq (sIf (wOrT (wNotT (wTru (w1 (pIsi ["list"]) (wVar 2)))) (wTt (wOp pNe2 (w1 pLen (wVar 2)) (wOp pAdd (wC (.int 1)) (w1 pLen (wVar 1))))))
  (sRet (wC (.bool false)))
  sNext)
  (sSeq (sIf (wNotT (wTru (w1 pAll (fz (fLc (wSeq (wVar 2)) (.nm 5) wYes (wCall w_is_knowledge (wAName 0 (wAName 5 wANil))) [5])))))
  (sRet (wC (.bool false)))
  sNext)
  (sSeq (sIf (wNotT (wTru (wCall w_is_weaker (wACons (wOp pIx (wVar 2) (wC (.int 0))) (wACons (wCall w_start_knowledge (wAName 0 wANil)) wANil)))))
  (sRet (wC (.bool false)))
  sNext)
  (sSeq (sFor (wEnumT (wVal 1)) (.tp [3, 4])
  (sIf (wNotT (wTru (wCall w_is_weaker (wACons (wOp pIx (wVar 2) (wOp pAdd (wVar 3) (wC (.int 1)))) (wACons (wCall w_knowledge_after (wAName 0 (wACons (wOp pIx (wVar 2) (wVar 3)) (wAName 4 wANil)))) wANil)))))
  (sRet (wC (.bool false)))
  sNext))
  (sRet (wCall w_settles (wAName 0 (wAName 1 (wACons (wOp pIx (wVar 2) (wNeg (wC (.int 1)))) wANil)))))))))
def w_is_derivation : WD := wDef 3 6 t_is_derivation
def t__is_filled_set : WS := (sRet (wAndE (wCall w_is_column_set (wAName 0 (wAName 1 wANil))) (wOp pNe2 (wVar 1) (wC (.str "")))))
def w__is_filled_set : WD := wDef 2 2 t__is_filled_set
def t__is_long_step : WS := (sSeq (sIf (wTt (wOp pEq2 (wVar 1) (wC (.str "where"))))
  (sRet (wAndE (wCall w_is_column (wAName 0 (wAName 2 wANil))) (wCall w_is_plain_integer (wAName 3 wANil))))
  sNext)
  (sRet (wAndE (wOp pEq2 (wVar 1) (wC (.str "sum"))) (wAndE (wCall w__is_filled_set (wAName 0 (wAName 2 wANil))) (wAndE (wCall w_is_column (wAName 0 (wAName 3 wANil))) (wOp (pIn2 true) (wVar 3) (wVar 2)))))))
def w__is_long_step : WD := wDef 4 4 t__is_long_step
def d_CUTTING : PyData := .tuple [.str "first", .str "skip"]
def d_MOST_COUNT : PyData := .int 20
def t__is_short_step : WS := (sSeq (sIf (wTt (wOp (pIn2 false) (wVar 1) (wC d_SORTING)))
  (sRet (wAndE (wCall w_is_order (wAName 0 (wAName 2 wANil))) (wOp pNe2 (wVar 2) (wC (.str "")))))
  sNext)
  (sSeq (sIf (wTt (wOp (pIn2 false) (wVar 1) (wC d_CUTTING)))
  (sRet (wAndE (wCall w_is_plain_integer (wAName 2 wANil)) (wCh pLe pLe (wC (.int 0)) (wVar 2) (wC d_MOST_COUNT))))
  sNext)
  (sRet (wAndE (wOp (pIn2 false) (wVar 1) (wTup (wCons (wC (.str "columns")) (wCons (wC (.str "count")) (wCons (wC (.str "heads")) wNil))))) (wCall w__is_filled_set (wAName 0 (wAName 2 wANil)))))))
def w__is_short_step : WD := wDef 3 3 t__is_short_step
def t__is_step : WS := (sSeq (sIf (wOrT (wNotT (wTru (w1 (pIsi ["tuple"]) (wVar 1)))) (wTt (wOp (pIn2 true) (w1 pLen (wVar 1)) (wTup (wCons (wC (.int 2)) (wCons (wC (.int 3)) wNil))))))
  (sRet (wC (.bool false)))
  sNext)
  (sSeq (sIf (wTt (wOp pEq2 (w1 pLen (wVar 1)) (wC (.int 2))))
  (sRet (wCall w__is_short_step (wAName 0 (wACons (wOp pIx (wVar 1) (wC (.int 0))) (wACons (wOp pIx (wVar 1) (wC (.int 1))) wANil)))))
  sNext)
  (sRet (wCall w__is_long_step (wAName 0 (wACons (wOp pIx (wVar 1) (wC (.int 0))) (wACons (wOp pIx (wVar 1) (wC (.int 1))) (wACons (wOp pIx (wVar 1) (wC (.int 2))) wANil))))))))
def w__is_step : WD := wDef 2 2 t__is_step
def d_MOST_STEPS : PyData := .int 8
def t_is_report : WS := (sSeq (sIf (wOrT (wNotT (wTru (w1 (pIsi ["tuple"]) (wVar 1)))) (wTt (wOp pGt (w1 pLen (wVar 1)) (wC d_MOST_STEPS))))
  (sRet (wC (.bool false)))
  sNext)
  (sSeq (sSet (wOp pIx (wVar 0) (wC (.int 0))) 2)
  (sSeq (sSet (wC (.bool false)) 3)
  (sSeq (sSet (wC (.bool false)) 4)
  (sSeq (sFor (wSeq (wVal 1)) (.nm 5)
  (sSeq (sIf (wOrT (wTru (wVar 4)) (wNotT (wTru (wCall w__is_step (wAName 2 (wAName 5 wANil))))))
  (sRet (wC (.bool false)))
  sNext)
  (sSeq (sSet (wOp pIx (wVar 5) (wC (.int 0))) 6)
  (sSeq (sIf (wAndT (wTru (wVar 3)) (wTt (wOp (pIn2 false) (wVar 6) (wC d_SORTING))))
  (sRet (wC (.bool false)))
  sNext)
  (sSeq (sSet (wOrE (wVal 3) (wOp (pIn2 false) (wVar 6) (wC d_CUTTING))) 3)
  (sSeq (sSet (wOp (pIn2 false) (wVar 6) (wC d_GROUPING)) 4)
  (sSet (wCall w_kept_after (wAName 2 (wAName 5 wANil))) 2)))))))
  (sRet (wC (.bool true))))))))
def w_is_report : WD := wDef 2 7 t_is_report
def t_find_derivation : WS := (sSeq (sSet (wCall (fzO w_derive) (wAName 0 (wAName 1 wANil))) 2)
  (sRet (wIfE (wTru (wCall w_settles (wAName 0 (wAName 1 (wACons (wOp pIx (wVar 2) (wNeg (wC (.int 1)))) wANil))))) (wVal 2) (wC .none))))
def w_find_derivation : WD := wDef 2 3 t_find_derivation
def t__law_sure_right : WS := (sSeq (sSet (wOp pIx (wVar 1) (wC (.int 0))) 2)
  (sSeq (sAsg (wTup (wCons (wCall w__law_one_of (wAName 0 (wAName 2 wANil))) (wCons (wCall w__law_take (wAName 0 (wACons (wC (.int 5)) wANil))) wNil))) (.tp [3, 4]))
  (sSeq (sSetL (wLst (wCons (wTup (wCons (wTup (wCons (wC (.str "sort")) (wCons (wCall w__law_mixed_v1 (wAName 0 (wAName 2 (wACons (wC (.int 1)) wANil)))) wNil))) (wCons (wTup (wCons (wC (.str "first")) (wCons (wC (.int 0)) wNil))) wNil))) (wCons (wTup (wCons (wTup (wCons (wC (.str "sort")) (wCons (wVal 2) wNil))) (wCons (wTup (wCons (wC (.str "first")) (wCons (wC (.int 3)) wNil))) wNil))) wNil))) 5)
  (sSeq (sApp 5 (wTup (wCons (wTup (wCons (wC (.str "where")) (wCons (wVal 3) (wCons (wVal 4) wNil)))) (wCons (wTup (wCons (wC (.str "first")) (wCons (wC (.int 2)) wNil))) (wCons (wTup (wCons (wC (.str "where")) (wCons (wVal 3) (wCons (wOp pAdd (wVar 4) (wC (.int 1))) wNil)))) wNil)))))
  (sSeq (sApp 5 (wTup (wCons (wTup (wCons (wC (.str "first")) (wCons (wC (.int 2)) wNil))) (wCons (wTup (wCons (wC (.str "skip")) (wCons (wC (.int 2)) wNil))) (wCons (wTup (wCons (wC (.str "count")) (wCons (wVal 3) wNil))) wNil)))))
  (sSeq (sFor (wSeq (wOp pIx (wVar 1) (wC (.int 2)))) (.nm 6)
  (sSeq (sSet (w1 pTupA (fz (fLc (wSeq (wVar 6)) (.nm 9) wYes (wTup (wCons (wC (.str "where")) (wCons (wVal 9) (wCons (wVal 4) wNil)))) [9]))) 7)
  (sIf (wTt (wOp pLt (w1 pLen (wVar 7)) (wC (.int 5))))
  (sSeq (sApp 5 (wOp pAdd (wOp pAdd (wTup (wCons (wTup (wCons (wC (.str "first")) (wCons (wC (.int 4)) wNil))) wNil)) (wVar 7)) (wTup (wCons (wTup (wCons (wC (.str "skip")) (wCons (wC (.int 1)) wNil))) wNil))))
  (sApp 5 (wOp pAdd (wVar 7) (wTup (wCons (wTup (wCons (wC (.str "first")) (wCons (wC (.int 1)) wNil))) (wCons (wTup (wCons (wC (.str "columns")) (wCons (wVal 3) wNil))) wNil))))))
  sNext)))
  (sSeq (sFz 5 (sFor (wSeq (wVal 5)) (.nm 8)
  (sSeq (sIf (wOrT (wTt (wOp (pIs true) (wCall w_is_report (wAName 1 (wAName 8 wANil))) (wC (.bool true)))) (wTt (wOp (pIs true) (wCall w_is_settled (wAName 1 (wAName 8 wANil))) (wC (.bool true)))))
  (sRet (wC (.bool false)))
  sNext)
  (sIf (wTt (wOp (pIs true) (wCall w_is_derivation (wAName 1 (wAName 8 (wACons (wCall w_find_derivation (wAName 1 (wAName 8 wANil))) wANil)))) (wC (.bool true))))
  (sRet (wC (.bool false)))
  sNext))))
  (sRet (wC (.bool true))))))))))
def w__law_sure_right : WD := wDef 2 10 t__law_sure_right
end Lw
namespace Lw
open PySem PySem.Spec PyProof.Rows L2 Pu SeqAt PuS
local macro_rules
  | `(tactic| walk_at "s") => `(tactic| first
    | with_reducible refine n_seq ?_
    | with_reducible refine n_set ?_
    | with_reducible refine n_setL ?_
    | with_reducible refine n_ret ?_
    | with_reducible refine n_if ?_
    | with_reducible refine n_par ?_
    | with_reducible refine n_parL ?_
    | with_reducible refine n_next ?_
    | with_reducible refine n_asg ?_
    | with_reducible refine m_c ?_
    | with_reducible refine m_d0 ?_
    | ((with_reducible apply m_var); (exact rfl))
    | ((with_reducible apply m_val); (exact rfl))
    | with_reducible refine m_z ?_
    | with_reducible refine m_op h2_add ?_
    | with_reducible refine m_op h2_mulT ?_
    | with_reducible refine m_op h2_eq ?_
    | with_reducible refine m_op h2_ne2 ?_
    | with_reducible refine m_op h2_in ?_
    | with_reducible refine m_op h2_is ?_
    | with_reducible refine m_op h2_ix ?_
    | with_reducible refine m_op h2_lt ?_
    | with_reducible refine m_op h2_le ?_
    | with_reducible refine m_op h2_gt ?_
    | with_reducible refine m_op h2_ge ?_
    | with_reducible refine m_op h2_sub ?_
    | with_reducible refine m_op h2_mod ?_
    | with_reducible refine m_opL h2_catL ?_
    | with_reducible refine m_opL h2_repL ?_
    | with_reducible refine m_1 h1_len ?_
    | with_reducible refine m_1 h1_tupA ?_
    | with_reducible refine m_op h2_pow ?_
    | with_reducible refine m_1 h1_int ?_
    | with_reducible refine m_1 h1_all ?_
    | with_reducible refine m_1 h1_any ?_
    | with_reducible refine m_1 h1_isi ?_
    | with_reducible refine m_1 h1_lenSet ?_
    | with_reducible refine m_1 h1_lenSet2 ?_
    | with_reducible refine m_op h2_mulV ?_
    | with_reducible refine m_sort ?_
    | with_reducible refine n_dictK ?_
    | ((with_reducible apply m_kin); (exact rfl))
    | ((with_reducible apply m_kget); (exact rfl))
    | ((with_reducible apply n_kset); (exact rfl))
    | ((with_reducible apply m_klist); (exact rfl))
    | with_reducible refine m_dget2 ?_
    | with_reducible refine m_1 h1_revE ?_
    | with_reducible refine m_1L h1_listA ?_
    | with_reducible refine m_1L h1_listL ?_
    | with_reducible refine m_1L h1_sortSet ?_
    | with_reducible refine m_ms hm_join ?_
    | with_reducible refine m_ms hm_index ?_
    | with_reducible refine m_tt ?_
    | with_reducible refine m_tru ?_
    | with_reducible refine m_notT ?_
    | with_reducible refine m_andT ?_
    | with_reducible refine m_orT ?_
    | with_reducible refine m_yes ?_
    | with_reducible refine m_ifE ?_
    | with_reducible refine m_andE ?_
    | with_reducible refine m_orE ?_
    | with_reducible refine m_notE ?_
    | with_reducible refine m_neg ?_
    | with_reducible refine m_nil ?_
    | with_reducible refine m_cons ?_
    | with_reducible refine m_tup ?_
    | with_reducible refine m_lst ?_
    | with_reducible refine m_aNil ?_
    | with_reducible refine m_aCons ?_
    | ((with_reducible apply m_aName); (exact rfl))
    | with_reducible refine m_call ?_
    | with_reducible refine m_noPart ?_
    | with_reducible refine m_part ?_
    | with_reducible refine m_sl ?_
    | with_reducible refine m_slL ?_
    | with_reducible refine m_ch h2_le h2_le ?_
    | with_reducible refine m_seq ?_
    | with_reducible refine m_rng1 ?_
    | with_reducible refine m_zip ?_
    | with_reducible refine m_enumT ?_)
local macro_rules
  | `(tactic| walk_at "e") => `(tactic| first
    | with_reducible refine ⟨_, eq_int _ _, ?_⟩
    | with_reducible refine ⟨_, ix_t0 _ _, ?_⟩
    | with_reducible refine ⟨_, ix_t1 _ _ _, ?_⟩
    | with_reducible refine ⟨_, ix_t2 _ _ _ _, ?_⟩
    | with_reducible refine ⟨_, ne2_int _ _, ?_⟩
    | with_reducible refine ⟨_, eq_str _ _, ?_⟩
    | with_reducible refine ⟨_, in_sg _ _, ?_⟩
    | with_reducible refine ⟨_, eq_tup0 _, ?_⟩
    | with_reducible refine ⟨_, in_chs _ _, ?_⟩
    | with_reducible refine ⟨_, nodup_eq _, ?_⟩
    | with_reducible refine ⟨_, sorted_eq _, ?_⟩
    | with_reducible refine ⟨_, rfl, ?_⟩)
local macro_rules
  | `(tactic| walk_at "r") => `(tactic| refine ⟨_, rfl, ?_⟩)
local macro_rules
  | `(tactic| walk_at "t") => `(tactic| refine ⟨fun _ => ?_, fun h => Bool.noConfusion (show true = false from h)⟩)
local macro_rules
  | `(tactic| walk_at "f") => `(tactic| refine ⟨fun h => Bool.noConfusion (show false = true from h), fun _ => ?_⟩)
section
variable {n : Nat} {Q : PyData → Nat → Prop} {K : Str} {a b c v : PyData} {sr : List PyData}
theorem take_run {k : Int} (h0 : 0 < k) (h1 : k < 1073741824) (hn : 1 ≤ n) (q : ∀ r : Int, 0 ≤ r → r < k → Q (.int r) (n - 1)) : MD w__law_take [.p, .d (.int k)] n Q :=
  fun b P hb kk => ⟨k, rfl, h0, h1, by omega, fun r r0 r1 => kk _ (n - 1) (b - 1) (q r r0 r1) (by omega)⟩
/-- .. of a natural number -/
theorem take_nat {k : Nat} (h0 : 0 < k) (h1 : k < 1073741824) (hn : 1 ≤ n) (q : ∀ r : Nat, r < k → Q (.int r) (n - 1)) : MD w__law_take [.p, .d (.int k)] n Q :=
  take_run (by omega) (by omega) hn fun r r0 r1 => by
    have := q r.toNat (by omega)
    rwa [Int.toNat_of_nonneg r0] at this
end
section
variable {n : Nat} {Q : PyData → Nat → Prop}
theorem rng_len (j : Nat) : (rngD 0 j).length = j := by simp [rngD]
theorem rng_at {lo : Int} {k : Nat} {x : PyData} {r : List PyData} (j : Nat) (h : x :: r = (rngD lo j).drop k) : x = .int (lo + k) ∧ r = (rngD lo j).drop (k + 1) ∧ k < j := by
  have hk : k < (rngD lo j).length := by
    rcases Nat.lt_or_ge k (rngD lo j).length with q | q
    · exact q
    · rw [List.drop_of_length_le q] at h; cases h
  rw [List.drop_eq_getElem_cons hk] at h
  obtain ⟨e1, e2⟩ := List.cons.inj h
  refine ⟨?_, e2, by simpa [rngD] using hk⟩
  rw [e1]
  simp [rngD]
theorem _root_.Pu.RulesOk.add {K : List Nat} {rules : List Rule} {p : Rule} (h : RulesOk K rules) (hp : p.1.Sublist K ∧ p.2 ∈ K ∧ p.2 ∉ p.1) (hn : p ∉ rules) (few : rules.length ≤ 5) : RulesOk K (rules ++ [p]) := by
  refine ⟨fun q hq => ?_, ?_, by rw [List.length_append]; simp; omega⟩
  · rcases List.mem_append.mp hq with hq | hq
    · exact h.one q hq
    · rw [List.mem_singleton] at hq; subst hq; exact hp
  · rw [List.nodup_append]
    exact ⟨h.nodup, by simp, fun a ha b hb => by rw [List.mem_singleton] at hb; subst hb; intro e; subst e; exact hn ha⟩
theorem _root_.Pu.KeysOk.add {K : List Nat} {keys : List (List Nat)} {p : List Nat} (h : KeysOk K keys) (hp : p.Sublist K ∧ p ≠ []) (hn : p ∉ keys) (few : keys.length ≤ 1) : KeysOk K (keys ++ [p]) := by
  refine ⟨fun q hq => ?_, ?_, by rw [List.length_append]; simp; omega⟩
  · rcases List.mem_append.mp hq with hq | hq
    · exact h.one q hq
    · rw [List.mem_singleton] at hq; subst hq; exact hp
  · rw [List.nodup_append]
    exact ⟨h.nodup, by simp, fun a ha b hb => by rw [List.mem_singleton] at hb; subst hb; intro e; subst e; exact hn ha⟩
end
def keptL (K : List Nat) : Stp → List Nat
  | .col l => l
  | _ => K
def isG : Stp → Bool
  | .grp _ _ => true
  | _ => false
/-- its numbers are small -/
def StpSm : Stp → Prop
  | .whr _ v => v.natAbs ≤ 100000
  | .cut _ i => i ≤ 100000
  | _ => True
theorem sub_cols {K l : List Nat} (hK : ColsOk K) (s : l.Sublist K) (ne : l ≠ []) : ColsOk l := ⟨hK.asc.sublist s, Nat.le_trans s.length_le hK.few, ne, fun c hc => hK.low c (s.subset hc)⟩
/-- how a report ends -/
inductive Fin where
  | non
  | cnt (g : List Nat)
  | sum (g : List Nat) (c : Nat)
  | hds (g : List Nat)
def finS : Fin → List Stp
  | .non => []
  | .cnt g => [.grp "count" [.str (tx g)]]
  | .sum g c => [.grp "sum" [.str (tx g), sg c]]
  | .hds g => [.grp "heads" [.str (tx g)]]
def FinOk (l : List Nat) : Fin → Prop
  | .non => True
  | .cnt g => g.Sublist l
  | .sum g c => g.Sublist l ∧ c ∈ l
  | .hds g => g.Sublist l
def keptR (K : List Nat) (sts : List Stp) : List Nat := sts.foldl keptL K
theorem kept_snoc {K : List Nat} {sts : List Stp} {st : Stp} : keptR K (sts ++ [st]) = keptL (keptR K sts) st := by
  unfold keptR
  rw [List.foldl_append]
  rfl
theorem _root_.Pu.StpOk.mono {l K : List Nat} (s : l.Sublist K) : ∀ {st : Stp}, StpOk l st → StpOk K st
  | .whr _ _, h => s.subset h
  | .srt _ _, h => ⟨fun c hc => s.subset (h.1 c hc), h.2⟩
  | .cut _ _, _ => trivial
  | .col _, h => h.trans s
  | .grp _ _, h => h
section
variable {n : Nat} {Q : PyData → Nat → Prop} {K : List Nat} {sr : List PyData}
theorem kept_expr {env : En} {i j : Nat} {st : Stp} (so : StpOk K st) (ng : isG st = false) (hi : vVar i env = some (stpD st)) (hj : vVal j env = some (.str (tx K))) (q : Q (.str (tx (keptL K st))) n) :
    ME (wIfE (wTt (wOp pEq2 (wOp pIx (wVar i) (wC (.int 0))) (wC (.str "columns")))) (wOp pIx (wVar i) (wC (.int 1))) (wVal j)) env n Q := by
  walk_at "s"; walk_at "s"; walk_at "s"; walk_at "s"
  refine m_var hi ?_
  (repeat walk_at "s")
  cases st with
  | col l =>
    walk_at "e"
    (repeat walk_at "s"); walk_at "e"
    walk_at "r"
    walk_at "t"
    walk_at "s"
    refine m_var hi ?_
    (repeat walk_at "s")
    exact ⟨_, ix_t1 _ _ _, q⟩
  | srt b p =>
    cases b <;> (walk_at "e"; (repeat walk_at "s"); walk_at "e"; walk_at "r"; walk_at "f"; exact m_val hj q)
  | cut b p =>
    cases b <;> (walk_at "e"; (repeat walk_at "s"); walk_at "e"; walk_at "r"; walk_at "f"; exact m_val hj q)
  | whr c v => walk_at "e"; (repeat walk_at "s"); walk_at "e"; walk_at "r"; walk_at "f"; exact m_val hj q
  | grp w r => cases ng
end
theorem any_map {α : Type} (f : α → Bool) (xs : List α) : eAny (.list (xs.map fun x => .bool (f x))) = some (.bool (xs.any f)) := by
  show (boolsOf (xs.map fun x => PyData.bool (f x))).map _ = _
  rw [bools_map]
  simp
section
variable {n : Nat} {Q : PyData → Nat → Prop} {K f part X : List Nat} {rules : List Rule} {keys : List (List Nat)}
theorem contains_run (hl : part.length ≤ 1000) (q : Q (.bool (inB part f)) n) : MD w_contains [.d (.str (tx f)), .d (.str (tx part))] n Q := by
  refine md_def rfl rfl ?_
  unfold t_contains
  walk_at "s"; walk_at "s"; walk_at "s"
  refine m_lcM part sg (fun c => .bool (decide (c ∈ f))) ?_
  (repeat walk_at "s")
  refine ⟨_, seq_str _, by rw [Ls_tx], by rw [sizeLine_eq]; omega, fun c hc => ⟨_, rfl, fun m => ?_⟩, _, all_map _ part, q⟩
  (repeat walk_at "s")
  refine ⟨_, in_sg c (tx f), ?_, rfl⟩
  rw [Ls_tx]
  simp
theorem has_key_run (hY : KeysOk K keys) (hK : ColsOk K) (q : Q (.bool (keys.any fun k => inB k f)) n) : MD w__has_key [.d (.str (tx f)), .d (.tuple (keys.map keD))] n Q := by
  have hK5 := hK.few
  refine md_def rfl rfl ?_
  unfold t__has_key
  walk_at "s"; walk_at "s"; walk_at "s"
  refine m_lcM keys keD (fun k => .bool (inB k f)) ?_
  (repeat walk_at "s")
  refine ⟨_, rfl, rfl, by rw [sizeLine_eq]; have := hY.few; omega, fun k hk => ⟨_, rfl, fun m => ?_⟩, _, any_map _ keys, q⟩
  (repeat walk_at "s")
  exact contains_run (Nat.le_trans (hY.one k hk).1.length_le (by omega)) ⟨rfl, rfl⟩
theorem common_run (hl : K.length ≤ 1000) (q : Q (.str (tx (K.filter fun c => decide (c ∈ f)))) n) : MD w_common [.d (.str (tx K)), .d (.str (tx f))] n Q := by
  refine md_def rfl rfl ?_
  unfold t_common
  (repeat walk_at "s")
  refine ⟨_, rfl, ?_⟩
  (repeat walk_at "s")
  refine m_lcK K sg sg (fun c => decide (c ∈ f)) ?_
  (repeat walk_at "s")
  refine ⟨_, seq_str _, by rw [Ls_tx], by rw [sizeLine_eq]; omega, fun c hc => ⟨_, rfl, fun m => ?_, fun m => ?_⟩, ?_⟩
  · (repeat walk_at "s")
    refine ⟨_, in_sg c (tx f), _, rfl, ?_, rfl⟩
    rw [Ls_tx]
    simp
  · (repeat walk_at "s")
    exact ⟨rfl, rfl⟩
  · exact ⟨_, join_sg (Nat.le_trans (List.length_filter_le _ _) hl), q⟩
theorem round_run (hK : ColsOk K) (hR : RulesOk K rules) (hY : KeysOk K keys) (hf : f.length ≤ 5) (q : Q (.str (tx (rnd K rules keys f))) n) : MD w__closure_round [.d (schD K rules keys), .d (.str (tx f))] n Q := by
  have hK5 := hK.few
  have hR6 := hR.few
  refine md_def rfl rfl ?_
  unfold t__closure_round
  (repeat walk_at "s")
  refine ⟨_, rfl, ?_⟩
  (repeat walk_at "s")
  refine has_key_run hY hK ?_
  walk_at "r"
  refine ⟨fun h => ?_, fun h => ?_⟩
  · (repeat walk_at "s")
    unfold rnd at q
    rw [if_pos h] at q
    exact q
  · unfold rnd at q
    rw [if_neg (by rw [h]; exact Bool.false_ne_true)] at q
    walk_at "s"; walk_at "s"; walk_at "s"; walk_at "s"
    refine m_lcK rules ruD (fun p => sg p.2) (fun p => inB p.1 f) ?_
    (repeat walk_at "s")
    refine ⟨_, rfl, rfl, by rw [sizeLine_eq]; omega, fun p hp => ⟨_, rfl, fun m => ?_, fun m => ?_⟩, ?_⟩
    · (repeat walk_at "s")
      refine contains_run (Nat.le_trans (hR.one p hp).1.length_le (by omega)) ?_
      exact ⟨_, rfl, rfl, rfl⟩
    · (repeat walk_at "s")
      exact ⟨rfl, rfl⟩
    · have e : (rules.filter fun p => inB p.1 f).map (fun p => sg p.2) = ((rules.filter fun p => inB p.1 f).map (·.2)).map sg := by rw [List.map_map]; rfl
      have hl : ((rules.filter fun p => inB p.1 f).map (·.2)).length ≤ 6 := by rw [List.length_map]; exact Nat.le_trans (List.length_filter_le _ _) hR6
      rw [e]
      (repeat walk_at "s")
      refine ⟨_, rfl, ?_⟩
      (repeat walk_at "s")
      refine ⟨_, join_sg (by omega), ?_⟩
      refine ⟨_, add_str (by rw [Ls_tx, Ls_tx]; omega), ?_⟩
      rw [Ls_tx, Ls_tx]
      (repeat walk_at "s")
      exact common_run (by omega) q
theorem closure_run (hK : ColsOk K) (hR : RulesOk K rules) (hY : KeysOk K keys) (hX : X.Sublist K) (q : Q (.str (tx (clos K rules keys X))) n) : MD w_closure [.d (schD K rules keys), .d (.str (tx X))] n Q := by
  have hK5 := hK.few
  refine md_def rfl rfl ?_
  unfold t_closure
  walk_at "s"
  (repeat walk_at "s")
  refine n_for ?_
  (repeat walk_at "s"); walk_at "e"
  refine ⟨_, seq_str _, fun rest e m => m = n ∧ ∃ (f : List Nat) (x3 : Option Sl), f.Sublist K ∧ rnds K rules keys rest.length f = clos K rules keys X ∧ e = [some (.d (schD K rules keys)), some (.d (.str (tx X))), some (.d (.str (tx f))), x3],
    ⟨rfl, X, none, hX, by rw [List.length_map, Ls_tx]; rfl, rfl⟩, fun x rest e m hI => ?_, fun e m hI => ?_⟩
  · obtain ⟨rfl, f, x3, sf, ef, rfl⟩ := hI
    refine ⟨_, rfl, ?_⟩
    (repeat walk_at "s")
    refine round_run hK hR hY (Nat.le_trans sf.length_le hK5) ?_
    exact ⟨rfl, _, _, rnd_sub f, ef, rfl⟩
  · obtain ⟨rfl, f, x3, sf, ef, rfl⟩ := hI
    (repeat walk_at "s")
    have e : f = clos K rules keys X := ef
    rw [e]
    exact q
end
section
variable {n : Nat} {Q : PyData → Nat → Prop} {K X : List Nat} {rules : List Rule} {keys : List (List Nat)} {cs : CsT} {o k : List Nat} {c : Bool} {m : Option Int}
theorem is_unique_run (hK : ColsOk K) (hR : RulesOk K rules) (hY : KeysOk K keys) (hX : X.Sublist K) (q : Q (.bool (keys.any fun k => inB k (clos K rules keys X))) n) : MD w_is_unique [.d (schD K rules keys), .d (.str (tx X))] n Q := by
  refine md_def rfl rfl ?_
  unfold t_is_unique
  (repeat walk_at "s")
  refine closure_run hK hR hY hX ?_
  (repeat walk_at "s")
  refine ⟨_, ix_t2 _ _ _ _, ?_⟩
  (repeat walk_at "s")
  exact has_key_run hY hK q
theorem common_runL {f : List Nat} (hl : K.length ≤ 1000) (q : Q (.str (tx (K.filter fun c => decide (c ∈ f)))) n) : MD w_common [.d (.str (tx K)), .d (.list (f.map sg))] n Q := by
  refine md_def rfl rfl ?_
  unfold t_common
  (repeat walk_at "s")
  refine ⟨_, rfl, ?_⟩
  (repeat walk_at "s")
  refine m_lcK K sg sg (fun c => decide (c ∈ f)) ?_
  (repeat walk_at "s")
  refine ⟨_, seq_str _, by rw [Ls_tx], by rw [sizeLine_eq]; omega, fun c hc => ⟨_, rfl, fun m => ?_, fun m => ?_⟩, ?_⟩
  · (repeat walk_at "s")
    refine ⟨_, in_chs f _, _, rfl, ?_, rfl⟩
    rw [oneIn_sg]
    simp
  · (repeat walk_at "s")
    exact ⟨rfl, rfl⟩
  · exact ⟨_, join_sg (Nat.le_trans (List.length_filter_le _ _) hl), q⟩
theorem after_where_run {col : Nat} {v : Int} (hK : ColsOk K) (hR : RulesOk K rules) (hY : KeysOk K keys) (h : KnP K cs o k m) (hc : col ∈ K) (q : Q (knD (afW K rules keys cs o k c m col v)) n) :
    MD w__after_where [.d (schD K rules keys), .d (knD (.kn cs o k c m)), .d (sg col), .d (.int v)] n Q := by
  have hK5 := hK.few
  have few := h.cs.few hK
  refine md_def rfl rfl ?_
  unfold t__after_where
  walk_at "s"
  (repeat walk_at "s")
  walk_at "r"
  (repeat walk_at "s")
  refine ⟨csS cs, ⟨by rw [csS_pair], csS_nodup (asc_nodup h.cs.asc), by unfold csS; rw [List.length_map]; omega⟩, ?_⟩
  (repeat walk_at "s")
  refine ⟨_, rfl, ?_⟩
  walk_at "r"
  unfold afW at q
  cases hf : fixC cs col with
  | some u =>
    rw [hf] at q
    rw [lookS_cs, hf]
    refine ⟨fun _ => ?_, fun z => by simp at z⟩
    (repeat walk_at "s")
    refine ⟨_, _, rfl, by rw [lookS_cs, hf]; rfl, ?_⟩
    (repeat walk_at "s"); walk_at "e"
    walk_at "r"
    refine ⟨fun z => ?_, fun z => ?_⟩
    · (repeat walk_at "s")
      have q : Q (knD (if u = v then Kn.kn cs o k c m else .emp)) n := q
      rw [if_pos (of_decide_eq_true z)] at q
      exact q
    · (repeat walk_at "s")
      have q : Q (knD (if u = v then Kn.kn cs o k c m else .emp)) n := q
      rw [if_neg (of_decide_eq_false z)] at q
      exact q
  | none =>
    rw [hf] at q
    rw [lookS_cs, hf]
    have put := putS_cs (v := v) hf
    obtain ⟨_, nd⟩ := h.cs.put (v := v) hc hf
    refine ⟨fun z => by simp at z, fun _ => ?_⟩
    (repeat walk_at "s")
    refine ⟨_, rfl, by unfold csS; rw [List.length_map, sizeLine_eq]; omega, ?_⟩
    rw [put]
    (repeat walk_at "s")
    refine ⟨_, in_sg col _, ?_⟩
    rw [Ls_tx]
    walk_at "r"
    have fin : ∀ (k2 : List Nat) (c2 : Bool) {B C : En → Nat → Prop}, Q (knD (.kn (srtC (cs ++ [(col, v)])) o k2 c2 (if oneK K rules keys (colsC cs ++ [col]) = true then some 1 else m))) n →
        MS (sSeq (sIf (wTru (wCall w_is_unique (wAName 0 (wACons (wCall w_common (wACons (wOp pIx (wVar 0) (wC (.int 0))) (wACons (fz (wKList 9)) wANil))) wANil)))) (sSet (wC (.int 1)) 8) sNext) (sRet (wTup (wCons (w1 pTupA (fz (wKSort 9))) (wCons (wVal 5) (wCons (wVal 6) (wCons (wVal 7) (wCons (wVal 8) wNil))))))))
          [some (.d (schD K rules keys)), some (.d (knD (.kn cs o k c m))), some (.d (sg col)), some (.d (.int v)), some (.d (.tuple (cs.map cD))), some (.d (.str (tx o))), some (.d (.str (tx k2))), some (.d (.bool c2)), some (.d (mostD m)), some (.k (csS (cs ++ [(col, v)])))] n (fun _ m => Q .none m) Q B C := by
      intro k2 c2 B C q
      walk_at "s"
      (repeat walk_at "s")
      refine ⟨_, ix_t0 _ _, ?_⟩
      (repeat walk_at "s")
      rw [csS_keys]
      refine common_runL (by omega) ?_
      (repeat walk_at "s")
      refine is_unique_run hK hR hY List.filter_sublist ?_
      have ek : colsC (cs ++ [(col, v)]) = colsC cs ++ [col] := by unfold colsC; rw [List.map_append]; rfl
      rw [ek]
      walk_at "r"
      have last : ∀ (m2 : Option Int), Q (knD (.kn (srtC (cs ++ [(col, v)])) o k2 c2 m2)) n → MS (sRet (wTup (wCons (w1 pTupA (fz (wKSort 9))) (wCons (wVal 5) (wCons (wVal 6) (wCons (wVal 7) (wCons (wVal 8) wNil)))))))
          [some (.d (schD K rules keys)), some (.d (knD (.kn cs o k c m))), some (.d (sg col)), some (.d (.int v)), some (.d (.tuple (cs.map cD))), some (.d (.str (tx o))), some (.d (.str (tx k2))), some (.d (.bool c2)), some (.d (mostD m2)), some (.k (csS (cs ++ [(col, v)])))] n (fun _ m => Q .none m) Q B C := by
        intro m2 q
        (repeat walk_at "s")
        refine m_ksort rfl (by rw [csS_pair]; exact cs_alike _) (by rw [csS_pair]; exact cs_sortable _) (by unfold csS; rw [List.length_map, List.length_append]; simp; omega) (by rw [csS_pair]; exact cs_depth _) ?_
        rw [csS_pair, srt_cs nd]
        walk_at "r"
        (repeat walk_at "s")
        exact ⟨by show 5 ≤ sizeLine; decide, q⟩
      refine ⟨fun z => ?_, fun z => ?_⟩
      · walk_at "s"; walk_at "s"
        rw [if_pos (show oneK K rules keys (colsC cs ++ [col]) = true from z)] at q
        exact last (some 1) q
      · walk_at "s"
        rw [if_neg (by rw [show oneK K rules keys (colsC cs ++ [col]) = false from z]; exact Bool.false_ne_true)] at q
        exact last m q
    refine ⟨fun z => ?_, fun z => ?_⟩
    · have hk : col ∉ k := by simpa using z
      (repeat walk_at "s")
      refine ⟨by show 2 ≤ sizeLine; decide, _, rfl, ?_⟩
      refine fin [] false ?_
      have q : Q (knD (.kn (srtC (cs ++ [(col, v)])) o (if col ∈ k then k else []) (c && decide (col ∈ k)) (if oneK K rules keys (colsC cs ++ [col]) = true then some 1 else m))) n := q
      rw [if_neg hk, decide_eq_false hk, Bool.and_false] at q
      exact q
    · have hk : col ∈ k := by simpa using z
      walk_at "s"
      refine fin k c ?_
      have q : Q (knD (.kn (srtC (cs ++ [(col, v)])) o (if col ∈ k then k else []) (c && decide (col ∈ k)) (if oneK K rules keys (colsC cs ++ [col]) = true then some 1 else m))) n := q
      rw [if_pos hk, decide_eq_true hk, Bool.and_true] at q
      exact q
end
section
variable {n : Nat} {Q : PyData → Nat → Prop} {K X : List Nat} {rules : List Rule} {keys : List (List Nat)} {cs : CsT} {o k : List Nat} {c : Bool} {m : Option Int}
theorem enum_atS {xs : List PyData} {x : PyData} {r : List PyData} {k : Nat} (h : x :: r = (enumD xs).drop k) : ∃ hk : k < xs.length, x = .tuple [.int (k : Nat), xs[k]] ∧ r = (enumD xs).drop (k + 1) := by
  have hl : (enumD xs).length = xs.length := by simp [enumD]
  have hk : k < (enumD xs).length := by
    rcases Nat.lt_or_ge k (enumD xs).length with q | q
    · exact q
    · rw [List.drop_of_length_le q] at h; cases h
  rw [List.drop_eq_getElem_cons hk] at h
  obtain ⟨h1, h2⟩ := List.cons.inj h
  refine ⟨by omega, ?_, h2⟩
  rw [h1]
  simp [enumD]
theorem pre_at {k p : List Nat} {j : Nat} (h : ∀ i (hi : i < p.length), i < j → p[i] ∈ k) (hj : j ≤ p.length) (st : ∀ hl : j < p.length, p[j] ∉ k) : preS k p = p.take j := by
  unfold preS
  induction p generalizing j with
  | nil => simp
  | cons a p ih =>
    cases j with
    | zero =>
      have := st (by simp)
      rw [List.takeWhile_cons_of_neg (by simpa using this)]
      rfl
    | succ j =>
      have h0 := h 0 (by simp) (by omega)
      rw [List.takeWhile_cons_of_pos (by simpa using h0), List.take_succ_cons, ih (j := j)]
      · intro i hi hij
        exact h (i + 1) (by simpa using hi) (by omega)
      · simpa using hj
      · intro hl
        exact st (by simpa using hl)
theorem known_beginning_run {p : List Nat} (lp : p.length ≤ 1000) (q : Q (.str (tx (preS k p))) n) : MD w__known_beginning [.d (.str (tx k)), .d (.str (tx p))] n Q := by
  refine md_def rfl rfl ?_
  unfold t__known_beginning
  walk_at "s"
  refine n_for ?_
  refine m_enumS ?_
  (repeat walk_at "s")
  refine ⟨_, rfl, fun rest e m => m = n ∧ ∃ (j : Nat) (x2 x3 : Option Sl), rest = (enumD (chS (tx p))).drop j ∧ j ≤ p.length ∧ (∀ i (hi : i < p.length), i < j → p[i] ∈ k) ∧ e = [some (.d (.str (tx k))), some (.d (.str (tx p))), x2, x3],
    ⟨rfl, 0, none, none, rfl, Nat.zero_le _, fun i _ z => absurd z (Nat.not_lt_zero _), rfl⟩, fun x rest e m hI => ?_, fun e m hI => ?_⟩
  · obtain ⟨rfl, j, x2, x3, e2, hj, hp, rfl⟩ := hI
    obtain ⟨hk, rfl, er⟩ := enum_atS e2
    have hl : (chS (tx p)).length = p.length := by rw [chS_eq, List.length_map, Ls_tx]
    have jl : j < p.length := by omega
    have ec : (chS (tx p))[j] = sg p[j] := by
      have : (chS (tx p)) = p.map sg := by rw [chS_eq, Ls_tx]
      simp [this]
    rw [ec]
    refine ⟨_, rfl, ?_⟩
    (repeat walk_at "s")
    refine ⟨_, in_sg _ _, ?_⟩
    rw [Ls_tx]
    walk_at "r"
    refine ⟨fun z => ?_, fun z => ?_⟩
    · have nk : p[j] ∉ k := by simpa using z
      (repeat walk_at "s")
      refine ⟨_, rfl, ?_⟩
      refine ⟨_, sl_to (by omega) (by omega), ?_⟩
      rw [pre_at hp hj fun _ => nk] at q
      exact q
    · have ik : p[j] ∈ k := by simpa using z
      (repeat walk_at "s")
      refine ⟨rfl, j + 1, _, _, er, by omega, fun i hi hij => ?_, rfl⟩
      by_cases z : i = j
      · subst z; exact ik
      · exact hp i hi (by omega)
  · obtain ⟨rfl, j, x2, x3, e2, hj, hp, rfl⟩ := hI
    have hl : (enumD (chS (tx p))).length = p.length := by simp [enumD, chS_eq, Ls_tx]
    have jl : j = p.length := by
      have h1 : ((enumD (chS (tx p))).drop j).length = 0 := by rw [← e2]; rfl
      rw [List.length_drop] at h1
      omega
    (repeat walk_at "s")
    rw [pre_at hp hj fun z => by omega, jl, List.take_length] at q
    exact q
end
section
variable {n : Nat} {Q : PyData → Nat → Prop} {K X : List Nat} {rules : List Rule} {keys : List (List Nat)} {cs : CsT} {o k : List Nat} {c : Bool} {m : Option Int}
theorem after_sorting_run {b : Bool} {p : List Nat} (hK : ColsOk K) (h : KnP K cs o k m) (hs : (∀ c ∈ p, c ∈ K) ∧ p.Nodup) (q : Q (knD (.kn cs (afS k o b p) k c m)) n) :
    MD w__after_sorting [.d (knD (.kn cs o k c m)), .d (.str (if b = true then Str.ofString "stable" else Str.ofString "sort")), .d (.str (tx p))] n Q := by
  have hK5 := hK.few
  have lp : p.length ≤ 5 := Nat.le_trans (nodup_len hs.2 hs.1) hK5
  have lo : o.length ≤ 5 := Nat.le_trans (nodup_len h.ond h.osub) hK5
  refine md_def rfl rfl ?_
  unfold t__after_sorting
  walk_at "s"
  (repeat walk_at "s")
  walk_at "r"
  (repeat walk_at "s")
  refine known_beginning_run (by omega) ?_
  walk_at "s"
  have last : ∀ (o2 : List Nat) {x9 : Option Sl} {B C : En → Nat → Prop}, Q (knD (.kn cs o2 k c m)) n → MS (sRet (wTup (wCons (wVal 3) (wCons (wVal 8) (wCons (wVal 5) (wCons (wVal 6) (wCons (wVal 7) wNil)))))))
      [some (.d (knD (.kn cs o k c m))), some (.d (.str (if b = true then Str.ofString "stable" else Str.ofString "sort"))), some (.d (.str (tx p))), some (.d (.tuple (cs.map cD))), some (.d (.str (tx o))), some (.d (.str (tx k))), some (.d (.bool c)), some (.d (mostD m)), some (.d (.str (tx o2))), x9] n (fun _ m => Q .none m) Q B C := by
    intro o2 x9 B C q
    (repeat walk_at "s")
    exact ⟨by show 5 ≤ sizeLine; decide, q⟩
  (repeat walk_at "s")
  cases b with
  | false =>
    refine ⟨_, eq_str _ _, ?_⟩
    walk_at "r"
    walk_at "f"
    walk_at "f"
    walk_at "s"
    refine last (preS k p) ?_
    unfold afS at q
    rw [if_neg (fun z => Bool.noConfusion z.1)] at q
    exact q
  | true =>
    refine ⟨_, eq_str _ _, ?_⟩
    walk_at "r"
    walk_at "t"
    (repeat walk_at "s")
    refine ⟨_, eq_str _ _, ?_⟩
    walk_at "r"
    refine ⟨fun z => ?_, fun z => ?_⟩
    · have e : preS k p = p := tx_inj (of_decide_eq_true z)
      (repeat walk_at "s")
      refine ⟨_, rfl, ?_⟩
      (repeat walk_at "s")
      refine m_lcK o sg sg (fun c => !decide (c ∈ p)) ?_
      (repeat walk_at "s")
      refine ⟨_, seq_str _, by rw [Ls_tx], by rw [sizeLine_eq]; omega, fun c hc => ⟨_, rfl, fun m => ?_, fun m => ?_⟩, ?_⟩
      · (repeat walk_at "s")
        refine ⟨_, in_sg c (tx p), _, rfl, ?_, rfl⟩
        rw [Ls_tx]
        simp
      · (repeat walk_at "s")
        exact ⟨rfl, rfl⟩
      · refine ⟨_, join_sg (Nat.le_trans (List.length_filter_le _ _) (by omega)), ?_⟩
        refine ⟨_, add_str (by rw [Ls_tx, Ls_tx]; have := List.length_filter_le (fun c => !decide (c ∈ p)) o; omega), ?_⟩
        rw [Ls_tx, Ls_tx]
        refine last (p ++ o.filter fun c => !decide (c ∈ p)) ?_
        unfold afS at q
        rw [if_pos ⟨rfl, e⟩] at q
        exact q
    · have e : preS k p ≠ p := fun z2 => by
        rw [z2] at z
        have : decide (tx p = tx p) = false := z
        simp at this
      walk_at "s"
      refine last (preS k p) ?_
      unfold afS at q
      rw [if_neg (fun z => e z.2)] at q
      exact q
theorem same_fix : (K.filter fun c => decide (c ∈ colsC cs ++ o)) = K.filter fun c => decide (c ∈ o ++ colsC cs) := List.filter_congr fun c _ => by simp [or_comm]
theorem determined_run (hK : ColsOk K) (hR : RulesOk K rules) (hY : KeysOk K keys) (h : KnP K cs o k m) (q : Q (.str (tx (clos K rules keys (K.filter fun c => decide (c ∈ o ++ colsC cs))))) n) :
    MD w_determined [.d (schD K rules keys), .d (knD (.kn cs o k c m)), .d (.str "")] n Q := by
  have hK5 := hK.few
  have lo : o.length ≤ 5 := Nat.le_trans (nodup_len h.ond h.osub) hK5
  have few := h.cs.few hK
  refine md_def rfl rfl ?_
  unfold t_determined
  walk_at "s"
  (repeat walk_at "s")
  refine ⟨_, rfl, _, slT_to _ 2, ?_⟩
  walk_at "r"
  (repeat walk_at "s")
  refine ⟨_, rfl, ?_⟩
  (repeat walk_at "s")
  refine m_lcM cs cD (fun p => sg p.1) ?_
  (repeat walk_at "s")
  refine ⟨_, rfl, rfl, by rw [sizeLine_eq]; omega, fun p hp => ⟨_, rfl, fun m => ?_⟩, ?_⟩
  · (repeat walk_at "s")
    exact ⟨rfl, rfl⟩
  · have e : (cs.map fun p => sg p.1) = (colsC cs).map sg := by unfold colsC; rw [List.map_map]; rfl
    have lc : (colsC cs).length = cs.length := by unfold colsC; rw [List.length_map]
    rw [e]
    refine ⟨_, join_sg (by omega), ?_⟩
    (repeat walk_at "s")
    refine ⟨_, add_str (by rw [Ls_tx, Ls_tx]; omega), ?_⟩
    rw [Ls_tx, Ls_tx]
    (repeat walk_at "s")
    refine ⟨_, add_str (t := Str.ofString "") (by rw [Ls_tx]; show _ + 0 ≤ _; rw [List.length_append]; omega), ?_⟩
    rw [Ls_tx]
    have e0 : (colsC cs ++ o) ++ Ls (Str.ofString "") = colsC cs ++ o := by
      show _ ++ [] = _
      rw [List.append_nil]
    rw [e0]
    (repeat walk_at "s")
    refine ⟨_, ix_t0 _ _, ?_⟩
    (repeat walk_at "s")
    refine common_run (by omega) ?_
    (repeat walk_at "s")
    refine closure_run hK hR hY List.filter_sublist ?_
    rw [same_fix]
    exact q
theorem placed_run (hK : ColsOk K) (hR : RulesOk K rules) (hY : KeysOk K keys) (h : KnP K cs o k m) (q : Q (.str (tx (plcK K rules keys cs o k))) n) :
    MD w__placed [.d (schD K rules keys), .d (knD (.kn cs o k c m))] n Q := by
  have hK5 := hK.few
  have lk := h.known.length_le
  refine md_def rfl rfl ?_
  unfold t__placed
  (repeat walk_at "s")
  refine ⟨_, ix_t2 _ _ _ _, ?_⟩
  (repeat walk_at "s")
  refine determined_run hK hR hY h ?_
  (repeat walk_at "s")
  exact common_run (by omega) q
theorem after_first_run {i : Nat} (hK : ColsOk K) (hR : RulesOk K rules) (hY : KeysOk K keys) (h : KnP K cs o k m) (q : Q (knD (afC K rules keys cs o k c m true i)) n) :
    MD w__after_first [.d (schD K rules keys), .d (knD (.kn cs o k c m)), .d (.int (i : Nat))] n Q := by
  refine md_def rfl rfl ?_
  unfold t__after_first
  walk_at "s"
  (repeat walk_at "s")
  walk_at "r"
  (repeat walk_at "s"); walk_at "e"
  walk_at "r"
  unfold afC at q
  refine ⟨fun z => ?_, fun z => ?_⟩
  · have e : i = 0 := by have := of_decide_eq_true z; omega
    rw [if_pos e, if_pos rfl] at q
    (repeat walk_at "s")
    exact q
  · have e : i ≠ 0 := by have := of_decide_eq_false z; omega
    rw [if_neg e] at q
    (repeat walk_at "s")
    have last : ∀ {B C : En → Nat → Prop}, Q (knD (.kn cs o (plcK K rules keys cs o k) c (some (i : Int)))) n → MS (sRet (wTup (wCons (wVal 3) (wCons (wVal 4) (wCons (wCall w__placed (wAName 0 (wAName 1 wANil))) (wCons (wVal 6) (wCons (wVal 2) wNil)))))))
        [some (.d (schD K rules keys)), some (.d (knD (.kn cs o k c m))), some (.d (.int (i : Nat))), some (.d (.tuple (cs.map cD))), some (.d (.str (tx o))), some (.d (.str (tx k))), some (.d (.bool c)), some (.d (mostD m))] n (fun _ m => Q .none m) Q B C := by
      intro B C q
      (repeat walk_at "s")
      refine placed_run hK hR hY h ?_
      (repeat walk_at "s")
      exact ⟨by show 5 ≤ sizeLine; decide, q⟩
    cases m with
    | none =>
      walk_at "r"
      walk_at "r"
      walk_at "f"
      walk_at "f"
      walk_at "s"
      exact last q
    | some j =>
      walk_at "r"
      walk_at "r"
      walk_at "t"
      (repeat walk_at "s")
      walk_at "r"
      walk_at "r"
      have q : Q (knD (if j ≤ (i : Int) then (if true = true then Kn.kn cs o k c (some j) else .emp) else .kn cs o (plcK K rules keys cs o k) c (some (if true = true then (i : Int) else j - i)))) n := q
      refine ⟨fun z => ?_, fun z => ?_⟩
      · rw [if_pos (of_decide_eq_true z), if_pos rfl] at q
        (repeat walk_at "s")
        exact q
      · rw [if_neg (of_decide_eq_false z), if_pos rfl] at q
        walk_at "s"
        exact last q
theorem after_skip_run {i : Nat} (hK : ColsOk K) (hR : RulesOk K rules) (hY : KeysOk K keys) (h : KnP K cs o k m) (q : Q (knD (afC K rules keys cs o k c m false i)) n) :
    MD w__after_skip [.d (schD K rules keys), .d (knD (.kn cs o k c m)), .d (.int (i : Nat))] n Q := by
  refine md_def rfl rfl ?_
  unfold t__after_skip
  walk_at "s"
  (repeat walk_at "s")
  walk_at "r"
  (repeat walk_at "s"); walk_at "e"
  walk_at "r"
  unfold afC at q
  refine ⟨fun z => ?_, fun z => ?_⟩
  · have e : i = 0 := by have := of_decide_eq_true z; omega
    rw [if_pos e, if_neg Bool.false_ne_true] at q
    (repeat walk_at "s")
    exact q
  · have e : i ≠ 0 := by have := of_decide_eq_false z; omega
    rw [if_neg e] at q
    (repeat walk_at "s")
    cases m with
    | none =>
      walk_at "r"
      walk_at "r"
      walk_at "t"
      (repeat walk_at "s")
      refine placed_run hK hR hY h ?_
      (repeat walk_at "s")
      exact ⟨by show 5 ≤ sizeLine; decide, q⟩
    | some j =>
      walk_at "r"
      walk_at "r"
      walk_at "f"
      (repeat walk_at "s")
      walk_at "r"
      walk_at "r"
      have q : Q (knD (if j ≤ (i : Int) then (if false = true then Kn.kn cs o k c (some j) else .emp) else .kn cs o (plcK K rules keys cs o k) c (some (if false = true then (i : Int) else j - i)))) n := q
      refine ⟨fun z => ?_, fun z => ?_⟩
      · rw [if_pos (of_decide_eq_true z), if_neg Bool.false_ne_true] at q
        (repeat walk_at "s")
        exact q
      · rw [if_neg (of_decide_eq_false z), if_neg Bool.false_ne_true] at q
        (repeat walk_at "s")
        refine placed_run hK hR hY h ?_
        (repeat walk_at "s")
        walk_at "r"
        (repeat walk_at "s")
        exact ⟨by show 5 ≤ sizeLine; decide, q⟩
end
def isEmp : Kn → Bool
  | .emp => true
  | _ => false
theorem eq_emp (q : Kn) : eEq (knD q) (.tuple [.str "empty"]) = some (.bool (isEmp q)) := by
  show (if _ then _ else _) = _
  have h2 : min (knD q).depth (PyData.depth (.tuple [.str "empty"])) ≤ 60 := Nat.le_trans (Nat.min_le_right _ _) (by simp [PyData.depth, PyData.depthAll])
  rw [if_pos (by rw [show dfree (PyData.tuple [.str "empty"]) = true from rfl, Bool.or_true, Bool.true_and, decide_eq_true h2])]
  cases q <;> simp [knD, isEmp, PyData.eqv, PyData.eqvAll]
section
variable {n : Nat} {Q : PyData → Nat → Prop} {K X : List Nat} {rules : List Rule} {keys : List (List Nat)} {cs : CsT} {o k : List Nat} {c : Bool} {m : Option Int}
theorem kn_head {st : Stp} (hs : StpOk K st) : ∃ w r, stpD st = .tuple (.str w :: r) := by
  cases st with
  | whr c v => exact ⟨_, _, rfl⟩
  | srt b p => cases b <;> exact ⟨_, _, rfl⟩
  | cut b i => cases b <;> exact ⟨_, _, rfl⟩
  | col l => exact ⟨_, _, rfl⟩
  | grp w r => exact ⟨_, _, rfl⟩
theorem knowledge_after_run {kn : Kn} {st : Stp} (hK : ColsOk K) (hR : RulesOk K rules) (hY : KeysOk K keys) (h : KnOk K kn) (hs : StpOk K st) (q : Q (knD (aft K rules keys kn st)) n) :
    MD w_knowledge_after [.d (schD K rules keys), .d (knD kn), .d (stpD st)] n Q := by
  refine md_def rfl rfl ?_
  unfold t_knowledge_after
  cases kn with
  | emp =>
    obtain ⟨w, r, e⟩ := kn_head hs
    rw [e]
    (repeat walk_at "s"); walk_at "e"
    (repeat walk_at "s")
    refine ⟨_, eq_emp .emp, ?_⟩
    walk_at "r"
    walk_at "t"
    walk_at "t"
    (repeat walk_at "s")
    exact q
  | kn cs o k c m =>
    cases st with
    | whr col v =>
      (repeat walk_at "s"); walk_at "e"
      (repeat walk_at "s")
      refine ⟨_, eq_emp _, ?_⟩
      walk_at "r"
      walk_at "f"
      (repeat walk_at "s")
      refine ⟨_, in_tup ["count", "sum", "heads"] _, ?_⟩
      walk_at "r"
      walk_at "f"
      (repeat walk_at "s"); walk_at "e"
      walk_at "r"
      walk_at "t"
      (repeat walk_at "s"); walk_at "e"
      (repeat walk_at "s"); walk_at "e"
      (repeat walk_at "s")
      exact after_where_run hK hR hY h hs q
    | srt b p =>
      cases b with
      | true =>
        (repeat walk_at "s"); walk_at "e"
        (repeat walk_at "s")
        refine ⟨_, eq_emp _, ?_⟩
        walk_at "r"
        walk_at "f"
        (repeat walk_at "s")
        refine ⟨_, in_tup ["count", "sum", "heads"] _, ?_⟩
        walk_at "r"
        walk_at "f"
        (repeat walk_at "s"); walk_at "e"
        walk_at "r"
        walk_at "f"
        (repeat walk_at "s")
        refine ⟨_, in_tup ["sort", "stable"] _, ?_⟩
        walk_at "r"
        walk_at "t"
        (repeat walk_at "s"); walk_at "e"
        (repeat walk_at "s")
        exact after_sorting_run (b := true) hK h hs q
      | false =>
        (repeat walk_at "s"); walk_at "e"
        (repeat walk_at "s")
        refine ⟨_, eq_emp _, ?_⟩
        walk_at "r"
        walk_at "f"
        (repeat walk_at "s")
        refine ⟨_, in_tup ["count", "sum", "heads"] _, ?_⟩
        walk_at "r"
        walk_at "f"
        (repeat walk_at "s"); walk_at "e"
        walk_at "r"
        walk_at "f"
        (repeat walk_at "s")
        refine ⟨_, in_tup ["sort", "stable"] _, ?_⟩
        walk_at "r"
        walk_at "t"
        (repeat walk_at "s"); walk_at "e"
        (repeat walk_at "s")
        exact after_sorting_run (b := false) hK h hs q
    | cut b i =>
      cases b with
      | true =>
        (repeat walk_at "s"); walk_at "e"
        (repeat walk_at "s")
        refine ⟨_, eq_emp _, ?_⟩
        walk_at "r"
        walk_at "f"
        (repeat walk_at "s")
        refine ⟨_, in_tup ["count", "sum", "heads"] _, ?_⟩
        walk_at "r"
        walk_at "f"
        (repeat walk_at "s"); walk_at "e"
        walk_at "r"
        walk_at "f"
        (repeat walk_at "s")
        refine ⟨_, in_tup ["sort", "stable"] _, ?_⟩
        walk_at "r"
        walk_at "f"
        (repeat walk_at "s"); walk_at "e"
        walk_at "r"
        walk_at "t"
        (repeat walk_at "s"); walk_at "e"
        (repeat walk_at "s")
        exact after_first_run hK hR hY h q
      | false =>
        (repeat walk_at "s"); walk_at "e"
        (repeat walk_at "s")
        refine ⟨_, eq_emp _, ?_⟩
        walk_at "r"
        walk_at "f"
        (repeat walk_at "s")
        refine ⟨_, in_tup ["count", "sum", "heads"] _, ?_⟩
        walk_at "r"
        walk_at "f"
        (repeat walk_at "s"); walk_at "e"
        walk_at "r"
        walk_at "f"
        (repeat walk_at "s")
        refine ⟨_, in_tup ["sort", "stable"] _, ?_⟩
        walk_at "r"
        walk_at "f"
        (repeat walk_at "s"); walk_at "e"
        walk_at "r"
        walk_at "f"
        (repeat walk_at "s"); walk_at "e"
        walk_at "r"
        walk_at "t"
        (repeat walk_at "s"); walk_at "e"
        (repeat walk_at "s")
        exact after_skip_run hK hR hY h q
    | col l =>
      (repeat walk_at "s"); walk_at "e"
      (repeat walk_at "s")
      refine ⟨_, eq_emp _, ?_⟩
      walk_at "r"
      walk_at "f"
      (repeat walk_at "s")
      refine ⟨_, in_tup ["count", "sum", "heads"] _, ?_⟩
      walk_at "r"
      walk_at "f"
      (repeat walk_at "s"); walk_at "e"
      walk_at "r"
      walk_at "f"
      (repeat walk_at "s")
      refine ⟨_, in_tup ["sort", "stable"] _, ?_⟩
      walk_at "r"
      walk_at "f"
      (repeat walk_at "s"); walk_at "e"
      walk_at "r"
      walk_at "f"
      (repeat walk_at "s"); walk_at "e"
      walk_at "r"
      walk_at "f"
      (repeat walk_at "s")
      walk_at "r"
      (repeat walk_at "s"); walk_at "e"
      (repeat walk_at "s")
      have lk := (show KnP K cs o k m from h).known.length_le
      have := hK.few
      refine common_run (by omega) ?_
      (repeat walk_at "s")
      exact ⟨by show 5 ≤ sizeLine; decide, q⟩
    | grp w r =>
      have hw : isOf ["count", "sum", "heads"] (.str w) = true := by
        rcases hs with rfl | rfl | rfl <;> decide +kernel
      (repeat walk_at "s")
      refine ⟨_, ix_t0 _ _, ?_⟩
      (repeat walk_at "s")
      refine ⟨_, eq_emp _, ?_⟩
      walk_at "r"
      walk_at "f"
      (repeat walk_at "s")
      refine ⟨_, in_tup ["count", "sum", "heads"] _, ?_⟩
      rw [hw]
      walk_at "r"
      walk_at "t"
      (repeat walk_at "s")
      exact q
end
theorem cols_len {cs : CsT} : (colsC cs).length = cs.length := by unfold colsC; rw [List.length_map]
section
variable {n : Nat} {Q : PyData → Nat → Prop} {K : List Nat} {rules : List Rule} {keys : List (List Nat)}
/-- the knowledge ahead of each step and at the end -/
def dervK (K : List Nat) (rules : List Rule) (keys : List (List Nat)) : Kn → List Stp → List Kn
  | q, [] => [q]
  | q, s :: r => q :: dervK K rules keys (aft K rules keys q s) r
theorem ix_lastL {xs : List PyData} (h : xs ≠ []) : eIx (.list xs) (.int (-1)) = some (xs.getLast h) := by
  have hp := List.length_pos_iff.mpr h
  show atI xs (-1) = _
  unfold atI ixN
  rw [if_neg (by decide), if_pos (by omega)]
  show xs[((-1 : Int) + (xs.length : Int)).toNat]? = _
  rw [show ((-1 : Int) + (xs.length : Int)).toNat = xs.length - 1 by omega, List.getLast_eq_getElem]
  exact List.getElem?_eq_getElem _
theorem ix_lastT {xs : List PyData} (h : xs ≠ []) : eIx (.tuple xs) (.int (-1)) = some (xs.getLast h) := ix_lastL h
theorem derv_len : ∀ (q : Kn) (sts : List Stp), (dervK K rules keys q sts).length = sts.length + 1
  | _, [] => rfl
  | q, s :: r => by show (dervK K rules keys _ r).length + 1 = _; rw [derv_len]; rfl
theorem derv_ne (q : Kn) (sts : List Stp) : dervK K rules keys q sts ≠ [] := fun e => by
  have := congrArg List.length e
  rw [derv_len] at this
  cases this
theorem derv_ok (hK : ColsOk K) : ∀ (sts : List Stp) (q : Kn), KnOk K q → (∀ st ∈ sts, StpOk K st) → ∀ kn ∈ dervK K rules keys q sts, KnOk K kn
  | [], q, h1, _, kn, hk => by rw [List.mem_singleton.mp hk]; exact h1
  | s :: r, q, h1, hs, kn, hk => by
    rcases List.mem_cons.mp hk with z | z
    · rw [z]; exact h1
    · exact derv_ok hK r _ (aft_ok hK h1 (hs s List.mem_cons_self)) (fun st h => hs st (List.mem_cons_of_mem _ h)) kn z
theorem derv_at : ∀ (sts : List Stp) (q : Kn) (i : Nat) (hi : i < sts.length), ∃ a, (dervK K rules keys q sts)[i]? = some a ∧ (dervK K rules keys q sts)[i + 1]? = some (aft K rules keys a sts[i])
  | [], _, _, hi => nomatch hi
  | s :: r, q, 0, _ => ⟨q, rfl, by
    show (dervK K rules keys (aft K rules keys q s) r)[0]? = _
    cases r <;> rfl⟩
  | s :: r, q, i + 1, hi => derv_at r (aft K rules keys q s) i (by simpa using hi)
theorem e_start {b : Bool} (e : oneK K rules keys [] = b) : knD (Pu.stK K rules keys) = .tuple [.tuple [], .str "", .str (tx K), .bool true, if b = true then .int 1 else .none] := by
  unfold Pu.stK
  rw [e]
  cases b <;> rfl
theorem start_run (hK : ColsOk K) (hR : RulesOk K rules) (hY : KeysOk K keys) (q : Q (knD (Pu.stK K rules keys)) n) : MD w_start_knowledge [.d (schD K rules keys)] n Q := by
  refine md_def rfl rfl ?_
  unfold t_start_knowledge
  walk_at "s"
  (repeat walk_at "s")
  refine is_unique_run (X := []) hK hR hY (List.nil_sublist _) ?_
  have eo : (keys.any fun k => inB k (clos K rules keys [])) = oneK K rules keys [] := by
    unfold oneK
    rw [show (K.filter fun c => decide (c ∈ ([] : List Nat))) = [] from List.filter_eq_nil_iff.mpr fun c _ => by simp]
  rw [eo]
  walk_at "r"
  refine ⟨fun z => ?_, fun z => ?_⟩
  · rw [e_start z, if_pos rfl] at q
    (repeat walk_at "s")
    refine ⟨Nat.zero_le _, ?_⟩
    (repeat walk_at "s")
    refine ⟨_, ix_t0 _ _, ?_⟩
    (repeat walk_at "s")
    exact ⟨by show 5 ≤ sizeLine; decide, q⟩
  · rw [e_start z, if_neg Bool.false_ne_true] at q
    (repeat walk_at "s")
    refine ⟨Nat.zero_le _, ?_⟩
    (repeat walk_at "s")
    refine ⟨_, ix_t0 _ _, ?_⟩
    (repeat walk_at "s")
    exact ⟨by show 5 ≤ sizeLine; decide, q⟩
theorem derive_run {sts : List Stp} {L : List PyData → Nat → Prop} (hK : ColsOk K) (hR : RulesOk K rules) (hY : KeysOk K keys) (few : sts.length ≤ 1000) (hs : ∀ st ∈ sts, StpOk K st) (q : L ((dervK K rules keys (Pu.stK K rules keys) sts).map knD) n) :
    MDO w_derive [.d (schD K rules keys), .d (.tuple (sts.map stpD))] n Q L := by
  refine mdo_def rfl rfl ?_
  unfold t_derive
  refine o_seq ?_
  (repeat walk_at "s")
  refine start_run hK hR hY ?_
  (repeat walk_at "s")
  refine ⟨by show 1 ≤ sizeLine; decide, ?_⟩
  refine o_seq ?_
  refine n_for ?_
  (repeat walk_at "s")
  refine ⟨_, rfl, fun rest e m => m = n ∧ ∃ (pre : List Kn) (kn : Kn) (post : List Stp) (x3 : Option Sl), rest = post.map stpD ∧ KnOk K kn ∧ (∀ st ∈ post, StpOk K st) ∧ pre ++ dervK K rules keys kn post = dervK K rules keys (Pu.stK K rules keys) sts ∧ e = [some (.d (schD K rules keys)), some (.d (.tuple (sts.map stpD))), some (.l ((pre ++ [kn]).map knD)), x3],
    ⟨rfl, [], Pu.stK K rules keys, sts, none, rfl, stK_ok, hs, rfl, rfl⟩, fun x rest e m hI => ?_, fun e m hI => ?_⟩
  · obtain ⟨rfl, pre, kn, post, x3, er, ok, hp, ed, rfl⟩ := hI
    cases post with
    | nil => cases er
    | cons st post =>
    rw [List.map_cons] at er
    obtain ⟨rfl, rfl⟩ := List.cons.inj er
    have so := hp st List.mem_cons_self
    have el : pre.length + (post.length + 1 + 1) = sts.length + 1 := by
      have := congrArg List.length ed
      rw [List.length_append, derv_len, derv_len] at this
      exact this
    refine ⟨_, rfl, ?_⟩
    refine n_app rfl ?_
    (repeat walk_at "s")
    refine ⟨1, rfl, ?_⟩
    refine ⟨knD kn, ?_, ?_⟩
    · rw [show (-(1 : Int)) = -1 from rfl, ix_lastL (by simp)]
      simp
    (repeat walk_at "s")
    refine knowledge_after_run hK hR hY ok so ?_
    refine ⟨by rw [List.length_map, List.length_append, sizeLine_eq]; simp; omega, rfl, pre ++ [kn], aft K rules keys kn st, post, some (.d (stpD st)), rfl, aft_ok hK ok so, fun s h => hp s (List.mem_cons_of_mem _ h), ?_, ?_⟩
    · rw [← ed, List.append_assoc]
      rfl
    · have em : (pre ++ [kn]).map knD ++ [knD (aft K rules keys kn st)] = (pre ++ [kn] ++ [aft K rules keys kn st]).map knD := by simp
      rw [← em]
      rfl
  · obtain ⟨rfl, pre, kn, post, x3, er, ok, hp, ed, rfl⟩ := hI
    have e0 : post = [] := by cases post with | nil => rfl | cons c r => cases er
    subst e0
    rw [← ed] at q
    exact o_retO rfl q
theorem keptA {st : Stp} (so : StpOk K st) : ∃ a r, stpD st = .tuple (.str a :: r) ∧ ((isS "columns" (.str a) = true ∧ r = [.str (tx (keptL K st))]) ∨ (isS "columns" (.str a) = false ∧ keptL K st = K)) := by
  cases st with
  | whr c v => exact ⟨_, _, rfl, .inr ⟨by decide +kernel, rfl⟩⟩
  | srt b p => cases b <;> exact ⟨_, _, rfl, .inr ⟨by decide +kernel, rfl⟩⟩
  | cut b i => cases b <;> exact ⟨_, _, rfl, .inr ⟨by decide +kernel, rfl⟩⟩
  | col l => exact ⟨_, _, rfl, .inl ⟨by decide +kernel, rfl⟩⟩
  | grp w r => exact ⟨_, _, rfl, .inr ⟨by rcases so with rfl | rfl | rfl <;> decide +kernel, rfl⟩⟩
theorem kept_after_run {st : Stp} {K0 : List Nat} (so : StpOk K0 st) (q : Q (.str (tx (keptL K st))) n) : MD w_kept_after [.d (.str (tx K)), .d (stpD st)] n Q := by
  obtain ⟨a, r, e, h⟩ := keptA (K := K0) so
  have hk : keptL K0 st = K0 → keptL K st = K ∨ ∃ l, st = .col l := fun _ => by cases st <;> first | exact .inl rfl | exact .inr ⟨_, rfl⟩
  refine md_def rfl rfl ?_
  unfold t_kept_after
  rw [e]
  (repeat walk_at "s"); walk_at "e"
  (repeat walk_at "s"); walk_at "e"
  rcases h with ⟨h1, h2⟩ | ⟨h1, h2⟩
  · rw [h1]
    walk_at "r"
    walk_at "t"
    have e3 : keptL K0 st = keptL K st := by
      cases st with
      | col l => rfl
      | whr c v => exfalso; cases e; revert h1; decide +kernel
      | srt b p => exfalso; cases b <;> (cases e; revert h1; decide +kernel)
      | cut b p => exfalso; cases b <;> (cases e; revert h1; decide +kernel)
      | grp w r =>
        exfalso
        cases e
        rcases so with rfl | rfl | rfl <;> (revert h1; decide +kernel)
    subst h2
    rw [← e3] at q
    (repeat walk_at "s")
    exact ⟨_, ix_t1 _ _ _, q⟩
  · rw [h1]
    walk_at "r"
    walk_at "f"
    (repeat walk_at "s")
    have e3 : keptL K st = K := by
      cases st with
      | col l => exfalso; cases e; revert h1; decide +kernel
      | _ => rfl
    rw [e3] at q
    exact q
theorem kept_columns_run {sts : List Stp} (hs : ∀ st ∈ sts, StpOk K st) (q : Q (.str (tx (keptR K sts))) n) : MD w_kept_columns [.d (schD K rules keys), .d (.tuple (sts.map stpD))] n Q := by
  refine md_def rfl rfl ?_
  unfold t_kept_columns
  walk_at "s"
  (repeat walk_at "s")
  refine ⟨_, ix_t0 _ _, ?_⟩
  walk_at "s"
  refine n_for ?_
  (repeat walk_at "s")
  refine ⟨_, rfl, fun rest e m => m = n ∧ ∃ (l : List Nat) (post : List Stp) (x3 : Option Sl), rest = post.map stpD ∧ (∀ st ∈ post, StpOk K st) ∧ keptR l post = keptR K sts ∧ e = [some (.d (schD K rules keys)), some (.d (.tuple (sts.map stpD))), some (.d (.str (tx l))), x3],
    ⟨rfl, K, sts, none, rfl, hs, rfl, rfl⟩, fun x rest e m hI => ?_, fun e m hI => ?_⟩
  · obtain ⟨rfl, l, post, x3, er, hp, ek, rfl⟩ := hI
    cases post with
    | nil => cases er
    | cons st post =>
    rw [List.map_cons] at er
    obtain ⟨rfl, rfl⟩ := List.cons.inj er
    refine ⟨_, rfl, ?_⟩
    (repeat walk_at "s")
    refine kept_after_run (K0 := K) (hp st List.mem_cons_self) ?_
    exact ⟨rfl, keptL l st, post, _, rfl, fun s h => hp s (List.mem_cons_of_mem _ h), ek, rfl⟩
  · obtain ⟨rfl, l, post, x3, er, hp, ek, rfl⟩ := hI
    have e0 : post = [] := by cases post with | nil => rfl | cons c r => cases er
    subst e0
    (repeat walk_at "s")
    rw [← ek] at q
    exact q
end
def fxK (K : List Nat) (rules : List Rule) (keys : List (List Nat)) (g : List Nat) (cs : CsT) (o : List Nat) : List Nat := clos K rules keys (K.filter fun c => decide (c ∈ o ++ colsC cs ++ g))
def stlB (K : List Nat) (rules : List Rule) (keys : List (List Nat)) (l : List Nat) (f : Fin) : Kn → Bool
  | .emp => true
  | .kn cs o k c m => c && match f with
    | .non => inB l k && (decide (m = some 1) || inB l (fxK K rules keys [] cs o))
    | .cnt g => inB g k
    | .sum g d => inB (g ++ [d]) k
    | .hds g => inB l k && (decide (m = some 1) || inB l (fxK K rules keys g cs o))
theorem eq_most (m : Option Int) : eEq (mostD m) (.int 1) = some (.bool (decide (m = some 1))) := by
  cases m with
  | none => rfl
  | some i =>
    show eEq (.int i) (.int 1) = _
    rw [Pu.eq_int]
    exact congrArg (fun b => some (PyData.bool b)) (decide_eq_decide.mpr ⟨fun h => by rw [h], fun h => Option.some.inj h⟩)
theorem inB_sub {g l k : List Nat} (s : g.Sublist l) (h : inB l k = true) : inB g k = true := inB_iff.mpr fun c hc => inB_iff.mp h c (s.subset hc)
theorem fin_ok {K : List Nat} (f : Fin) : ∀ st ∈ finS f, StpOk K st := fun st hs => by
  cases f with
  | non => exact nomatch hs
  | cnt g => rw [List.mem_singleton.mp hs]; exact .inl rfl
  | sum g c => rw [List.mem_singleton.mp hs]; exact .inr (.inl rfl)
  | hds g => rw [List.mem_singleton.mp hs]; exact .inr (.inr rfl)
theorem kept_fin {K : List Nat} (sts : List Stp) (f : Fin) : keptR K (sts ++ finS f) = keptR K sts := by
  cases f with
  | non => rw [show finS .non = [] from rfl, List.append_nil]
  | cnt g => exact kept_snoc
  | sum g c => exact kept_snoc
  | hds g => exact kept_snoc
theorem head_ng {K : List Nat} {st : Stp} (so : StpOk K st) (ng : isG st = false) : ∃ w r, stpD st = .tuple (.str w :: r) ∧ isOf ["count", "sum", "heads"] (.str w) = false ∧ isS "count" (.str w) = false ∧ isS "sum" (.str w) = false ∧ isS "heads" (.str w) = false := by
  cases st with
  | whr c v => exact ⟨_, _, rfl, by decide +kernel, by decide +kernel, by decide +kernel, by decide +kernel⟩
  | srt b p => cases b <;> exact ⟨_, _, rfl, by decide +kernel, by decide +kernel, by decide +kernel, by decide +kernel⟩
  | cut b i => cases b <;> exact ⟨_, _, rfl, by decide +kernel, by decide +kernel, by decide +kernel, by decide +kernel⟩
  | col l => exact ⟨_, _, rfl, by decide +kernel, by decide +kernel, by decide +kernel, by decide +kernel⟩
  | grp w r => cases ng
/-- the last step -/
theorem last_ng {K : List Nat} {sts : List Stp} (hs : ∀ st ∈ sts, StpOk K st) (ng : ∀ st ∈ sts, isG st = false) (ne : sts ≠ []) : ∃ w r, eIx (.tuple (sts.map stpD)) (.int (-1)) = some (.tuple (.str w :: r)) ∧ isOf ["count", "sum", "heads"] (.str w) = false ∧ isS "count" (.str w) = false ∧ isS "sum" (.str w) = false ∧ isS "heads" (.str w) = false := by
  have hl := List.getLast_mem ne
  obtain ⟨w, r, e, h⟩ := head_ng (hs _ hl) (ng _ hl)
  refine ⟨w, r, ?_, h⟩
  rw [ix_lastT (by simpa using ne), List.getLast_map]
  exact congrArg some e
theorem ix_snocT (xs : List PyData) (d : PyData) : eIx (.tuple (xs ++ [d])) (.int (-1)) = some d := by
  rw [ix_lastT (by simp)]
  simp
section
variable {n : Nat} {Q : PyData → Nat → Prop} {K X : List Nat} {rules : List Rule} {keys : List (List Nat)} {cs : CsT} {o k : List Nat} {c : Bool} {m : Option Int} {sts : List Stp}
theorem determinedG_run {g : List Nat} (hK : ColsOk K) (hR : RulesOk K rules) (hY : KeysOk K keys) (h : KnP K cs o k m) (lg : g.length ≤ 100) (q : Q (.str (tx (fxK K rules keys g cs o))) n) :
    MD w_determined [.d (schD K rules keys), .d (knD (.kn cs o k c m)), .d (.str (tx g))] n Q := by
  have hK5 := hK.few
  have lo : o.length ≤ 5 := Nat.le_trans (nodup_len h.ond h.osub) hK5
  have few := h.cs.few hK
  refine md_def rfl rfl ?_
  unfold t_determined
  walk_at "s"
  (repeat walk_at "s")
  refine ⟨_, rfl, _, slT_to _ 2, ?_⟩
  walk_at "r"
  (repeat walk_at "s")
  refine ⟨_, rfl, ?_⟩
  (repeat walk_at "s")
  refine m_lcM cs cD (fun p => sg p.1) ?_
  (repeat walk_at "s")
  refine ⟨_, rfl, rfl, by rw [sizeLine_eq]; omega, fun p hp => ⟨_, rfl, fun m => ?_⟩, ?_⟩
  · (repeat walk_at "s")
    exact ⟨rfl, rfl⟩
  · have e : (cs.map fun p => sg p.1) = (colsC cs).map sg := by unfold colsC; rw [List.map_map]; rfl
    have lc : (colsC cs).length = cs.length := cols_len
    rw [e]
    refine ⟨_, join_sg (by omega), ?_⟩
    (repeat walk_at "s")
    refine ⟨_, add_str (by rw [Ls_tx, Ls_tx]; omega), ?_⟩
    rw [Ls_tx, Ls_tx]
    (repeat walk_at "s")
    refine ⟨_, add_str (by rw [Ls_tx, Ls_tx, List.length_append]; omega), ?_⟩
    rw [Ls_tx, Ls_tx]
    (repeat walk_at "s")
    refine ⟨_, ix_t0 _ _, ?_⟩
    (repeat walk_at "s")
    refine common_run (by omega) ?_
    (repeat walk_at "s")
    refine closure_run hK hR hY List.filter_sublist ?_
    have e2 : (K.filter fun c => decide (c ∈ colsC cs ++ o ++ g)) = K.filter fun c => decide (c ∈ o ++ colsC cs ++ g) := List.filter_congr fun c _ => by simp [or_assoc, or_left_comm]
    rw [e2]
    exact q
theorem settles_tail {g : List Nat} {w : Str} {f : Fin} {x7 x8 : Option Sl} {N : En → Nat → Prop} {B C : En → Nat → Prop} (hK : ColsOk K) (hR : RulesOk K rules) (hY : KeysOk K keys) (h : KnP K cs o k m) (hs : ∀ st ∈ sts, StpOk K st) (hk : ColsOk (keptR K sts)) (lg : g.length ≤ 100)
    (hw : (isS "heads" (.str w) = true ∧ ∃ xs a, (sts ++ finS f).map stpD = xs ++ [.tuple [a, .str (tx g)]]) ∨ (isS "heads" (.str w) = false ∧ g = []))
    (q : Q (.bool (inB (keptR K sts) k && (decide (m = some 1) || inB (keptR K sts) (fxK K rules keys g cs o)))) n) :
    MS (sSeq (sSet (wCall w_kept_columns (wAName 0 (wAName 1 wANil))) 7) (sSeq (sIf (wNotT (wTru (wCall w_contains (wAName 3 (wAName 7 wANil))))) (sRet (wC (.bool false))) sNext) (sSeq (sSet (wIfE (wTt (wOp pEq2 (wVar 6) (wC (.str "heads")))) (wOp pIx (wOp pIx (wVar 1) (wNeg (wC (.int 1)))) (wC (.int 1))) (wC (.str ""))) 8) (sRet (wOrE (wOp pEq2 (wVar 5) (wC (.int 1))) (wCall w_contains (wACons (wCall w_determined (wAName 0 (wAName 2 (wAName 8 wANil)))) (wAName 7 wANil)))))))) [some (.d (schD K rules keys)), some (.d (.tuple ((sts ++ finS f).map stpD))), some (.d (knD (.kn cs o k c m))), some (.d (.str (tx k))), some (.d (.bool c)), some (.d (mostD m)), some (.d (.str w)), x7, x8] n N Q B C := by
  have lk := hk.few
  walk_at "s"
  (repeat walk_at "s")
  refine kept_columns_run (fun st hst => (List.mem_append.mp hst).elim (hs st) (fin_ok f st)) ?_
  rw [kept_fin]
  (repeat walk_at "s")
  refine contains_run (by omega) ?_
  walk_at "r"
  refine ⟨fun z => ?_, fun z => ?_⟩
  · rw [show inB (keptR K sts) k = false by simpa using z, Bool.false_and] at q
    (repeat walk_at "s")
    exact q
  · rw [show inB (keptR K sts) k = true by simpa using z, Bool.true_and] at q
    walk_at "s"
    walk_at "s"
    have last : ∀ {B C : En → Nat → Prop}, MS (sRet (wOrE (wOp pEq2 (wVar 5) (wC (.int 1))) (wCall w_contains (wACons (wCall w_determined (wAName 0 (wAName 2 (wAName 8 wANil)))) (wAName 7 wANil))))) [some (.d (schD K rules keys)), some (.d (.tuple ((sts ++ finS f).map stpD))), some (.d (knD (.kn cs o k c m))), some (.d (.str (tx k))), some (.d (.bool c)), some (.d (mostD m)), some (.d (.str w)), some (.d (.str (tx (keptR K sts)))), some (.d (.str (tx g)))] n N Q B C := by
      intro B C
      (repeat walk_at "s")
      refine ⟨_, eq_most m, ?_⟩
      walk_at "r"
      refine ⟨fun z => ?_, fun z => ?_⟩
      · rw [z, Bool.true_or] at q
        rw [z]
        exact q
      · rw [z, Bool.false_or] at q
        (repeat walk_at "s")
        refine determinedG_run hK hR hY h lg ?_
        (repeat walk_at "s")
        exact contains_run (by omega) q
    (repeat walk_at "s")
    refine ⟨_, eq_str _ _, ?_⟩
    walk_at "r"
    rcases hw with ⟨hw, xs, a, ex⟩ | ⟨hw, rfl⟩
    · rw [hw]
      walk_at "t"
      rw [ex]
      rw [ex] at last
      (repeat walk_at "s")
      refine ⟨1, rfl, ?_⟩
      refine ⟨_, ix_snocT _ _, ?_⟩
      (repeat walk_at "s")
      refine ⟨_, ix_t1 _ _ _, ?_⟩
      exact last
    · rw [hw]
      walk_at "f"
      walk_at "s"
      exact last
theorem settles_run {f : Fin} {kn : Kn} (hK : ColsOk K) (hR : RulesOk K rules) (hY : KeysOk K keys) (ok : KnOk K kn) (hs : ∀ st ∈ sts, StpOk K st) (ng : ∀ st ∈ sts, isG st = false) (fo : FinOk (keptR K sts) f) (hk : ColsOk (keptR K sts)) (q : Q (.bool (stlB K rules keys (keptR K sts) f kn)) n) :
    MD w_settles [.d (schD K rules keys), .d (.tuple ((sts ++ finS f).map stpD)), .d (knD kn)] n Q := by
  have lk := hk.few
  refine md_def rfl rfl ?_
  unfold t_settles
  walk_at "s"
  (repeat walk_at "s")
  refine ⟨_, eq_emp _, ?_⟩
  walk_at "r"
  cases kn with
  | emp =>
    walk_at "t"
    (repeat walk_at "s")
    exact q
  | kn cs o k c m =>
    have h : KnP K cs o k m := ok
    walk_at "f"
    (repeat walk_at "s")
    refine ⟨_, rfl, ?_⟩
    (repeat walk_at "s")
    refine ⟨_, slT_from _ 2, ?_⟩
    walk_at "r"
    walk_at "s"
    (repeat walk_at "s"); walk_at "r"
    cases c with
    | false =>
      walk_at "t"
      (repeat walk_at "s")
      exact q
    | true =>
      walk_at "f"
      walk_at "s"
      walk_at "s"
      cases f with
      | non =>
        have rest : ∀ (w : Str), isS "count" (.str w) = false → isS "sum" (.str w) = false → isS "heads" (.str w) = false → ∀ {B C : En → Nat → Prop}, MS (sSeq (sIf (wTt (wOp pEq2 (wVar 6) (wC (.str "count")))) (sRet (wCall w_contains (wAName 3 (wACons (wOp pIx (wOp pIx (wVar 1) (wNeg (wC (.int 1)))) (wC (.int 1))) wANil)))) sNext) (sSeq (sIf (wTt (wOp pEq2 (wVar 6) (wC (.str "sum")))) (sRet (wCall w_contains (wAName 3 (wACons (wOp pAdd (wOp pIx (wOp pIx (wVar 1) (wNeg (wC (.int 1)))) (wC (.int 1))) (wOp pIx (wOp pIx (wVar 1) (wNeg (wC (.int 1)))) (wC (.int 2)))) wANil)))) sNext) (sSeq (sSet (wCall w_kept_columns (wAName 0 (wAName 1 wANil))) 7) (sSeq (sIf (wNotT (wTru (wCall w_contains (wAName 3 (wAName 7 wANil))))) (sRet (wC (.bool false))) sNext) (sSeq (sSet (wIfE (wTt (wOp pEq2 (wVar 6) (wC (.str "heads")))) (wOp pIx (wOp pIx (wVar 1) (wNeg (wC (.int 1)))) (wC (.int 1))) (wC (.str ""))) 8) (sRet (wOrE (wOp pEq2 (wVar 5) (wC (.int 1))) (wCall w_contains (wACons (wCall w_determined (wAName 0 (wAName 2 (wAName 8 wANil)))) (wAName 7 wANil))))))))))
            [some (.d (schD K rules keys)), some (.d (.tuple ((sts ++ finS .non).map stpD))), some (.d (knD (.kn cs o k true m))), some (.d (.str (tx k))), some (.d (.bool true)), some (.d (mostD m)), some (.d (.str w)), none, none] n (fun _ m => Q .none m) Q B C := by
          intro w w1 w2 w3 B C
          walk_at "s"
          (repeat walk_at "s")
          refine ⟨_, eq_str _ _, ?_⟩
          rw [w1]
          walk_at "r"; walk_at "f"
          walk_at "s"
          (repeat walk_at "s")
          refine ⟨_, eq_str _ _, ?_⟩
          rw [w2]
          walk_at "r"; walk_at "f"
          walk_at "s"
          exact settles_tail (g := []) hK hR hY h hs hk (Nat.zero_le _) (.inr ⟨w3, rfl⟩) q
        walk_at "s"
        (repeat walk_at "s"); walk_at "r"
        have er : (sts ++ finS .non).map stpD = sts.map stpD := by rw [show finS .non = [] from rfl, List.append_nil]
        by_cases ne : sts = []
        · subst ne
          walk_at "f"
          walk_at "s"
          exact rest (Str.ofString "") (by decide +kernel) (by decide +kernel) (by decide +kernel)
        · obtain ⟨w, r, ei, _, w1, w2, w3⟩ := last_ng hs ng ne
          refine ⟨fun _ => ?_, fun z => ?_⟩
          · (repeat walk_at "s")
            refine ⟨1, rfl, ?_⟩
            refine ⟨_, (congrArg (fun l => eIx (.tuple l) (.int (-1))) er).trans ei, ?_⟩
            (repeat walk_at "s")
            refine ⟨_, ix_t0 _ _, ?_⟩
            exact rest w w1 w2 w3
          · exfalso
            rw [er] at z
            simp at z
            exact ne z
      | cnt g =>
        have g5 := (show g.Sublist (keptR K sts) from fo).length_le
        have er : (sts ++ finS (.cnt g)).map stpD = sts.map stpD ++ [.tuple [.str "count", .str (tx g)]] := by rw [List.map_append]; rfl
        rw [er]
        walk_at "s"
        (repeat walk_at "s"); walk_at "r"
        refine ⟨fun _ => ?_, fun z => by simp at z⟩
        (repeat walk_at "s")
        refine ⟨1, rfl, ?_⟩
        refine ⟨_, ix_snocT _ _, ?_⟩
        (repeat walk_at "s")
        refine ⟨_, ix_t0 _ _, ?_⟩
        walk_at "s"
        (repeat walk_at "s"); walk_at "e"
        walk_at "r"; walk_at "t"
        (repeat walk_at "s")
        refine ⟨1, rfl, ?_⟩
        refine ⟨_, ix_snocT _ _, ?_⟩
        (repeat walk_at "s")
        refine ⟨_, ix_t1 _ _ _, ?_⟩
        (repeat walk_at "s")
        exact contains_run (by omega) q
      | sum g d =>
        have g5 := (show g.Sublist (keptR K sts) from fo.1).length_le
        have er : (sts ++ finS (.sum g d)).map stpD = sts.map stpD ++ [.tuple [.str "sum", .str (tx g), sg d]] := by rw [List.map_append]; rfl
        rw [er]
        walk_at "s"
        (repeat walk_at "s"); walk_at "r"
        refine ⟨fun _ => ?_, fun z => by simp at z⟩
        (repeat walk_at "s")
        refine ⟨1, rfl, ?_⟩
        refine ⟨_, ix_snocT _ _, ?_⟩
        (repeat walk_at "s")
        refine ⟨_, ix_t0 _ _, ?_⟩
        walk_at "s"
        (repeat walk_at "s"); walk_at "e"
        walk_at "r"; walk_at "f"
        walk_at "s"
        walk_at "s"
        (repeat walk_at "s"); walk_at "e"
        walk_at "r"; walk_at "t"
        (repeat walk_at "s")
        refine ⟨1, rfl, ?_⟩
        refine ⟨_, ix_snocT _ _, ?_⟩
        (repeat walk_at "s")
        refine ⟨_, ix_t1 _ _ _, ?_⟩
        (repeat walk_at "s")
        refine ⟨1, rfl, ?_⟩
        refine ⟨_, ix_snocT _ _, ?_⟩
        (repeat walk_at "s")
        refine ⟨_, ix_t2 _ _ _ _, ?_⟩
        refine ⟨_, add_str (t := (⟨#[d]⟩ : Str)) (by rw [Ls_tx]; show _ + 1 ≤ _; omega), ?_⟩
        (repeat walk_at "s")
        refine contains_run (by rw [List.length_append, Ls_tx]; show _ + 1 ≤ _; omega) ?_
        rw [Ls_tx]
        exact q
      | hds g =>
        have g5 := (show g.Sublist (keptR K sts) from fo).length_le
        have er : (sts ++ finS (.hds g)).map stpD = sts.map stpD ++ [.tuple [.str "heads", .str (tx g)]] := by rw [List.map_append]; rfl
        have tail := fun {N : En → Nat → Prop} {B C : En → Nat → Prop} (x7 x8 : Option Sl) => settles_tail (x7 := x7) (x8 := x8) (N := N) (B := B) (C := C) (f := .hds g) (w := Str.ofString "heads") (c := true) hK hR hY h hs hk (show g.length ≤ 100 by omega) (.inl ⟨by decide +kernel, _, _, er⟩) q
        rw [er] at tail
        rw [er]
        walk_at "s"
        (repeat walk_at "s"); walk_at "r"
        refine ⟨fun _ => ?_, fun z => by simp at z⟩
        (repeat walk_at "s")
        refine ⟨1, rfl, ?_⟩
        refine ⟨_, ix_snocT _ _, ?_⟩
        (repeat walk_at "s")
        refine ⟨_, ix_t0 _ _, ?_⟩
        walk_at "s"
        (repeat walk_at "s"); walk_at "e"
        walk_at "r"; walk_at "f"
        walk_at "s"
        walk_at "s"
        (repeat walk_at "s"); walk_at "e"
        walk_at "r"; walk_at "f"
        walk_at "s"
        exact tail _ _
theorem is_settled_run {f : Fin} (hK : ColsOk K) (hR : RulesOk K rules) (hY : KeysOk K keys) (few : sts.length ≤ 500) (hs : ∀ st ∈ sts, StpOk K st) (ng : ∀ st ∈ sts, isG st = false) (fo : FinOk (keptR K sts) f) (hk : ColsOk (keptR K sts))
    (q : Q (.bool (stlB K rules keys (keptR K sts) f ((dervK K rules keys (Pu.stK K rules keys) (sts ++ finS f)).getLast (derv_ne _ _)))) n) :
    MD w_is_settled [.d (schD K rules keys), .d (.tuple ((sts ++ finS f).map stpD))] n Q := by
  have lf : (finS f).length ≤ 1 := by cases f <;> simp [finS]
  have hs2 : ∀ st ∈ sts ++ finS f, StpOk K st := fun st hst => (List.mem_append.mp hst).elim (hs st) (fin_ok f st)
  refine md_def rfl rfl ?_
  unfold t_is_settled
  (repeat walk_at "s")
  refine md_fz ?_
  refine derive_run hK hR hY (by rw [List.length_append]; omega) hs2 ?_
  (repeat walk_at "s")
  refine ⟨1, rfl, ?_⟩
  refine ⟨_, ix_lastL (by simpa using derv_ne _ _), ?_⟩
  rw [List.getLast_map]
  (repeat walk_at "s")
  exact settles_run hK hR hY (derv_ok hK _ _ stK_ok hs2 _ (List.getLast_mem _)) hs ng fo hk q
end
section
variable {K : List Nat} {r r' : List Rule} {y y' : List (List Nat)} {cs cs' : CsT} {o o' k k' : List Nat} {c c' : Bool} {m m' : Option Int}
structure Wider (K : List Nat) (r : List Rule) (y : List (List Nat)) (r' : List Rule) (y' : List (List Nat)) : Prop where
  clo : ∀ X Y : List Nat, (∀ c ∈ X, c ∈ Y) → ∀ c ∈ clos K r y (K.filter fun c => decide (c ∈ X)), c ∈ clos K r' y' (K.filter fun c => decide (c ∈ Y))
  keys : ∀ k ∈ y, k ∈ y'
theorem mem_fil {K X : List Nat} {c : Nat} : c ∈ K.filter (fun c => decide (c ∈ X)) ↔ c ∈ K ∧ c ∈ X := by rw [List.mem_filter, decide_eq_true_eq]
theorem wider_of (hK : ColsOk K) (hr : ∀ p ∈ r', p.2 ∈ K) (rs : ∀ p ∈ r, p ∈ r') (ks : ∀ k ∈ y, k ∈ y') : Wider K r y r' y' := by
  have nd : K.Nodup := asc_nodup hK.asc
  refine ⟨fun X Y h => ?_, ks⟩
  have cl := clos_cl (keys := y') nd hr (X := K.filter fun c => decide (c ∈ Y)) List.filter_sublist
  exact clos_least nd (fun p hp => hr p (rs p hp)) List.filter_sublist ⟨fun p hp => cl.rule p (rs p hp), fun k hk => cl.key k (ks k hk)⟩ fun c hc => clos_low nd hr List.filter_sublist c (mem_fil.mpr ⟨(mem_fil.mp hc).1, h c (mem_fil.mp hc).2⟩)
theorem one_mono (W : Wider K r y r' y') {X Y : List Nat} (s : ∀ c ∈ X, c ∈ Y) (h : oneK K r y X = true) : oneK K r' y' Y = true := by
  unfold oneK at h ⊢
  obtain ⟨k, hk, hi⟩ := List.any_eq_true.mp h
  exact List.any_eq_true.mpr ⟨k, W.keys k hk, inB_iff.mpr fun c hc => W.clo X Y s c (inB_iff.mp hi c hc)⟩
theorem cols_sub (h : ∀ p ∈ cs, p ∈ cs') : ∀ c ∈ colsC cs, c ∈ colsC cs' := fun c hc => by
  obtain ⟨p, hp, e⟩ := List.mem_map.mp hc
  exact List.mem_map.mpr ⟨p, h p hp, e⟩
theorem plc_mono (W : Wider K r y r' y') (hc : ∀ p ∈ cs, p ∈ cs') (ho : ∀ x ∈ o, x ∈ o') (hk : ∀ x ∈ k, x ∈ k') : ∀ x ∈ plcK K r y cs o k, x ∈ plcK K r' y' cs' o' k' := fun x hx => by
  unfold plcK at hx ⊢
  rw [List.mem_filter, decide_eq_true_eq] at hx ⊢
  refine ⟨hk x hx.1, W.clo _ _ (fun c h => ?_) x hx.2⟩
  rcases List.mem_append.mp h with h | h
  · exact List.mem_append_left _ (ho c h)
  · exact List.mem_append_right _ (cols_sub hc c h)
theorem fx_mono {g : List Nat} (W : Wider K r y r' y') (hc : ∀ p ∈ cs, p ∈ cs') (ho : ∀ x ∈ o, x ∈ o') : ∀ x ∈ fxK K r y g cs o, x ∈ fxK K r' y' g cs' o' := fun x hx => W.clo _ _ (fun c h => by
  rcases List.mem_append.mp h with h | h
  · rcases List.mem_append.mp h with h | h
    · exact List.mem_append_left _ (List.mem_append_left _ (ho c h))
    · exact List.mem_append_left _ (List.mem_append_right _ (cols_sub hc c h))
  · exact List.mem_append_right _ h) x hx
def mLe : Option Int → Option Int → Prop
  | none, _ => True
  | some i, some j => j ≤ i
  | some _, none => False
def kLe : Kn → Kn → Prop
  | .kn cs o k c m, .kn cs' o' k' c' m' => (∀ p ∈ cs, p ∈ cs') ∧ o <+: o' ∧ (∀ x ∈ k, x ∈ k') ∧ (c = true → c' = true) ∧ mLe m m'
  | .emp, .kn _ _ _ _ _ => False
  | _, .emp => True
theorem kLe_emp : ∀ q : Kn, kLe q .emp
  | .emp => trivial
  | .kn _ _ _ _ _ => trivial
theorem mLe_refl : ∀ m : Option Int, mLe m m
  | none => trivial
  | some i => Int.le_refl i
/-- one row at most, once a key's columns have one value -/
def KInv (K : List Nat) (r : List Rule) (y : List (List Nat)) : Kn → Prop
  | .emp => True
  | .kn cs _ _ _ m => oneK K r y (colsC cs) = true → m = some 1
theorem fix_mem {a : Nat} {u : Int} (e : fixC cs a = some u) : (a, u) ∈ cs := by
  unfold fixC at e
  obtain ⟨p, hp, e2⟩ := Option.map_eq_some_iff.mp e
  have h1 : p.1 = a := by
    have := List.find?_some hp
    exact of_decide_eq_true this
  have h2 := List.mem_of_find?_eq_some hp
  have : p = (a, u) := Prod.ext h1 e2
  rw [← this]
  exact h2
theorem fix_of {a : Nat} {u : Int} (nd : (colsC cs).Nodup) (h : (a, u) ∈ cs) : fixC cs a = some u := by
  cases e : fixC cs a with
  | none => exact absurd (List.mem_map.mpr ⟨_, h, rfl⟩) (fixC_none.mp e)
  | some w =>
    have := nodup_same nd (fix_mem e) h rfl
    rw [(Prod.mk.inj this).2]
theorem pre_mono (h : ∀ x ∈ k, x ∈ k') : ∀ p : List Nat, preS k p <+: preS k' p
  | [] => List.prefix_rfl
  | a :: p => by
    unfold preS
    by_cases e : a ∈ k
    · rw [List.takeWhile_cons_of_pos (by simpa using e), List.takeWhile_cons_of_pos (by simpa using h a e)]
      exact (List.prefix_cons_inj a).mpr (pre_mono h p)
    · rw [List.takeWhile_cons_of_neg (by simpa using e)]
      exact List.nil_prefix
theorem pre_pre (k p : List Nat) : preS k p <+: p := List.takeWhile_prefix _
theorem afS_mono {b : Bool} {p : List Nat} (hk : ∀ x ∈ k, x ∈ k') (ho : o <+: o') : afS k o b p <+: afS k' o' b p := by
  unfold afS
  by_cases hb : b = true ∧ preS k p = p
  · have h1 := pre_mono hk p
    have h2 := pre_pre k' p
    have e : preS k' p = p := h2.eq_of_length (Nat.le_antisymm h2.length_le (by have := h1.length_le; rw [hb.2] at this; exact this))
    rw [if_pos hb, if_pos ⟨hb.1, e⟩]
    exact (List.prefix_append_right_inj p).mpr (ho.filter _)
  · rw [if_neg hb]
    split
    · exact (pre_pre k p).trans (List.prefix_append _ _)
    · exact pre_mono hk p
theorem one_srt {a : Nat} {v : Int} : oneK K r y (colsC (srtC (cs ++ [(a, v)]))) = oneK K r y (colsC cs ++ [a]) := by
  unfold oneK
  have e : (K.filter fun c => decide (c ∈ colsC (srtC (cs ++ [(a, v)])))) = K.filter fun c => decide (c ∈ colsC cs ++ [a]) := List.filter_congr fun c _ => by
    refine decide_eq_decide.mpr ?_
    have : c ∈ colsC (srtC (cs ++ [(a, v)])) ↔ c ∈ colsC (cs ++ [(a, v)]) := ((srtC_perm _).map (·.1)).mem_iff
    rw [this]
    unfold colsC
    rw [List.map_append]
    rfl
  rw [e]
theorem srt_mem {a : Nat} {v : Int} {p : Nat × Int} : p ∈ srtC (cs ++ [(a, v)]) ↔ p ∈ cs ∨ p = (a, v) := by
  rw [(srtC_perm _).mem_iff, List.mem_append, List.mem_singleton]
theorem aft_mono (W : Wider K r y r' y') {q q' : Kn} {s : Stp} (h : KnOk K q) (h' : KnOk K q') (i : KInv K r' y' q') (le : kLe q q') : kLe (aft K r y q s) (aft K r' y' q' s) := by
  cases q' with
  | emp => exact kLe_emp _
  | kn cs' o' k' c' m' =>
  cases q with
  | emp => exact le.elim
  | kn cs o k c m =>
  obtain ⟨l1, l2, l3, l4, l5⟩ := le
  have h : KnP K cs o k m := h
  have h' : KnP K cs' o' k' m' := h'
  have i : oneK K r' y' (colsC cs') = true → m' = some 1 := i
  cases s with
  | whr a v =>
    show kLe (afW K r y cs o k c m a v) (afW K r' y' cs' o' k' c' m' a v)
    unfold afW
    cases e : fixC cs a with
    | some u =>
      rw [fix_of (asc_nodup h'.cs.asc) (l1 _ (fix_mem e))]
      dsimp only
      split
      · exact ⟨l1, l2, l3, l4, l5⟩
      · exact trivial
    | none => cases e' : fixC cs' a with
      | some u =>
        dsimp only
        by_cases ev : u = v
        · rw [if_pos ev]
          subst ev
          have sub : ∀ x ∈ colsC cs ++ [a], x ∈ colsC cs' := fun x hx => by
            rcases List.mem_append.mp hx with z | z
            · exact cols_sub l1 x z
            · rw [List.mem_singleton.mp z]
              exact List.mem_map.mpr ⟨_, fix_mem e', rfl⟩
          refine ⟨fun p hp => ?_, l2, fun x hx => ?_, fun hc => l4 (Bool.and_eq_true_iff.mp hc).1, ?_⟩
          · rcases srt_mem.mp hp with z | z
            · exact l1 p z
            · rw [z]; exact fix_mem e'
          · split at hx
            · exact l3 x hx
            · exact nomatch hx
          · by_cases z : oneK K r y (colsC cs ++ [a]) = true
            · rw [if_pos z, i (one_mono W sub z)]
              exact Int.le_refl 1
            · rw [if_neg z]; exact l5
        · rw [if_neg ev]
          exact kLe_emp _
      | none =>
        have sub : ∀ x ∈ colsC cs ++ [a], x ∈ colsC cs' ++ [a] := fun x hx => by
          rcases List.mem_append.mp hx with z | z
          · exact List.mem_append_left _ (cols_sub l1 x z)
          · exact List.mem_append_right _ z
        refine ⟨fun p hp => ?_, l2, fun x hx => ?_, fun hc => ?_, ?_⟩
        · rcases srt_mem.mp hp with z | z
          · exact srt_mem.mpr (.inl (l1 p z))
          · exact srt_mem.mpr (.inr z)
        · split at hx
          · rename_i z
            rw [if_pos (l3 a z)]
            exact l3 x hx
          · exact nomatch hx
        · obtain ⟨z1, z2⟩ := Bool.and_eq_true_iff.mp hc
          rw [Bool.and_eq_true]
          exact ⟨l4 z1, decide_eq_true (l3 a (of_decide_eq_true z2))⟩
        · by_cases z : oneK K r y (colsC cs ++ [a]) = true
          · rw [if_pos z, if_pos (one_mono W sub z)]
            exact Int.le_refl 1
          · rw [if_neg z]
            split
            · cases m with
              | none => trivial
              | some j => exact h.most j rfl
            · exact l5
  | srt b p => exact ⟨l1, afS_mono l3 l2, l3, l4, l5⟩
  | cut b n =>
    show kLe (afC K r y cs o k c m b n) (afC K r' y' cs' o' k' c' m' b n)
    unfold afC
    have pl := plc_mono W l1 (fun x hx => l2.subset hx) l3
    have pl2 : ∀ x ∈ plcK K r y cs o k, x ∈ k' := fun x hx => l3 x (List.mem_filter.mp hx).1
    by_cases n0 : n = 0
    · rw [if_pos n0, if_pos n0]
      split
      · exact trivial
      · exact ⟨l1, l2, l3, l4, l5⟩
    · rw [if_neg n0, if_neg n0]
      cases m with
      | some j =>
        cases m' with
        | none => exact l5.elim
        | some j' =>
          have l5 : j' ≤ j := l5
          dsimp only
          by_cases a1 : j ≤ (n : Int)
          · rw [if_pos a1, if_pos (show j' ≤ (n : Int) by omega)]
            split
            · exact ⟨l1, l2, l3, l4, l5⟩
            · exact trivial
          · rw [if_neg a1]
            by_cases a2 : j' ≤ (n : Int)
            · rw [if_pos a2]
              split
              · exact ⟨l1, l2, pl2, l4, a2⟩
              · exact kLe_emp _
            · rw [if_neg a2]
              refine ⟨l1, l2, pl, l4, ?_⟩
              show (if b = true then (n : Int) else j' - n) ≤ (if b = true then (n : Int) else j - n)
              split <;> omega
      | none =>
        cases m' with
        | none =>
          dsimp only
          exact ⟨l1, l2, pl, l4, mLe_refl _⟩
        | some j' =>
          dsimp only
          by_cases a2 : j' ≤ (n : Int)
          · rw [if_pos a2]
            cases b with
            | true => exact ⟨l1, l2, pl2, l4, a2⟩
            | false => exact kLe_emp _
          · rw [if_neg a2]
            refine ⟨l1, l2, pl, l4, ?_⟩
            cases b with
            | true => exact Int.le_refl _
            | false => trivial
  | col l =>
    refine ⟨l1, l2, fun x hx => ?_, l4, l5⟩
    rw [List.mem_filter] at hx ⊢
    exact ⟨l3 x hx.1, hx.2⟩
  | grp w z => exact ⟨l1, l2, l3, l4, l5⟩
theorem inv_aft {q : Kn} {s : Stp} (i : KInv K r y q) : KInv K r y (aft K r y q s) := by
  cases q with
  | emp => exact trivial
  | kn cs o k c m =>
  have i : oneK K r y (colsC cs) = true → m = some 1 := i
  cases s with
  | whr a v =>
    show KInv K r y (afW K r y cs o k c m a v)
    unfold afW
    split
    · split
      · exact i
      · exact trivial
    · intro z
      rw [one_srt] at z
      exact if_pos z
  | cut b n =>
    show KInv K r y (afC K r y cs o k c m b n)
    unfold afC
    split
    · split
      · exact trivial
      · exact i
    · rename_i n0
      cases m with
      | some j =>
        dsimp only
        split
        · split
          · exact i
          · exact trivial
        · rename_i a
          intro z
          have := Option.some.inj (i z)
          omega
      | none =>
        dsimp only
        intro z
        exact nomatch (i z)
  | srt b p => exact i
  | col l => exact i
  | grp w z => exact i
theorem inv_st : KInv K r y (Pu.stK K r y) := fun z => by
  have z : oneK K r y [] = true := z
  show (if oneK K r y [] = true then some 1 else none) = some (1 : Int)
  rw [if_pos z]
theorem st_mono (W : Wider K r y r' y') : kLe (Pu.stK K r y) (Pu.stK K r' y') := by
  refine ⟨fun _ h => h, List.prefix_rfl, fun _ h => h, fun h => h, ?_⟩
  by_cases z : oneK K r y [] = true
  · rw [if_pos z, if_pos (one_mono W (fun _ h => h) z)]
    exact Int.le_refl 1
  · rw [if_neg z]; trivial
theorem fold_ok (hK : ColsOk K) : ∀ {sts : List Stp} {q : Kn}, KnOk K q → (∀ s ∈ sts, StpOk K s) → KnOk K (sts.foldl (aft K r y) q)
  | [], _, h, _ => h
  | s :: t, q, h, hs => show KnOk K (t.foldl (aft K r y) (aft K r y q s)) from fold_ok hK (aft_ok hK h (hs s List.mem_cons_self)) fun x hx => hs x (List.mem_cons_of_mem _ hx)
theorem fold_inv : ∀ {sts : List Stp} {q : Kn}, KInv K r y q → KInv K r y (sts.foldl (aft K r y) q)
  | [], _, h => h
  | s :: t, q, h => show KInv K r y (t.foldl (aft K r y) (aft K r y q s)) from fold_inv (inv_aft h)
theorem fold_mono (hK : ColsOk K) (W : Wider K r y r' y') : ∀ {sts : List Stp} {q q' : Kn}, KnOk K q → KnOk K q' → KInv K r' y' q' → (∀ s ∈ sts, StpOk K s) → kLe q q' → kLe (sts.foldl (aft K r y) q) (sts.foldl (aft K r' y') q')
  | [], _, _, _, _, _, _, le => le
  | s :: t, q, q', h, h', i, hs, le => show kLe (t.foldl (aft K r y) (aft K r y q s)) (t.foldl (aft K r' y') (aft K r' y' q' s)) from fold_mono hK W (aft_ok hK h (hs s List.mem_cons_self)) (aft_ok hK h' (hs s List.mem_cons_self)) (inv_aft i) (fun x hx => hs x (List.mem_cons_of_mem _ hx)) (aft_mono W h h' i le)
theorem derv_last : ∀ (sts : List Stp) (q : Kn) (ne : dervK K r y q sts ≠ []), (dervK K r y q sts).getLast ne = sts.foldl (aft K r y) q
  | [], _, _ => rfl
  | s :: t, q, _ => by
    show (q :: dervK K r y (aft K r y q s) t).getLast _ = _
    rw [List.getLast_cons (derv_ne _ _), derv_last t]
    rfl
theorem stl_mono {l : List Nat} {f : Fin} {q q' : Kn} (W : Wider K r y r' y') (h' : KnOk K q') (le : kLe q q') (s : stlB K r y l f q = true) : stlB K r' y' l f q' = true := by
  cases q' with
  | emp => rfl
  | kn cs' o' k' c' m' =>
  cases q with
  | emp => exact le.elim
  | kn cs o k c m =>
  obtain ⟨l1, l2, l3, l4, l5⟩ := le
  have h' : KnP K cs' o' k' m' := h'
  have one : decide (m = some 1) = true → decide (m' = some 1) = true := fun z => by
    have z := of_decide_eq_true z
    subst z
    cases m' with
    | none => exact l5.elim
    | some j =>
      have h1 := h'.most j rfl
      have h2 : j ≤ 1 := l5
      have : j = 1 := by omega
      rw [this]
      rfl
  have sub : ∀ g : List Nat, inB g k = true → inB g k' = true := fun g z => inB_iff.mpr fun x hx => l3 x (inB_iff.mp z x hx)
  have sx : ∀ g : List Nat, inB l (fxK K r y g cs o) = true → inB l (fxK K r' y' g cs' o') = true := fun g z => inB_iff.mpr fun x hx => fx_mono W l1 (fun x hx => l2.subset hx) x (inB_iff.mp z x hx)
  obtain ⟨s1, s2⟩ := Bool.and_eq_true_iff.mp s
  refine Bool.and_eq_true_iff.mpr ⟨l4 s1, ?_⟩
  cases f with
  | non =>
    obtain ⟨s3, s4⟩ := Bool.and_eq_true_iff.mp s2
    exact Bool.and_eq_true_iff.mpr ⟨sub l s3, Bool.or_eq_true_iff.mpr ((Bool.or_eq_true_iff.mp s4).imp one (sx []))⟩
  | hds g =>
    obtain ⟨s3, s4⟩ := Bool.and_eq_true_iff.mp s2
    exact Bool.and_eq_true_iff.mpr ⟨sub l s3, Bool.or_eq_true_iff.mpr ((Bool.or_eq_true_iff.mp s4).imp one (sx g))⟩
  | cnt g => exact sub g s2
  | sum g d => exact sub (g ++ [d]) s2
/-- with more rules and keys a settled report is settled -/
theorem settled_wider (hK : ColsOk K) {l : List Nat} {f : Fin} {sts : List Stp} (W : Wider K r y r' y') (hs : ∀ s ∈ sts, StpOk K s) (s : stlB K r y l f (sts.foldl (aft K r y) (Pu.stK K r y)) = true) : stlB K r' y' l f (sts.foldl (aft K r' y') (Pu.stK K r' y')) = true :=
  stl_mono W (fold_ok hK stK_ok hs) (fold_mono hK W stK_ok stK_ok inv_st hs (st_mono W)) s
theorem settled_more (hK : ColsOk K) (hr : ∀ p ∈ r, p.2 ∈ K) {l : List Nat} {q : Kn} {s : Stp} (hs : StpOk l s) (ng : isG s = false) (lK : l.Sublist K) (nsrt : ∀ b p, s ≠ .srt b p) (h : stlB K r y l .non q = true) : stlB K r y (keptL l s) .non (aft K r y q s) = true := by
  have W : Wider K r y r y := wider_of hK hr (fun _ h => h) fun _ h => h
  cases q with
  | emp => rfl
  | kn cs o k c m =>
  obtain ⟨s1, s2⟩ := Bool.and_eq_true_iff.mp h
  obtain ⟨s3, s4⟩ := Bool.and_eq_true_iff.mp s2
  have mk : ∀ {cs' : CsT} {o' k' l' : List Nat} {m' : Option Int}, inB l' k' = true → (decide (m' = some 1) || inB l' (fxK K r y [] cs' o')) = true → stlB K r y l' .non (.kn cs' o' k' c m') = true := fun a b =>
    Bool.and_eq_true_iff.mpr ⟨s1, Bool.and_eq_true_iff.mpr ⟨a, b⟩⟩
  cases s with
  | whr a v =>
    show stlB K r y l .non (afW K r y cs o k c m a v) = true
    have ak : a ∈ k := inB_iff.mp s3 a hs
    unfold afW
    split
    · split
      · exact h
      · rfl
    · rw [if_pos ak, decide_eq_true ak, Bool.and_true]
      refine mk s3 (Bool.or_eq_true_iff.mpr ((Bool.or_eq_true_iff.mp s4).imp (fun z => ?_) fun z => ?_))
      · have z := of_decide_eq_true z
        subst z
        split <;> rfl
      · exact inB_iff.mpr fun x hx => fx_mono W (fun p hp => srt_mem.mpr (.inl hp)) (fun _ h => h) x (inB_iff.mp z x hx)
  | srt b p => exact absurd rfl (nsrt b p)
  | cut b n =>
    show stlB K r y l .non (afC K r y cs o k c m b n) = true
    unfold afC
    have pl : decide (m = some 1) = false → ∀ m' : Option Int, stlB K r y l .non (.kn cs o (plcK K r y cs o k) c m') = true := fun z m' => by
      rw [z, Bool.false_or] at s4
      refine mk (inB_iff.mpr fun x hx => ?_) (Bool.or_eq_true_iff.mpr (.inr s4))
      unfold plcK
      rw [List.mem_filter, decide_eq_true_eq]
      refine ⟨inB_iff.mp s3 x hx, ?_⟩
      have := inB_iff.mp s4 x hx
      unfold fxK at this
      rwa [show o ++ colsC cs ++ [] = o ++ colsC cs from List.append_nil _] at this
    split
    · split
      · rfl
      · exact h
    · rename_i n0
      cases m with
      | some j =>
        dsimp only
        split
        · split
          · exact h
          · rfl
        · rename_i a
          exact pl (decide_eq_false fun z => by have := Option.some.inj z; omega) _
      | none =>
        dsimp only
        exact pl (by rfl) _
  | col l' =>
    have sl : l'.Sublist l := hs
    refine mk (inB_iff.mpr fun x hx => ?_) (Bool.or_eq_true_iff.mpr ((Bool.or_eq_true_iff.mp s4).imp id fun z => inB_sub sl z))
    have hx : x ∈ l' := hx
    rw [List.mem_filter, decide_eq_true_eq]
    exact ⟨inB_iff.mp s3 x (sl.subset hx), hx⟩
  | grp w z => cases ng
/-- .. and a group -/
theorem settled_group (hK : ColsOk K) (hr : ∀ p ∈ r, p.2 ∈ K) {l : List Nat} {q : Kn} {f : Fin} (hf : FinOk l f) (h : stlB K r y l .non q = true) : stlB K r y l f q = true := by
  have W : Wider K r y r y := wider_of hK hr (fun _ h => h) fun _ h => h
  cases q with
  | emp => rfl
  | kn cs o k c m =>
  obtain ⟨s1, s2⟩ := Bool.and_eq_true_iff.mp h
  obtain ⟨s3, s4⟩ := Bool.and_eq_true_iff.mp s2
  refine Bool.and_eq_true_iff.mpr ⟨s1, ?_⟩
  cases f with
  | non => exact s2
  | cnt g => exact inB_sub hf s3
  | sum g d =>
    refine inB_iff.mpr fun x hx => ?_
    rcases List.mem_append.mp hx with z | z
    · exact inB_iff.mp s3 x (hf.1.subset z)
    · rw [List.mem_singleton.mp z]
      exact inB_iff.mp s3 d hf.2
  | hds g =>
    refine Bool.and_eq_true_iff.mpr ⟨s3, Bool.or_eq_true_iff.mpr ((Bool.or_eq_true_iff.mp s4).imp id fun z => inB_iff.mpr fun x hx => ?_)⟩
    have := inB_iff.mp z x hx
    unfold fxK at this ⊢
    exact W.clo _ _ (fun c hc => by rw [List.append_nil] at hc; exact List.mem_append_left _ hc) x this
end
section
variable {n : Nat} {Q : PyData → Nat → Prop} {K : Str} {v : PyData}
theorem is_column_run (ok : okR v) (q : Q (.bool (isCol (Ls K) v)) n) : MD w_is_column [.d (.str K), .d v] n Q := by
  refine md_def rfl rfl ?_
  unfold t_is_column
  cases v with
  | str w =>
    walk_at "s"; walk_at "s"; walk_at "s"; walk_at "s"
    walk_at "r"; walk_at "r"; walk_at "t"
    walk_at "s"; walk_at "s"; walk_at "s"; walk_at "s"
    refine ⟨_, len_str ok.1, ?_⟩
    walk_at "s"; walk_at "e"; walk_at "r"
    refine ⟨fun h => ?_, fun h => ?_⟩
    · have h1 : (Ls w).length = 1 := by
        have := of_decide_eq_true h
        omega
      obtain ⟨c, e⟩ := List.length_eq_one_iff.mp h1
      rw [← one_eq] at e
      subst e
      walk_at "s"; walk_at "s"; walk_at "s"
      refine ⟨_, in_sg _ _, ?_⟩
      simpa [isCol, oneIn_sg] using q
    · have e : isCol (Ls K) (.str w) = false := by
        show oneIn (Ls K) w = false
        unfold oneIn
        split
        · rename_i c e; rw [e] at h; cases h
        · rfl
      rw [e] at q
      rw [h]
      exact q
  | _ =>
    walk_at "s"; walk_at "s"; walk_at "s"; walk_at "s"
    walk_at "r"; walk_at "r"; walk_at "f"
    exact q
theorem is_plain_run (q : Q (.bool (isPl v)) n) : MD w_is_plain_integer [.d v] n Q := by
  refine md_def rfl rfl ?_
  unfold t_is_plain_integer
  cases v with
  | int i =>
    walk_at "s"; walk_at "s"; walk_at "s"; walk_at "s"; walk_at "r"; walk_at "r"; walk_at "t"
    walk_at "s"; walk_at "s"; walk_at "s"; walk_at "r"; walk_at "r"
    exact q
  | bool i =>
    walk_at "s"; walk_at "s"; walk_at "s"; walk_at "s"; walk_at "r"; walk_at "r"; walk_at "t"
    walk_at "s"; walk_at "s"; walk_at "s"; walk_at "r"; walk_at "r"
    exact q
  | _ =>
    walk_at "s"; walk_at "s"; walk_at "s"; walk_at "s"; walk_at "r"; walk_at "r"; walk_at "f"
    exact q
theorem commonS_run {z : Str} (h : (Ls K).length ≤ 1000) (q : Q (.str (tx ((Ls K).filter fun c => decide (c ∈ Ls z)))) n) : MD w_common [.d (.str K), .d (.str z)] n Q := by
  refine md_def rfl rfl ?_
  unfold t_common
  walk_at "s"; walk_at "s"; walk_at "s"
  refine ⟨_, rfl, ?_⟩
  walk_at "s"
  refine m_lcF (fun x => match x with | .str w => oneIn (Ls z) w | _ => false) id ?_
  walk_at "s"; walk_at "s"
  refine ⟨_, seq_str K, by rw [List.length_map, sizeLine_eq]; omega, fun x hx => ?_, ?_⟩
  · obtain ⟨c, hc, e⟩ := List.mem_map.mp hx
    subst e
    refine ⟨_, rfl, fun m => ?_, fun _ m => ?_⟩
    · walk_at "s"; walk_at "s"; walk_at "s"; walk_at "s"
      refine ⟨_, in_sg _ _, ?_⟩
      walk_at "r"
      exact ⟨by simp [oneIn_sg], rfl⟩
    · walk_at "s"
      exact ⟨rfl, rfl⟩
  · have e : ((List.map sg (Ls K)).filter fun x => match x with | .str w => oneIn (Ls z) w | _ => false).map id = ((Ls K).filter fun c => decide (c ∈ Ls z)).map sg := by
      rw [List.map_id, List.filter_map]
      rfl
    rw [e]
    exact ⟨_, join_sg (Nat.le_trans (List.length_filter_le _ _) h), q⟩
theorem is_column_set_run (h : (Ls K).length ≤ 1000) (hK : (Ls K).Pairwise (· < ·)) (ok : okR v) (q : Q (.bool (setB (Ls K) v)) n) : MD w_is_column_set [.d (.str K), .d v] n Q := by
  refine md_def rfl rfl ?_
  unfold t_is_column_set
  cases v with
  | str z =>
    walk_at "s"; walk_at "s"; walk_at "s"; walk_at "s"; walk_at "s"; walk_at "s"; walk_at "s"; walk_at "r"; walk_at "r"; walk_at "f"
    walk_at "s"; walk_at "s"; walk_at "s"; walk_at "s"
    refine ⟨_, len_str ok.1, ?_⟩
    walk_at "s"; walk_at "s"
    refine ⟨_, len_str h, ?_⟩
    walk_at "r"; walk_at "r"
    refine ⟨fun c => ?_, fun c => ?_⟩
    · walk_at "s"; walk_at "s"
      have hlt := of_decide_eq_true c
      have e : setB (Ls K) (.str z) = false := by
        cases e : isSet (Ls K) (Ls z) with
        | false => exact e
        | true => have := isSet_len e; omega
      rw [e] at q
      exact q
    · walk_at "s"; walk_at "s"; walk_at "s"; walk_at "s"; walk_at "s"; walk_at "s"; walk_at "s"; walk_at "s"
      refine commonS_run h ?_
      refine ⟨_, eq_str _ _, ?_⟩
      have e : isS (tx ((Ls K).filter fun c => decide (c ∈ Ls z))) (.str z) = setB (Ls K) (.str z) := by
        show decide (z = tx _) = isSet (Ls K) (Ls z)
        rw [Bool.eq_iff_iff, ← filter_asc hK]
        simp
        constructor
        · intro e; have := congrArg Ls e; rwa [Ls_tx] at this
        · intro e; exact str_inj (by rw [Ls_tx]; exact e)
      rw [e]
      exact q
  | _ =>
    walk_at "s"; walk_at "s"; walk_at "s"; walk_at "s"; walk_at "s"; walk_at "s"; walk_at "s"; walk_at "r"; walk_at "r"; walk_at "t"; walk_at "t"
    walk_at "s"; walk_at "s"
    exact q
theorem is_order_run (h : (Ls K).length ≤ 1000) (ok : okR v) (q : Q (.bool (ordB (Ls K) v)) n) : MD w_is_order [.d (.str K), .d v] n Q := by
  refine md_def rfl rfl ?_
  unfold t_is_order
  cases v with
  | str z =>
    walk_at "s"; walk_at "s"; walk_at "s"; walk_at "s"; walk_at "s"; walk_at "s"; walk_at "s"; walk_at "r"; walk_at "r"; walk_at "f"
    walk_at "s"; walk_at "s"; walk_at "s"; walk_at "s"
    refine ⟨_, len_str ok.1, ?_⟩
    walk_at "s"; walk_at "s"
    refine ⟨_, len_str h, ?_⟩
    walk_at "r"; walk_at "r"
    refine ⟨fun c => ?_, fun c => ?_⟩
    · walk_at "s"; walk_at "s"
      have hlt := of_decide_eq_true c
      have e : ordB (Ls K) (.str z) = false := by
        cases e : isOrd (Ls K) (Ls z) with
        | false => exact e
        | true => have := isOrd_len e; omega
      rw [e] at q
      exact q
    · walk_at "s"; walk_at "s"; walk_at "s"; walk_at "s"; walk_at "s"
      refine m_lcF (fun _ => true) (fun x => .bool (isCol (Ls K) x)) ?_
      walk_at "s"; walk_at "s"
      refine ⟨_, seq_str z, by rw [List.length_map, sizeLine_eq]; have := ok.1; omega, fun x hx => ?_, ?_⟩
      · obtain ⟨c, hc, e⟩ := List.mem_map.mp hx
        subst e
        refine ⟨_, rfl, fun m => ?_, fun _ m => ?_⟩
        · walk_at "s"; exact ⟨rfl, rfl⟩
        · walk_at "s"; walk_at "s"; walk_at "s"; walk_at "s"
          exact is_column_run (okS_sub (z := z) ok (Nat.succ_le_of_lt (List.length_pos_of_mem hc)) (fun d hd => by simp [Ls] at hd; subst hd; exact hc)) ⟨rfl, rfl⟩
      · have e : ((List.map sg (Ls z)).filter fun _ => true).map (fun x => PyData.bool (isCol (Ls K) x)) = (Ls z).map fun c => .bool (decide (c ∈ Ls K)) := by
          rw [List.filter_eq_self.mpr fun _ _ => rfl, List.map_map]
          rfl
        rw [e]
        refine ⟨_, all_map _ _, ?_⟩
        walk_at "r"
        refine ⟨fun c => ?_, fun c => ?_⟩
        · walk_at "s"; walk_at "s"; walk_at "s"
          refine ⟨_, lenSet_str ok.1, ?_⟩
          walk_at "s"; walk_at "s"
          refine ⟨_, len_str ok.1, ?_⟩
          refine ⟨_, nodup_eq _, ?_⟩
          have e : ordB (Ls K) (.str z) = decide (Ls z).Nodup := by
            show isOrd _ _ = _
            unfold isOrd
            rw [c, Bool.true_and]
          rw [e] at q
          exact q
        · have e : ordB (Ls K) (.str z) = false := by
            show isOrd _ _ = _
            unfold isOrd
            rw [c, Bool.false_and]
          rw [e] at q
          rw [c]
          exact q
  | _ =>
    walk_at "s"; walk_at "s"; walk_at "s"; walk_at "s"; walk_at "s"; walk_at "s"; walk_at "s"; walk_at "r"; walk_at "r"; walk_at "t"; walk_at "t"
    walk_at "s"; walk_at "s"
    exact q
end
def conB (K : List Nat) : PyData → Bool
  | .tuple [a, b] => isCol K a && isPl b
  | _ => false
def colD : PyData → Nat
  | .tuple (.str z :: _) => (Ls z).headD 0
  | _ => 0
def csB (K : List Nat) : PyData → Bool
  | .tuple ps => ps.all (conB K) && isSet K (ps.map colD)
  | _ => false
def bndB : PyData → Bool
  | .none => true
  | .int i => decide (1 ≤ i)
  | _ => false
def isBl : PyData → Bool
  | .bool _ => true
  | _ => false
def knB (K : List Nat) : PyData → Bool
  | .tuple [x] => isS "empty" x
  | .tuple [a, b, c, d, e] => csB K a && (ordB K b && (setB K c && (isBl d && bndB e)))
  | _ => false
theorem oneIn_eqK {K : List Nat} {w : Str} (h : oneIn K w = true) : ∃ c, w = (⟨#[c]⟩ : Str) ∧ c ∈ K := by
  unfold oneIn at h
  split at h
  · rename_i c e
    exact ⟨c, one_eq.mpr e, of_decide_eq_true h⟩
  · cases h
theorem con_eq {K : List Nat} {v : PyData} (h : conB K v = true) : ∃ c i, v = cD (c, i) ∧ c ∈ K := by
  unfold conB at h
  split at h
  · rename_i a b
    obtain ⟨h1, h2⟩ := Bool.and_eq_true_iff.mp h
    cases a with
    | str w =>
      obtain ⟨c, rfl, hc⟩ := oneIn_eqK (show oneIn K w = true from h1)
      cases b with
      | int i => exact ⟨c, i, rfl, hc⟩
      | _ => cases h2
    | _ => cases h1
  · cases h
theorem con_all {K : List Nat} {ps : List PyData} (h : ps.all (conB K) = true) : ∃ cs : CsT, ps = cs.map cD ∧ ps.map colD = colsC cs ∧ ∀ c ∈ colsC cs, c ∈ K := by
  induction ps with
  | nil => exact ⟨[], rfl, rfl, fun _ z => nomatch z⟩
  | cons p r ih =>
    rw [List.all_cons, Bool.and_eq_true] at h
    obtain ⟨cs, e1, e2, e3⟩ := ih h.2
    obtain ⟨c, i, e, hc⟩ := con_eq h.1
    refine ⟨(c, i) :: cs, by rw [e, e1]; rfl, by rw [List.map_cons, e2, e]; rfl, fun d hd => ?_⟩
    rcases List.mem_cons.mp hd with z | z
    · rw [z]; exact hc
    · exact e3 d z
section
variable {n : Nat} {Q : PyData → Nat → Prop} {K : Str} {v : PyData}
theorem is_bound_run (q : Q (.bool (bndB v)) n) : MD w__is_bound [.d v] n Q := by
  refine md_def rfl rfl ?_
  unfold t__is_bound
  cases v with
  | none =>
    (repeat walk_at "s"); walk_at "r"; walk_at "r"; walk_at "t"
    exact q
  | int i =>
    (repeat walk_at "s"); walk_at "r"; walk_at "r"; walk_at "f"
    (repeat walk_at "s")
    refine is_plain_run ?_
    walk_at "r"; walk_at "t"
    (repeat walk_at "s")
    refine ⟨_, rfl, ?_⟩
    have e : decide (i ≥ 1) = bndB (.int i) := rfl
    exact q
  | _ =>
    (repeat walk_at "s"); walk_at "r"; walk_at "r"; walk_at "f"
    (repeat walk_at "s")
    refine is_plain_run ?_
    walk_at "r"; walk_at "f"
    exact q
theorem ok2K {a b : PyData} (ok : okR (.tuple [a, b])) : okR a ∧ okR b := ⟨ok.1, ok.2.1⟩
theorem is_constant_run (ok : okR v) (q : Q (.bool (conB (Ls K) v)) n) : MD w__is_constant [.d (.str K), .d v] n Q := by
  refine md_def rfl rfl ?_
  unfold t__is_constant
  cases v with
  | tuple xs =>
    (repeat walk_at "s"); walk_at "r"; walk_at "r"; walk_at "f"
    (repeat walk_at "s"); walk_at "r"
    walk_at "s"
    refine ⟨_, ne2_int _ _, ?_⟩
    walk_at "r"
    match xs, ok, q with
    | [a, b], ok, q =>
      obtain ⟨oa, ob⟩ := ok2K ok
      walk_at "f"
      (repeat walk_at "s"); walk_at "e"
      (repeat walk_at "s")
      refine is_column_run oa ?_
      walk_at "r"
      have q : Q (.bool (isCol (Ls K) a && isPl b)) n := q
      refine ⟨fun c => ?_, fun c => ?_⟩
      · rw [c, Bool.true_and] at q
        (repeat walk_at "s"); walk_at "e"
        (repeat walk_at "s")
        exact is_plain_run q
      · rw [c, Bool.false_and] at q
        rw [c]
        exact q
    | [], _, q => walk_at "t"; (repeat walk_at "s"); exact q
    | [a], _, q => walk_at "t"; (repeat walk_at "s"); exact q
    | _ :: _ :: _ :: r, _, q =>
      have e : (!decide (((r.length + 1 + 1 + 1 : Nat) : Int) = 2)) = true := by
        simp
        omega
      refine ⟨fun _ => ?_, fun h => ?_⟩
      · (repeat walk_at "s")
        exact q
      · exact absurd (e.symm.trans h) Bool.noConfusion
  | _ =>
    (repeat walk_at "s"); walk_at "r"; walk_at "r"; walk_at "t"; walk_at "t"
    (repeat walk_at "s")
    exact q
theorem all_trueK {xs : List PyData} {f : PyData → Bool} : eAll (.list ((xs.filter fun _ => true).map fun x => .bool (f x))) = some (.bool (xs.all f)) := by
  rw [List.filter_eq_self.mpr fun _ _ => rfl]
  exact all_map f xs
def lenOfK : PyData → Nat
  | .tuple xs => xs.length
  | .list xs => xs.length
  | _ => 0
theorem okR_tx {l : List Nat} (h : l.length ≤ 1000) (h2 : ∀ c ∈ l, c < 128) : okR (.str (tx l)) := ⟨by rw [Ls_tx]; omega, fun c hc => by rw [Ls_tx] at hc; have := h2 c hc; omega⟩
theorem are_constants_run (h : (Ls K).length ≤ 1000) (hK : (Ls K).Pairwise (· < ·)) (hl : ∀ c ∈ Ls K, c < 128) (ok : okR v) (few : lenOfK v ≤ 1000) (q : Q (.bool (csB (Ls K) v)) n) : MD w__are_constants [.d (.str K), .d v] n Q := by
  refine md_def rfl rfl ?_
  unfold t__are_constants
  cases v with
  | tuple ps =>
    have few : ps.length ≤ 1000 := few
    (repeat walk_at "s"); walk_at "r"; walk_at "r"; walk_at "f"
    (repeat walk_at "s")
    refine m_lcF (fun _ => true) (fun x => .bool (conB (Ls K) x)) ?_
    (repeat walk_at "s")
    refine ⟨ps, rfl, by rw [sizeLine_eq]; omega, fun x hx => ⟨_, rfl, fun m => ?_, fun _ m => ?_⟩, ?_⟩
    · walk_at "s"; exact ⟨rfl, rfl⟩
    · (repeat walk_at "s")
      exact is_constant_run (okRs_mem ok hx) ⟨rfl, rfl⟩
    refine ⟨_, all_trueK, ?_⟩
    walk_at "r"
    have q2 : Q (.bool (ps.all (conB (Ls K)) && isSet (Ls K) (ps.map colD))) n := q
    clear q
    refine ⟨fun c => ?_, fun c => ?_⟩
    · have c : ps.all (conB (Ls K)) = false := by simpa using c
      rw [c, Bool.false_and] at q2
      (repeat walk_at "s")
      exact q2
    · have c : ps.all (conB (Ls K)) = true := by simpa using c
      rw [c, Bool.true_and] at q2
      obtain ⟨cs, e1, e2, e3⟩ := con_all c
      rw [e2] at q2
      subst e1
      rw [List.length_map] at few
      (repeat walk_at "s")
      refine ⟨_, rfl, ?_⟩
      (repeat walk_at "s")
      refine m_lcM cs cD (fun p => sg p.1) ?_
      (repeat walk_at "s")
      refine ⟨_, rfl, rfl, by rw [sizeLine_eq]; omega, fun p hp => ⟨_, rfl, fun m => ?_⟩, ?_⟩
      · (repeat walk_at "s")
        exact ⟨rfl, rfl⟩
      · have e : (cs.map fun p => sg p.1) = (colsC cs).map sg := by unfold colsC; rw [List.map_map]; rfl
        rw [e]
        refine ⟨_, join_sg (by rw [cols_len]; omega), ?_⟩
        (repeat walk_at "s")
        refine is_column_set_run h hK (okR_tx (by rw [cols_len]; omega) fun c hc => hl c (e3 c hc)) ?_
        have e4 : setB (Ls K) (.str (tx (colsC cs))) = isSet (Ls K) (colsC cs) := by
          show isSet (Ls K) (Ls (tx (colsC cs))) = _
          rw [Ls_tx]
        rw [e4]
        exact q2
  | _ =>
    (repeat walk_at "s"); walk_at "r"; walk_at "r"; walk_at "t"; walk_at "t"
    (repeat walk_at "s")
    exact q
theorem in_15 (i : Int) : eIn true (.int i) (.tuple [.int 1, .int 5]) = some (.bool (true ^^ (decide (1 = i) || decide (5 = i)))) := by
  show eInL true (.int i) (.tuple [.int 1, .int 5]) = _
  have h2 : ((1 : Int) == i) = decide (1 = i) := by rw [Bool.eq_iff_iff]; simp
  have h3 : ((5 : Int) == i) = decide (5 = i) := by rw [Bool.eq_iff_iff]; simp
  unfold eInL
  simp [itemsD, dfreeAll, dfree, PyData.depth, PyData.depthAll, PyData.eqv, h2, h3]
theorem eq_one (x : PyData) : eEq (.tuple [x]) (.tuple [.str "empty"]) = some (.bool (isS "empty" x)) := by
  show (if _ then _ else _) = _
  have h2 : min (PyData.depth (.tuple [x])) (PyData.depth (.tuple [.str "empty"])) ≤ 60 := Nat.le_trans (Nat.min_le_right _ _) (by simp [PyData.depth, PyData.depthAll])
  rw [if_pos (by rw [show dfree (PyData.tuple [.str "empty"]) = true from rfl, Bool.or_true, Bool.true_and, decide_eq_true h2])]
  refine congrArg (fun b => some (PyData.bool b)) ?_
  rw [PyData.eqv, PyData.eqvAll, eqv_str, PyData.eqvAll, Bool.and_true]
theorem and_f {a b : Bool} (h : a = false) : (a && b) = false := by rw [h]; rfl
theorem is_knowledge_run {rs : List PyData} (h : (Ls K).length ≤ 1000) (hK : (Ls K).Pairwise (· < ·)) (hl : ∀ c ∈ Ls K, c < 128) (ok : okR v) (few : ∀ xs, v = .tuple xs → ∀ x ∈ xs, lenOfK x ≤ 1000) (q : Q (.bool (knB (Ls K) v)) n) : MD w_is_knowledge [.d (.tuple (.str K :: rs)), .d v] n Q := by
  refine md_def rfl rfl ?_
  unfold t_is_knowledge
  cases v with
  | tuple xs =>
    (repeat walk_at "s"); walk_at "r"; walk_at "r"; walk_at "f"
    (repeat walk_at "s"); walk_at "r"
    (repeat walk_at "s")
    refine ⟨by show 2 ≤ sizeLine; decide, ?_⟩
    refine ⟨_, in_15 _, ?_⟩
    walk_at "r"
    match xs, ok, q, few with
    | [x], ok, q, _ =>
      walk_at "f"
      (repeat walk_at "s"); walk_at "r"
      (repeat walk_at "s"); walk_at "e"
      walk_at "r"
      walk_at "t"
      (repeat walk_at "s")
      exact ⟨_, eq_one x, q⟩
    | [a, b, c, d, e], ok, q, few =>
      have few := few _ rfl
      walk_at "f"
      (repeat walk_at "s"); walk_at "r"
      (repeat walk_at "s"); walk_at "e"
      walk_at "r"
      walk_at "f"
      (repeat walk_at "s")
      refine ⟨_, ix_t0 _ _, ?_⟩
      (repeat walk_at "s")
      walk_at "r"
      (repeat walk_at "s")
      refine are_constants_run h hK hl ok.1 (few a (by simp)) ?_
      have q : Q (.bool (csB (Ls K) a && (ordB (Ls K) b && (setB (Ls K) c && (isBl d && bndB e))))) n := q
      walk_at "r"
      refine ⟨fun z => ?_, fun z => ?_⟩
      · rw [and_f (show csB (Ls K) a = false by simpa using z)] at q
        walk_at "t"; (repeat walk_at "s")
        exact q
      · rw [show csB (Ls K) a = true by simpa using z, Bool.true_and] at q
        (repeat walk_at "s")
        refine is_order_run h ok.2.1 ?_
        walk_at "r"
        refine ⟨fun z => ?_, fun z => ?_⟩
        · rw [and_f (show ordB (Ls K) b = false by simpa using z)] at q
          walk_at "t"; (repeat walk_at "s")
          exact q
        · rw [show ordB (Ls K) b = true by simpa using z, Bool.true_and] at q
          (repeat walk_at "s")
          refine is_column_set_run h hK ok.2.2.1 ?_
          walk_at "r"
          refine ⟨fun z => ?_, fun z => ?_⟩
          · rw [and_f (show setB (Ls K) c = false by simpa using z)] at q
            (repeat walk_at "s")
            exact q
          · rw [show setB (Ls K) c = true by simpa using z, Bool.true_and] at q
            (repeat walk_at "s"); walk_at "r"
            cases d with
            | bool d =>
              walk_at "r"; walk_at "t"
              (repeat walk_at "s")
              exact is_bound_run q
            | _ =>
              walk_at "r"; walk_at "f"
              exact q
    | [], _, q, _ => walk_at "t"; (repeat walk_at "s"); exact q
    | [_, _], _, q, _ => walk_at "t"; (repeat walk_at "s"); exact q
    | [_, _, _], _, q, _ => walk_at "t"; (repeat walk_at "s"); exact q
    | [_, _, _, _], _, q, _ => walk_at "t"; (repeat walk_at "s"); exact q
    | _ :: _ :: _ :: _ :: _ :: _ :: r, _, q, _ =>
      have e : (true ^^ (decide ((1 : Int) = ((r.length + 1 + 1 + 1 + 1 + 1 + 1 : Nat) : Int)) || decide ((5 : Int) = ((r.length + 1 + 1 + 1 + 1 + 1 + 1 : Nat) : Int)))) = true := by
        rw [decide_eq_false (by omega), decide_eq_false (by omega)]
        rfl
      refine ⟨fun _ => ?_, fun h => ?_⟩
      · (repeat walk_at "s")
        exact q
      · exact absurd (e.symm.trans h) Bool.noConfusion
  | _ =>
    (repeat walk_at "s"); walk_at "r"; walk_at "r"; walk_at "t"; walk_at "t"
    (repeat walk_at "s")
    exact q
end
section
variable {n : Nat} {Q : PyData → Nat → Prop} {K : Str} {a b c v : PyData} {sr : List PyData}
theorem one_list {xs : List PyData} (h0 : 0 < xs.length) (h1 : xs.length ≤ 1000) (hn : 1 ≤ n) (q : ∀ (i : Nat) (h : i < xs.length), Q xs[i] (n - 1)) : MD w__law_one_of [.p, .d (.list xs)] n Q := by
  refine md_def rfl rfl ?_
  unfold t__law_one_of
  (repeat walk_at "s")
  refine ⟨.int (xs.length : Nat), rfl, ?_⟩
  (repeat walk_at "s")
  refine take_nat h0 (by omega) hn fun r hr => ?_
  exact ⟨_, ix_nat hr, q r hr⟩
theorem one_str {l : List Nat} (h0 : 0 < l.length) (h1 : l.length ≤ 1000) (hn : 1 ≤ n) (q : ∀ (i : Nat) (h : i < l.length), Q (sg l[i]) (n - 1)) : MD w__law_one_of [.p, .d (.str (tx l))] n Q := by
  refine md_def rfl rfl ?_
  unfold t__law_one_of
  (repeat walk_at "s")
  refine ⟨_, len_str (by rw [Ls_tx]; omega), ?_⟩
  rw [Ls_tx]
  (repeat walk_at "s")
  refine take_nat h0 (by omega) hn fun r hr => ?_
  exact ⟨_, ix_str hr h1, q r hr⟩
theorem some_run {z : Str} (hz : (Ls z).length ≤ 1000) (hn : (Ls z).length ≤ n) (q : ∀ l m, l.Sublist (Ls z) → n ≤ m + (Ls z).length → Q (.str (tx l)) m) : MD w__law_some [.p, .d (.str z)] n Q := by
  refine md_def rfl rfl ?_
  unfold t__law_some
  (repeat walk_at "s")
  refine ⟨_, rfl, ?_⟩
  (repeat walk_at "s")
  refine m_lc ?_
  (repeat walk_at "s")
  refine ⟨_, seq_str z, by rw [List.length_map, sizeLine_eq]; omega, fun rest acc m => ∃ (rl done l : List Nat), Ls z = done ++ rl ∧ rest = rl.map sg ∧ acc = l.map sg ∧ l.Sublist done ∧ n ≤ m + done.length, ⟨Ls z, [], [], rfl, rfl, rfl, List.Sublist.refl _, by simp⟩, fun x rest acc m hJ => ?_, fun acc m hJ => ?_⟩
  · obtain ⟨rl, done, l, e1, e2, e3, sb, hm⟩ := hJ
    cases rl with
    | nil => cases e2
    | cons c rl =>
    rw [List.map_cons] at e2
    obtain ⟨rfl, rfl⟩ := List.cons.inj e2
    have hl := congrArg List.length e1
    rw [List.length_append, List.length_cons] at hl
    refine ⟨_, rfl, ?_⟩
    (repeat walk_at "s")
    refine take_run (by decide) (by decide) (by omega) fun r r0 r1 => ?_
    (repeat walk_at "s"); walk_at "e"; walk_at "r"
    refine ⟨fun h => ?_, fun h => ?_⟩
    · (repeat walk_at "s")
      exact ⟨rl, done ++ [c], l ++ [c], by rw [e1]; simp, rfl, by rw [e3]; simp, sb.append_right [c], by rw [List.length_append]; simp; omega⟩
    · exact ⟨rl, done ++ [c], l, by rw [e1]; simp, rfl, e3, sb.trans (List.sublist_append_left _ _), by rw [List.length_append]; simp; omega⟩
  · obtain ⟨rl, done, l, e1, e2, e3, sb, hm⟩ := hJ
    have e0 : rl = [] := by cases rl with | nil => rfl | cons c r => cases e2
    subst e0
    rw [List.append_nil] at e1
    rw [← e1] at sb hm
    subst e3
    exact ⟨_, join_sg (Nat.le_trans sb.length_le hz), q l m sb hm⟩
end
section
variable {n : Nat} {Q : PyData → Nat → Prop}
theorem mixed1_run {z : Str} {least : Nat} (hz : (Ls z).length ≤ 1000) (hn : 2 * (Ls z).length ≤ n) (q : ∀ l s m, l.Perm s → s.Sublist (Ls z) → (1 ≤ least → Ls z ≠ [] → l ≠ []) → n ≤ m + 2 * (Ls z).length → Q (.str (tx l)) m) : MD w__law_mixed_v1 [.p, .d (.str z), .d (.int (least : Nat))] n Q := by
  refine md_def rfl rfl ?_
  unfold t__law_mixed_v1
  (repeat walk_at "s")
  refine n_for ?_
  (repeat walk_at "s")
  refine ⟨_, seq_str z, fun rest e m => ∃ (rl done l s : List Nat) (x3 x4 : Option Sl), Ls z = done ++ rl ∧ rest = rl.map sg ∧ e = [some .p, some (.d (.str z)), some (.d (.int (least : Nat))), some (.d (.str (tx l))), x3, x4] ∧ l.Perm s ∧ s.Sublist done ∧ (rl = [] → done ≠ [] → 1 ≤ least → l ≠ []) ∧ n ≤ m + 2 * done.length,
    ⟨Ls z, [], [], [], none, none, rfl, rfl, rfl, List.Perm.refl _, List.Sublist.refl _, fun _ h => absurd rfl h, by simp⟩, fun x rest e m hJ => ?_, fun e m hJ => ?_⟩
  · obtain ⟨rl, done, l, s, x3, x4, e1, e2, rfl, pm, sb, ne, hm⟩ := hJ
    cases rl with
    | nil => cases e2
    | cons c rl =>
    rw [List.map_cons] at e2
    obtain ⟨rfl, rfl⟩ := List.cons.inj e2
    have hl := congrArg List.length e1
    rw [List.length_append, List.length_cons] at hl
    have lp := pm.length_eq
    have ls := sb.length_le
    refine ⟨_, rfl, ?_⟩
    -- the column is put in
    have put : ∀ (m1 : Nat), n ≤ m1 + 2 * done.length + 1 → MS (sSeq (sSet (wCall w__law_take (wAName 0 (wACons (wOp pAdd (w1 pLen (wVar 3)) (wC (.int 1))) wANil))) 5)
        (sSet (wOp pAdd (wOp pAdd (wSl (wVar 3) wNoPart (wPart (wVar 5))) (wVar 4)) (wSl (wVar 3) (wPart (wVar 5)) wNoPart)) 3))
        [some .p, some (.d (.str z)), some (.d (.int (least : Nat))), some (.d (.str (tx l))), some (.d (sg c)), x4] m1
        (fun e2 m2 => ∃ (rl' done l s : List Nat) (x3 x4 : Option Sl), Ls z = done ++ rl' ∧ rl.map sg = rl'.map sg ∧ e2 = [some .p, some (.d (.str z)), some (.d (.int (least : Nat))), some (.d (.str (tx l))), x3, x4] ∧ l.Perm s ∧ s.Sublist done ∧ (rl' = [] → done ≠ [] → 1 ≤ least → l ≠ []) ∧ n ≤ m2 + 2 * done.length)
        Q (fun e m => MS (sRet (wVal 3)) e m (fun x m => Q PyData.none m) Q noEnd noEnd)
        (fun e2 m2 => ∃ (rl' done l s : List Nat) (x3 x4 : Option Sl), Ls z = done ++ rl' ∧ rl.map sg = rl'.map sg ∧ e2 = [some .p, some (.d (.str z)), some (.d (.int (least : Nat))), some (.d (.str (tx l))), x3, x4] ∧ l.Perm s ∧ s.Sublist done ∧ (rl' = [] → done ≠ [] → 1 ≤ least → l ≠ []) ∧ n ≤ m2 + 2 * done.length) := fun m1 hm1 => by
      (repeat walk_at "s")
      refine ⟨_, len_str (by rw [Ls_tx]; omega), ?_⟩
      (repeat walk_at "s")
      refine ⟨.int ((l.length + 1 : Nat) : Int), by rw [Ls_tx]; rfl, ?_⟩
      (repeat walk_at "s")
      refine take_nat (by omega) (by omega) (by omega) fun r hr => ?_
      (repeat walk_at "s")
      refine ⟨_, rfl, ?_⟩
      (repeat walk_at "s")
      refine ⟨_, sl_to (by omega) (by omega), ?_⟩
      (repeat walk_at "s")
      refine ⟨_, add_str (by rw [Ls_tx, List.length_take]; show min r l.length + 1 ≤ _; omega), ?_⟩
      (repeat walk_at "s")
      refine ⟨_, rfl, ?_⟩
      (repeat walk_at "s")
      refine ⟨_, sl_from (by omega) (by omega), ?_⟩
      refine ⟨_, add_str (by rw [Ls_tx, Ls_tx, Ls_tx, List.length_append, List.length_take, List.length_drop]; show min r l.length + 1 + (l.length - r) ≤ _; omega), ?_⟩
      rw [Ls_tx, Ls_tx, Ls_tx]
      refine ⟨rl, done ++ [c], l.take r ++ [c] ++ l.drop r, s ++ [c], _, _, by rw [e1]; simp, rfl, rfl, ?_, sb.append_right [c], fun _ _ _ e => ?_, by rw [List.length_append]; simp; omega⟩
      · have h1 : (l.take r ++ [c] ++ l.drop r).Perm (l.take r ++ l.drop r ++ [c]) := by
          rw [List.append_assoc, List.append_assoc]
          exact List.Perm.append_left _ List.perm_append_comm
        rw [List.take_append_drop] at h1
        exact h1.trans (pm.append_right [c])
      · simp at e
    (repeat walk_at "s")
    refine take_nat (k := 2) (by decide) (by decide) (by omega) fun r hr => ?_
    (repeat walk_at "s"); walk_at "e"; walk_at "r"
    refine ⟨fun h => ?_, fun h => ?_⟩
    · walk_at "t"
      refine put _ ?_
      omega
    · (repeat walk_at "s")
      refine ⟨_, len_str (by rw [Ls_tx]; omega), ?_⟩
      (repeat walk_at "s")
      refine ⟨_, rfl, ?_⟩
      walk_at "r"
      refine ⟨fun h2 => ?_, fun h2 => ?_⟩
      · (repeat walk_at "s")
        refine ⟨_, rfl, ?_⟩
        have zne : Ls z ≠ [] := by rw [e1]; simp
        refine ⟨sg ((Ls z).getLast zne), ?_, ?_⟩
        · have := ix_last (l := Ls z) zne hz
          rwa [tx_Ls] at this
        refine ⟨_, eq_str _ _, ?_⟩
        walk_at "r"
        refine ⟨fun h3 => ?_, fun h3 => ?_⟩
        · refine put _ ?_
          omega
        · walk_at "s"
          refine ⟨rl, done ++ [c], l, s, _, _, by rw [e1]; simp, rfl, rfl, pm, sb.trans (List.sublist_append_left _ _), fun er _ _ => ?_, by rw [List.length_append]; simp; omega⟩
          subst er
          have : (Ls z).getLast zne = c := by simp only [e1]; simp
          rw [this] at h3
          exact absurd rfl (of_decide_eq_false h3)
      · walk_at "f"
        walk_at "s"
        refine ⟨rl, done ++ [c], l, s, _, _, by rw [e1]; simp, rfl, rfl, pm, sb.trans (List.sublist_append_left _ _), fun er _ hl1 el => ?_, by rw [List.length_append]; simp; omega⟩
        subst el
        rw [Ls_tx] at h2
        have h3 : ¬ ((0 : Int) < (least : Int)) := of_decide_eq_false h2
        omega
  · obtain ⟨rl, done, l, s, x3, x4, e1, e2, rfl, pm, sb, ne, hm⟩ := hJ
    have e0 : rl = [] := by cases rl with | nil => rfl | cons c r => cases e2
    subst e0
    rw [List.append_nil] at e1
    rw [← e1] at sb hm ne
    (repeat walk_at "s")
    exact q l s m pm sb (fun h1 h2 => ne rfl h2 h1) hm
end
section
variable {n : Nat} {Q : PyData → Nat → Prop}
abbrev someL : List PyData := [.str "a", .str "z", .str "ab", .str "kx", .str "abc", .str "bmz", .str "acy", .str "abcd", .str "abcde"]
theorem some_ok (i : Nat) (h : i < 9) : ∃ l : List Nat, someL[i]'h = .str (tx l) ∧ l ≠ [] ∧ l.length ≤ 5 ∧ l.Pairwise (· < ·) ∧ (∀ c ∈ l, 97 ≤ c ∧ c < 123) ∧ (i < 2 → l.length ≤ 1) ∧ (i < 4 → l.length ≤ 2) ∧ (i < 7 → l.length ≤ 3) ∧ (i < 8 → l.length ≤ 4) := by
  match i, h with
  | 0, _ => exact ⟨[97], congrArg PyData.str (by decide +kernel), by decide, by decide, by decide, by decide, by decide, by decide, by decide, by decide⟩
  | 1, _ => exact ⟨[122], congrArg PyData.str (by decide +kernel), by decide, by decide, by decide, by decide, by decide, by decide, by decide, by decide⟩
  | 2, _ => exact ⟨[97, 98], congrArg PyData.str (by decide +kernel), by decide, by decide, by decide, by decide, by decide, by decide, by decide, by decide⟩
  | 3, _ => exact ⟨[107, 120], congrArg PyData.str (by decide +kernel), by decide, by decide, by decide, by decide, by decide, by decide, by decide, by decide⟩
  | 4, _ => exact ⟨[97, 98, 99], congrArg PyData.str (by decide +kernel), by decide, by decide, by decide, by decide, by decide, by decide, by decide, by decide⟩
  | 5, _ => exact ⟨[98, 109, 122], congrArg PyData.str (by decide +kernel), by decide, by decide, by decide, by decide, by decide, by decide, by decide, by decide⟩
  | 6, _ => exact ⟨[97, 99, 121], congrArg PyData.str (by decide +kernel), by decide, by decide, by decide, by decide, by decide, by decide, by decide, by decide⟩
  | 7, _ => exact ⟨[97, 98, 99, 100], congrArg PyData.str (by decide +kernel), by decide, by decide, by decide, by decide, by decide, by decide, by decide, by decide⟩
  | 8, _ => exact ⟨[97, 98, 99, 100, 101], congrArg PyData.str (by decide +kernel), by decide, by decide, by decide, by decide, by decide, by decide, by decide, by decide⟩
theorem keys_add {K : List Nat} {keys : List (List Nat)} {p : List Nat} (h : KeysOk K keys) (hp : p.Sublist K ∧ p ≠ []) (hn : p ∉ keys) (few : keys.length ≤ 3) : KeysOk K (keys ++ [p]) := by
  refine ⟨fun q hq => ?_, ?_, by rw [List.length_append]; simp; omega⟩
  · rcases List.mem_append.mp hq with hq | hq
    · exact h.one q hq
    · rw [List.mem_singleton] at hq; subst hq; exact hp
  · rw [List.nodup_append]
    exact ⟨h.nodup, by simp, fun a ha b hb => by rw [List.mem_singleton] at hb; subst hb; intro e; subst e; exact hn ha⟩
theorem slL_to (xs : List PyData) (k : Nat) : eSl none (some (k : Int)) (.list xs) = some (.list (xs.take k)) := by
  show some (PyData.list (cutD xs none (some (k : Int)))) = _
  rw [cutD_to]
abbrev fixR : List Rule := [([100], 101), ([99], 100), ([98], 99), ([], 98)]
abbrev fixY : List (List Nat) := [[97, 98, 99]]
theorem fix_R : RulesOk [97, 98, 99, 100, 101] fixR := ⟨by decide, by decide, by decide⟩
theorem fix_Y : KeysOk [97, 98, 99, 100, 101] fixY := ⟨by decide, by decide, by decide⟩
theorem fix_D : PyData.tuple [.str (tx [97, 98, 99, 100, 101]), .tuple [.tuple [.str "d", .str "e"], .tuple [.str "c", .str "d"], .tuple [.str "b", .str "c"], .tuple [.str "", .str "b"]], .tuple [.str "abc"]] = schD [97, 98, 99, 100, 101] fixR fixY := by rfl
theorem draw_schema1_run {size : Nat} (hs : 1 ≤ size) (hs5 : size ≤ 5) (hn : 100 ≤ n) (q : ∀ K rules keys m, ColsOk K → (∀ c ∈ K, 97 ≤ c ∧ c < 123) → K.length ≤ size → RulesOk K rules → rules.length ≤ 4 → KeysOk K keys → keys.length ≤ 2 → n ≤ m + 100 → Q (schD K rules keys) m) : MD w__law_draw_schema_v1 [.p, .d (.int (size : Nat))] n Q := by
  refine md_def rfl rfl ?_
  unfold t__law_draw_schema_v1
  (repeat walk_at "s")
  refine ⟨by show 9 ≤ sizeLine; decide, ?_⟩
  (repeat walk_at "s")
  refine ⟨by show 5 ≤ sizeLine; decide, ?_⟩
  (repeat walk_at "s")
  refine ⟨.int ((size - 1 : Nat) : Int), by show some (PyData.int ((size : Int) - 1)) = _; rw [Int.natCast_sub hs]; rfl, ?_⟩
  refine ⟨_, ix_ints (ns := [2, 4, 7, 8, 9]) (show size - 1 < 5 by omega), ?_⟩
  have hc : ∃ c : Nat, ([2, 4, 7, 8, 9] : List Int)[size - 1]'(show size - 1 < 5 by omega) = (c : Int) ∧ 1 ≤ c ∧ c ≤ 9 ∧ ∀ i < c, ∀ l : List Nat, (i < 2 → l.length ≤ 1) → (i < 4 → l.length ≤ 2) → (i < 7 → l.length ≤ 3) → (i < 8 → l.length ≤ 4) → l.length ≤ 5 → l.length ≤ size := by
    match size, hs, hs5 with
    | 1, _, _ => exact ⟨2, rfl, by omega, by omega, fun i hi l h1 h2 h3 h4 h5 => h1 hi⟩
    | 2, _, _ => exact ⟨4, rfl, by omega, by omega, fun i hi l h1 h2 h3 h4 h5 => h2 hi⟩
    | 3, _, _ => exact ⟨7, rfl, by omega, by omega, fun i hi l h1 h2 h3 h4 h5 => h3 hi⟩
    | 4, _, _ => exact ⟨8, rfl, by omega, by omega, fun i hi l h1 h2 h3 h4 h5 => h4 hi⟩
    | 5, _, _ => exact ⟨9, rfl, by omega, by omega, fun i hi l h1 h2 h3 h4 h5 => h5⟩
  obtain ⟨cnt, ec, c1, c9, fits⟩ := hc
  rw [ec]
  refine ⟨_, rfl, ?_⟩
  refine ⟨_, slL_to _ _, ?_⟩
  have lt : (someL.take cnt).length = cnt := by rw [List.length_take]; show min cnt 9 = cnt; omega
  (repeat walk_at "s")
  refine one_list (xs := someL.take cnt) (by omega) (by omega) (by omega) fun i hi => ?_
  rw [lt] at hi
  have hi9 : i < 9 := by omega
  have e9 : (someL.take cnt)[i]'(by rw [lt]; exact hi) = someL[i]'hi9 := List.getElem_take
  rw [e9]
  obtain ⟨K, eK, ne, l5, asc, low, f1, f2, f3, f4⟩ := some_ok i hi9
  rw [eK]
  have hK : ColsOk K := ⟨asc, l5, ne, fun c hc => by have := low c hc; omega⟩
  have hKs : K.length ≤ size := fits i hi K f1 f2 f3 f4 l5
  have hKp : 0 < K.length := List.length_pos_iff.mpr ne
  (repeat walk_at "s")
  refine ⟨Nat.zero_le _, ?_⟩
  (repeat walk_at "s")
  refine ⟨Nat.zero_le _, ?_⟩
  (repeat walk_at "s")
  refine ⟨_, eq_str _ _, ?_⟩
  walk_at "r"
  -- the keys, whatever the rules are
  have keysOf : ∀ (rules : List Rule) (m : Nat) (x6 x7 x8 : Option Sl), RulesOk K rules → rules.length ≤ 4 → n ≤ m + 40 → MS (sSeq (sFor (wRng1 (wCall w__law_one_of (wAName 0 (wACons (fz (wLst (wCons (wC (.int 0)) (wCons (wC (.int 0)) (wCons (wC (.int 1)) (wCons (wC (.int 1)) (wCons (wC (.int 2)) wNil))))))) wANil)))) (.nm 6)
      (sSeq (sSet (wCall w__law_some (wAName 0 (wAName 3 wANil))) 9)
      (sSet (wOp pAdd (wVar 5) (wOp pMulT (fz (wLst (wCons (wVal 9) wNil))) (w1 pInt (wAndE (wOp pNe2 (wVar 9) (wC (.str ""))) (wOp (pIn2 true) (wVar 9) (wVar 5)))))) 5)))
      (sRet (wTup (wCons (wVal 3) (wCons (w1 pTupA (wVar 4)) (wCons (w1 pTupA (wVar 5)) wNil))))))
      [some .p, some (.d (.int (size : Nat))), some (.d (.list someL)), some (.d (.str (tx K))), some (.d (.list (rules.map ruD))), some (.d (.list [])), x6, x7, x8, none] m (fun x m => Q PyData.none m) Q noEnd noEnd := fun rules m x6 x7 x8 ok ok4 hm => by
    walk_at "s"
    refine n_for ?_
    (repeat walk_at "s")
    refine ⟨by show 5 ≤ sizeLine; decide, ?_⟩
    (repeat walk_at "s")
    refine one_list (xs := [.int 0, .int 0, .int 1, .int 1, .int 2]) (by decide) (by decide) (by omega) fun r4 h4 => ?_
    have hj : ∃ j : Nat, ([.int 0, .int 0, .int 1, .int 1, .int 2] : List PyData)[r4]'h4 = .int (j : Int) ∧ j ≤ 2 := by
      match r4, h4 with
      | 0, _ => exact ⟨0, rfl, by omega⟩
      | 1, _ => exact ⟨0, rfl, by omega⟩
      | 2, _ => exact ⟨1, rfl, by omega⟩
      | 3, _ => exact ⟨1, rfl, by omega⟩
      | 4, _ => exact ⟨2, rfl, by omega⟩
    obtain ⟨j, ej, hj⟩ := hj
    rw [ej]
    refine ⟨_, rfl, by omega, by omega, fun rest e m => ∃ (keys : List (List Nat)) (x6 x9 : Option Sl), rest.length + keys.length ≤ 2 ∧ KeysOk K keys ∧ n ≤ m + 41 + (2 - rest.length) * 10 ∧
        e = [some .p, some (.d (.int (size : Nat))), some (.d (.list someL)), some (.d (.str (tx K))), some (.d (.list (rules.map ruD))), some (.d (.list (keys.map keD))), x6, x7, x8, x9],
      ⟨[], x6, none, by rw [Int.toNat_natCast, rng_len]; simpa using hj, ⟨by simp, by simp, by simp⟩, by omega, rfl⟩, fun x rest e m hI => ?_, fun e m hI => ?_⟩
    · obtain ⟨keys, x6, x9, few, okk, hm, rfl⟩ := hI
      rw [List.length_cons] at few hm
      refine ⟨_, rfl, ?_⟩
      (repeat walk_at "s")
      refine some_run (by rw [Ls_tx]; omega) (by rw [Ls_tx]; omega) fun l m2 sl hm2 => ?_
      rw [Ls_tx] at sl hm2
      have ll := sl.length_le
      (repeat walk_at "s")
      refine ⟨by show 1 ≤ sizeLine; decide, ?_⟩
      (repeat walk_at "s")
      refine ⟨_, ne2_str _ _, ?_⟩
      have same : ∃ (keys2 : List (List Nat)) (x6 x9 : Option Sl), rest.length + keys2.length ≤ 2 ∧ KeysOk K keys2 ∧ n ≤ m2 + 41 + (2 - rest.length) * 10 ∧
          [some Sl.p, some (.d (.int (size : Nat))), some (.d (.list someL)), some (.d (.str (tx K))), some (.d (.list (rules.map ruD))), some (.d (.list (keys.map keD ++ []))), some (.d x), x7, x8, some (.d (.str (tx l)))] =
          [some .p, some (.d (.int (size : Nat))), some (.d (.list someL)), some (.d (.str (tx K))), some (.d (.list (rules.map ruD))), some (.d (.list (keys2.map keD))), x6, x7, x8, x9] :=
        ⟨keys, _, _, by omega, okk, by omega, by rw [List.append_nil]⟩
      refine ⟨_, rfl, fun h => ?_, fun h => ?_⟩
      · have lne : l ≠ [] := fun e => by
          subst e
          exact Bool.noConfusion h
        (repeat walk_at "s")
        refine ⟨_, in_keys l keys, ?_⟩
        refine ⟨_, rfl, ?_⟩
        refine ⟨_, mulT_tst _ (by simp), ?_⟩
        rw [Bool.true_xor]
        by_cases hin : l ∈ keys
        · rw [decide_eq_true hin]
          refine ⟨_, add_lst (by simp; omega), ?_⟩
          exact same
        · rw [decide_eq_false hin]
          refine ⟨_, add_lst (by simp; omega), ?_⟩
          refine ⟨keys ++ [l], some (.d x), some (.d (.str (tx l))), by rw [List.length_append]; simp; omega, keys_add okk ⟨sl, lne⟩ hin (by omega), by omega, ?_⟩
          rw [List.map_append]
          rfl
      · rw [h]
        refine ⟨_, rfl, ?_⟩
        refine ⟨_, mulT_tst false (by simp), ?_⟩
        refine ⟨_, add_lst (by simp; omega), ?_⟩
        exact same
    · obtain ⟨keys, x6, x9, few, okk, hm, rfl⟩ := hI
      (repeat walk_at "s")
      refine ⟨_, rfl, ?_⟩
      (repeat walk_at "s")
      refine ⟨_, rfl, ?_⟩
      (repeat walk_at "s")
      exact ⟨by show 3 ≤ sizeLine; decide, q K rules keys m hK low hKs ok ok4 okk (by simpa using few) (by simp at hm; omega)⟩
  -- the rules, one after another
  have rulesOf : ∀ (m : Nat), n ≤ m + 4 → MS (sSeq (sFor (wRng1 (wCall w__law_take (wAName 0 (wACons (wC (.int 4)) wANil)))) (.nm 6)
      (sOne 0 3 7 w__law_take (sSeq (sSet (wTup (wCons (wCallPR w__law_some 0 (wRepl 3 7)) (wCons (wVal 7) wNil))) 8)
      (sSet (wOp pAdd (wVar 4) (wOp pMulT (fz (wLst (wCons (wVal 8) wNil))) (w1 pInt (wOp (pIn2 true) (wVar 8) (wVar 4))))) 4))))
      (sSeq (sFor (wRng1 (wCall w__law_one_of (wAName 0 (wACons (fz (wLst (wCons (wC (.int 0)) (wCons (wC (.int 0)) (wCons (wC (.int 1)) (wCons (wC (.int 1)) (wCons (wC (.int 2)) wNil))))))) wANil)))) (.nm 6)
      (sSeq (sSet (wCall w__law_some (wAName 0 (wAName 3 wANil))) 9)
      (sSet (wOp pAdd (wVar 5) (wOp pMulT (fz (wLst (wCons (wVal 9) wNil))) (w1 pInt (wAndE (wOp pNe2 (wVar 9) (wC (.str ""))) (wOp (pIn2 true) (wVar 9) (wVar 5)))))) 5)))
      (sRet (wTup (wCons (wVal 3) (wCons (w1 pTupA (wVar 4)) (wCons (w1 pTupA (wVar 5)) wNil)))))))
      [some .p, some (.d (.int (size : Nat))), some (.d (.list someL)), some (.d (.str (tx K))), some (.d (.list [])), some (.d (.list [])), none, none, none, none] m (fun x m => Q PyData.none m) Q noEnd noEnd := fun m hm => by
    walk_at "s"
    refine n_for ?_
    (repeat walk_at "s")
    refine take_nat (k := 4) (by decide) (by decide) (by omega) fun j hj => ?_
    refine ⟨_, rfl, by omega, by omega, fun rest e m => ∃ (rules : List Rule) (x6 x7 x8 : Option Sl), rest.length + rules.length ≤ 3 ∧ RulesOk K rules ∧ n ≤ m + 5 + (3 - rest.length) * 10 ∧
        e = [some .p, some (.d (.int (size : Nat))), some (.d (.list someL)), some (.d (.str (tx K))), some (.d (.list (rules.map ruD))), some (.d (.list [])), x6, x7, x8, none],
      ⟨[], none, none, none, by rw [Int.toNat_natCast, rng_len]; simp; omega, ⟨by simp, by simp, by simp⟩, by omega, rfl⟩, fun x rest e m hI => ?_, fun e m hI => ?_⟩
    · obtain ⟨rules, x6, x7, x8, few, ok, hm, rfl⟩ := hI
      rw [List.length_cons] at few hm
      refine ⟨_, rfl, ?_⟩
      refine n_one (z := tx K) rfl rfl (by rw [Ls_tx]; omega) ?_
      rw [Ls_tx]
      refine take_nat hKp (by omega) (by omega) fun i hi => ?_
      refine ⟨_, K[i], rfl, atI_nat (List.getElem?_eq_getElem hi), ?_⟩
      (repeat walk_at "s")
      refine m_callPR rfl (m_repl (z := tx K) (c := K[i]) rfl rfl (by rw [Ls_tx]; omega) ?_)
      rw [Ls_tx]
      refine some_run (by rw [Ls_tx]; exact Nat.le_trans (List.length_filter_le _ _) (by omega)) (by rw [Ls_tx]; have := List.length_filter_le (fun d => decide (d ≠ K[i])) K; omega) fun l m2 sl hm2 => ?_
      rw [Ls_tx] at sl hm2
      have hfl := List.length_filter_le (fun d => decide (d ≠ K[i])) K
      have pok : l.Sublist K ∧ K[i] ∈ K ∧ K[i] ∉ l := ⟨sl.trans List.filter_sublist, List.getElem_mem _, fun h => by
        have := (List.mem_filter.mp (sl.subset h)).2
        simp at this⟩
      (repeat walk_at "s")
      refine ⟨by show 2 ≤ sizeLine; decide, ?_⟩
      (repeat walk_at "s")
      refine ⟨by show 1 ≤ sizeLine; decide, ?_⟩
      (repeat walk_at "s")
      refine ⟨_, in_rules (l, K[i]) rules, ?_⟩
      refine ⟨_, rfl, ?_⟩
      refine ⟨_, mulT_tst _ (by simp), ?_⟩
      rw [Bool.true_xor]
      by_cases hin : (l, K[i]) ∈ rules
      · rw [decide_eq_true hin]
        refine ⟨_, add_lst (by simp; omega), ?_⟩
        refine ⟨rules, _, _, _, by omega, ok, by omega, by rw [show (if (!true) = true then [PyData.tuple [.str (tx l), .str ⟨#[K[i]]⟩]] else []) = [] from rfl, List.append_nil]; rfl⟩
      · rw [decide_eq_false hin]
        refine ⟨_, add_lst (by simp; omega), ?_⟩
        refine ⟨rules ++ [(l, K[i])], some (.d x), some (.d (sg K[i])), some (.d (ruD (l, K[i]))), by rw [List.length_append]; simp; omega, ok.add pok hin (by omega), by omega, ?_⟩
        rw [List.map_append]
        rfl
    · obtain ⟨rules, x6, x7, x8, few, ok, hm, rfl⟩ := hI
      refine keysOf rules _ _ _ _ ok (by simp at few; omega) ?_
      simp at hm
      omega
  refine ⟨fun h => ?_, fun h => ?_⟩
  · (repeat walk_at "s")
    refine take_nat (k := 2) (by decide) (by decide) (by omega) fun r hr => ?_
    (repeat walk_at "s"); walk_at "e"; walk_at "r"
    refine ⟨fun h2 => ?_, fun h2 => ?_⟩
    · have eKz : tx K = Str.ofString "abcde" := of_decide_eq_true h
      have eK2 : K = [97, 98, 99, 100, 101] := by
        have := congrArg Ls eKz
        rw [Ls_tx] at this
        rw [this]
        decide +kernel
      subst eK2
      (repeat walk_at "s")
      refine ⟨by show 2 ≤ sizeLine; decide, ?_⟩
      (repeat walk_at "s")
      refine ⟨by show 2 ≤ sizeLine; decide, ?_⟩
      (repeat walk_at "s")
      refine ⟨by show 2 ≤ sizeLine; decide, ?_⟩
      (repeat walk_at "s")
      refine ⟨by show 2 ≤ sizeLine; decide, ?_⟩
      (repeat walk_at "s")
      refine ⟨by show 4 ≤ sizeLine; decide, ?_⟩
      (repeat walk_at "s")
      refine ⟨by show 1 ≤ sizeLine; decide, ?_⟩
      (repeat walk_at "s")
      refine ⟨by show 3 ≤ sizeLine; decide, ?_⟩
      rw [fix_D]
      exact q _ _ _ _ hK low hKs fix_R (by decide) fix_Y (by decide) (by omega)
    · walk_at "s"
      refine rulesOf _ ?_
      omega
  · refine ⟨fun h2 => Bool.noConfusion h2, fun _ => ?_⟩
    walk_at "s"
    refine rulesOf _ ?_
    omega
end
def StpFull (K : List Nat) : Stp → Prop
  | .whr c v => c ∈ K ∧ v.natAbs ≤ 100000
  | .srt _ p => (∀ c ∈ p, c ∈ K) ∧ p.Nodup ∧ p ≠ []
  | .cut _ n => n ≤ 20
  | .col l => l.Sublist K ∧ l ≠ []
  | .grp _ _ => False
def isSrtS : Stp → Bool
  | .srt _ _ => true
  | _ => false
def isCutS : Stp → Bool
  | .cut _ _ => true
  | _ => false
/-- steps one behind another, no sort behind a cut -/
def Prg : List Nat → Bool → List Stp → Prop
  | _, _, [] => True
  | K, cut, s :: r => StpFull K s ∧ (cut && isSrtS s) = false ∧ Prg (keptL K s) (cut || isCutS s) r
def cutR (c : Bool) (sts : List Stp) : Bool := c || sts.any isCutS
def FinFull (l : List Nat) : Fin → Prop
  | .non => True
  | .cnt g => g.Sublist l ∧ g ≠ []
  | .sum g c => g.Sublist l ∧ g ≠ [] ∧ c ∈ l ∧ c ∉ g
  | .hds g => g.Sublist l ∧ g ≠ []
section
variable {K : List Nat} {sts : List Stp} {st : Stp} {cut : Bool}
theorem StpFull.ok (h : StpFull K st) : StpOk K st ∧ StpSm st ∧ isG st = false := by
  cases st with
  | whr c v => exact ⟨h.1, h.2, rfl⟩
  | srt b p => exact ⟨⟨h.1, h.2.1⟩, trivial, rfl⟩
  | cut b n => exact ⟨trivial, Nat.le_trans h (by decide), rfl⟩
  | col l => exact ⟨h.1, trivial, rfl⟩
  | grp w r => exact h.elim
theorem StpFull.kept (hK : ColsOk K) (h : StpFull K st) : ColsOk (keptL K st) ∧ (keptL K st).Sublist K := by
  cases st with
  | col l => exact ⟨sub_cols hK h.1 h.2, h.1⟩
  | grp w r => exact h.elim
  | _ => exact ⟨hK, List.Sublist.refl _⟩
theorem prg_ok : ∀ {sts : List Stp} {K : List Nat} {cut : Bool}, Prg K cut sts → ColsOk K → (∀ st ∈ sts, StpOk K st ∧ StpSm st ∧ isG st = false) ∧ ColsOk (keptR K sts) ∧ (keptR K sts).Sublist K
  | [], _, _, _, hK => ⟨fun _ h => (nomatch h), hK, List.Sublist.refl _⟩
  | s :: r, K, cut, ⟨h1, _, h3⟩, hK => by
    obtain ⟨k1, k2⟩ := h1.kept hK
    obtain ⟨a, b, c⟩ := prg_ok h3 k1
    refine ⟨fun st hst => ?_, b, c.trans k2⟩
    rcases List.mem_cons.mp hst with rfl | hst
    · exact h1.ok
    · exact ⟨(a st hst).1.mono k2, (a st hst).2⟩
theorem prg_snoc : ∀ {sts : List Stp} {K : List Nat} {cut : Bool}, Prg K cut sts → StpFull (keptR K sts) st → (cutR cut sts && isSrtS st) = false → Prg K cut (sts ++ [st])
  | [], K, cut, _, h, hc => by
    refine ⟨h, ?_, trivial⟩
    simpa [cutR] using hc
  | s :: r, K, cut, ⟨h1, h2, h3⟩, h, hc => by
    refine ⟨h1, h2, prg_snoc h3 h ?_⟩
    simpa [cutR, Bool.or_assoc] using hc
theorem cut_snoc : cutR cut (sts ++ [st]) = (cutR cut sts || isCutS st) := by simp [cutR, Bool.or_assoc]
end
structure DRep1 (K : List Nat) (most : Nat) (grp : Bool) (xs : List PyData) : Prop where
  ex : ∃ (sts : List Stp) (f : Fin), xs = (sts ++ finS f).map stpD ∧ (sts ++ finS f).length ≤ most ∧ Prg K false sts ∧ FinFull (keptR K sts) f ∧ (grp = false → f = .non)
section
variable {n : Nat} {Q : PyData → Nat → Prop} {K : List Nat} {sr : List PyData}
theorem draw_step1_run {b : Bool} (hK : ColsOk K) (hn : 40 ≤ n) (q : ∀ st m, StpFull K st → (b && isSrtS st) = false → n ≤ m + 40 → Q (stpD st) m) : MD w__law_draw_step_v1 [.p, .d (.str (tx K)), .d (.bool b)] n Q := by
  have h5 := hK.few
  have hKp : 0 < K.length := List.length_pos_iff.mpr hK.some
  refine md_def rfl rfl ?_
  unfold t__law_draw_step_v1
  (repeat walk_at "s")
  refine take_nat (k := 9) (by decide) (by decide) (by omega) fun way hway => ?_
  have rest : ∀ m, n ≤ m + 1 → MS (sSeq (sIf (wTt (wOp pLt (wVar 3) (wC (.int 6))))
      (sRet (wTup (wCons (wC (.str "where")) (wCons (wCall w__law_one_of (wAName 0 (wAName 1 wANil))) (wCons (wCall w__law_one_of (wAName 0 (wACons (fz (wLst (wCons (wC (.int 0)) (wCons (wC (.int 0)) (wCons (wC (.int 1)) (wCons (wC (.int 1)) (wCons (wC (.int 2)) (wCons (wC (.int 9)) (wCons (wC (.int 10)) (wCons (wNeg (wC (.int 2))) (wCons (wNeg (wC (.int 1000))) (wCons (wC (.int 257)) wNil)))))))))))) wANil))) wNil)))))
      sNext)
      (sSeq (sIf (wTt (wOp pEq2 (wVar 3) (wC (.int 6))))
      (sRet (wTup (wCons (wC (.str "columns")) (wCons (wOrE (wCall w__law_some (wAName 0 (wAName 1 wANil))) (wCall w__law_one_of (wAName 0 (wAName 1 wANil)))) wNil))))
      sNext)
      (sRet (wTup (wCons (wOp pIx (fz (wLst (wCons (wC (.str "first")) (wCons (wC (.str "skip")) wNil)))) (wOp pSub (wVar 3) (wC (.int 7)))) (wCons (wCall w__law_one_of (wAName 0 (wACons (fz (wLst (wCons (wC (.int 0)) (wCons (wC (.int 1)) (wCons (wC (.int 1)) (wCons (wC (.int 2)) (wCons (wC (.int 2)) (wCons (wC (.int 3)) (wCons (wC (.int 4)) (wCons (wC (.int 6)) wNil)))))))))) wANil))) wNil))))))
      [some .p, some (.d (.str (tx K))), some (.d (.bool b)), some (.d (.int (way : Nat)))] m (fun x m => Q PyData.none m) Q noEnd noEnd := fun m hm => by
    walk_at "s"; walk_at "s"
    (repeat walk_at "s")
    refine ⟨_, rfl, ?_⟩
    walk_at "r"
    refine ⟨fun h => ?_, fun h => ?_⟩
    · (repeat walk_at "s")
      refine one_str hKp (by omega) (by omega) fun i hi => ?_
      (repeat walk_at "s")
      refine ⟨_, rfl, ?_⟩
      (repeat walk_at "s")
      refine ⟨_, rfl, ?_⟩
      (repeat walk_at "s")
      refine ⟨by show 10 ≤ sizeLine; decide, ?_⟩
      (repeat walk_at "s")
      refine one_list (xs := ([0, 0, 1, 1, 2, 9, 10, -2, -1000, 257] : List Int).map .int) (by decide) (by decide) (by omega) fun j hj => ?_
      have hv : ∃ v : Int, (([0, 0, 1, 1, 2, 9, 10, -2, -1000, 257] : List Int).map PyData.int)[j]'hj = .int v ∧ v.natAbs ≤ 100000 := by
        rw [List.getElem_map]
        refine ⟨_, rfl, ?_⟩
        have hm := List.getElem_mem (l := ([0, 0, 1, 1, 2, 9, 10, -2, -1000, 257] : List Int)) (n := j) (by simpa using hj)
        revert hm
        generalize ([0, 0, 1, 1, 2, 9, 10, -2, -1000, 257] : List Int)[j]'_ = v
        intro hm
        simp at hm
        omega
      obtain ⟨v, ev, hv⟩ := hv
      rw [ev]
      (repeat walk_at "s")
      exact ⟨by show 3 ≤ sizeLine; decide, q (.whr K[i] v) _ ⟨List.getElem_mem hi, hv⟩ (by simp [isSrtS]) (by omega)⟩
    · walk_at "s"
      walk_at "s"
      (repeat walk_at "s"); walk_at "e"; walk_at "r"
      refine ⟨fun h2 => ?_, fun h2 => ?_⟩
      · (repeat walk_at "s")
        refine some_run (by rw [Ls_tx]; omega) (by rw [Ls_tx]; omega) fun l m2 sl hm2 => ?_
        rw [Ls_tx] at sl hm2
        have hl := sl.length_le
        refine ⟨_, tru_str (by rw [Ls_tx]; omega), fun h => ?_, fun h => ?_⟩
        · rw [Ls_tx] at h
          (repeat walk_at "s")
          exact ⟨by show 2 ≤ sizeLine; decide, q (.col l) _ ⟨sl, fun e => by subst e; cases h⟩ (by simp [isSrtS]) (by omega)⟩
        · (repeat walk_at "s")
          refine one_str hKp (by omega) (by omega) fun i hi => ?_
          (repeat walk_at "s")
          exact ⟨by show 2 ≤ sizeLine; decide, q (.col [K[i]]) _ ⟨List.singleton_sublist.mpr (List.getElem_mem hi), by simp⟩ (by simp [isSrtS]) (by omega)⟩
      · walk_at "s"
        (repeat walk_at "s")
        refine ⟨by show 2 ≤ sizeLine; decide, ?_⟩
        have w7 : way = 7 ∨ way = 8 := by
          have a : ¬ ((way : Int) < 6) := of_decide_eq_false h
          have b : ¬ ((way : Int) = 6) := of_decide_eq_false h2
          omega
        (repeat walk_at "s")
        refine ⟨.int ((way - 7 : Nat) : Int), by show some (PyData.int ((way : Int) - 7)) = _; rw [Int.natCast_sub (by omega)]; rfl, ?_⟩
        refine ⟨_, ix_nat (show way - 7 < 2 by omega), ?_⟩
        (repeat walk_at "s")
        refine ⟨by show 8 ≤ sizeLine; decide, ?_⟩
        (repeat walk_at "s")
        refine one_list (xs := ([0, 1, 1, 2, 2, 3, 4, 6] : List Nat).map fun (i : Nat) => PyData.int (i : Int)) (by decide) (by decide) (by omega) fun j hj => ?_
        rw [List.getElem_map]
        have hm := List.getElem_mem (l := ([0, 1, 1, 2, 2, 3, 4, 6] : List Nat)) (n := j) (by simpa using hj)
        revert hm
        generalize ([0, 1, 1, 2, 2, 3, 4, 6] : List Nat)[j]'_ = v
        intro hm
        have hv : v ≤ 20 := by simp at hm; omega
        (repeat walk_at "s")
        refine ⟨by show 2 ≤ sizeLine; decide, ?_⟩
        rcases w7 with rfl | rfl
        · exact q (.cut true v) _ hv (by simp [isSrtS]) (by omega)
        · exact q (.cut false v) _ hv (by simp [isSrtS]) (by omega)
  (repeat walk_at "s")
  refine ⟨_, rfl, ?_⟩
  walk_at "r"
  refine ⟨fun h => ?_, fun h => ?_⟩
  · have hw4 : way < 4 := by have := of_decide_eq_true h; omega
    (repeat walk_at "s"); walk_at "r"
    have srt : ∀ m, b = false → n ≤ m + 1 → MS (sRet (wTup (wCons (wOp pIx (fz (wLst (wCons (wC (.str "sort")) (wCons (wC (.str "sort")) (wCons (wC (.str "sort")) (wCons (wC (.str "stable")) wNil)))))) (wVar 3)) (wCons (wCall w__law_mixed_v1 (wAName 0 (wAName 1 (wACons (wC (.int 1)) wANil)))) wNil))))
        [some .p, some (.d (.str (tx K))), some (.d (.bool b)), some (.d (.int (way : Nat)))] m noEnd Q noEnd noEnd := fun m hb hm => by
      subst hb
      (repeat walk_at "s")
      refine ⟨by show 4 ≤ sizeLine; decide, ?_⟩
      (repeat walk_at "s")
      have hw : ∃ w : Str, ([.str "sort", .str "sort", .str "sort", .str "stable"] : List PyData)[way]'hw4 = .str w ∧ (w = Str.ofString "sort" ∨ w = Str.ofString "stable") := by
        match way, hw4 with
        | 0, _ => exact ⟨_, rfl, .inl rfl⟩
        | 1, _ => exact ⟨_, rfl, .inl rfl⟩
        | 2, _ => exact ⟨_, rfl, .inl rfl⟩
        | 3, _ => exact ⟨_, rfl, .inr rfl⟩
      obtain ⟨w, ew, hw⟩ := hw
      refine ⟨_, ix_nat hw4, ?_⟩
      rw [ew]
      (repeat walk_at "s")
      refine mixed1_run (least := 1) (by rw [Ls_tx]; omega) (by rw [Ls_tx]; omega) fun l s m2 pm sb ne hm2 => ?_
      rw [Ls_tx] at sb ne hm2
      have full : (∀ c ∈ l, c ∈ K) ∧ l.Nodup ∧ l ≠ [] := ⟨fun c hc => sb.subset (pm.mem_iff.mp hc), pm.symm.nodup ((hK.asc.imp fun q => Nat.ne_of_lt q).sublist sb), ne (Nat.le_refl _) hK.some⟩
      (repeat walk_at "s")
      refine ⟨by show 2 ≤ sizeLine; decide, ?_⟩
      rcases hw with rfl | rfl
      · exact q (.srt false l) _ full (by simp) (by omega)
      · exact q (.srt true l) _ full (by simp) (by omega)
    refine ⟨fun hb => ?_, fun hb => ?_⟩
    · exact (srt _ (by cases b with | false => rfl | true => cases hb) (by omega)).mid (fun _ _ h => h.elim) fun _ _ h => h
    · walk_at "s"
      refine rest _ ?_
      omega
  · refine ⟨fun h2 => Bool.noConfusion h2, fun _ => ?_⟩
    walk_at "s"
    refine rest _ ?_
    omega
end
section
variable {n : Nat} {Q : PyData → Nat → Prop} {K : List Nat} {sr : List PyData}
theorem in_cut (st : Stp) (h : StpFull K st) : ∃ w r, stpD st = .tuple (w :: r) ∧ eIn false w (.tuple [.str "first", .str "skip"]) = some (.bool (isCutS st)) := by
  have no : ∀ w ∈ (["where", "sort", "stable", "columns"] : List Str), (false ^^ isOf ["first", "skip"] (.str w)) = false := by decide +kernel
  have yes : ∀ w ∈ (["first", "skip"] : List Str), (false ^^ isOf ["first", "skip"] (.str w)) = true := by decide +kernel
  cases st with
  | whr c v => exact ⟨_, _, rfl, (in_tup ["first", "skip"] _).trans (congrArg (fun b => some (PyData.bool b)) (no "where" (by decide +kernel)))⟩
  | srt b p => cases b with
    | true => exact ⟨_, _, rfl, (in_tup ["first", "skip"] _).trans (congrArg (fun b => some (PyData.bool b)) (no "stable" (by decide +kernel)))⟩
    | false => exact ⟨_, _, rfl, (in_tup ["first", "skip"] _).trans (congrArg (fun b => some (PyData.bool b)) (no "sort" (by decide +kernel)))⟩
  | cut b i => cases b with
    | true => exact ⟨_, _, rfl, (in_tup ["first", "skip"] _).trans (congrArg (fun b => some (PyData.bool b)) (yes "first" (by decide +kernel)))⟩
    | false => exact ⟨_, _, rfl, (in_tup ["first", "skip"] _).trans (congrArg (fun b => some (PyData.bool b)) (yes "skip" (by decide +kernel)))⟩
  | col l => exact ⟨_, _, rfl, (in_tup ["first", "skip"] _).trans (congrArg (fun b => some (PyData.bool b)) (no "columns" (by decide +kernel)))⟩
  | grp w r => exact h.elim
theorem cut_expr {env : En} {i j : Nat} {st : Stp} {b : Bool} (so : StpFull K st) (hi : vVar i env = some (stpD st)) (hj : vVal j env = some (.bool b)) (q : Q (.bool (b || isCutS st)) n) :
    ME (wOrE (wVal j) (wOp (pIn2 false) (wOp pIx (wVar i) (wC (.int 0))) (wTup (wCons (wC (.str "first")) (wCons (wC (.str "skip")) wNil))))) env n Q := by
  walk_at "s"
  refine m_val hj ?_
  refine ⟨b, rfl, fun h => ?_, fun h => ?_⟩
  · subst h; exact q
  · subst h
    walk_at "s"; walk_at "s"
    refine m_var hi ?_
    obtain ⟨w, r, e1, e2⟩ := in_cut st so
    rw [e1]
    (repeat walk_at "s")
    refine ⟨_, ix_t0 _ _, ?_⟩
    (repeat walk_at "s")
    refine ⟨by show 2 ≤ sizeLine; decide, ?_⟩
    exact ⟨_, e2, q⟩
theorem draw_report1_run {most : Nat} {grp : Bool} (hK : ColsOk K) (hm : most ≤ 8) (hn : 600 ≤ n) (q : ∀ xs m, DRep1 K most grp xs → n ≤ m + 600 → Q (.tuple xs) m) :
    MD w__law_draw_report_v1 [.p, .d (.tuple (.str (tx K) :: sr)), .d (.int (most : Nat)), .d (.bool grp)] n Q := by
  have h5 := hK.few
  refine md_def rfl rfl ?_
  unfold t__law_draw_report_v1
  walk_at "s"
  refine n_parF3 ?_
  (repeat walk_at "s")
  refine ⟨Nat.zero_le _, ?_⟩
  (repeat walk_at "s")
  refine ⟨_, ix_t0 _ _, ?_⟩
  (repeat walk_at "s")
  refine n_for ?_
  (repeat walk_at "s")
  refine ⟨.int ((most + 1 : Nat) : Int), rfl, ?_⟩
  (repeat walk_at "s")
  refine take_nat (k := most + 1) (by omega) (by omega) (by omega) fun j hj => ?_
  refine ⟨_, rfl, by omega, by omega, fun rest e m => ∃ (k : Nat) (sts : List Stp) (l : List Nat) (x7 x8 : Option Sl), rest = (rngD 0 j).drop k ∧ sts.length = k ∧ k ≤ j ∧ keptR K sts = l ∧ Prg K false sts ∧ ColsOk l ∧ l.Sublist K ∧ n ≤ m + 1 + k * 40 ∧
      e = [some .p, some (.d (.tuple (.str (tx K) :: sr))), some (.d (.int (most : Nat))), some (.d (.bool grp)), some (.l (sts.map stpD)), some (.d (.str (tx l))), some (.d (.bool (cutR false sts))), x7, x8, none, none, none, none],
    ⟨0, [], K, none, none, by rw [Int.toNat_natCast]; rfl, rfl, by omega, rfl, trivial, hK, List.Sublist.refl _, by omega, rfl⟩, fun x rest e m hI => ?_, fun e m hI => ?_⟩
  · obtain ⟨k, sts, l, x7, x8, er, lx, kj, ekp, prg, hl, lK, hmm, rfl⟩ := hI
    obtain ⟨ex, er2, hkj⟩ := rng_at j er
    rw [Int.zero_add] at ex
    subst ex
    refine ⟨_, rfl, ?_⟩
    (repeat walk_at "s")
    refine draw_step1_run (b := cutR false sts) hl (by omega) fun st m2 full nosrt hm2 => ?_
    obtain ⟨hk, ks⟩ := full.kept hl
    obtain ⟨so, sm, ng⟩ := full.ok
    walk_at "s"; walk_at "s"
    refine kept_expr (K := l) (st := st) so ng rfl rfl ?_
    walk_at "s"; walk_at "s"
    refine cut_expr full rfl rfl ?_
    refine n_app rfl ?_
    walk_at "s"
    refine ⟨by rw [List.length_map]; have z := sizeLine_eq; omega, k + 1, sts ++ [st], keptL l st, some (.d (.int (k : Nat))), some (.d (stpD st)), er2, by rw [List.length_append]; simp; omega, hkj, by rw [kept_snoc, ekp], prg_snoc prg (by rw [ekp]; exact full) nosrt, hk, ks.trans lK, by omega, ?_⟩
    rw [List.map_append, cut_snoc]
    rfl
  · obtain ⟨k, sts, l, x7, x8, er, lx, kj, ekp, prg, hl, lK, hmm, rfl⟩ := hI
    have hl5 := hl.few
    have hlp : 0 < l.length := List.length_pos_iff.mpr hl.some
    have fin : ∀ (f : Fin) (m : Nat) (x9 x10 x11 : Option Sl), (sts ++ finS f).length ≤ most → FinFull l f → (grp = false → f = .non) → n ≤ m + 600 → MS (sRet (w1 pTupA (wVar 4)))
        [some .p, some (.d (.tuple (.str (tx K) :: sr))), some (.d (.int (most : Nat))), some (.d (.bool grp)), some (.l ((sts ++ finS f).map stpD)), some (.d (.str (tx l))), some (.d (.bool (cutR false sts))), x7, x8, x9, x10, x11, none] m (fun x m => Q PyData.none m) Q noEnd noEnd := fun f m x9 x10 x11 hlen ff hg hm2 => by
      (repeat walk_at "s")
      exact ⟨_, rfl, q _ _ ⟨sts, f, rfl, hlen, prg, by rw [ekp]; exact ff, hg⟩ hm2⟩
    have few0 : (sts ++ finS .non).length ≤ most := by
      show (sts ++ []).length ≤ most
      rw [List.append_nil]
      omega
    have none_ : ∀ (m : Nat), n ≤ m + 600 → MS (sRet (w1 pTupA (wVar 4)))
        [some .p, some (.d (.tuple (.str (tx K) :: sr))), some (.d (.int (most : Nat))), some (.d (.bool grp)), some (.l (sts.map stpD)), some (.d (.str (tx l))), some (.d (.bool (cutR false sts))), x7, x8, none, none, none, none] m (fun x m => Q PyData.none m) Q noEnd noEnd := fun m hm2 => by
      have := fin .non m none none none few0 trivial (fun _ => rfl) hm2
      rwa [show finS .non = [] from rfl, List.append_nil] at this
    (repeat walk_at "s"); walk_at "r"
    refine ⟨fun hg => ?_, fun hg => ?_⟩
    · (repeat walk_at "s")
      refine ⟨_, rfl, ?_⟩
      (repeat walk_at "s")
      refine ⟨_, rfl, ?_⟩
      walk_at "r"
      refine ⟨fun hlt => ?_, fun hlt => ?_⟩
      · have lts : sts.length < most := by
          have := of_decide_eq_true hlt
          rw [List.length_map] at this
          omega
        (repeat walk_at "s")
        refine take_nat (k := 3) (by decide) (by decide) (by omega) fun r3 hr3 => ?_
        (repeat walk_at "s"); walk_at "e"; walk_at "r"
        refine ⟨fun h3 => ?_, fun h3 => ?_⟩
        · -- a group
          have go : ∀ (g : List Nat) (m : Nat), g.Sublist l → g ≠ [] → n ≤ m + 590 → MS (sSeq (sSet (fz (fLc (wSeq (wVar 5)) (.nm 12) (wTt (wOp (pIn2 true) (wVar 12) (wVar 9))) (wVal 12) [12])) 10)
              (sSeq (sSet (wCall w__law_one_of (wAName 0 (wACons (wIfE (wTt (wOp pNe2 (wVar 10) (fz (wLst wNil)))) (fz (wLst (wCons (wC (.str "count")) (wCons (wC (.str "heads")) (wCons (wC (.str "sum")) wNil))))) (fz (wLst (wCons (wC (.str "count")) (wCons (wC (.str "heads")) wNil))))) wANil))) 11)
              (sApp 4 (wIfE (wTt (wOp pEq2 (wVar 11) (wC (.str "sum")))) (wTup (wCons (wVal 11) (wCons (wVal 9) (wCons (wCall w__law_one_of (wAName 0 (wAName 10 wANil))) wNil)))) (wTup (wCons (wVal 11) (wCons (wVal 9) wNil)))))))
              [some .p, some (.d (.tuple (.str (tx K) :: sr))), some (.d (.int (most : Nat))), some (.d (.bool grp)), some (.l (sts.map stpD)), some (.d (.str (tx l))), some (.d (.bool (cutR false sts))), x7, x8, some (.d (.str (tx g))), none, none, none] m
              (fun e m => MS (sRet (w1 pTupA (wVar 4))) e m (fun x m => Q PyData.none m) Q noEnd noEnd) Q noEnd noEnd := fun g m sg1 gne hmg => by
            have hgl := sg1.length_le
            walk_at "s"; walk_at "s"; walk_at "s"
            refine m_lcF (fun x => match x with | .str w => !oneIn g w | _ => false) id ?_
            walk_at "s"; walk_at "s"
            refine ⟨_, seq_str (tx l), by rw [List.length_map, Ls_tx, sizeLine_eq]; omega, fun x hx => ?_, ?_⟩
            · obtain ⟨c, hc, e⟩ := List.mem_map.mp hx
              subst e
              refine ⟨_, rfl, fun m => ?_, fun _ m => ?_⟩
              · (repeat walk_at "s")
                refine ⟨_, in_sg _ _, ?_⟩
                walk_at "r"
                exact ⟨by rw [Bool.true_xor, Ls_tx]; rfl, rfl⟩
              · walk_at "s"; exact ⟨rfl, rfl⟩
            have e : ((List.map sg (Ls (tx l))).filter fun x => match x with | .str w => !oneIn g w | _ => false).map id = (l.filter fun c => !decide (c ∈ g)).map sg := by
              rw [List.map_id, List.filter_map, Ls_tx]
              rfl
            rw [e]
            have hrs : ∀ c ∈ (l.filter fun c => !decide (c ∈ g)), c ∈ l ∧ c ∉ g := fun c hc => by
              have := List.mem_filter.mp hc
              exact ⟨this.1, by simpa using this.2⟩
            have lrs : (l.filter fun c => !decide (c ∈ g)).length ≤ 5 := Nat.le_trans (List.length_filter_le _ _) hl5
            generalize (l.filter fun c => !decide (c ∈ g)) = rs at hrs lrs
            -- the kind
            have kind : ∀ (w : Str) (m3 : Nat), (w = Str.ofString "count" ∨ w = Str.ofString "heads" ∨ (w = Str.ofString "sum" ∧ rs ≠ [])) → n ≤ m3 + 591 → MS (sApp 4 (wIfE (wTt (wOp pEq2 (wVar 11) (wC (.str "sum")))) (wTup (wCons (wVal 11) (wCons (wVal 9) (wCons (wCall w__law_one_of (wAName 0 (wAName 10 wANil))) wNil)))) (wTup (wCons (wVal 11) (wCons (wVal 9) wNil)))))
                [some .p, some (.d (.tuple (.str (tx K) :: sr))), some (.d (.int (most : Nat))), some (.d (.bool grp)), some (.l (sts.map stpD)), some (.d (.str (tx l))), some (.d (.bool (cutR false sts))), x7, x8, some (.d (.str (tx g))), some (.d (.list (rs.map sg))), some (.d (.str w)), none] m3
                (fun e m => MS (sRet (w1 pTupA (wVar 4))) e m (fun x m => Q PyData.none m) Q noEnd noEnd) Q noEnd noEnd := fun w m3 hw hm3 => by
              have one : ∀ (f : Fin) (m : Nat) (st : Stp), finS f = [st] → FinFull l f → (grp = false → f = .non) → n ≤ m + 600 → MS (sRet (w1 pTupA (wVar 4)))
                  [some .p, some (.d (.tuple (.str (tx K) :: sr))), some (.d (.int (most : Nat))), some (.d (.bool grp)), some (.l (sts.map stpD ++ [stpD st])), some (.d (.str (tx l))), some (.d (.bool (cutR false sts))), x7, x8, some (.d (.str (tx g))), some (.d (.list (rs.map sg))), some (.d (.str w)), none] m (fun x m => Q PyData.none m) Q noEnd noEnd := fun f m st ef ff hg hm2 => by
                have := fin f m (some (.d (.str (tx g)))) (some (.d (.list (rs.map sg)))) (some (.d (.str w))) (by rw [ef, List.length_append]; simp; omega) ff hg hm2
                rwa [ef, List.map_append] at this
              have ng : ∀ f : Fin, grp = false → f = .non := fun f h => by rw [h] at hg; cases hg
              have lm : (sts.map stpD).length < sizeLine := by rw [List.length_map]; have z := sizeLine_eq; omega
              refine n_app rfl ?_
              walk_at "s"
              (repeat walk_at "s")
              refine ⟨_, eq_str _ _, ?_⟩
              walk_at "r"
              rcases hw with rfl | rfl | ⟨rfl, rne⟩
              · walk_at "f"
                (repeat walk_at "s")
                exact ⟨by show 2 ≤ sizeLine; decide, lm, one (.cnt g) _ _ rfl ⟨sg1, gne⟩ (ng _) (by omega)⟩
              · walk_at "f"
                (repeat walk_at "s")
                exact ⟨by show 2 ≤ sizeLine; decide, lm, one (.hds g) _ _ rfl ⟨sg1, gne⟩ (ng _) (by omega)⟩
              · walk_at "t"
                (repeat walk_at "s")
                refine one_list (xs := rs.map sg) (by rw [List.length_map]; exact List.length_pos_iff.mpr rne) (by rw [List.length_map]; omega) (by omega) fun i hi => ?_
                rw [List.length_map] at hi
                have ei : (rs.map sg)[i]'(by rw [List.length_map]; exact hi) = sg rs[i] := List.getElem_map _
                rw [ei]
                (repeat walk_at "s")
                obtain ⟨c1, c2⟩ := hrs rs[i] (List.getElem_mem hi)
                exact ⟨by show 3 ≤ sizeLine; decide, lm, one (.sum g rs[i]) _ _ rfl ⟨sg1, gne, c1, c2⟩ (ng _) (by omega)⟩
            walk_at "s"
            (repeat walk_at "s")
            refine ⟨Nat.zero_le _, ?_⟩
            refine ⟨_, ne2_nilL fun c hc => by have := hK.low c (lK.subset (hrs c hc).1); omega, ?_⟩
            walk_at "r"
            refine ⟨fun h => ?_, fun h => ?_⟩
            · have rne : rs ≠ [] := fun e => by subst e; cases h
              (repeat walk_at "s")
              refine ⟨by show 3 ≤ sizeLine; decide, ?_⟩
              (repeat walk_at "s")
              refine one_list (xs := [.str "count", .str "heads", .str "sum"]) (by decide) (by decide) (by omega) fun i hi => ?_
              match i, hi with
              | 0, _ => exact kind _ _ (.inl rfl) (by omega)
              | 1, _ => exact kind _ _ (.inr (.inl rfl)) (by omega)
              | 2, _ => exact kind _ _ (.inr (.inr ⟨rfl, rne⟩)) (by omega)
            · (repeat walk_at "s")
              refine ⟨by show 2 ≤ sizeLine; decide, ?_⟩
              (repeat walk_at "s")
              refine one_list (xs := [.str "count", .str "heads"]) (by decide) (by decide) (by omega) fun i hi => ?_
              match i, hi with
              | 0, _ => exact kind _ _ (.inl rfl) (by omega)
              | 1, _ => exact kind _ _ (.inr (.inl rfl)) (by omega)
          (repeat walk_at "s")
          refine some_run (by rw [Ls_tx]; omega) (by rw [Ls_tx]; omega) fun g m2 sl hm2 => ?_
          rw [Ls_tx] at sl hm2
          have hgl := sl.length_le
          refine ⟨_, tru_str (by rw [Ls_tx]; omega), fun h => ?_, fun h => ?_⟩
          · rw [Ls_tx] at h
            refine go g _ sl (fun e => by subst e; cases h) ?_
            omega
          · (repeat walk_at "s")
            refine one_str hlp (by omega) (by omega) fun i hi => ?_
            refine go [l[i]] _ (List.singleton_sublist.mpr (List.getElem_mem hi)) (by simp) ?_
            omega
        · walk_at "s"
          refine none_ _ ?_
          omega
      · walk_at "f"
        walk_at "s"
        refine none_ _ ?_
        omega
    · walk_at "f"
      walk_at "s"
      refine none_ _ ?_
      omega
end
section
variable {n : Nat} {Q : PyData → Nat → Prop} {K : Str} {v : PyData}
def fillB (K : List Nat) (v : PyData) : Bool := setB K v && !isS "" v
theorem is_filled_run (h : (Ls K).length ≤ 1000) (hK : (Ls K).Pairwise (· < ·)) (ok : okR v) (q : Q (.bool (fillB (Ls K) v)) n) : MD w__is_filled_set [.d (.str K), .d v] n Q := by
  refine md_def rfl rfl ?_
  unfold t__is_filled_set
  walk_at "s"; walk_at "s"; walk_at "s"; walk_at "s"; walk_at "s"; walk_at "s"
  refine is_column_set_run h hK ok ?_
  walk_at "r"
  refine ⟨fun c => ?_, fun c => ?_⟩
  · walk_at "s"; walk_at "s"; walk_at "s"
    cases v with
    | str z =>
      refine ⟨_, ne2_str _ _, ?_⟩
      have e : fillB (Ls K) (.str z) = !decide (z = Str.ofString "") := by
        unfold fillB
        rw [c, Bool.true_and]
        rfl
      rw [e] at q
      exact q
    | _ => cases c
  · have e : fillB (Ls K) v = false := by unfold fillB; rw [c, Bool.false_and]
    rw [e] at q
    rw [c]
    exact q
end
def rngB : PyData → Bool
  | .int i => decide (0 ≤ i) && decide (i ≤ 20)
  | _ => false
def isSort (a : PyData) : Bool := isOf ["sort", "stable"] a
def isCut (a : PyData) : Bool := isOf ["first", "skip"] a
def isGrp (a : PyData) : Bool := isOf ["count", "sum", "heads"] a
/-- a sign of a text is in another -/
def inSB : PyData → PyData → Bool
  | .str w, .str z => oneIn (Ls z) w
  | _, _ => false
def shortB (K : List Nat) (a b : PyData) : Bool :=
  if isSort a then ordB K b && !isS "" b else if isCut a then isPl b && rngB b else isOf ["columns", "count", "heads"] a && fillB K b
def longB (K : List Nat) (a b c : PyData) : Bool :=
  if isS "where" a then isCol K b && isPl c else isS "sum" a && (fillB K b && (isCol K c && !inSB c b))
def stepB (K : List Nat) : PyData → Bool
  | .tuple [a, b] => shortB K a b
  | .tuple [a, b, c] => longB K a b c
  | _ => false
/-- schemas' columns: short, in ascending order -/
structure Cols (K : Str) : Prop where
  len : (Ls K).length ≤ 1000
  asc : (Ls K).Pairwise (· < ·)
section
variable {n : Nat} {Q : PyData → Nat → Prop} {K : Str} {a b c v : PyData}
theorem is_short_run (hK : Cols K) (ok : okR b) (q : Q (.bool (shortB (Ls K) a b)) n) : MD w__is_short_step [.d (.str K), .d a, .d b] n Q := by
  refine md_def rfl rfl ?_
  unfold t__is_short_step
  walk_at "s"; walk_at "s"; walk_at "s"; walk_at "s"; walk_at "s"; walk_at "s"
  refine ⟨_, in_tup ["sort", "stable"] a, ?_⟩
  walk_at "r"
  rw [Bool.false_xor]
  refine ⟨fun h => ?_, fun h => ?_⟩
  · have e : shortB (Ls K) a b = (ordB (Ls K) b && !isS "" b) := if_pos h
    rw [e] at q
    walk_at "s"; walk_at "s"; walk_at "s"; walk_at "s"; walk_at "s"; walk_at "s"
    refine is_order_run hK.len ok ?_
    walk_at "r"
    refine ⟨fun c => ?_, fun c => ?_⟩
    · walk_at "s"; walk_at "s"; walk_at "s"
      rw [c, Bool.true_and] at q
      cases b with
      | str z => exact ⟨_, ne2_str _ _, q⟩
      | _ => cases c
    · rw [c, Bool.false_and] at q
      rw [c]
      exact q
  · walk_at "s"; walk_at "s"; walk_at "s"; walk_at "s"; walk_at "s"; walk_at "s"; walk_at "s"
    refine ⟨_, in_tup ["first", "skip"] a, ?_⟩
    walk_at "r"
    rw [Bool.false_xor]
    have e1 : shortB (Ls K) a b = if isCut a then isPl b && rngB b else isOf ["columns", "count", "heads"] a && fillB (Ls K) b := if_neg (by rw [show isSort a = false from h]; exact Bool.false_ne_true)
    rw [e1] at q
    refine ⟨fun h2 => ?_, fun h2 => ?_⟩
    · rw [if_pos (show isCut a = true from h2)] at q
      walk_at "s"; walk_at "s"; walk_at "s"; walk_at "s"; walk_at "s"
      refine is_plain_run ?_
      walk_at "r"
      refine ⟨fun c => ?_, fun c => ?_⟩
      · rw [c, Bool.true_and] at q
        cases b with
        | int i =>
          walk_at "s"; walk_at "s"; walk_at "s"
          refine ⟨_, rfl, fun c => ?_, fun c => ?_⟩
          · walk_at "s"
            refine ⟨_, rfl, ?_⟩
            have e : rngB (.int i) = decide (i ≤ 20) := by
              show (decide (0 ≤ i) && decide (i ≤ 20)) = _
              rw [c, Bool.true_and]
            rw [e] at q
            exact q
          · have e : rngB (.int i) = false := by
              show (decide (0 ≤ i) && decide (i ≤ 20)) = _
              rw [c, Bool.false_and]
            rw [e] at q
            exact q
        | _ => cases c
      · rw [c, Bool.false_and] at q
        rw [c]
        exact q
    · rw [if_neg (by rw [show isCut a = false from h2]; exact Bool.false_ne_true)] at q
      walk_at "s"; walk_at "s"; walk_at "s"; walk_at "s"; walk_at "s"; walk_at "s"; walk_at "s"; walk_at "s"; walk_at "s"; walk_at "s"; walk_at "s"; walk_at "s"; walk_at "s"
      refine ⟨by show 3 ≤ sizeLine; decide, _, in_tup ["columns", "count", "heads"] a, ?_⟩
      rw [Bool.false_xor]
      walk_at "r"
      refine ⟨fun c => ?_, fun c => ?_⟩
      · rw [c, Bool.true_and] at q
        walk_at "s"; walk_at "s"; walk_at "s"; walk_at "s"
        exact is_filled_run hK.len hK.asc ok q
      · rw [c, Bool.false_and] at q
        rw [c]
        exact q
theorem is_long_run (hK : Cols K) (ok : okR b) (ok2 : okR c) (q : Q (.bool (longB (Ls K) a b c)) n) : MD w__is_long_step [.d (.str K), .d a, .d b, .d c] n Q := by
  refine md_def rfl rfl ?_
  unfold t__is_long_step
  walk_at "s"; walk_at "s"; walk_at "s"; walk_at "s"; walk_at "s"; walk_at "s"
  refine ⟨_, eq_str _ _, ?_⟩
  walk_at "r"
  refine ⟨fun h => ?_, fun h => ?_⟩
  · have e : longB (Ls K) a b c = (isCol (Ls K) b && isPl c) := if_pos h
    rw [e] at q
    walk_at "s"; walk_at "s"; walk_at "s"; walk_at "s"; walk_at "s"; walk_at "s"
    refine is_column_run ok ?_
    walk_at "r"
    refine ⟨fun c => ?_, fun c => ?_⟩
    · rw [c, Bool.true_and] at q
      walk_at "s"; walk_at "s"; walk_at "s"
      exact is_plain_run q
    · rw [c, Bool.false_and] at q
      rw [c]
      exact q
  · have e : longB (Ls K) a b c = (isS "sum" a && (fillB (Ls K) b && (isCol (Ls K) c && !inSB c b))) := if_neg (by rw [h]; exact Bool.false_ne_true)
    rw [e] at q
    walk_at "s"; walk_at "s"; walk_at "s"; walk_at "s"; walk_at "s"; walk_at "s"
    refine ⟨_, eq_str _ _, ?_⟩
    walk_at "r"
    refine ⟨fun c1 => ?_, fun c1 => ?_⟩
    · rw [c1, Bool.true_and] at q
      walk_at "s"; walk_at "s"; walk_at "s"; walk_at "s"; walk_at "s"
      refine is_filled_run hK.len hK.asc ok ?_
      walk_at "r"
      refine ⟨fun c2 => ?_, fun c2 => ?_⟩
      · rw [c2, Bool.true_and] at q
        walk_at "s"; walk_at "s"; walk_at "s"; walk_at "s"; walk_at "s"
        refine is_column_run ok2 ?_
        walk_at "r"
        refine ⟨fun c3 => ?_, fun c3 => ?_⟩
        · rw [c3, Bool.true_and] at q
          cases c with
          | str w =>
            cases b with
            | str z =>
              obtain ⟨x, ex, hx⟩ := oneIn_true.mp (show oneIn (Ls K) w = true from c3)
              subst ex
              walk_at "s"; walk_at "s"; walk_at "s"
              refine ⟨_, in_sg _ _, ?_⟩
              rw [Bool.true_xor]
              exact q
            | _ => cases c2
          | _ => cases c3
        · rw [c3, Bool.false_and] at q
          rw [c3]
          exact q
      · rw [c2, Bool.false_and] at q
        rw [c2]
        exact q
    · rw [c1, Bool.false_and] at q
      rw [c1]
      exact q
theorem in_23 (i : Int) : eIn true (.int i) (.tuple [.int 2, .int 3]) = some (.bool (true ^^ (decide (2 = i) || decide (3 = i)))) := by
  show eInL true (.int i) (.tuple [.int 2, .int 3]) = _
  have h2 : ((2 : Int) == i) = decide (2 = i) := by rw [Bool.eq_iff_iff]; simp
  have h3 : ((3 : Int) == i) = decide (3 = i) := by rw [Bool.eq_iff_iff]; simp
  unfold eInL
  simp [itemsD, dfreeAll, dfree, PyData.depth, PyData.depthAll, PyData.eqv, h2, h3]
theorem is_step_run (hK : Cols K) (ok : okR v) (q : Q (.bool (stepB (Ls K) v)) n) : MD w__is_step [.d (.str K), .d v] n Q := by
  refine md_def rfl rfl ?_
  unfold t__is_step
  cases v with
  | tuple xs =>
    walk_at "s"; walk_at "s"; walk_at "s"; walk_at "s"; walk_at "s"; walk_at "s"; walk_at "s"; walk_at "r"; walk_at "r"; walk_at "f"
    walk_at "s"; walk_at "s"; walk_at "s"; walk_at "s"; walk_at "r"
    walk_at "s"; walk_at "s"; walk_at "s"; walk_at "s"; walk_at "s"; walk_at "s"
    refine ⟨by show 2 ≤ sizeLine; decide, _, in_23 _, ?_⟩
    walk_at "r"
    match xs, ok, q with
    | [a, b], ⟨oa, ob, _⟩, q =>
      walk_at "f"
      walk_at "s"; walk_at "s"; walk_at "s"; walk_at "s"; walk_at "s"; walk_at "s"; walk_at "s"; walk_at "r"; walk_at "s"; walk_at "r"; walk_at "r"; walk_at "t"
      walk_at "s"; walk_at "s"; walk_at "s"; walk_at "s"; walk_at "s"; walk_at "s"; walk_at "s"; walk_at "r"; walk_at "s"; walk_at "s"; walk_at "s"; walk_at "s"; walk_at "r"; walk_at "s"
      exact is_short_run hK ob q
    | [a, b, c], ⟨oa, ob, oc, _⟩, q =>
      walk_at "f"
      walk_at "s"; walk_at "s"; walk_at "s"; walk_at "s"; walk_at "s"; walk_at "s"; walk_at "s"; walk_at "r"; walk_at "s"; walk_at "r"; walk_at "r"; walk_at "f"
      walk_at "s"
      walk_at "s"; walk_at "s"; walk_at "s"; walk_at "s"; walk_at "s"; walk_at "s"; walk_at "s"; walk_at "r"; walk_at "s"; walk_at "s"; walk_at "s"; walk_at "s"; walk_at "r"; walk_at "s"; walk_at "s"; walk_at "s"; walk_at "s"; walk_at "r"; walk_at "s"
      exact is_long_run hK ob oc q
    | [], _, q => walk_at "t"; walk_at "s"; walk_at "s"; exact q
    | [_], _, q => walk_at "t"; walk_at "s"; walk_at "s"; exact q
    | _ :: _ :: _ :: _ :: r, _, q =>
      have e : (true ^^ (decide ((2 : Int) = ((r.length + 1 + 1 + 1 + 1 : Nat) : Int)) || decide ((3 : Int) = ((r.length + 1 + 1 + 1 + 1 : Nat) : Int)))) = true := by
        simp
        omega
      refine ⟨fun _ => ?_, fun h => ?_⟩
      · walk_at "s"; walk_at "s"; exact q
      · exact absurd (e.symm.trans h) Bool.noConfusion
  | _ =>
    walk_at "s"; walk_at "s"; walk_at "s"; walk_at "s"; walk_at "s"; walk_at "s"; walk_at "s"; walk_at "r"; walk_at "r"; walk_at "t"; walk_at "t"
    walk_at "s"; walk_at "s"
    exact q
end
def headD : PyData → PyData
  | .tuple (a :: _) => a
  | _ => .none
def keptS (K : Str) : PyData → Str
  | .tuple (a :: .str p :: _) => if isS "columns" a = true then p else K
  | _ => K
def progB (K : Str) (cut grp : Bool) : List PyData → Bool
  | [] => true
  | s :: r => !grp && (stepB (Ls K) s && (!(cut && isSort (headD s)) && progB (keptS K s) (cut || isCut (headD s)) (isGrp (headD s)) r))
def repB (K : Str) : PyData → Bool
  | .tuple xs => decide (xs.length ≤ 8) && progB K false false xs
  | _ => false
theorem isS_true {s : Str} {a : PyData} (h : isS s a = true) : a = .str s := by
  cases a with
  | str w => exact congrArg PyData.str (of_decide_eq_true h)
  | _ => cases h
theorem step_two {K : List Nat} {v : PyData} (h : stepB K v = true) : ∃ a b r, v = .tuple (a :: b :: r) ∧ (isS "columns" a = true → ∃ p, b = .str p ∧ isSet K (Ls p) = true ∧ p ≠ (Str.ofString "")) := by
  unfold stepB at h
  split at h
  · rename_i a b
    refine ⟨a, b, [], rfl, fun ha => ?_⟩
    have := isS_true ha
    subst this
    unfold shortB at h
    rw [if_neg (by decide +kernel), if_neg (by decide +kernel)] at h
    have h1 := (Bool.and_eq_true_iff.mp h).2
    unfold fillB at h1
    obtain ⟨h2, h3⟩ := Bool.and_eq_true_iff.mp h1
    cases b with
    | str p => exact ⟨p, rfl, h2, fun e => by subst e; exact absurd h3 (by decide +kernel)⟩
    | _ => cases h2
  · rename_i a b c
    refine ⟨a, b, [c], rfl, fun ha => ?_⟩
    have := isS_true ha
    subst this
    unfold longB at h
    rw [if_neg (by decide +kernel)] at h
    have h1 := (Bool.and_eq_true_iff.mp h).1
    exact absurd h1 (by decide +kernel)
  · cases h
theorem set_cols {K p : Str} (hK : Cols K) (h : isSet (Ls K) (Ls p) = true) : Cols p := by
  refine ⟨Nat.le_trans (isSet_len h) hK.len, ?_⟩
  unfold isSet at h
  simp at h
  exact h.2
theorem kept_cols {K : Str} {s : PyData} (hK : Cols K) (h : stepB (Ls K) s = true) : Cols (keptS K s) := by
  obtain ⟨a, b, r, rfl, hc⟩ := step_two h
  by_cases ha : isS "columns" a = true
  · obtain ⟨p, rfl, hp, _⟩ := hc ha
    show Cols (if isS "columns" a = true then p else K)
    rw [if_pos ha]
    exact set_cols hK hp
  · cases b with
    | str p =>
      show Cols (if isS "columns" a = true then p else K)
      rw [if_neg ha]
      exact hK
    | _ => exact hK
section
variable {n : Nat} {Q : PyData → Nat → Prop} {K : Str} {a b c v : PyData} {sr : List PyData}
theorem keptB_expr {env : En} {i j : Nat} {s : PyData} {K' : List Nat} (h : stepB K' s = true) (hi : vVar i env = some s) (hj : vVal j env = some (.str K)) (q : Q (.str (keptS K s)) n) :
    ME (wIfE (wTt (wOp pEq2 (wOp pIx (wVar i) (wC (.int 0))) (wC (.str "columns")))) (wOp pIx (wVar i) (wC (.int 1))) (wVal j)) env n Q := by
  obtain ⟨a, b, r, rfl, hc⟩ := step_two h
  refine m_ifE (m_tt (m_op h2_eq (m_op h2_ix (m_var hi (m_c ⟨_, ix_t0 _ _, m_c ?_⟩)))))
  refine ⟨_, eq_str _ _, ?_⟩
  refine ⟨_, rfl, fun ha => ?_, fun ha => ?_⟩
  · obtain ⟨p, rfl, hp, _⟩ := hc ha
    refine m_op h2_ix (m_var hi (m_c ⟨_, ix_t1 _ _ _, ?_⟩))
    have e : keptS K (.tuple (a :: .str p :: r)) = p := if_pos ha
    rw [e] at q
    exact q
  · have e : keptS K (.tuple (a :: b :: r)) = K := by
      cases b with
      | str p =>
        show (if isS "columns" a = true then p else K) = K
        rw [if_neg (by rw [ha]; exact Bool.false_ne_true)]
      | _ => rfl
    rw [e] at q
    exact m_val hj q
theorem kept_afterB_run {K' : List Nat} {s : PyData} (h : stepB K' s = true) (q : Q (.str (keptS K s)) n) : MD w_kept_after [.d (.str K), .d s] n Q := by
  refine md_def rfl rfl ?_
  unfold t_kept_after
  walk_at "s"
  exact keptB_expr h rfl rfl q
theorem is_report_run (hK : Cols K) (ok : okR v) (q : Q (.bool (repB K v)) n) : MD w_is_report [.d (.tuple (.str K :: sr)), .d v] n Q := by
  refine md_def rfl rfl ?_
  unfold t_is_report
  cases v with
  | tuple xs =>
    walk_at "s"; walk_at "s"; walk_at "s"; walk_at "s"; walk_at "s"; walk_at "s"; walk_at "s"; walk_at "r"; walk_at "r"; walk_at "f"
    walk_at "s"; walk_at "s"; walk_at "s"; walk_at "s"; walk_at "r"
    walk_at "s"
    refine ⟨_, rfl, ?_⟩
    walk_at "r"
    refine ⟨fun h => ?_, fun h => ?_⟩
    · have h1 : (8 : Int) < (xs.length : Int) := of_decide_eq_true h
      have e : repB K (.tuple xs) = false := by
        show (decide (xs.length ≤ 8) && _) = false
        rw [decide_eq_false (by omega), Bool.false_and]
      rw [e] at q
      walk_at "s"; walk_at "s"
      exact q
    · have h1 : ¬ (8 : Int) < (xs.length : Int) := of_decide_eq_false h
      have e : repB K (.tuple xs) = progB K false false xs := by
        show (decide (xs.length ≤ 8) && _) = _
        rw [decide_eq_true (by omega), Bool.true_and]
      rw [e] at q
      walk_at "s"; walk_at "s"; walk_at "s"; walk_at "s"; walk_at "s"; walk_at "s"; walk_at "e"
      walk_at "s"; walk_at "s"; walk_at "s"; walk_at "s"; walk_at "s"; walk_at "s"
      walk_at "s"
      refine n_for ?_
      walk_at "s"; walk_at "s"
      refine ⟨xs, rfl, fun rest e m => m = n ∧ ∃ (Kc : Str) (cut grp : Bool) (x5 x6 : Option Sl), e = [some (.d (.tuple (.str K :: sr))), some (.d (.tuple xs)), some (.d (.str Kc)), some (.d (.bool cut)), some (.d (.bool grp)), x5, x6] ∧ Cols Kc ∧ okRs rest ∧ progB Kc cut grp rest = progB K false false xs,
        ⟨rfl, K, false, false, none, none, rfl, hK, ok, rfl⟩, fun s rest e m hI => ?_, fun e m hI => ?_⟩
      · obtain ⟨rfl, Kc, cut, grp, x5, x6, rfl, hc, ⟨os, orest⟩, tot⟩ := hI
        refine ⟨_, rfl, ?_⟩
        have bad : progB Kc cut grp (s :: rest) = false → Q (.bool false) m := fun h => by
          rw [← tot, h] at q
          exact q
        walk_at "s"; walk_at "s"; walk_at "s"; walk_at "s"; walk_at "s"; walk_at "r"
        refine ⟨fun hg => ⟨fun _ => ?_, fun h => Bool.noConfusion h⟩, fun hg => ?_⟩
        · subst hg
          walk_at "s"; walk_at "s"
          exact bad rfl
        · subst hg
          walk_at "s"; walk_at "s"; walk_at "s"; walk_at "s"; walk_at "s"; walk_at "s"
          refine is_step_run hc os ?_
          walk_at "r"
          refine ⟨fun h => ?_, fun h => ?_⟩
          · walk_at "s"; walk_at "s"
            refine bad ?_
            have h1 : stepB (Ls Kc) s = false := by simpa using h
            show (!false && (stepB (Ls Kc) s && _)) = false
            rw [h1]
            rfl
          · have h1 : stepB (Ls Kc) s = true := by simpa using h
            have e1 : progB Kc cut false (s :: rest) = (!(cut && isSort (headD s)) && progB (keptS Kc s) (cut || isCut (headD s)) (isGrp (headD s)) rest) := by
              show (!false && (stepB (Ls Kc) s && _)) = _
              rw [h1]
              rfl
            obtain ⟨a, b, r, rfl, _⟩ := step_two h1
            walk_at "s"
            walk_at "s"; walk_at "s"; walk_at "s"; walk_at "s"; walk_at "s"; walk_at "e"
            walk_at "s"; walk_at "s"; walk_at "s"; walk_at "s"; walk_at "s"; walk_at "r"
            have fin : (cut && isSort a) = false → MS (sSeq (sSet (wOrE (wVal 3) (wOp (pIn2 false) (wVar 6) (wC d_CUTTING))) 3)
                  (sSeq (sSet (wOp (pIn2 false) (wVar 6) (wC d_GROUPING)) 4)
                  (sSet (wCall w_kept_after (wAName 2 (wAName 5 wANil))) 2))) [some (.d (.tuple (.str K :: sr))), some (.d (.tuple xs)), some (.d (.str Kc)), some (.d (.bool cut)), some (.d (.bool false)), some (.d (.tuple (a :: b :: r))), some (.d a)] m
                (fun e2 m2 => m2 = m ∧ ∃ (Kc : Str) (cut grp : Bool) (x5 x6 : Option Sl), e2 = [some (.d (.tuple (.str K :: sr))), some (.d (.tuple xs)), some (.d (.str Kc)), some (.d (.bool cut)), some (.d (.bool grp)), x5, x6] ∧ Cols Kc ∧ okRs rest ∧ progB Kc cut grp rest = progB K false false xs)
                Q (fun e m_1 => MS (sRet (wC (PyData.bool true))) e m_1 (fun x m => Q PyData.none m) Q noEnd noEnd)
                (fun e2 m2 => m2 = m ∧ ∃ (Kc : Str) (cut grp : Bool) (x5 x6 : Option Sl), e2 = [some (.d (.tuple (.str K :: sr))), some (.d (.tuple xs)), some (.d (.str Kc)), some (.d (.bool cut)), some (.d (.bool grp)), x5, x6] ∧ Cols Kc ∧ okRs rest ∧ progB Kc cut grp rest = progB K false false xs) := fun hs => by
              rw [show headD (.tuple (a :: b :: r)) = a from rfl, hs, tot] at e1
              have e2 := e1.symm
              rw [show (!false) = true from rfl, Bool.true_and] at e2
              have done : ∀ c2 : Bool, c2 = (cut || isCut a) → MS (sSeq (sSet (wOp (pIn2 false) (wVar 6) (wC d_GROUPING)) 4)
                  (sSet (wCall w_kept_after (wAName 2 (wAName 5 wANil))) 2)) [some (.d (.tuple (.str K :: sr))), some (.d (.tuple xs)), some (.d (.str Kc)), some (.d (.bool c2)), some (.d (.bool false)), some (.d (.tuple (a :: b :: r))), some (.d a)] m
                (fun e2 m2 => m2 = m ∧ ∃ (Kc : Str) (cut grp : Bool) (x5 x6 : Option Sl), e2 = [some (.d (.tuple (.str K :: sr))), some (.d (.tuple xs)), some (.d (.str Kc)), some (.d (.bool cut)), some (.d (.bool grp)), x5, x6] ∧ Cols Kc ∧ okRs rest ∧ progB Kc cut grp rest = progB K false false xs)
                Q (fun e m_1 => MS (sRet (wC (PyData.bool true))) e m_1 (fun x m => Q PyData.none m) Q noEnd noEnd)
                (fun e2 m2 => m2 = m ∧ ∃ (Kc : Str) (cut grp : Bool) (x5 x6 : Option Sl), e2 = [some (.d (.tuple (.str K :: sr))), some (.d (.tuple xs)), some (.d (.str Kc)), some (.d (.bool cut)), some (.d (.bool grp)), x5, x6] ∧ Cols Kc ∧ okRs rest ∧ progB Kc cut grp rest = progB K false false xs) := fun c2 ec => by
                walk_at "s"; walk_at "s"; walk_at "s"; walk_at "s"; walk_at "s"
                refine ⟨_, in_tup ["count", "sum", "heads"] a, ?_⟩
                rw [Bool.false_xor]
                walk_at "s"; walk_at "s"; walk_at "s"; walk_at "s"; walk_at "s"
                refine kept_afterB_run h1 ?_
                exact ⟨rfl, _, c2, isGrp a, _, _, rfl, kept_cols hc h1, orest, by rw [ec]; exact e2⟩
              walk_at "s"; walk_at "s"; walk_at "s"; walk_at "s"; walk_at "r"
              refine ⟨fun hct => ?_, fun hct => ?_⟩
              · subst hct
                exact done true rfl
              · subst hct
                walk_at "s"; walk_at "s"; walk_at "s"
                refine ⟨_, in_tup ["first", "skip"] a, ?_⟩
                rw [Bool.false_xor]
                exact done (isCut a) rfl
            refine ⟨fun hct => ?_, fun hct => ?_⟩
            · subst hct
              walk_at "s"; walk_at "s"; walk_at "s"; walk_at "s"
              refine ⟨_, in_tup ["sort", "stable"] a, ?_⟩
              rw [Bool.false_xor]
              walk_at "r"
              refine ⟨fun hs => ?_, fun hs => ?_⟩
              · walk_at "s"; walk_at "s"
                refine bad ?_
                rw [e1]
                show (!(true && isSort a) && _) = false
                rw [show isSort a = true from hs]
                rfl
              · walk_at "s"
                exact fin (by rw [show isSort a = false from hs]; rfl)
            · subst hct
              refine ⟨fun h => Bool.noConfusion h, fun _ => ?_⟩
              walk_at "s"
              exact fin rfl
      · obtain ⟨rfl, Kc, cut, grp, x5, x6, rfl, hc, _, tot⟩ := hI
        walk_at "s"; walk_at "s"
        rw [← tot] at q
        exact q
  | _ =>
    walk_at "s"; walk_at "s"; walk_at "s"; walk_at "s"; walk_at "s"; walk_at "s"; walk_at "s"; walk_at "r"; walk_at "r"; walk_at "t"; walk_at "t"
    walk_at "s"; walk_at "s"
    exact q
end
section
variable {n : Nat} {Q : PyData → Nat → Prop} {K : List Nat} {rules : List Rule} {keys : List (List Nat)} {sts : List Stp} {f : Fin}
theorem set_of {l : List Nat} (hK : K.Pairwise (· < ·)) (s : l.Sublist K) : isSet K l = true := by
  unfold isSet
  rw [Bool.and_eq_true]
  exact ⟨List.all_eq_true.mpr fun c hc => decide_eq_true (s.subset hc), decide_eq_true (hK.sublist s)⟩
theorem tx_ne {l : List Nat} (h : l ≠ []) : isS "" (.str (tx l)) = false := decide_eq_false fun e => h (by
  have := congrArg Ls e
  rw [Ls_tx] at this
  exact this.trans rfl)
theorem fill_of {l : List Nat} (hK : K.Pairwise (· < ·)) (s : l.Sublist K) (ne : l ≠ []) : fillB K (.str (tx l)) = true := by
  unfold fillB
  rw [tx_ne ne]
  show (isSet K (Ls (tx l)) && true) = true
  rw [Ls_tx, set_of hK s]
  rfl
theorem ord_of {p : List Nat} (h : ∀ c ∈ p, c ∈ K) (nd : p.Nodup) : ordB K (.str (tx p)) = true := by
  show isOrd K (Ls (tx p)) = true
  rw [Ls_tx]
  unfold isOrd
  rw [Bool.and_eq_true]
  exact ⟨List.all_eq_true.mpr fun c hc => decide_eq_true (h c hc), decide_eq_true nd⟩
theorem one_of_sg {c : Nat} (h : c ∈ K) : isCol K (sg c) = true := by
  show oneIn K (⟨#[c]⟩ : Str) = true
  exact oneIn_true.mpr ⟨c, rfl, h⟩
abbrev wordsS : List Str := ["where", "sort", "stable", "first", "skip", "columns", "count", "sum", "heads"]
theorem step_of {st : Stp} (hK : K.Pairwise (· < ·)) (h : StpFull K st) : stepB K (stpD st) = true ∧ isSort (headD (stpD st)) = isSrtS st ∧ isCut (headD (stpD st)) = isCutS st ∧ isGrp (headD (stpD st)) = false ∧ keptS (tx K) (stpD st) = tx (keptL K st) := by
  have srt1 : isSort (.str "sort") = true ∧ isCut (.str "sort") = false ∧ isGrp (.str "sort") = false ∧ isS "columns" (.str "sort") = false := by decide +kernel
  have srt2 : isSort (.str "stable") = true ∧ isCut (.str "stable") = false ∧ isGrp (.str "stable") = false ∧ isS "columns" (.str "stable") = false := by decide +kernel
  have cut1 : isSort (.str "first") = false ∧ isCut (.str "first") = true ∧ isGrp (.str "first") = false := by decide +kernel
  have cut2 : isSort (.str "skip") = false ∧ isCut (.str "skip") = true ∧ isGrp (.str "skip") = false := by decide +kernel
  have col1 : isSort (.str "columns") = false ∧ isCut (.str "columns") = false ∧ isGrp (.str "columns") = false ∧ isS "columns" (.str "columns") = true ∧ isOf ["columns", "count", "heads"] (.str "columns") = true := by decide +kernel
  have whr1 : isSort (.str "where") = false ∧ isCut (.str "where") = false ∧ isGrp (.str "where") = false ∧ isS "columns" (.str "where") = false ∧ isS "where" (.str "where") = true := by decide +kernel
  cases st with
  | whr c v =>
    refine ⟨?_, whr1.1, whr1.2.1, whr1.2.2.1, ?_⟩
    · show longB K (.str "where") (sg c) (.int v) = true
      unfold longB
      rw [if_pos whr1.2.2.2.2, one_of_sg h.1]
      rfl
    · show (if isS "columns" (.str "where") = true then (⟨#[c]⟩ : Str) else tx K) = tx K
      rw [if_neg (by rw [whr1.2.2.2.1]; decide)]
  | srt b p =>
    have key : ∀ w : Str, isSort (.str w) = true ∧ isCut (.str w) = false ∧ isGrp (.str w) = false ∧ isS "columns" (.str w) = false → shortB K (.str w) (.str (tx p)) = true ∧ (if isS "columns" (.str w) = true then tx p else tx K) = tx K := fun w hw => by
      refine ⟨?_, if_neg (by rw [hw.2.2.2]; decide)⟩
      unfold shortB
      rw [if_pos hw.1, ord_of h.1 h.2.1, tx_ne h.2.2]
      rfl
    cases b with
    | true => exact ⟨(key _ srt2).1, srt2.1, srt2.2.1, srt2.2.2.1, (key _ srt2).2⟩
    | false => exact ⟨(key _ srt1).1, srt1.1, srt1.2.1, srt1.2.2.1, (key _ srt1).2⟩
  | cut b i =>
    have key : ∀ w : Str, isSort (.str w) = false ∧ isCut (.str w) = true ∧ isGrp (.str w) = false → shortB K (.str w) (.int (i : Nat)) = true := fun w hw => by
      have h : i ≤ 20 := h
      unfold shortB
      rw [if_neg (by rw [hw.1]; decide), if_pos hw.2.1]
      show (true && (decide ((0 : Int) ≤ i) && decide ((i : Int) ≤ 20))) = true
      rw [decide_eq_true (by omega), decide_eq_true (by omega)]
      rfl
    cases b with
    | true => exact ⟨key _ cut1, cut1.1, cut1.2.1, cut1.2.2, rfl⟩
    | false => exact ⟨key _ cut2, cut2.1, cut2.2.1, cut2.2.2, rfl⟩
  | col l =>
    refine ⟨?_, col1.1, col1.2.1, col1.2.2.1, ?_⟩
    · show shortB K (.str "columns") (.str (tx l)) = true
      unfold shortB
      rw [if_neg (by rw [col1.1]; decide), if_neg (by rw [col1.2.1]; decide), col1.2.2.2.2, fill_of hK h.1 h.2]
      rfl
    · show (if isS "columns" (.str "columns") = true then tx l else tx K) = tx l
      rw [if_pos col1.2.2.2.1]
  | grp w r => exact h.elim
theorem fin_of (hK : K.Pairwise (· < ·)) (cut : Bool) (h : FinFull K f) : progB (tx K) cut false ((finS f).map stpD) = true := by
  have cnt1 : isSort (.str "count") = false ∧ isCut (.str "count") = false ∧ isOf ["columns", "count", "heads"] (.str "count") = true := by decide +kernel
  have hds1 : isSort (.str "heads") = false ∧ isCut (.str "heads") = false ∧ isOf ["columns", "count", "heads"] (.str "heads") = true := by decide +kernel
  have sum1 : isSort (.str "sum") = false ∧ isS "where" (.str "sum") = false ∧ isS "sum" (.str "sum") = true := by decide +kernel
  have key : ∀ w : Str, isSort (.str w) = false ∧ isCut (.str w) = false ∧ isOf ["columns", "count", "heads"] (.str w) = true → ∀ g : List Nat, g.Sublist K → g ≠ [] → progB (tx K) cut false [.tuple [.str w, .str (tx g)]] = true := fun w hw g sg1 ne => by
    show (!false && (stepB (Ls (tx K)) (.tuple [.str w, .str (tx g)]) && (!(cut && isSort (.str w)) && true))) = true
    rw [hw.1, Bool.and_false, Ls_tx]
    show (true && (shortB K (.str w) (.str (tx g)) && (true && true))) = true
    unfold shortB
    rw [if_neg (by rw [hw.1]; decide), if_neg (by rw [hw.2.1]; decide), hw.2.2, fill_of hK sg1 ne]
    rfl
  cases f with
  | non => rfl
  | cnt g => exact key _ cnt1 g h.1 h.2
  | hds g => exact key _ hds1 g h.1 h.2
  | sum g c =>
    show (!false && (stepB (Ls (tx K)) (.tuple [.str "sum", .str (tx g), sg c]) && (!(cut && isSort (.str "sum")) && true))) = true
    rw [sum1.1, Bool.and_false, Ls_tx]
    show (true && (longB K (.str "sum") (.str (tx g)) (sg c) && (true && true))) = true
    unfold longB
    rw [if_neg (by rw [sum1.2.1]; decide), sum1.2.2, fill_of hK h.1 h.2.1, one_of_sg h.2.2.1]
    have : inSB (sg c) (.str (tx g)) = false := by
      show oneIn (Ls (tx g)) (⟨#[c]⟩ : Str) = false
      rw [Ls_tx]
      cases e : oneIn g (⟨#[c]⟩ : Str) with
      | false => rfl
      | true =>
        obtain ⟨d, e1, e2⟩ := oneIn_true.mp e
        rw [sg_inj e1] at h
        exact absurd e2 h.2.2.2
    rw [this]
    rfl
theorem prog_of : ∀ {sts : List Stp} {K : List Nat} {cut : Bool}, K.Pairwise (· < ·) → ColsOk K → Prg K cut sts → FinFull (keptR K sts) f → progB (tx K) cut false ((sts ++ finS f).map stpD) = true
  | [], K, cut, asc, _, _, hf => fin_of asc cut hf
  | s :: r, K, cut, asc, hK, ⟨h1, h2, h3⟩, hf => by
    obtain ⟨a, b, c, d, e⟩ := step_of asc h1
    obtain ⟨k1, _⟩ := h1.kept hK
    show (!false && (stepB (Ls (tx K)) (stpD s) && (!(cut && isSort (headD (stpD s))) && progB (keptS (tx K) (stpD s)) (cut || isCut (headD (stpD s))) (isGrp (headD (stpD s))) ((r ++ finS f).map stpD)))) = true
    rw [Ls_tx, a, b, c, d, e, h2, prog_of k1.asc k1 h3 hf]
    rfl
theorem ok_word : ∀ w ∈ wordsS, okR (.str w) := by
  have : ∀ w ∈ wordsS, (Ls w).length ≤ 1000 ∧ ∀ c ∈ Ls w, c < 0x110000 := by decide +kernel
  exact this
theorem ok_cols {l : List Nat} (hK : ColsOk K) (h : ∀ c ∈ l, c ∈ K) (nd : l.length ≤ 1000) : okR (.str (tx l)) := ⟨by rw [Ls_tx]; exact nd, fun c hc => by rw [Ls_tx] at hc; have := hK.low c (h c hc); omega⟩
theorem ok_step {st : Stp} (hK : ColsOk K) (h : StpFull K st) : okR (stpD st) := by
  have h5 := hK.few
  cases st with
  | whr c v => exact ⟨ok_word _ (by decide +kernel), ok_cols (l := [c]) hK (fun d hd => by rw [List.mem_singleton.mp hd]; exact h.1) (by simp), trivial, trivial⟩
  | srt b p =>
    have := nodup_len h.2.1 h.1
    cases b with
    | true => exact ⟨ok_word _ (by decide +kernel), ok_cols hK h.1 (by omega), trivial⟩
    | false => exact ⟨ok_word _ (by decide +kernel), ok_cols hK h.1 (by omega), trivial⟩
  | cut b i => cases b with
    | true => exact ⟨ok_word _ (by decide +kernel), trivial, trivial⟩
    | false => exact ⟨ok_word _ (by decide +kernel), trivial, trivial⟩
  | col l => exact ⟨ok_word _ (by decide +kernel), ok_cols hK (fun c hc => h.1.subset hc) (by have := h.1.length_le; omega), trivial⟩
  | grp w r => exact h.elim
theorem ok_fin (hK : ColsOk K) (h : FinFull K f) : ∀ x ∈ (finS f).map stpD, okR x := by
  have h5 := hK.few
  have key : ∀ (w : Str) (g : List Nat), w ∈ wordsS → g.Sublist K → ∀ x ∈ [PyData.tuple [.str w, .str (tx g)]], okR x := fun w g hw s x hx => by
    rw [List.mem_singleton.mp hx]
    exact ⟨ok_word _ hw, ok_cols hK (fun c hc => s.subset hc) (by have := s.length_le; omega), trivial⟩
  cases f with
  | non => exact fun x hx => (nomatch hx)
  | cnt g => exact key _ g (by decide +kernel) h.1
  | hds g => exact key _ g (by decide +kernel) h.1
  | sum g c =>
    intro x hx
    rw [List.mem_singleton.mp (show x ∈ [PyData.tuple [.str "sum", .str (tx g), sg c]] from hx)]
    exact ⟨ok_word _ (by decide +kernel), ok_cols hK (fun c hc => h.1.subset hc) (by have := h.1.length_le; omega), ok_cols (l := [c]) hK (fun d hd => by rw [List.mem_singleton.mp hd]; exact h.2.2.1) (by simp), trivial⟩
theorem ok_prg : ∀ {sts : List Stp} {K : List Nat} {cut : Bool}, ColsOk K → Prg K cut sts → FinFull (keptR K sts) f → ∀ x ∈ (sts ++ finS f).map stpD, okR x
  | [], _, _, hK, _, hf => ok_fin hK hf
  | s :: r, K, cut, hK, ⟨h1, _, h3⟩, hf => fun x hx => by
    obtain ⟨k1, _⟩ := h1.kept hK
    rcases List.mem_cons.mp (show x ∈ stpD s :: (r ++ finS f).map stpD from hx) with rfl | hx
    · exact ok_step hK h1
    · exact ok_prg k1 h3 hf x hx
theorem cols_of (hK : ColsOk K) : Cols (tx K) := ⟨by rw [Ls_tx]; have := hK.few; omega, by rw [Ls_tx]; exact hK.asc⟩
theorem is_report_yes (hK : ColsOk K) (hp : Prg K false sts) (hf : FinFull (keptR K sts) f) (few : (sts ++ finS f).length ≤ 8) (q : Q (.bool true) n) : MD w_is_report [.d (schD K rules keys), .d (.tuple ((sts ++ finS f).map stpD))] n Q := by
  refine is_report_run (cols_of hK) (okRs_of (ok_prg hK hp hf)) ?_
  have : repB (tx K) (.tuple ((sts ++ finS f).map stpD)) = true := by
    show (decide (((sts ++ finS f).map stpD).length ≤ 8) && progB (tx K) false false ((sts ++ finS f).map stpD)) = true
    rw [prog_of hK.asc hK hp hf, decide_eq_true (by rw [List.length_map]; exact few)]
    rfl
  rw [this]
  exact q
end
def mLeB : Option Int → Option Int → Bool
  | none, _ => true
  | some i, some j => decide (j ≤ i)
  | some _, none => false
def kLeB : Kn → Kn → Bool
  | .kn cs o k c m, .kn cs' o' k' c' m' => cs.all (fun p => decide (p ∈ cs')) && ((Txt.startswith (tx o') (tx o) && inB k k') && ((!c || c') && mLeB m m'))
  | .emp, .kn _ _ _ _ _ => false
  | _, .emp => true
section
variable {n : Nat} {Q : PyData → Nat → Prop} {K : List Nat}
theorem eqv_cD (p q : Nat × Int) : PyData.eqv (cD p) (cD q) = decide (p = q) := by
  obtain ⟨a, i⟩ := p
  obtain ⟨b, j⟩ := q
  rw [Bool.eq_iff_iff, decide_eq_true_eq]
  show (decide ((⟨#[a]⟩ : Str) = ⟨#[b]⟩) && (PyData.eqv (.int i) (.int j) && true)) = true ↔ _
  rw [Bool.and_true, Bool.and_eq_true, decide_eq_true_eq]
  have e : (PyData.eqv (.int i) (.int j) = true) ↔ i = j := by rw [PyData.eqv]; simp
  rw [e]
  constructor
  · rintro ⟨h1, h2⟩; rw [sg_inj h1, h2]
  · intro h; cases h; exact ⟨rfl, rfl⟩
theorem dfree_cD : ∀ cs : CsT, dfreeAll (cs.map cD) = true
  | [] => rfl
  | p :: r => by simp [dfreeAll, dfree, cD, dfree_cD r]
theorem depth_cD : ∀ cs : CsT, PyData.depthAll (cs.map cD) ≤ 1
  | [] => Nat.zero_le _
  | p :: r => by
    have := depth_cD r
    simp only [List.map_cons, PyData.depthAll, cD, PyData.depth]
    simp
    omega
theorem in_cs {neg : Bool} (p : Nat × Int) (cs : CsT) : eIn neg (cD p) (.tuple (cs.map cD)) = some (.bool (neg ^^ decide (p ∈ cs))) := by
  show eInL neg (cD p) (.tuple (cs.map cD)) = _
  unfold eInL
  show (if _ then _ else _) = _
  have hd : ((dfreeAll (cs.map cD) || dfree (cD p)) && decide (min (PyData.depthAll (cs.map cD)) (cD p).depth ≤ 60)) = true := by
    have h1 := depth_cD cs
    have h2 : min (PyData.depthAll (cs.map cD)) (cD p).depth ≤ 60 := Nat.le_trans (Nat.min_le_left _ _) (by omega)
    rw [dfree_cD, Bool.true_or, Bool.true_and, decide_eq_true h2]
  rw [if_pos hd]
  refine congrArg (fun b => some (PyData.bool (neg ^^ b))) ?_
  rw [Bool.eq_iff_iff, List.any_eq_true, decide_eq_true_eq]
  constructor
  · rintro ⟨x, hx, e⟩
    obtain ⟨q, hq, rfl⟩ := List.mem_map.mp hx
    rw [eqv_cD, decide_eq_true_eq] at e
    exact e ▸ hq
  · intro h
    exact ⟨cD p, List.mem_map.mpr ⟨p, h, rfl⟩, by rw [eqv_cD]; simp⟩
theorem is_weaker_run {q q' : Kn} (hK : ColsOk K) (h : KnOk K q) (q0 : Q (.bool (kLeB q q')) n) : MD w_is_weaker [.d (knD q), .d (knD q')] n Q := by
  refine md_def rfl rfl ?_
  unfold t_is_weaker
  cases q with
  | emp =>
    (repeat walk_at "s")
    refine ⟨_, eq_emp .emp, ?_⟩
    walk_at "r"
    walk_at "t"
    walk_at "t"
    (repeat walk_at "s")
    refine ⟨_, eq_emp q', ?_⟩
    cases q' <;> exact q0
  | kn cs o k c m =>
    (repeat walk_at "s")
    refine ⟨_, eq_emp _, ?_⟩
    walk_at "r"
    walk_at "f"
    (repeat walk_at "s")
    refine ⟨_, eq_emp q', ?_⟩
    walk_at "r"
    cases q' with
    | emp =>
      walk_at "t"
      (repeat walk_at "s")
      exact ⟨_, eq_emp .emp, q0⟩
    | kn cs' o' k' c' m' =>
      have h : KnP K cs o k m := h
      have hk := h.known.length_le
      have h5 := hK.few
      walk_at "f"
      (repeat walk_at "s")
      refine ⟨[some (.d (knD (.kn cs o k c m))), some (.d (knD (.kn cs' o' k' c' m'))), some (.d (.tuple (cs.map cD))), some (.d (.str (tx o))), some (.d (.str (tx k))), some (.d (.bool c)), some (.d (mostD m)), none, none, none, none, none, none], rfl, ?_⟩
      (repeat walk_at "s")
      refine ⟨[some (.d (knD (.kn cs o k c m))), some (.d (knD (.kn cs' o' k' c' m'))), some (.d (.tuple (cs.map cD))), some (.d (.str (tx o))), some (.d (.str (tx k))), some (.d (.bool c)), some (.d (mostD m)), some (.d (.tuple (cs'.map cD))), some (.d (.str (tx o'))), some (.d (.str (tx k'))), some (.d (.bool c')), some (.d (mostD m')), none], rfl, ?_⟩
      (repeat walk_at "s")
      refine m_lcM cs cD (fun p => .bool (decide (p ∈ cs'))) ?_
      (repeat walk_at "s")
      refine ⟨_, rfl, rfl, by have := h.cs.few hK; rw [sizeLine_eq]; omega, fun p hp => ⟨_, rfl, fun m => ?_⟩, _, all_map _ cs, ?_⟩
      · (repeat walk_at "s")
        refine ⟨_, in_cs p cs', ?_, rfl⟩
        rw [Bool.false_xor]
      have q0 : Q (.bool (cs.all (fun p => decide (p ∈ cs')) && ((Txt.startswith (tx o') (tx o) && inB k k') && ((!c || c') && mLeB m m')))) n := q0
      walk_at "r"
      cases e1 : cs.all (fun p => decide (p ∈ cs')) with
      | false =>
        rw [e1] at q0
        walk_at "t"
        (repeat walk_at "s")
        exact q0
      | true =>
        rw [e1, Bool.true_and] at q0
        walk_at "f"
        walk_at "s"; walk_at "s"; walk_at "s"; walk_at "s"; walk_at "s"; walk_at "s"
        refine m_ms hm_starts ?_
        (repeat walk_at "s")
        refine ⟨_, rfl, ?_⟩
        (repeat walk_at "s")
        refine ⟨_, rfl, ?_⟩
        walk_at "r"
        cases e2 : Txt.startswith (tx o') (tx o) with
        | false =>
          rw [e2] at q0
          walk_at "t"
          walk_at "t"
          (repeat walk_at "s")
          exact q0
        | true =>
          rw [e2, Bool.true_and] at q0
          walk_at "f"
          (repeat walk_at "s")
          refine contains_run (by omega) ?_
          walk_at "r"
          cases e3 : inB k k' with
          | false =>
            rw [e3] at q0
            walk_at "t"
            (repeat walk_at "s")
            exact q0
          | true =>
            rw [e3, Bool.true_and] at q0
            walk_at "f"
            (repeat walk_at "s"); walk_at "r"
            have last : (c = true → c' = true) → MS (sRet (wOrE (wOp (pIs false) (wVar 6) (wC .none)) (wAndE (wOp (pIs true) (wVar 11) (wC .none)) (wOp pLe (wVar 11) (wVar 6)))))
                [some (.d (knD (.kn cs o k c m))), some (.d (knD (.kn cs' o' k' c' m'))), some (.d (.tuple (cs.map cD))), some (.d (.str (tx o))), some (.d (.str (tx k))), some (.d (.bool c)), some (.d (mostD m)), some (.d (.tuple (cs'.map cD))), some (.d (.str (tx o'))), some (.d (.str (tx k'))), some (.d (.bool c')), some (.d (mostD m')), none] n (fun _ m => Q PyData.none m) Q noEnd noEnd := fun hc => by
              have q0 : Q (.bool (mLeB m m')) n := by
                have : (!c || c') = true := by
                  cases c with
                  | false => rfl
                  | true => rw [hc rfl]; rfl
                rw [this, Bool.true_and] at q0
                exact q0
              cases m with
              | none =>
                (repeat walk_at "s")
                refine ⟨_, rfl, ?_⟩
                walk_at "r"
                walk_at "t"
                exact q0
              | some i =>
                (repeat walk_at "s")
                refine ⟨_, rfl, ?_⟩
                walk_at "r"
                walk_at "f"
                cases m' with
                | none =>
                  (repeat walk_at "s")
                  refine ⟨_, rfl, ?_⟩
                  walk_at "r"
                  walk_at "f"
                  exact q0
                | some j =>
                  (repeat walk_at "s")
                  refine ⟨_, rfl, ?_⟩
                  walk_at "r"
                  walk_at "t"
                  (repeat walk_at "s")
                  exact ⟨_, rfl, q0⟩
            cases c with
            | false =>
              walk_at "f"
              walk_at "f"
              walk_at "s"
              exact last fun z => nomatch z
            | true =>
              walk_at "t"
              (repeat walk_at "s"); walk_at "r"
              cases c' with
              | false =>
                walk_at "t"
                (repeat walk_at "s")
                exact q0
              | true =>
                walk_at "f"
                walk_at "s"
                exact last fun _ => rfl
end
section
variable {n : Nat} {Q : PyData → Nat → Prop} {K : List Nat} {rules : List Rule} {keys : List (List Nat)} {sts : List Stp} {f : Fin}
theorem ix_atL {xs : List PyData} {j : Nat} {v : PyData} (h : xs[j]? = some v) : eIx (.list xs) (.int (j : Int)) = some v := atI_nat h
theorem starts_self (z : Str) : Txt.startswith z z = true := by
  unfold Txt.startswith
  rw [Bool.and_eq_true]
  refine ⟨decide_eq_true (by omega), ?_⟩
  unfold Builtin.Str.subAt
  simp
  exact .inr (Nat.le_refl _)
theorem kLeB_refl : ∀ q : Kn, kLeB q q = true
  | .emp => rfl
  | .kn cs o k c m => by
    show (cs.all (fun p => decide (p ∈ cs)) && ((Txt.startswith (tx o) (tx o) && inB k k) && ((!c || c) && mLeB m m))) = true
    have h1 : cs.all (fun p => decide (p ∈ cs)) = true := List.all_eq_true.mpr fun p hp => decide_eq_true hp
    have h2 : inB k k = true := inB_iff.mpr fun _ h => h
    have h3 : mLeB m m = true := by
      cases m with
      | none => rfl
      | some i => exact decide_eq_true (Int.le_refl i)
    rw [h1, h2, h3, starts_self]
    cases c <;> rfl
theorem kn_yes {q : Kn} (hK : ColsOk K) (h : KnOk K q) : knB K (knD q) = true := by
  cases q with
  | emp => exact (by decide +kernel : isS "empty" (.str "empty") = true)
  | kn cs o k c m =>
    have h : KnP K cs o k m := h
    show (csB K (.tuple (cs.map cD)) && (ordB K (.str (tx o)) && (setB K (.str (tx k)) && (isBl (.bool c) && bndB (mostD m))))) = true
    have h1 : csB K (.tuple (cs.map cD)) = true := by
      show ((cs.map cD).all (conB K) && isSet K ((cs.map cD).map colD)) = true
      rw [Bool.and_eq_true]
      refine ⟨List.all_eq_true.mpr fun x hx => ?_, ?_⟩
      · obtain ⟨p, hp, rfl⟩ := List.mem_map.mp hx
        show (isCol K (sg p.1) && true) = true
        rw [one_of_sg (h.cs.sub p.1 (List.mem_map.mpr ⟨p, hp, rfl⟩))]
        rfl
      · have e : (cs.map cD).map colD = colsC cs := by rw [List.map_map]; rfl
        rw [e]
        unfold isSet
        rw [Bool.and_eq_true]
        exact ⟨List.all_eq_true.mpr fun c hc => decide_eq_true (h.cs.sub c hc), decide_eq_true h.cs.asc⟩
    have h2 := ord_of h.osub h.ond
    have h3 : setB K (.str (tx k)) = true := by
      show isSet K (Ls (tx k)) = true
      rw [Ls_tx]
      exact set_of hK.asc h.known
    have h4 : bndB (mostD m) = true := by
      cases m with
      | none => rfl
      | some i => exact decide_eq_true (h.most i rfl)
    rw [h1, h2, h3, h4]
    rfl
theorem kn_okR {q : Kn} (hK : ColsOk K) (h : KnOk K q) : okR (knD q) ∧ ∀ xs, knD q = .tuple xs → ∀ x ∈ xs, lenOfK x ≤ 1000 := by
  have h5 := hK.few
  cases q with
  | emp =>
    refine ⟨⟨(by decide +kernel : (Ls (Str.ofString "empty")).length ≤ 1000 ∧ ∀ c ∈ Ls (Str.ofString "empty"), c < 0x110000), trivial⟩, fun xs e x hx => ?_⟩
    cases e
    rw [List.mem_singleton.mp hx]
    exact Nat.zero_le _
  | kn cs o k c m =>
    have h : KnP K cs o k m := h
    have lo := nodup_len h.ond h.osub
    have lk := h.known.length_le
    have lc := h.cs.few hK
    refine ⟨⟨okRs_of fun x hx => ?_, ok_cols hK h.osub (by omega), ok_cols hK (fun c hc => h.known.subset hc) (by omega), trivial, by cases m <;> exact trivial, trivial⟩, fun xs e x hx => ?_⟩
    · obtain ⟨p, hp, rfl⟩ := List.mem_map.mp hx
      exact ⟨ok_cols (l := [p.1]) hK (fun d hd => by rw [List.mem_singleton.mp hd]; exact h.cs.sub p.1 (List.mem_map.mpr ⟨p, hp, rfl⟩)) (by simp), trivial, trivial⟩
    · cases e
      rcases List.mem_cons.mp hx with rfl | hx
      · show (cs.map cD).length ≤ 1000
        rw [List.length_map]
        omega
      · rcases List.mem_cons.mp hx with rfl | hx
        · exact Nat.zero_le _
        · rcases List.mem_cons.mp hx with rfl | hx
          · exact Nat.zero_le _
          · rcases List.mem_cons.mp hx with rfl | hx
            · exact Nat.zero_le _
            · rw [List.mem_singleton.mp hx]
              cases m <;> exact Nat.zero_le _
theorem is_knowledge_yes {q : Kn} (hK : ColsOk K) (h : KnOk K q) (q0 : Q (.bool true) n) : MD w_is_knowledge [.d (schD K rules keys), .d (knD q)] n Q := by
  have h5 := hK.few
  obtain ⟨o1, o2⟩ := kn_okR hK h
  refine is_knowledge_run (by rw [Ls_tx]; omega) (by rw [Ls_tx]; exact hK.asc) (by rw [Ls_tx]; exact hK.low) o1 o2 ?_
  rw [Ls_tx, kn_yes hK h]
  exact q0
/-- a settled report, drawn or made -/
structure Good (K : List Nat) (rules : List Rule) (keys : List (List Nat)) (sts : List Stp) (f : Fin) : Prop where
  prg : Prg K false sts
  fin : FinFull (keptR K sts) f
  few : (sts ++ finS f).length ≤ 8
  stl : stlB K rules keys (keptR K sts) f (sts.foldl (aft K rules keys) (Pu.stK K rules keys)) = true
theorem fin_full_ok {l : List Nat} (h : FinFull l f) : FinOk l f := by
  cases f with
  | non => trivial
  | cnt g => exact h.1
  | sum g c => exact ⟨h.1, h.2.2.1⟩
  | hds g => exact h.1
/-- a group changes nothing -/
theorem fold_fin (q : Kn) : (sts ++ finS f).foldl (aft K rules keys) q = sts.foldl (aft K rules keys) q := by
  rw [List.foldl_append]
  generalize sts.foldl (aft K rules keys) q = q'
  cases f <;> cases q' <;> rfl
theorem Good.facts (g : Good K rules keys sts f) (hK : ColsOk K) : (∀ st ∈ sts, StpOk K st) ∧ (∀ st ∈ sts, isG st = false) ∧ FinOk (keptR K sts) f ∧ ColsOk (keptR K sts) ∧ (∀ st ∈ sts ++ finS f, StpOk K st) := by
  obtain ⟨a, b, c⟩ := prg_ok g.prg hK
  exact ⟨fun st h => (a st h).1, fun st h => (a st h).2.2, fin_full_ok g.fin, b, fun st h => (List.mem_append.mp h).elim (fun z => (a st z).1) (fin_ok f st)⟩
theorem settled_yes (g : Good K rules keys sts f) (hK : ColsOk K) (hR : RulesOk K rules) (hY : KeysOk K keys) (q : Q (.bool true) n) : MD w_is_settled [.d (schD K rules keys), .d (.tuple ((sts ++ finS f).map stpD))] n Q := by
  obtain ⟨a, b, c, d, e⟩ := g.facts hK
  have few := g.few
  rw [List.length_append] at few
  refine is_settled_run hK hR hY (by omega) a b c d ?_
  rw [derv_last, fold_fin, g.stl]
  exact q
theorem find_yes (g : Good K rules keys sts f) (hK : ColsOk K) (hR : RulesOk K rules) (hY : KeysOk K keys) (q : Q (.list ((dervK K rules keys (Pu.stK K rules keys) (sts ++ finS f)).map knD)) n) : MD w_find_derivation [.d (schD K rules keys), .d (.tuple ((sts ++ finS f).map stpD))] n Q := by
  obtain ⟨a, b, c, d, e⟩ := g.facts hK
  have few := g.few
  refine md_def rfl rfl ?_
  unfold t_find_derivation
  (repeat walk_at "s")
  refine md_fz ?_
  refine derive_run hK hR hY (by omega) e ?_
  (repeat walk_at "s")
  refine ⟨1, rfl, ?_⟩
  refine ⟨_, ix_lastL (by simpa using derv_ne _ _), ?_⟩
  rw [List.getLast_map]
  (repeat walk_at "s")
  refine settles_run hK hR hY (derv_ok hK _ _ stK_ok e _ (List.getLast_mem _)) a b c d ?_
  rw [derv_last, fold_fin, g.stl]
  walk_at "r"
  walk_at "t"
  (repeat walk_at "s")
  exact q
theorem deriv_yes (g : Good K rules keys sts f) (hK : ColsOk K) (hR : RulesOk K rules) (hY : KeysOk K keys) (q : Q (.bool true) n) :
    MD w_is_derivation [.d (schD K rules keys), .d (.tuple ((sts ++ finS f).map stpD)), .d (.list ((dervK K rules keys (Pu.stK K rules keys) (sts ++ finS f)).map knD))] n Q := by
  obtain ⟨a, b, c, d, e⟩ := g.facts hK
  have few := g.few
  have at_ := derv_at (K := K) (rules := rules) (keys := keys) (sts ++ finS f) (Pu.stK K rules keys)
  have ok := derv_ok (rules := rules) (keys := keys) hK (sts ++ finS f) (Pu.stK K rules keys) stK_ok e
  have len := derv_len (K := K) (rules := rules) (keys := keys) (Pu.stK K rules keys) (sts ++ finS f)
  have d0 : (dervK K rules keys (Pu.stK K rules keys) (sts ++ finS f))[0]? = some (Pu.stK K rules keys) := by
    cases sts ++ finS f <;> rfl
  have last : ∀ ne, stlB K rules keys (keptR K sts) f ((dervK K rules keys (Pu.stK K rules keys) (sts ++ finS f)).getLast ne) = true := fun ne => by
    rw [derv_last, fold_fin]
    exact g.stl
  have lastOk : ∀ ne, KnOk K ((dervK K rules keys (Pu.stK K rules keys) (sts ++ finS f)).getLast ne) := fun ne => ok _ (List.getLast_mem ne)
  have dne := derv_ne (K := K) (rules := rules) (keys := keys) (Pu.stK K rules keys) (sts ++ finS f)
  generalize hD : dervK K rules keys (Pu.stK K rules keys) (sts ++ finS f) = D at at_ ok len d0 last lastOk dne
  refine md_def rfl rfl ?_
  unfold t_is_derivation
  (repeat walk_at "s"); walk_at "r"; walk_at "r"; walk_at "f"
  (repeat walk_at "s")
  refine ⟨_, rfl, ?_⟩
  (repeat walk_at "s")
  refine ⟨_, rfl, ?_⟩
  (repeat walk_at "s")
  refine ⟨_, rfl, ?_⟩
  refine ⟨_, ne2_int _ _, ?_⟩
  rw [decide_eq_true (show (((D.map knD).length : Nat) : Int) = 1 + ((((sts ++ finS f).map stpD).length : Nat) : Int) by rw [List.length_map, List.length_map, len]; omega)]
  walk_at "r"
  walk_at "f"
  walk_at "s"
  (repeat walk_at "s")
  refine m_lcM D knD (fun _ => .bool true) ?_
  (repeat walk_at "s")
  refine ⟨_, rfl, rfl, by rw [len, sizeLine_eq]; omega, fun z hz => ⟨_, rfl, fun m => ?_⟩, _, all_map (fun _ => true) D, ?_⟩
  · (repeat walk_at "s")
    exact is_knowledge_yes hK (ok z hz) ⟨rfl, rfl⟩
  rw [show (D.all fun _ => true) = true from List.all_eq_true.mpr fun _ _ => rfl]
  walk_at "r"
  walk_at "f"
  walk_at "s"
  (repeat walk_at "s")
  refine ⟨_, ix_atL (j := 0) (v := knD (Pu.stK K rules keys)) (by rw [List.getElem?_map, d0]; rfl), ?_⟩
  (repeat walk_at "s")
  refine start_run hK hR hY ?_
  (repeat walk_at "s")
  refine is_weaker_run hK stK_ok ?_
  rw [kLeB_refl]
  walk_at "r"
  walk_at "f"
  walk_at "s"
  walk_at "s"
  refine n_for ?_
  (repeat walk_at "s")
  refine ⟨(sts ++ finS f).map stpD, .inr rfl, fun rest e m' => m' = n ∧ ∃ (j : Nat) (x3 x4 : Option Sl), rest = (enumD ((sts ++ finS f).map stpD)).drop j ∧ e = [some (.d (schD K rules keys)), some (.d (.tuple ((sts ++ finS f).map stpD))), some (.d (.list (D.map knD))), x3, x4, none],
    ⟨rfl, 0, none, none, rfl, rfl⟩, fun y rest e' m' hI => ?_, fun e' m' hI => ?_⟩
  · obtain ⟨rfl, j, x3, x4, er, rfl⟩ := hI
    obtain ⟨hj, rfl, er2⟩ := enum_atS er
    have hj' : j < (sts ++ finS f).length := by rw [List.length_map] at hj; exact hj
    obtain ⟨u, a1, a2⟩ := at_ j hj'
    have oka : KnOk K u := ok u (List.mem_of_getElem? a1)
    have so : StpOk K (sts ++ finS f)[j] := e _ (List.getElem_mem hj')
    rw [List.getElem_map]
    refine ⟨_, rfl, ?_⟩
    (repeat walk_at "s")
    refine ⟨.int ((j + 1 : Nat) : Int), by rw [show ((j + 1 : Nat) : Int) = (j : Int) + 1 by omega]; rfl, ?_⟩
    refine ⟨_, ix_atL (j := j + 1) (v := knD (aft K rules keys u (sts ++ finS f)[j])) (by rw [List.getElem?_map, a2]; rfl), ?_⟩
    (repeat walk_at "s")
    refine ⟨_, ix_atL (j := j) (v := knD u) (by rw [List.getElem?_map, a1]; rfl), ?_⟩
    (repeat walk_at "s")
    refine knowledge_after_run hK hR hY oka so ?_
    (repeat walk_at "s")
    refine is_weaker_run hK (aft_ok hK oka so) ?_
    rw [kLeB_refl]
    walk_at "r"
    walk_at "f"
    walk_at "s"
    exact ⟨rfl, j + 1, _, _, er2, rfl⟩
  · obtain ⟨rfl, j, x3, x4, er, rfl⟩ := hI
    (repeat walk_at "s")
    refine ⟨1, rfl, ?_⟩
    refine ⟨_, ix_lastL (by simpa using dne), ?_⟩
    rw [List.getLast_map]
    (repeat walk_at "s")
    refine settles_run hK hR hY (lastOk _) a b c d ?_
    rw [last]
    exact q
end
section
variable {n : Nat} {Q : PyData → Nat → Prop} {K : List Nat} {rules : List Rule} {keys : List (List Nat)} {v : Int}
abbrev whrs (v : Int) (us : List Nat) : List Stp := us.map fun u => .whr u v
theorem whr_fold (v : Int) : ∀ (us : List Nat) (cs : CsT) (o k : List Nat) (c : Bool) (m : Option Int), (∀ u ∈ us, u ∉ colsC cs) → us.Nodup →
    ∃ cs' k' c' m', (whrs v us).foldl (aft K rules keys) (.kn cs o k c m) = .kn cs' o k' c' m' ∧ (∀ x, x ∈ colsC cs' ↔ x ∈ colsC cs ∨ x ∈ us) ∧ ((∀ u ∈ us, u ∈ k) → k' = k ∧ c' = c)
  | [], cs, o, k, c, m, _, _ => ⟨cs, k, c, m, rfl, fun x => by simp, fun _ => ⟨rfl, rfl⟩⟩
  | u :: us, cs, o, k, c, m, hn, nd => by
    obtain ⟨n1, n2⟩ := List.nodup_cons.mp nd
    have hf : fixC cs u = none := fixC_none.mpr (hn u List.mem_cons_self)
    have mem : ∀ x, x ∈ colsC (srtC (cs ++ [(u, v)])) ↔ x ∈ colsC cs ∨ x = u := fun x => by
      have : x ∈ colsC (srtC (cs ++ [(u, v)])) ↔ x ∈ colsC (cs ++ [(u, v)]) := ((srtC_perm _).map (·.1)).mem_iff
      rw [this]
      unfold colsC
      rw [List.map_append, List.mem_append]
      simp
    have e : aft K rules keys (.kn cs o k c m) (.whr u v) = .kn (srtC (cs ++ [(u, v)])) o (if u ∈ k then k else []) (c && decide (u ∈ k)) (if oneK K rules keys (colsC cs ++ [u]) = true then some 1 else m) := by
      show afW K rules keys cs o k c m u v = _
      unfold afW
      rw [hf]
    obtain ⟨cs', k', c', m', e1, e2, e3⟩ := whr_fold v us (srtC (cs ++ [(u, v)])) o (if u ∈ k then k else []) (c && decide (u ∈ k)) (if oneK K rules keys (colsC cs ++ [u]) = true then some 1 else m) (fun w hw z => by
      rcases (mem w).mp z with z | z
      · exact hn w (List.mem_cons_of_mem _ hw) z
      · exact n1 (z ▸ hw)) n2
    refine ⟨cs', k', c', m', ?_, fun x => ?_, fun hk => ?_⟩
    · show (whrs v us).foldl (aft K rules keys) (aft K rules keys (.kn cs o k c m) (.whr u v)) = _
      rw [e, e1]
    · rw [e2, mem, List.mem_cons, or_assoc]
    · have hu := hk u List.mem_cons_self
      have := e3 fun w hw => by rw [if_pos hu]; exact hk w (List.mem_cons_of_mem _ hw)
      rw [if_pos hu, decide_eq_true hu, Bool.and_true] at this
      exact this
theorem prg_whrs {us : List Nat} {cut : Bool} {t : List Stp} (hs : ∀ u ∈ us, u ∈ K) (hv : v.natAbs ≤ 100000) (h : Prg K cut t) : Prg K cut (whrs v us ++ t) := by
  induction us with
  | nil => exact h
  | cons u us ih =>
    refine ⟨⟨hs u List.mem_cons_self, hv⟩, by simp [isSrtS], ?_⟩
    show Prg K (cut || false) (whrs v us ++ t)
    rw [Bool.or_false]
    exact ih fun w hw => hs w (List.mem_cons_of_mem _ hw)
theorem kept_whrs {us : List Nat} {t : List Stp} : keptR K (whrs v us ++ t) = keptR K t := by
  induction us with
  | nil => rfl
  | cons u us ih => exact ih
/-- a key's columns have one value: one row at most -/
theorem whr_key (hK : ColsOk K) (hr : ∀ p ∈ rules, p.2 ∈ K) {us : List Nat} (hu : us ∈ keys) (sub : us.Sublist K) {cs : CsT} {o k : List Nat} {c : Bool} {m : Option Int} (hc : ∀ u ∈ us, u ∈ colsC cs) (i : KInv K rules keys (.kn cs o k c m)) : m = some 1 :=
  i (List.any_eq_true.mpr ⟨us, hu, inB_iff.mpr fun x hx => clos_low (asc_nodup hK.asc) hr List.filter_sublist x (mem_fil.mpr ⟨sub.subset hx, hc x hx⟩)⟩)
theorem preS_all {p : List Nat} (h : ∀ c ∈ p, c ∈ K) : preS K p = p := by
  unfold preS
  induction p with
  | nil => rfl
  | cons a p ih =>
    rw [List.takeWhile_cons_of_pos (by simpa using h a List.mem_cons_self), ih fun c hc => h c (List.mem_cons_of_mem _ hc)]
theorem good_mk {sts : List Stp} {f : Fin} {l : List Nat} (hp : Prg K false sts) (few : (sts ++ finS f).length ≤ 8) (ek : keptR K sts = l) (hf : FinFull l f) (s : stlB K rules keys l f (sts.foldl (aft K rules keys) (Pu.stK K rules keys)) = true) : Good K rules keys sts f :=
  ⟨hp, by rw [ek]; exact hf, few, by rw [ek]; exact s⟩
theorem sure1 {p : List Nat} (h : (∀ c ∈ p, c ∈ K) ∧ p.Nodup ∧ p ≠ []) : Good K rules keys [.srt false p, .cut true 0] .non :=
  good_mk ⟨h, rfl, Nat.zero_le _, rfl, trivial⟩ (show 2 ≤ 8 by decide) rfl trivial rfl
theorem sure2 (hK : ColsOk K) (hr : ∀ p ∈ rules, p.2 ∈ K) : Good K rules keys [.srt false K, .cut true 3] .non := by
  refine good_mk ⟨⟨fun _ h => h, asc_nodup hK.asc, hK.some⟩, rfl, (by decide : (3 : Nat) ≤ 20), rfl, trivial⟩ (show 2 ≤ 8 by decide) rfl trivial ?_
  show stlB K rules keys (keptL K (.cut true 3)) .non (aft K rules keys (aft K rules keys (Pu.stK K rules keys) (.srt false K)) (.cut true 3)) = true
  refine settled_more hK hr trivial rfl (List.Sublist.refl _) (fun _ _ z => nomatch z) ?_
  show (true && (inB K K && (decide _ || inB K (fxK K rules keys [] [] (afS K [] false K))))) = true
  have e : afS K [] false K = K := by
    unfold afS
    rw [if_neg (fun z => nomatch z.1), preS_all fun _ h => h]
  have h1 : inB K K = true := inB_iff.mpr fun _ h => h
  have h2 : inB K (fxK K rules keys [] [] K) = true := inB_iff.mpr fun x hx => clos_low (asc_nodup hK.asc) hr List.filter_sublist x (mem_fil.mpr ⟨hx, by simp [hx]⟩)
  rw [e, h1, h2, Bool.or_true]
  rfl
theorem cut_keeps {cs : CsT} {o k : List Nat} {c : Bool} {m : Option Int} (n : Nat) (h : n ≠ 0) : ∃ k' m', aft K rules keys (.kn cs o k c m) (.cut true n) = .kn cs o k' c m' ∧ ∃ j, m' = some j ∧ j ≤ n := by
  show ∃ k' m', afC K rules keys cs o k c m true n = .kn cs o k' c m' ∧ _
  unfold afC
  rw [if_neg h]
  cases m with
  | none => exact ⟨_, _, rfl, _, rfl, Int.le_refl _⟩
  | some j =>
    dsimp only
    by_cases a : j ≤ (n : Int)
    · rw [if_pos a]
      exact ⟨_, _, rfl, _, rfl, a⟩
    · rw [if_neg a]
      exact ⟨_, _, rfl, _, rfl, Int.le_refl _⟩
theorem skip_all {cs : CsT} {o k : List Nat} {c : Bool} {j : Int} {n : Nat} (h : n ≠ 0) (hj : j ≤ n) : aft K rules keys (.kn cs o k c (some j)) (.cut false n) = .emp := by
  show afC K rules keys cs o k c (some j) false n = .emp
  unfold afC
  rw [if_neg h]
  dsimp only
  rw [if_pos hj]
  rfl
theorem sure3 {c : Nat} (hc : c ∈ K) (hv : v.natAbs ≤ 1000) : Good K rules keys [.whr c v, .cut true 2, .whr c (v + 1)] .non := by
  refine good_mk ⟨⟨hc, by omega⟩, rfl, (by decide : (2 : Nat) ≤ 20), rfl, ⟨hc, by omega⟩, rfl, trivial⟩ (show 3 ≤ 8 by decide) rfl trivial ?_
  show stlB K rules keys K .non (aft K rules keys (aft K rules keys (aft K rules keys (Pu.stK K rules keys) (.whr c v)) (.cut true 2)) (.whr c (v + 1))) = true
  have e1 : ∃ k1 c1 m1, aft K rules keys (Pu.stK K rules keys) (.whr c v) = .kn [(c, v)] [] k1 c1 m1 := by
    have e : srtC ([] ++ [(c, v)]) = [(c, v)] := by
      unfold srtC
      rw [List.nil_append, List.mergeSort_singleton]
    exact ⟨_, _, _, by
      show afW K rules keys [] [] K true _ c v = _
      unfold afW
      rw [show fixC [] c = none from rfl]
      dsimp only
      rw [e]⟩
  obtain ⟨k1, c1, m1, e1⟩ := e1
  obtain ⟨k2, m2, e2, _⟩ := cut_keeps (K := K) (rules := rules) (keys := keys) (cs := [(c, v)]) (o := []) (k := k1) (c := c1) (m := m1) 2 (by decide)
  rw [e1, e2]
  show stlB K rules keys K .non (afW K rules keys [(c, v)] [] k2 c1 m2 c (v + 1)) = true
  unfold afW
  rw [show fixC [(c, v)] c = some v by unfold fixC; rw [List.find?_cons, decide_eq_true (show (c, v).1 = c from rfl)]; rfl]
  dsimp only
  rw [if_neg (by omega)]
  rfl
theorem sure4 {c : Nat} (hc : c ∈ K) : Good K rules keys [.cut true 2, .cut false 2] (.cnt [c]) := by
  refine good_mk ⟨(by decide : (2 : Nat) ≤ 20), rfl, (by decide : (2 : Nat) ≤ 20), rfl, trivial⟩ (show 3 ≤ 8 by decide) rfl ⟨List.singleton_sublist.mpr hc, by simp⟩ ?_
  show stlB K rules keys K (.cnt [c]) (aft K rules keys (aft K rules keys (.kn [] [] K true _) (.cut true 2)) (.cut false 2)) = true
  obtain ⟨k2, m2, e2, j, ej, hj⟩ := cut_keeps (K := K) (rules := rules) (keys := keys) (cs := []) (o := []) (k := K) (c := true) (m := if oneK K rules keys [] = true then some 1 else none) 2 (by decide)
  rw [e2, ej, skip_all (by decide) hj]
  rfl
theorem sure5 (hK : ColsOk K) (hr : ∀ p ∈ rules, p.2 ∈ K) {us : List Nat} (hu : us ∈ keys) (sub : us.Sublist K) (l5 : us.length ≤ 5) (hv : v.natAbs ≤ 1000) : Good K rules keys (.cut true 4 :: (whrs v us ++ [.cut false 1])) .non := by
  have nd : us.Nodup := (asc_nodup hK.asc).sublist sub
  refine good_mk ⟨(by decide : (4 : Nat) ≤ 20), rfl, prg_whrs (fun u h => sub.subset h) (by omega) ⟨(by decide : (1 : Nat) ≤ 20), by simp [isSrtS], trivial⟩⟩ ?_ (show keptR K (whrs v us ++ [Stp.cut false 1]) = K by rw [kept_whrs]; rfl) trivial ?_
  · show ((Stp.cut true 4 :: (whrs v us ++ [Stp.cut false 1])) ++ []).length ≤ 8
    rw [List.append_nil, List.length_cons, List.length_append, List.length_map]
    simp
    omega
  show stlB K rules keys K .non ((whrs v us ++ [Stp.cut false 1]).foldl (aft K rules keys) (aft K rules keys (Pu.stK K rules keys) (.cut true 4))) = true
  have i1 : KInv K rules keys (aft K rules keys (Pu.stK K rules keys) (.cut true 4)) := inv_aft inv_st
  obtain ⟨k1, m1, e1, _⟩ := cut_keeps (K := K) (rules := rules) (keys := keys) (cs := []) (o := []) (k := K) (c := true) (m := if oneK K rules keys [] = true then some 1 else none) 4 (by decide)
  have e1 : aft K rules keys (Pu.stK K rules keys) (.cut true 4) = .kn [] [] k1 true m1 := e1
  rw [e1] at i1 ⊢
  rw [List.foldl_append]
  obtain ⟨cs', k', c', m', e2, e3, _⟩ := whr_fold (K := K) (rules := rules) (keys := keys) v us [] [] k1 true m1 (fun _ _ z => nomatch z) nd
  have i2 := fold_inv (sts := whrs v us) i1
  rw [e2] at i2 ⊢
  have em : m' = some 1 := whr_key hK hr hu sub (fun u h => (e3 u).mpr (.inr h)) i2
  rw [em]
  show stlB K rules keys K .non (aft K rules keys (.kn cs' [] k' c' (some 1)) (.cut false 1)) = true
  rw [skip_all (by decide) (by decide)]
  rfl
theorem sure6 (hK : ColsOk K) (hr : ∀ p ∈ rules, p.2 ∈ K) {us : List Nat} {c : Nat} (hc : c ∈ K) (hu : us ∈ keys) (sub : us.Sublist K) (l5 : us.length ≤ 5) (hv : v.natAbs ≤ 1000) : Good K rules keys (whrs v us ++ [.cut true 1, .col [c]]) .non := by
  have nd : us.Nodup := (asc_nodup hK.asc).sublist sub
  refine good_mk (l := [c]) (prg_whrs (fun u h => sub.subset h) (by omega) ⟨(by decide : (1 : Nat) ≤ 20), by simp [isSrtS], ⟨List.singleton_sublist.mpr hc, by simp⟩, by simp [isSrtS], trivial⟩) ?_ (by rw [kept_whrs]; rfl) trivial ?_
  · show ((whrs v us ++ [Stp.cut true 1, Stp.col [c]]) ++ []).length ≤ 8
    rw [List.append_nil, List.length_append, List.length_map]
    simp
    omega
  rw [List.foldl_append]
  obtain ⟨cs', k', c', m', e2, e3, e4⟩ := whr_fold (K := K) (rules := rules) (keys := keys) v us [] [] K true (if oneK K rules keys [] = true then some 1 else none) (fun _ _ z => nomatch z) nd
  obtain ⟨ek, ec⟩ := e4 fun u h => sub.subset h
  have i2 := fold_inv (sts := whrs v us) (inv_st (K := K) (r := rules) (y := keys))
  have e2 : (whrs v us).foldl (aft K rules keys) (Pu.stK K rules keys) = .kn cs' [] k' c' m' := e2
  rw [e2] at i2 ⊢
  have em : m' = some 1 := whr_key hK hr hu sub (fun u h => (e3 u).mpr (.inr h)) i2
  rw [em, ek, ec]
  show stlB K rules keys [c] .non (aft K rules keys (aft K rules keys (.kn cs' [] K true (some 1)) (.cut true 1)) (.col [c])) = true
  have e5 : aft K rules keys (.kn cs' [] K true (some 1)) (.cut true 1) = .kn cs' [] K true (some 1) := rfl
  rw [e5]
  show (true && (inB [c] (K.filter fun x => decide (x ∈ [c])) && (decide (some (1 : Int) = some 1) || _))) = true
  have h1 : inB [c] (K.filter fun x => decide (x ∈ [c])) = true := inB_iff.mpr fun x hx => mem_fil.mpr ⟨by rw [List.mem_singleton.mp hx]; exact hc, hx⟩
  rw [h1]
  rfl
end
theorem not_f {b : Bool} (h : (!b) = false) : b = true := by
  cases b with
  | true => rfl
  | false => cases h
theorem dist_fix {κ : Type} [DecidableEq κ] (l : List κ) : decide ((dist l).length = l.length) = decide l.Nodup := by
  rw [Bool.eq_iff_iff, decide_eq_true_eq, decide_eq_true_eq]
  suffices h : ∀ (l acc : List κ), acc.Nodup → (((l.foldl dstep acc).length = acc.length + l.length ↔ (acc ++ l).Nodup) ∧ (l.foldl dstep acc).length ≤ acc.length + l.length) by
    have := (h l [] List.nodup_nil).1
    simpa [dist] using this
  intro l
  induction l with
  | nil => intro acc ha; simp [ha]
  | cons x r ih =>
    intro acc ha
    rw [List.foldl_cons]
    by_cases hx : x ∈ acc
    · have e : dstep acc x = acc := if_pos hx
      rw [e]
      have h2 := (ih acc ha).2
      refine ⟨⟨fun h => ?_, fun h => ?_⟩, by rw [List.length_cons]; omega⟩
      · rw [List.length_cons] at h; omega
      · exact absurd rfl ((List.nodup_append.mp h).2.2 x hx x List.mem_cons_self)
    · have e : dstep acc x = acc ++ [x] := if_neg hx
      rw [e]
      have ha2 : (acc ++ [x]).Nodup := List.nodup_append.mpr ⟨ha, by simp, fun a h b hb e => hx (by rw [List.mem_singleton.mp hb] at e; exact e ▸ h)⟩
      obtain ⟨h1, h2⟩ := ih (acc ++ [x]) ha2
      rw [List.length_append, List.length_singleton, List.append_assoc, List.singleton_append] at *
      rw [List.length_cons]
      exact ⟨by rw [← h1]; omega, by omega⟩
def ruB (K : List Nat) : PyData → Bool
  | .tuple [.str l, .str r] => isSet K (Ls l) && (oneIn K r && !oneIn (Ls l) r)
  | _ => false
def ruK : PyData → List Key
  | .tuple [.str l, .str r] => [.inr l, .inr r]
  | _ => []
def keK : PyData → Key
  | .str z => .inr z
  | _ => .inl 0
theorem ruB_tK {K : List Nat} {v : PyData} (h : ruB K v = true) : v = tK (ruK v) := by
  unfold ruB at h
  split at h
  · rfl
  · cases h
theorem setB_kD {K : List Nat} {v : PyData} (h : setB K v = true) : v = kD (keK v) := by
  cases v with
  | str z => rfl
  | _ => cases h
def rusB (K : List Nat) : PyData → Bool
  | .tuple rs => rs.all (ruB K) && decide (rs.map ruK).Nodup
  | _ => false
def kesB (K : List Nat) : PyData → Bool
  | .tuple ks => ks.all (setB K) && (!ks.any (isS "") && decide (ks.map keK).Nodup)
  | _ => false
abbrev letL : Str := "abcdefghijklmnopqrstuvwxyz"
def schB : PyData → Bool
  | .tuple [.str z, r, k] => (isSet (Ls letL) (Ls z) && decide (1 ≤ (Ls z).length ∧ (Ls z).length ≤ 5)) && (rusB (Ls z) r && kesB (Ls z) k)
  | _ => false
/-- how long a tuple or list is -/
def lenOf : PyData → Nat
  | .tuple xs => xs.length
  | .list xs => xs.length
  | _ => 0
section
variable {n : Nat} {Q : PyData → Nat → Prop} {K : Str} {v : PyData} {ta : WE} {env : En}
theorem m_lenSetR {ns : List (List Key)} {x : PyData} (few : ns.length < 64) (hx : x = .list (ns.map tK) ∨ x = .tuple (ns.map tK)) (q : Q (.int (dist ns).length) n) (h : ∀ Q' : PyData → Nat → Prop, Q' x n → ME ta env n Q') : ME (w1 pLenSet2 ta) env n Q :=
  fun b P hb k => h (fun y m => y = x ∧ m = n) ⟨rfl, rfl⟩ b _ hb fun y m b1 ⟨e, e2⟩ hb1 => by
    subst e e2
    exact .inr ⟨ns, hx, few, k _ _ b1 q hb1⟩
theorem m_lenSetK {ks : List Key} {x : PyData} (few : ks.length < 64) (hx : x = .tuple (ks.map kD)) (q : Q (.int (dist ks).length) n) (h : ∀ Q' : PyData → Nat → Prop, Q' x n → ME ta env n Q') : ME (w1 pLenSet2 ta) env n Q :=
  fun b P hb k => h (fun y m => y = x ∧ m = n) ⟨rfl, rfl⟩ b _ hb fun y m b1 ⟨e, e2⟩ hb1 => by
    subst e e2
    exact .inl ⟨ks, .inr (.inr hx), by show _ < 4096; omega, k _ _ b1 q hb1⟩
theorem ok2 {a b : PyData} (ok : okR (.tuple [a, b])) : okR a ∧ okR b := ⟨ok.1, ok.2.1⟩
theorem oneIn_eq {K : List Nat} {w : Str} (h : oneIn K w = true) : ∃ c, w = (⟨#[c]⟩ : Str) ∧ c ∈ K := by
  unfold oneIn at h
  split at h
  · rename_i c e
    exact ⟨c, one_eq.mpr e, of_decide_eq_true h⟩
  · cases h
theorem is_rule_run (h : (Ls K).length ≤ 1000) (hK : (Ls K).Pairwise (· < ·)) (ok : okR v) (q : Q (.bool (ruB (Ls K) v)) n) : MD w__is_rule [.d (.str K), .d v] n Q := by
  refine md_def rfl rfl ?_
  unfold t__is_rule
  cases v with
  | tuple xs =>
    (repeat walk_at "s"); walk_at "r"; walk_at "r"; walk_at "f"
    (repeat walk_at "s"); walk_at "r"
    walk_at "s"
    refine ⟨_, ne2_int _ _, ?_⟩
    walk_at "r"
    match xs, ok, q with
    | [a, b], ok, q =>
      obtain ⟨oa, ob⟩ := ok2 ok
      walk_at "f"
      (repeat walk_at "s")
      refine ⟨_, rfl, ?_⟩
      (repeat walk_at "s")
      refine is_column_set_run h hK oa ?_
      walk_at "r"
      refine ⟨fun c => ?_, fun c => ?_⟩
      · (repeat walk_at "s")
        refine is_column_run ob ?_
        walk_at "r"
        cases a with
        | str l =>
          have c : isSet (Ls K) (Ls l) = true := c
          refine ⟨fun c2 => ?_, fun c2 => ?_⟩
          · cases b with
            | str r =>
              have c2 : oneIn (Ls K) r = true := c2
              obtain ⟨d, rfl, hd⟩ := oneIn_eq c2
              (repeat walk_at "s")
              refine ⟨_, in_sg _ _, ?_⟩
              have e : ruB (Ls K) (.tuple [.str l, .str (⟨#[d]⟩ : Str)]) = (true ^^ decide (d ∈ Ls l)) := by
                show (isSet (Ls K) (Ls l) && (oneIn (Ls K) (⟨#[d]⟩ : Str) && !oneIn (Ls l) (⟨#[d]⟩ : Str))) = _
                rw [c, c2, oneIn_sg, Bool.true_xor, Bool.true_and, Bool.true_and]
              rw [e] at q
              exact q
            | _ => cases c2
          · have e : ruB (Ls K) (.tuple [.str l, b]) = false := by
              cases b with
              | str r =>
                have c2 : oneIn (Ls K) r = false := c2
                show (isSet (Ls K) (Ls l) && (oneIn (Ls K) r && !oneIn (Ls l) r)) = false
                rw [c2, Bool.false_and, Bool.and_false]
              | _ => rfl
            rw [e] at q
            rw [c2]
            exact q
        | _ => cases c
      · have e : ruB (Ls K) (.tuple [a, b]) = false := by
          cases a with
          | str l =>
            cases b with
            | str r =>
              have c : isSet (Ls K) (Ls l) = false := c
              show (isSet (Ls K) (Ls l) && _) = false
              rw [c, Bool.false_and]
            | _ => rfl
          | _ => rfl
        rw [e] at q
        rw [c]
        exact q
    | [], _, q => walk_at "t"; (repeat walk_at "s"); exact q
    | [a], _, q =>
      have e : ruB (Ls K) (.tuple [a]) = false := by cases a <;> rfl
      rw [e] at q
      walk_at "t"; (repeat walk_at "s"); exact q
    | _ :: _ :: _ :: r, _, q =>
      have e : (!decide (((r.length + 1 + 1 + 1 : Nat) : Int) = 2)) = true := by
        simp
        omega
      refine ⟨fun _ => ?_, fun h => ?_⟩
      · (repeat walk_at "s")
        have e2 : ∀ a b c : PyData, ruB (Ls K) (.tuple (a :: b :: c :: r)) = false := fun a b c => by cases a <;> cases b <;> rfl
        rw [e2] at q
        exact q
      · exact absurd (e.symm.trans h) Bool.noConfusion
  | _ =>
    (repeat walk_at "s"); walk_at "r"; walk_at "r"; walk_at "t"; walk_at "t"
    (repeat walk_at "s")
    exact q
end
section
variable {n : Nat} {Q : PyData → Nat → Prop} {K : Str} {v : PyData}
theorem rus_tK {K : List Nat} {rs : List PyData} (h : rs.all (ruB K) = true) : rs = (rs.map ruK).map tK := by
  rw [List.map_map]
  exact (List.map_id rs).symm.trans (List.map_congr_left fun x hx => ruB_tK (List.all_eq_true.mp h x hx))
theorem kes_kD {K : List Nat} {ks : List PyData} (h : ks.all (setB K) = true) : ks = (ks.map keK).map kD := by
  rw [List.map_map]
  exact (List.map_id ks).symm.trans (List.map_congr_left fun x hx => setB_kD (List.all_eq_true.mp h x hx))
theorem all_true {xs : List PyData} {f : PyData → Bool} : eAll (.list ((xs.filter fun _ => true).map fun x => .bool (f x))) = some (.bool (xs.all f)) := by
  rw [List.filter_eq_self.mpr fun _ _ => rfl]
  exact all_map f xs
theorem len_eq {κ : Type} [DecidableEq κ] {rs : List PyData} {l : List κ} (e : rs.length = l.length) : eEq (.int (dist l).length) (.int rs.length) = some (.bool (decide l.Nodup)) := by
  rw [Pu.eq_int, ← dist_fix l, e]
  refine congrArg (fun b => some (PyData.bool b)) ?_
  rw [Bool.eq_iff_iff, decide_eq_true_eq, decide_eq_true_eq]
  omega
theorem are_rules_run (h : (Ls K).length ≤ 1000) (hK : (Ls K).Pairwise (· < ·)) (ok : okR v) (few : lenOf v < 64) (q : Q (.bool (rusB (Ls K) v)) n) : MD w__are_rules [.d (.str K), .d v] n Q := by
  refine md_def rfl rfl ?_
  unfold t__are_rules
  cases v with
  | tuple rs =>
    have few : rs.length < 64 := few
    (repeat walk_at "s"); walk_at "r"; walk_at "r"; walk_at "f"
    (repeat walk_at "s")
    refine m_lcF (fun _ => true) (fun x => .bool (ruB (Ls K) x)) ?_
    (repeat walk_at "s")
    refine ⟨rs, rfl, by rw [sizeLine_eq]; omega, fun x hx => ⟨_, rfl, fun m => ?_, fun _ m => ?_⟩, ?_⟩
    · walk_at "s"; exact ⟨rfl, rfl⟩
    · (repeat walk_at "s")
      exact is_rule_run h hK (okRs_mem ok hx) ⟨rfl, rfl⟩
    refine ⟨_, all_true, ?_⟩
    walk_at "r"
    refine ⟨fun c => ?_, fun c => ?_⟩
    · have c : rs.all (ruB (Ls K)) = false := by simpa using c
      have e : rusB (Ls K) (.tuple rs) = false := by
        show (rs.all (ruB (Ls K)) && _) = false
        rw [c, Bool.false_and]
      rw [e] at q
      (repeat walk_at "s")
      exact q
    · have c : rs.all (ruB (Ls K)) = true := not_f c
      have e : rusB (Ls K) (.tuple rs) = decide (rs.map ruK).Nodup := by
        show (rs.all (ruB (Ls K)) && _) = _
        rw [c, Bool.true_and]
      rw [e] at q
      walk_at "s"
      walk_at "s"
      walk_at "s"
      refine m_lenSetR (ns := rs.map ruK) (x := .tuple rs) (by rw [List.length_map]; exact few) (.inr (congrArg _ (rus_tK c))) ?_ (fun Q' q' => m_var rfl q')
      (repeat walk_at "s"); walk_at "r"
      exact ⟨_, len_eq (List.length_map _).symm, q⟩
  | _ =>
    (repeat walk_at "s"); walk_at "r"; walk_at "r"; walk_at "t"; walk_at "t"
    (repeat walk_at "s")
    exact q
theorem no_empty (ks : List PyData) (h : ∀ x ∈ ks, ∃ z, x = .str z) : eIn true (.str "") (.tuple ks) = some (.bool (!ks.any (isS ""))) := by
  have e : ∃ zs : List Str, ks = zs.map .str := by
    induction ks with
    | nil => exact ⟨[], rfl⟩
    | cons x r ih =>
      obtain ⟨zs, e⟩ := ih fun y hy => h y (List.mem_cons_of_mem _ hy)
      obtain ⟨z, e2⟩ := h x List.mem_cons_self
      exact ⟨z :: zs, by rw [e2, e]; rfl⟩
  obtain ⟨zs, rfl⟩ := e
  have := in_tup zs (.str "") (neg := true)
  rw [this, Bool.true_xor]
  refine congrArg (fun b => some (PyData.bool b)) (congrArg Bool.not ?_)
  unfold isOf
  rw [List.any_map, Bool.eq_iff_iff, List.any_eq_true, List.any_eq_true]
  constructor
  · rintro ⟨x, hx, e⟩
    exact ⟨x, hx, by have e : decide (("" : Str) = x) = true := e; show decide (x = "") = true; simpa [eq_comm] using e⟩
  · rintro ⟨x, hx, e⟩
    exact ⟨x, hx, by have e : decide (x = ("" : Str)) = true := e; show decide (("" : Str) = x) = true; simpa [eq_comm] using e⟩
theorem are_keys_run (h : (Ls K).length ≤ 1000) (hK : (Ls K).Pairwise (· < ·)) (ok : okR v) (few : lenOf v < 64) (q : Q (.bool (kesB (Ls K) v)) n) : MD w__are_keys [.d (.str K), .d v] n Q := by
  refine md_def rfl rfl ?_
  unfold t__are_keys
  cases v with
  | tuple ks =>
    have few : ks.length < 64 := few
    (repeat walk_at "s"); walk_at "r"; walk_at "r"; walk_at "f"
    (repeat walk_at "s")
    refine m_lcF (fun _ => true) (fun x => .bool (setB (Ls K) x)) ?_
    (repeat walk_at "s")
    refine ⟨ks, rfl, by rw [sizeLine_eq]; omega, fun x hx => ⟨_, rfl, fun m => ?_, fun _ m => ?_⟩, ?_⟩
    · walk_at "s"; exact ⟨rfl, rfl⟩
    · (repeat walk_at "s")
      exact is_column_set_run h hK (okRs_mem ok hx) ⟨rfl, rfl⟩
    refine ⟨_, all_true, ?_⟩
    walk_at "r"
    refine ⟨fun c => ?_, fun c => ?_⟩
    · have c : ks.all (setB (Ls K)) = false := by simpa using c
      have e : kesB (Ls K) (.tuple ks) = false := by
        show (ks.all (setB (Ls K)) && _) = false
        rw [c, Bool.false_and]
      rw [e] at q
      (repeat walk_at "s")
      exact q
    · have c : ks.all (setB (Ls K)) = true := not_f c
      have e : kesB (Ls K) (.tuple ks) = (!ks.any (isS "") && decide (ks.map keK).Nodup) := by
        show (ks.all (setB (Ls K)) && _) = _
        rw [c, Bool.true_and]
      rw [e] at q
      have txs : ∀ x ∈ ks, ∃ z, x = .str z := fun x hx => by
        have := List.all_eq_true.mp c x hx
        cases x with
        | str z => exact ⟨z, rfl⟩
        | _ => cases this
      (repeat walk_at "s")
      refine ⟨_, no_empty ks txs, ?_⟩
      walk_at "r"
      refine ⟨fun c2 => ?_, fun c2 => ?_⟩
      · rw [c2, Bool.true_and] at q
        walk_at "s"
        refine m_lenSetK (ks := ks.map keK) (x := .tuple ks) (by rw [List.length_map]; exact few) (congrArg _ (kes_kD c)) ?_ (fun Q' q' => m_var rfl q')
        (repeat walk_at "s"); walk_at "r"
        exact ⟨_, len_eq (List.length_map _).symm, q⟩
      · rw [c2, Bool.false_and] at q
        rw [c2]
        exact q
  | _ =>
    (repeat walk_at "s"); walk_at "r"; walk_at "r"; walk_at "t"; walk_at "t"
    (repeat walk_at "s")
    exact q
end
section
variable {n : Nat} {Q : PyData → Nat → Prop} {v : PyData}
/-- what stands in a tuple or list -/
def elemsOf : PyData → List PyData
  | .tuple xs => xs
  | .list xs => xs
  | _ => []
theorem let_len : (Ls letL).length ≤ 1000 := by decide +kernel
theorem let_asc : (Ls letL).Pairwise (· < ·) := by decide +kernel
theorem set_len {K : List Nat} {l : List Nat} (h : isSet K l = true) : l.length ≤ K.length := isSet_len h
theorem set_asc {K l : List Nat} (h : isSet K l = true) : l.Pairwise (· < ·) := of_decide_eq_true (Bool.and_eq_true_iff.mp h).2
theorem sch_str {z : Str} {b c : PyData} : schB (.tuple [.str z, b, c]) = ((isSet (Ls letL) (Ls z) && decide (1 ≤ (Ls z).length ∧ (Ls z).length ≤ 5)) && (rusB (Ls z) b && kesB (Ls z) c)) := rfl
theorem is_schema_run (ok : okR v) (few : ∀ x ∈ elemsOf v, lenOf x < 64) (q : Q (.bool (schB v)) n) : MD w_is_schema [.d v] n Q := by
  refine md_def rfl rfl ?_
  unfold t_is_schema
  cases v with
  | tuple xs =>
    (repeat walk_at "s"); walk_at "r"; walk_at "r"; walk_at "f"
    (repeat walk_at "s"); walk_at "r"
    walk_at "s"
    refine ⟨_, Pu.ne2_int _ _, ?_⟩
    walk_at "r"
    match xs, ok, few, q with
    | [a, b, c], ok, few, q =>
      have fb : lenOf b < 64 := few b (by simp [elemsOf])
      have fc : lenOf c < 64 := few c (by simp [elemsOf])
      have oa : okR a := ok.1
      have ob : okR b := ok.2.1
      have oc : okR c := ok.2.2.1
      walk_at "f"
      (repeat walk_at "s")
      refine ⟨_, rfl, ?_⟩
      (repeat walk_at "s")
      refine is_column_set_run (K := letL) let_len let_asc oa ?_
      walk_at "r"
      refine ⟨fun h => ?_, fun h => ?_⟩
      · walk_at "t"
        (repeat walk_at "s")
        have e : schB (.tuple [a, b, c]) = false := by
          cases a with
          | str z =>
            have h : isSet (Ls letL) (Ls z) = false := by simpa [setB] using h
            rw [sch_str, h, Bool.false_and, Bool.false_and]
          | _ => rfl
        rw [e] at q
        exact q
      · have h := not_f h
        cases a with
        | str z =>
          have h : isSet (Ls letL) (Ls z) = true := h
          have hz : (Ls z).length ≤ 1000 := Nat.le_trans (set_len h) let_len
          rw [sch_str, h, Bool.true_and] at q
          have bad : ¬ (1 ≤ (Ls z).length ∧ (Ls z).length ≤ 5) → Q (.bool false) n := fun g => by
            rw [decide_eq_false g, Bool.false_and] at q
            exact q
          have good : (1 ≤ (Ls z).length ∧ (Ls z).length ≤ 5) → Q (.bool (rusB (Ls z) b && kesB (Ls z) c)) n := fun g => by
            rw [decide_eq_true g, Bool.true_and] at q
            exact q
          (repeat walk_at "s")
          refine ⟨_, len_str hz, ?_⟩
          refine ⟨_, rfl, fun c1 => ?_, fun c1 => ?_⟩
          · have c1 : (1 : Int) ≤ ((Ls z).length : Int) := of_decide_eq_true c1
            (repeat walk_at "s")
            refine ⟨_, rfl, ?_⟩
            walk_at "r"
            refine ⟨fun c2 => ?_, fun c2 => ?_⟩
            · (repeat walk_at "s")
              have c2 : ¬ ((Ls z).length : Int) ≤ 5 := by simpa using c2
              exact bad (by omega)
            · have c2 : ((Ls z).length : Int) ≤ 5 := by simpa using c2
              have q := good (by omega)
              (repeat walk_at "s")
              refine are_rules_run hz (set_asc h) ob fb ?_
              walk_at "r"
              refine ⟨fun c3 => ?_, fun c3 => ?_⟩
              · rw [c3, Bool.true_and] at q
                (repeat walk_at "s")
                exact are_keys_run hz (set_asc h) oc fc q
              · rw [c3, Bool.false_and] at q
                rw [c3]
                exact q
          · have c1 : ¬ (1 : Int) ≤ ((Ls z).length : Int) := of_decide_eq_false c1
            walk_at "r"
            walk_at "t"
            (repeat walk_at "s")
            exact bad (by omega)
        | _ => cases h
    | [], _, _, q => walk_at "t"; (repeat walk_at "s"); exact q
    | [a], _, _, q =>
      have e : schB (.tuple [a]) = false := by cases a <;> rfl
      rw [e] at q
      walk_at "t"; (repeat walk_at "s"); exact q
    | [a, b], _, _, q =>
      have e : schB (.tuple [a, b]) = false := by cases a <;> rfl
      rw [e] at q
      walk_at "t"; (repeat walk_at "s"); exact q
    | a :: b :: c :: d :: r, _, _, q =>
      have e : (!decide (((r.length + 1 + 1 + 1 + 1 : Nat) : Int) = 3)) = true := by
        simp
        omega
      refine ⟨fun _ => ?_, fun h => ?_⟩
      · (repeat walk_at "s")
        have e2 : schB (.tuple (a :: b :: c :: d :: r)) = false := by cases a <;> rfl
        rw [e2] at q
        exact q
      · exact absurd (e.symm.trans h) Bool.noConfusion
  | _ =>
    (repeat walk_at "s"); walk_at "r"; walk_at "r"; walk_at "t"; walk_at "t"
    (repeat walk_at "s")
    exact q
end
section
variable {n : Nat} {Q : PyData → Nat → Prop} {K : List Nat} {rules : List Rule} {keys : List (List Nat)}
theorem in_letters {c : Nat} (h : 97 ≤ c ∧ c < 123) : c ∈ Ls letL := by
  have e : Ls letL = (List.range 26).map fun i => i + 97 := by decide +kernel
  rw [e]
  exact List.mem_map.mpr ⟨c - 97, List.mem_range.mpr (by omega), by omega⟩
theorem nodup_map_of {α β : Type} {f : α → β} (hf : ∀ a b, f a = f b → a = b) : ∀ {l : List α}, l.Nodup → (l.map f).Nodup
  | [], _ => .nil
  | a :: l, nd => by
    obtain ⟨n1, n2⟩ := List.nodup_cons.mp nd
    refine List.nodup_cons.mpr ⟨fun h => ?_, nodup_map_of hf n2⟩
    obtain ⟨b, hb, e⟩ := List.mem_map.mp h
    exact n1 (hf _ _ e ▸ hb)
theorem sch_yes (hK : ColsOk K) (low : ∀ c ∈ K, 97 ≤ c ∧ c < 123) (hR : RulesOk K rules) (hY : KeysOk K keys) : schB (schD K rules keys) = true := by
  show ((isSet (Ls letL) (Ls (tx K)) && decide (1 ≤ (Ls (tx K)).length ∧ (Ls (tx K)).length ≤ 5)) && (rusB (Ls (tx K)) (.tuple (rules.map ruD)) && kesB (Ls (tx K)) (.tuple (keys.map keD)))) = true
  rw [Ls_tx]
  have h1 : isSet (Ls letL) K = true := by
    unfold isSet
    rw [Bool.and_eq_true]
    exact ⟨List.all_eq_true.mpr fun c hc => decide_eq_true (in_letters (low c hc)), decide_eq_true hK.asc⟩
  have h2 : decide (1 ≤ K.length ∧ K.length ≤ 5) = true := decide_eq_true ⟨List.length_pos_iff.mpr hK.some, hK.few⟩
  have h3 : rusB K (.tuple (rules.map ruD)) = true := by
    show ((rules.map ruD).all (ruB K) && decide ((rules.map ruD).map ruK).Nodup) = true
    rw [Bool.and_eq_true]
    refine ⟨List.all_eq_true.mpr fun x hx => ?_, decide_eq_true ?_⟩
    · obtain ⟨p, hp, rfl⟩ := List.mem_map.mp hx
      obtain ⟨a, b, c⟩ := hR.one p hp
      show (isSet K (Ls (tx p.1)) && (oneIn K ⟨#[p.2]⟩ && !oneIn (Ls (tx p.1)) ⟨#[p.2]⟩)) = true
      rw [Ls_tx, set_of hK.asc a, oneIn_true.mpr ⟨p.2, rfl, b⟩]
      cases e : oneIn p.1 ⟨#[p.2]⟩ with
      | false => rfl
      | true =>
        obtain ⟨d, e1, e2⟩ := oneIn_true.mp e
        rw [← sg_inj e1] at e2
        exact absurd e2 c
    · rw [List.map_map]
      refine nodup_map_of (fun a b e => ?_) hR.nodup
      have e : ([.inr (tx a.1), .inr ⟨#[a.2]⟩] : List Key) = [.inr (tx b.1), .inr ⟨#[b.2]⟩] := e
      injection e with e1 e2
      injection e2 with e2 _
      injection e1 with e1
      injection e2 with e2
      exact Prod.ext (tx_inj e1) (sg_inj e2)
  have h4 : kesB K (.tuple (keys.map keD)) = true := by
    show ((keys.map keD).all (setB K) && (!(keys.map keD).any (isS "") && decide ((keys.map keD).map keK).Nodup)) = true
    have a1 : (keys.map keD).all (setB K) = true := List.all_eq_true.mpr fun x hx => by
      obtain ⟨p, hp, rfl⟩ := List.mem_map.mp hx
      show isSet K (Ls (tx p)) = true
      rw [Ls_tx]
      exact set_of hK.asc (hY.one p hp).1
    have a2 : (keys.map keD).any (isS "") = false := List.any_eq_false.mpr fun x hx => by
      obtain ⟨p, hp, rfl⟩ := List.mem_map.mp hx
      rw [show isS "" (keD p) = false from tx_ne (hY.one p hp).2]
      exact Bool.false_ne_true
    have a3 : ((keys.map keD).map keK).Nodup := by
      rw [List.map_map]
      refine nodup_map_of (fun a b e => ?_) hY.nodup
      have e : (.inr (tx a) : Key) = .inr (tx b) := e
      injection e with e
      exact tx_inj e
    rw [a1, a2, decide_eq_true a3]
    rfl
  rw [h1, h2, h3, h4]
  rfl
theorem sch_okR (hK : ColsOk K) (hR : RulesOk K rules) (hY : KeysOk K keys) : okR (schD K rules keys) := by
  have h5 := hK.few
  refine ⟨ok_cols hK (fun _ h => h) (by omega), okRs_of fun x hx => ?_, okRs_of fun x hx => ?_, trivial⟩
  · obtain ⟨p, hp, rfl⟩ := List.mem_map.mp hx
    obtain ⟨a, b, c⟩ := hR.one p hp
    have := a.length_le
    exact ⟨ok_cols hK (fun c hc => a.subset hc) (by omega), ok_cols (l := [p.2]) hK (fun d hd => by rw [List.mem_singleton.mp hd]; exact b) (by simp), trivial⟩
  · obtain ⟨p, hp, rfl⟩ := List.mem_map.mp hx
    have a := (hY.one p hp).1
    have := a.length_le
    exact ok_cols hK (fun c hc => a.subset hc) (by omega)
theorem is_schema_yes (hK : ColsOk K) (low : ∀ c ∈ K, 97 ≤ c ∧ c < 123) (hR : RulesOk K rules) (hY : KeysOk K keys) (q : Q (.bool true) n) : MD w_is_schema [.d (schD K rules keys)] n Q := by
  refine is_schema_run (sch_okR hK hR hY) (fun x hx => ?_) ?_
  · have h1 := hR.few
    have h2 := hY.few
    have hx : x ∈ [PyData.str (tx K), .tuple (rules.map ruD), .tuple (keys.map keD)] := hx
    rcases List.mem_cons.mp hx with rfl | hx
    · exact (by decide : 0 < 64)
    · rcases List.mem_cons.mp hx with rfl | hx
      · show (rules.map ruD).length < 64
        rw [List.length_map]; omega
      · rw [List.mem_singleton.mp hx]
        show (keys.map keD).length < 64
        rw [List.length_map]; omega
  · rw [sch_yes hK low hR hY]
    exact q
end
section
variable {n : Nat} {Q : PyData → Nat → Prop} {K : List Nat} {rules : List Rule} {keys : List (List Nat)} {v : Int}
theorem in_rulesT {neg : Bool} (p : Rule) (rules : List Rule) : eIn neg (ruD p) (.tuple (rules.map ruD)) = some (.bool (neg ^^ decide (p ∈ rules))) := in_rules p rules
theorem in_keysT {neg : Bool} (k : List Nat) (keys : List (List Nat)) : eIn neg (.str (tx k)) (.tuple (keys.map keD)) = some (.bool (neg ^^ decide (k ∈ keys))) := in_keys k keys
theorem wider_run (hK : ColsOk K) (hR : RulesOk K rules) (r4 : rules.length ≤ 4) (hY : KeysOk K keys) (k2 : keys.length ≤ 2) (hn : 20 ≤ n)
    (q : ∀ rules' keys' m, RulesOk K rules' → KeysOk K keys' → (∀ p ∈ rules, p ∈ rules') → (∀ k ∈ keys, k ∈ keys') → n ≤ m + 20 → Q (schD K rules' keys') m) : MD w__law_wider [.p, .d (schD K rules keys)] n Q := by
  have h5 := hK.few
  have hKp : 0 < K.length := List.length_pos_iff.mpr hK.some
  refine md_def rfl rfl ?_
  unfold t__law_wider
  (repeat walk_at "s")
  refine ⟨[some .p, some (.d (schD K rules keys)), some (.d (.str (tx K))), some (.d (.tuple (rules.map ruD))), some (.d (.tuple (keys.map keD))), none, none, none], rfl, ?_⟩
  refine n_one (z := tx K) rfl rfl (by rw [Ls_tx]; omega) ?_
  rw [Ls_tx]
  refine take_nat hKp (by omega) (by omega) fun i hi => ?_
  refine ⟨_, K[i], rfl, atI_nat (List.getElem?_eq_getElem hi), ?_⟩
  walk_at "s"
  walk_at "s"
  (repeat walk_at "s")
  refine m_callPR rfl (m_repl (z := tx K) (c := K[i]) rfl rfl (by rw [Ls_tx]; omega) ?_)
  rw [Ls_tx]
  refine some_run (by rw [Ls_tx]; exact Nat.le_trans (List.length_filter_le _ _) (by omega)) (by rw [Ls_tx]; have := List.length_filter_le (fun d => decide (d ≠ K[i])) K; omega) fun l m2 sl hm2 => ?_
  rw [Ls_tx] at sl hm2
  have hfl := List.length_filter_le (fun d => decide (d ≠ K[i])) K
  have pok : l.Sublist K ∧ K[i] ∈ K ∧ K[i] ∉ l := ⟨sl.trans List.filter_sublist, List.getElem_mem _, fun h => by
    have := (List.mem_filter.mp (sl.subset h)).2
    simp at this⟩
  (repeat walk_at "s")
  refine ⟨by show 2 ≤ sizeLine; decide, ?_⟩
  (repeat walk_at "s")
  refine some_run (by rw [Ls_tx]; omega) (by rw [Ls_tx]; omega) fun u m3 su hm3 => ?_
  rw [Ls_tx] at su hm3
  -- the keys, whatever the rules are
  have fin : ∀ (rules' : List Rule), RulesOk K rules' → (∀ p ∈ rules, p ∈ rules') → MS (sRet (wTup (wCons (wVal 2) (wCons (wVal 3) (wCons (wIfE (wOrT (wTt (wOp pEq2 (wVar 7) (wC (.str "")))) (wTt (wOp (pIn2 false) (wVar 7) (wVar 4)))) (wVal 4) (wOp pAdd (wVar 4) (wTup (wCons (wVal 7) wNil)))) wNil)))))
      [some .p, some (.d (schD K rules keys)), some (.d (.str (tx K))), some (.d (.tuple (rules'.map ruD))), some (.d (.tuple (keys.map keD))), some (.d (sg K[i])), some (.d (ruD (l, K[i]))), some (.d (.str (tx u)))] m3 (fun _ m => Q PyData.none m) Q noEnd noEnd := fun rules' ok' sub' => by
    have same : Q (schD K rules' keys) m3 := q rules' keys m3 ok' hY sub' (fun _ h => h) (by omega)
    (repeat walk_at "s")
    refine ⟨_, eq_str _ _, ?_⟩
    walk_at "r"
    refine ⟨fun h => ?_, fun h => ?_⟩
    · walk_at "t"
      (repeat walk_at "s")
      exact ⟨by show 3 ≤ sizeLine; decide, same⟩
    · have une : u ≠ [] := fun e => by
        subst e
        exact absurd h (by decide +kernel)
      (repeat walk_at "s")
      refine ⟨_, in_keysT u keys, ?_⟩
      rw [Bool.false_xor]
      walk_at "r"
      refine ⟨fun h2 => ?_, fun h2 => ?_⟩
      · (repeat walk_at "s")
        exact ⟨by show 3 ≤ sizeLine; decide, same⟩
      · (repeat walk_at "s")
        refine ⟨by show 1 ≤ sizeLine; decide, ?_⟩
        refine ⟨_, add_tup (by simp; omega), ?_⟩
        (repeat walk_at "s")
        refine ⟨by show 3 ≤ sizeLine; decide, ?_⟩
        have := q rules' (keys ++ [u]) m3 ok' (keys_add hY ⟨su, une⟩ (of_decide_eq_false h2) (by omega)) sub' (fun k hk => List.mem_append_left _ hk) (by omega)
        unfold schD at this
        rw [List.map_append] at this
        exact this
  (repeat walk_at "s")
  refine ⟨_, in_rulesT (l, K[i]) rules, ?_⟩
  rw [Bool.false_xor]
  walk_at "r"
  refine ⟨fun h => ?_, fun h => ?_⟩
  · walk_at "s"
    exact fin rules hR fun _ h => h
  · (repeat walk_at "s")
    refine ⟨by show 1 ≤ sizeLine; decide, ?_⟩
    refine ⟨_, add_tup (by simp; omega), ?_⟩
    have e : rules.map ruD ++ [ruD (l, K[i])] = (rules ++ [(l, K[i])]).map ruD := by rw [List.map_append]; rfl
    show MS _ [_, _, _, some (.d (.tuple (rules.map ruD ++ [ruD (l, K[i])]))), _, _, _, _] _ _ _ _ _
    rw [e]
    exact fin (rules ++ [(l, K[i])]) (hR.add pok (of_decide_eq_false h) (by omega)) fun p hp => List.mem_append_left _ hp
/-- what may stand behind a report -/
def MoreS (l : List Nat) (d : PyData) : Prop := (∃ st, d = stpD st ∧ StpFull l st ∧ isSrtS st = false) ∨ ∃ f, (finS f).map stpD = [d] ∧ FinFull l f
theorem more_run {l : List Nat} (hl : ColsOk l) (hn : 30 ≤ n) (q : ∀ ds m, (∀ d ∈ ds, MoreS l d) → ds.length ≤ 20 → n ≤ m + 30 → Q (.list ds) m) : MD w__law_more_steps [.p, .d (.str (tx l))] n Q := by
  have h5 := hl.few
  have hlp : 0 < l.length := List.length_pos_iff.mpr hl.some
  refine md_def rfl rfl ?_
  unfold t__law_more_steps
  (repeat walk_at "s")
  refine one_str hlp (by omega) (by omega) fun i hi => ?_
  (repeat walk_at "s")
  refine some_run (by rw [Ls_tx]; omega) (by rw [Ls_tx]; omega) fun g m2 sl hm2 => ?_
  rw [Ls_tx] at sl hm2
  have hgl := sl.length_le
  have go : ∀ g : List Nat, g.Sublist l → g ≠ [] → MS (sSeq (sSet (fz (wLst (wCons (wTup (wCons (wC (.str "where")) (wCons (wVal 2) (wCons (wCall w__law_take (wAName 0 (wACons (wC (.int 3)) wANil))) wNil)))) (wCons (wTup (wCons (wC (.str "first")) (wCons (wCall w__law_take (wAName 0 (wACons (wC (.int 5)) wANil))) wNil))) (wCons (wTup (wCons (wC (.str "skip")) (wCons (wCall w__law_take (wAName 0 (wACons (wC (.int 5)) wANil))) wNil))) wNil))))) 4) (sSeq (sSet (wOp pAdd (wVar 4) (fz (wLst (wCons (wTup (wCons (wC (.str "columns")) (wCons (wVal 3) wNil))) (wCons (wTup (wCons (wC (.str "count")) (wCons (wVal 3) wNil))) (wCons (wTup (wCons (wC (.str "heads")) (wCons (wVal 3) wNil))) wNil)))))) 4) (sSeq (sSet (fz (fLc (wSeq (wVar 1)) (.nm 6) (wTt (wOp (pIn2 true) (wVar 6) (wVar 3))) (wVal 6) [6])) 5) (sRet (wOp pAdd (wVar 4) (fz (fLc (wSeq (wVar 5)) (.nm 6) wYes (wTup (wCons (wC (.str "sum")) (wCons (wVal 3) (wCons (wVal 6) wNil)))) [6])))))))
      [some .p, some (.d (.str (tx l))), some (.d (sg l[i])), some (.d (.str (tx g))), none, none, none] m2 (fun _ m => Q PyData.none m) Q noEnd noEnd := fun g sl gne => by
    have hgl := sl.length_le
    walk_at "s"
    walk_at "s"
    (repeat walk_at "s")
    refine take_nat (k := 3) (by decide) (by decide) (by omega) fun r1 h1 => ?_
    (repeat walk_at "s")
    refine ⟨by show 3 ≤ sizeLine; decide, ?_⟩
    (repeat walk_at "s")
    refine take_nat (k := 5) (by decide) (by decide) (by omega) fun r2 h2 => ?_
    (repeat walk_at "s")
    refine ⟨by show 2 ≤ sizeLine; decide, ?_⟩
    (repeat walk_at "s")
    refine take_nat (k := 5) (by decide) (by decide) (by omega) fun r3 h3 => ?_
    (repeat walk_at "s")
    refine ⟨by show 2 ≤ sizeLine; decide, ?_⟩
    (repeat walk_at "s")
    refine ⟨by show 3 ≤ sizeLine; decide, ?_⟩
    (repeat walk_at "s")
    refine ⟨by show 2 ≤ sizeLine; decide, ?_⟩
    (repeat walk_at "s")
    refine ⟨by show 2 ≤ sizeLine; decide, ?_⟩
    (repeat walk_at "s")
    refine ⟨by show 2 ≤ sizeLine; decide, ?_⟩
    (repeat walk_at "s")
    refine ⟨by show 3 ≤ sizeLine; decide, ?_⟩
    refine ⟨_, add_lst (by show 3 + 3 ≤ 100000; decide), ?_⟩
    walk_at "s"
    walk_at "s"
    (repeat walk_at "s")
    refine m_lcF (fun x => match x with | .str w => !oneIn g w | _ => false) id ?_
    walk_at "s"; walk_at "s"
    refine ⟨_, seq_str (tx l), by rw [List.length_map, Ls_tx, sizeLine_eq]; omega, fun x hx => ?_, ?_⟩
    · obtain ⟨c, hc, e⟩ := List.mem_map.mp hx
      subst e
      refine ⟨_, rfl, fun m => ?_, fun _ m => ?_⟩
      · (repeat walk_at "s")
        refine ⟨_, in_sg _ _, ?_⟩
        walk_at "r"
        exact ⟨by rw [Bool.true_xor, Ls_tx]; rfl, rfl⟩
      · walk_at "s"; exact ⟨rfl, rfl⟩
    have e : ((List.map sg (Ls (tx l))).filter fun x => match x with | .str w => !oneIn g w | _ => false).map id = (l.filter fun c => !decide (c ∈ g)).map sg := by
      rw [List.map_id, List.filter_map, Ls_tx]
      rfl
    rw [e]
    have hrs : ∀ c ∈ (l.filter fun c => !decide (c ∈ g)), c ∈ l ∧ c ∉ g := fun c hc => by
      have := List.mem_filter.mp hc
      exact ⟨this.1, by simpa using this.2⟩
    have lrs : (l.filter fun c => !decide (c ∈ g)).length ≤ 5 := Nat.le_trans (List.length_filter_le _ _) h5
    generalize (l.filter fun c => !decide (c ∈ g)) = rs at hrs lrs
    (repeat walk_at "s")
    refine m_lcM rs sg (fun c => stpD (.grp "sum" [.str (tx g), sg c])) ?_
    (repeat walk_at "s")
    refine ⟨rs.map sg, rfl, rfl, by rw [sizeLine_eq]; omega, fun c hc => ⟨_, rfl, fun m => ?_⟩, ?_⟩
    · (repeat walk_at "s")
      exact ⟨by show 3 ≤ sizeLine; decide, rfl, rfl⟩
    refine ⟨_, add_lst (by rw [List.length_map]; show 6 + rs.length ≤ 100000; omega), ?_⟩
    refine q _ _ (fun d hd => ?_) (by rw [List.length_append, List.length_map]; show 6 + rs.length ≤ 20; omega) (by omega)
    rcases List.mem_append.mp hd with hd | hd
    · have cols : g.Sublist l ∧ g ≠ [] := ⟨sl, gne⟩
      simp only [List.mem_append, List.mem_cons, List.not_mem_nil, or_false] at hd
      rcases hd with (rfl | rfl | rfl) | rfl | rfl | rfl
      · exact .inl ⟨.whr l[i] r1, rfl, ⟨List.getElem_mem hi, by omega⟩, rfl⟩
      · exact .inl ⟨.cut true r2, rfl, (by show r2 ≤ 20; omega), rfl⟩
      · exact .inl ⟨.cut false r3, rfl, (by show r3 ≤ 20; omega), rfl⟩
      · exact .inl ⟨.col g, rfl, cols, rfl⟩
      · exact .inr ⟨.cnt g, rfl, cols⟩
      · exact .inr ⟨.hds g, rfl, cols⟩
    · obtain ⟨c, hc, rfl⟩ := List.mem_map.mp hd
      exact .inr ⟨.sum g c, rfl, sl, gne, (hrs c hc).1, (hrs c hc).2⟩
  refine ⟨_, tru_str (by rw [Ls_tx]; omega), fun h => ?_, fun h => ?_⟩
  · rw [Ls_tx] at h
    (repeat walk_at "s")
    refine ⟨by show 2 ≤ sizeLine; decide, _, rfl, ?_⟩
    exact go g sl fun e => by subst e; cases h
  · (repeat walk_at "s")
    refine ⟨_, ix_str (k := 0) hlp (by omega), ?_⟩
    (repeat walk_at "s")
    refine ⟨by show 2 ≤ sizeLine; decide, _, rfl, ?_⟩
    exact go [l[0]] (List.singleton_sublist.mpr (List.getElem_mem hlp)) (by simp)
end
section
variable {n : Nat} {Q : PyData → Nat → Prop} {K : List Nat} {rules : List Rule} {keys : List (List Nat)} {sts : List Stp} {f : Fin}
theorem lay_tx {l : List Nat} (h : ∀ c ∈ l, c < 128) : PyData.strOk (tx l) = true := by
  unfold PyData.strOk
  rw [Array.all_eq_true']
  intro c hc
  have hc : c ∈ l := by simpa [tx] using hc
  have := h c hc
  exact decide_eq_true (by omega)
theorem lay_cs (hK : ColsOk K) : ∀ {cs : CsT}, (∀ c ∈ colsC cs, c ∈ K) → PyData.canLayAll0 (cs.map cD) = true
  | [], _ => rfl
  | p :: r, h => by
    have h1 : PyData.strOk (tx [p.1]) = true := lay_tx fun c hc => by rw [List.mem_singleton.mp hc]; exact hK.low _ (h p.1 (by simp [colsC]))
    show (PyData.canLay0 (cD p) && PyData.canLayAll0 (r.map cD)) = true
    rw [lay_cs hK fun c hc => h c (by unfold colsC at hc ⊢; exact List.mem_cons_of_mem _ hc)]
    show (PyData.canLayAll0 [.str (tx [p.1]), .int p.2] && true) = true
    simp [PyData.canLayAll0, PyData.canLay0, h1]
theorem lay_kn (hK : ColsOk K) {q : Kn} (h : KnOk K q) : PyData.canLay0 (knD q) = true := by
  cases q with
  | emp => exact (by decide +kernel : PyData.canLay0 (.tuple [.str "empty"]) = true)
  | kn cs o k c m =>
    have h : KnP K cs o k m := h
    have h1 := lay_cs hK h.cs.sub
    have h2 : PyData.strOk (tx o) = true := lay_tx fun c hc => hK.low c (h.osub c hc)
    have h3 : PyData.strOk (tx k) = true := lay_tx fun c hc => hK.low c (h.known.subset hc)
    cases m <;> simp [knD, PyData.canLay0, PyData.canLayAll0, mostD, h1, h2, h3]
theorem depth_kn (q : Kn) : PyData.depth (knD q) ≤ 4 := by
  cases q with
  | emp => simp [knD, PyData.depth, PyData.depthAll]
  | kn cs o k c m =>
    have := depth_cD cs
    cases m <;> (simp only [knD, mostD, PyData.depth, PyData.depthAll]; omega)
theorem lay_kns (hK : ColsOk K) : ∀ {D : List Kn}, (∀ q ∈ D, KnOk K q) → PyData.canLayAll0 (D.map knD) = true ∧ PyData.depthAll (D.map knD) ≤ 4
  | [], _ => ⟨rfl, Nat.zero_le _⟩
  | q :: r, h => by
    obtain ⟨a, b⟩ := lay_kns hK fun x hx => h x (List.mem_cons_of_mem _ hx)
    have c := depth_kn q
    have d := lay_kn hK (h q List.mem_cons_self)
    refine ⟨?_, ?_⟩
    · show (PyData.canLay0 (knD q) && PyData.canLayAll0 (r.map knD)) = true
      rw [d, a]; rfl
    · show PyData.depthAll (knD q :: r.map knD) ≤ 4
      simp only [PyData.depthAll]
      omega
theorem ne_same (hK : ColsOk K) {D : List Kn} (h : ∀ q ∈ D, KnOk K q) : eNe2 (.list (D.map knD)) (.list (D.map knD)) = some (.bool false) := by
  obtain ⟨a, b⟩ := lay_kns hK h
  have c : PyData.canLay0 (.list (D.map knD)) = true := by rw [PyData.canLay0]; exact a
  have s : SeqAt.shaped (.list (D.map knD)) = true := by
    unfold SeqAt.shaped
    rw [c, Bool.true_and]
    refine decide_eq_true ?_
    rw [PyData.depth]
    omega
  show (if SeqAt.shaped (.list (D.map knD)) && SeqAt.shaped (.list (D.map knD)) then some (PyData.bool (!PyData.eqv (.list (D.map knD)) (.list (D.map knD)))) else none) = _
  rw [s, if_pos (by rfl), eqv_refl _ c]
  rfl
theorem derv_snoc (s : Stp) : ∀ (sts : List Stp) (q : Kn), dervK K rules keys q (sts ++ [s]) = dervK K rules keys q sts ++ [aft K rules keys (sts.foldl (aft K rules keys) q) s]
  | [], q => rfl
  | t :: r, q => by
    show q :: dervK K rules keys (aft K rules keys q t) (r ++ [s]) = q :: (dervK K rules keys (aft K rules keys q t) r ++ _)
    rw [derv_snoc s r]
    rfl
theorem sl_init (xs : List PyData) (x : PyData) : eSl none (some (-1)) (.list (xs ++ [x])) = some (.list xs) := by
  show some (PyData.list (Pu.cutD (xs ++ [x]) none (some (-1)))) = _
  unfold Pu.cutD
  have e : HT.sIx (xs ++ [x]).length (xs ++ [x]).length (some (-1)) = xs.length := by
    unfold HT.sIx
    dsimp only
    rw [if_pos (by decide), List.length_append]
    simp
    omega
  rw [e, HT.sIx_none]
  simp
end
abbrev N_law : List Str := ["script", "pen", "turn", "schema", "report", "wider", "step", "longer"]
def t_law : WS := (sSeq (sFor (wRng1 (wC (.int 8))) (.nm 2)
  (sSeq (sSet (wCall w__law_draw_schema_v1 (wAName 1 (wACons (wC (.int 5)) wANil))) 3)
  (sSeq (sPar 4 5 (wCall w__law_draw_report_v1 (wAName 1 (wAName 3 (wACons (wC (.int 5)) (wACons (wC (.bool false)) wANil))))) (wCall w__law_wider (wAName 1 (wAName 3 wANil))))
  (sSeq (sIf (wOrT (wTt (wOp (pIs true) (wCall w_is_schema (wAName 5 wANil)) (wC (.bool true)))) (wNotT (wTru (wCall w__law_sure_right (wAName 1 (wAName 3 wANil))))))
  (sRet (wC (.bool false)))
  sNext)
  (sIf (wTru (wCall w_is_settled (wAName 3 (wAName 4 wANil))))
  (sSeq (sIf (wTt (wOp (pIs true) (wCall w_is_settled (wAName 5 (wAName 4 wANil))) (wC (.bool true))))
  (sRet (wC (.bool false)))
  sNext)
  (sFor (wSeq (wCall w__law_more_steps (wAName 1 (wACons (wCall w_kept_columns (wAName 3 (wAName 4 wANil))) wANil)))) (.nm 6)
  (sSeq (sSet (wOp pAdd (wVar 4) (wTup (wCons (wVal 6) wNil))) 7)
  (sSeq (sIf (wOrT (wTt (wOp (pIs true) (wCall w_is_report (wAName 3 (wAName 7 wANil))) (wC (.bool true)))) (wTt (wOp (pIs true) (wCall w_is_settled (wAName 3 (wAName 7 wANil))) (wC (.bool true)))))
  (sRet (wC (.bool false)))
  sNext)
  (sIf (wTt (wOp pNe2 (wSl (wCall w_find_derivation (wAName 3 (wAName 7 wANil))) wNoPart (wPart (wNeg (wC (.int 1))))) (wCall w_find_derivation (wAName 3 (wAName 4 wANil)))))
  (sRet (wC (.bool false)))
  sNext)))))
  sNext)))))
  (sRet (wC (.bool true))))
/-- the law's reading behind the pen -/
abbrev LawHolds : Prop := t_law { nx := fun _ _ => False, rt := fun d _ => d = .bool true } ((List.replicate N_law.length none).set 1 (some .p)) 2147483648
section
variable {n : Nat} {Q : PyData → Nat → Prop} {K : List Nat} {rules : List Rule} {keys : List (List Nat)} {N : En → Nat → Prop} {R : PyData → Nat → Prop} {B C : En → Nat → Prop}
def GoodD (K : List Nat) (rules : List Rule) (keys : List (List Nat)) (d : PyData) : Prop := ∃ sts f, d = .tuple ((sts ++ finS f).map stpD) ∧ Good K rules keys sts f
theorem good0 {sts : List Stp} (g : Good K rules keys sts .non) : GoodD K rules keys (.tuple (sts.map stpD)) := ⟨sts, .non, by rw [show finS .non = [] from rfl, List.append_nil], g⟩
theorem sure_right_run (hK : ColsOk K) (hR : RulesOk K rules) (hY : KeysOk K keys) (hn : 30 ≤ n) (q : ∀ m, n ≤ m + 30 → Q (.bool true) m) : MD w__law_sure_right [.p, .d (schD K rules keys)] n Q := by
  have h5 := hK.few
  have hKp : 0 < K.length := List.length_pos_iff.mpr hK.some
  have hr : ∀ p ∈ rules, p.2 ∈ K := fun p hp => (hR.one p hp).2.1
  refine md_def rfl rfl ?_
  unfold t__law_sure_right
  (repeat walk_at "s")
  refine ⟨_, ix_t0 _ _, ?_⟩
  (repeat walk_at "s")
  refine one_str hKp (by omega) (by omega) fun i hi => ?_
  (repeat walk_at "s")
  refine take_nat (k := 5) (by decide) (by decide) (by omega) fun r hr5 => ?_
  (repeat walk_at "s")
  refine ⟨by show 2 ≤ sizeLine; decide, ?_⟩
  refine ⟨[some .p, some (.d (schD K rules keys)), some (.d (.str (tx K))), some (.d (sg K[i])), some (.d (.int (r : Nat))), none, none, none, none, none], rfl, ?_⟩
  have hc : K[i] ∈ K := List.getElem_mem hi
  generalize K[i] = c at hc
  (repeat walk_at "s")
  refine mixed1_run (least := 1) (by rw [Ls_tx]; omega) (by rw [Ls_tx]; omega) fun l s m2 pm sb ne hm2 => ?_
  rw [Ls_tx] at sb ne hm2
  have full : (∀ c ∈ l, c ∈ K) ∧ l.Nodup ∧ l ≠ [] := ⟨fun c hc => sb.subset (pm.mem_iff.mp hc), pm.symm.nodup ((hK.asc.imp fun q => Nat.ne_of_lt q).sublist sb), ne (Nat.le_refl _) hK.some⟩
  (repeat walk_at "s")
  refine ⟨by show 2 ≤ sizeLine; decide, ?_⟩
  (repeat walk_at "s")
  refine ⟨by show 2 ≤ sizeLine; decide, ?_⟩
  (repeat walk_at "s")
  refine ⟨by show 2 ≤ sizeLine; decide, ?_⟩
  (repeat walk_at "s")
  refine ⟨by show 2 ≤ sizeLine; decide, ?_⟩
  (repeat walk_at "s")
  refine ⟨by show 2 ≤ sizeLine; decide, ?_⟩
  (repeat walk_at "s")
  refine ⟨by show 2 ≤ sizeLine; decide, ?_⟩
  (repeat walk_at "s")
  refine ⟨by show 2 ≤ sizeLine; decide, ?_⟩
  have g1 : GoodD K rules keys (.tuple [.tuple [.str "sort", .str (tx l)], .tuple [.str "first", .int 0]]) := good0 (sure1 full)
  have g2 : GoodD K rules keys (.tuple [.tuple [.str "sort", .str (tx K)], .tuple [.str "first", .int 3]]) := good0 (sure2 hK hr)
  walk_at "s"
  refine n_app rfl ?_
  (repeat walk_at "s")
  refine ⟨by show 3 ≤ sizeLine; decide, ?_⟩
  (repeat walk_at "s")
  refine ⟨by show 2 ≤ sizeLine; decide, ?_⟩
  (repeat walk_at "s")
  refine ⟨.int ((r : Int) + 1), rfl, ?_⟩
  (repeat walk_at "s")
  refine ⟨by show 3 ≤ sizeLine; decide, ?_⟩
  (repeat walk_at "s")
  refine ⟨by show 3 ≤ sizeLine; decide, ?_⟩
  (repeat walk_at "s")
  refine ⟨by show 2 < sizeLine; decide, ?_⟩
  have g3 : GoodD K rules keys (.tuple [.tuple [.str "where", sg c, .int (r : Nat)], .tuple [.str "first", .int 2], .tuple [.str "where", sg c, .int ((r : Int) + 1)]]) := good0 (sure3 (v := (r : Int)) hc (by omega))
  walk_at "s"
  refine n_app rfl ?_
  (repeat walk_at "s")
  refine ⟨by show 2 ≤ sizeLine; decide, ?_⟩
  (repeat walk_at "s")
  refine ⟨by show 2 ≤ sizeLine; decide, ?_⟩
  (repeat walk_at "s")
  refine ⟨by show 2 ≤ sizeLine; decide, ?_⟩
  (repeat walk_at "s")
  refine ⟨by show 3 ≤ sizeLine; decide, ?_⟩
  (repeat walk_at "s")
  refine ⟨by show 3 < sizeLine; decide, ?_⟩
  have g4 : GoodD K rules keys (.tuple [.tuple [.str "first", .int 2], .tuple [.str "skip", .int 2], .tuple [.str "count", sg c]]) := ⟨_, _, rfl, sure4 hc⟩
  walk_at "s"
  refine n_for ?_
  (repeat walk_at "s")
  refine ⟨_, ix_t2 _ _ _ _, ?_⟩
  refine ⟨keys.map keD, rfl, fun rest e m => m = m2 ∧ ∃ (ks : List (List Nat)) (ds : List PyData) (x6 x7 : Option Sl), rest = ks.map keD ∧ (∀ k ∈ ks, k ∈ keys) ∧ (∀ d ∈ ds, GoodD K rules keys d) ∧ ds.length + 2 * ks.length ≤ 12 ∧
      e = [some .p, some (.d (schD K rules keys)), some (.d (.str (tx K))), some (.d (sg c)), some (.d (.int (r : Nat))), some (.l ds), x6, x7, none, none],
    ⟨rfl, keys, _, none, none, rfl, fun _ h => h, ?_, ?_, rfl⟩, fun x rest e m hI => ?_, fun e m hI => ?_⟩
  · intro d hd
    simp only [List.mem_append, List.mem_cons, List.not_mem_nil, or_false] at hd
    rcases hd with ((rfl | rfl) | rfl) | rfl
    · exact g1
    · exact g2
    · exact g3
    · exact g4
  · have := hY.few
    show 4 + 2 * keys.length ≤ 12
    omega
  · obtain ⟨rfl, ks, ds, x6, x7, er, hks, hds, hl, rfl⟩ := hI
    cases ks with
    | nil => cases er
    | cons u ks =>
    rw [List.map_cons] at er
    obtain ⟨rfl, rfl⟩ := List.cons.inj er
    rw [List.length_cons] at hl
    have hu := hks u List.mem_cons_self
    have su := (hY.one u hu).1
    have lu := su.length_le
    refine ⟨_, rfl, ?_⟩
    walk_at "s"
    (repeat walk_at "s")
    refine m_lcM u sg (fun w => stpD (.whr w r)) ?_
    (repeat walk_at "s")
    refine ⟨u.map sg, ?_, rfl, by rw [sizeLine_eq]; omega, fun w hw => ⟨_, rfl, fun m => ?_⟩, ?_⟩
    · have := seq_str (tx u)
      rw [Ls_tx] at this
      exact this
    · (repeat walk_at "s")
      exact ⟨by show 3 ≤ sizeLine; decide, rfl, rfl⟩
    have ew : (u.map fun w => stpD (.whr w r)) = (whrs (r : Int) u).map stpD := by rw [List.map_map]; rfl
    rw [ew]
    refine ⟨_, rfl, ?_⟩
    (repeat walk_at "s")
    refine ⟨_, rfl, ?_⟩
    (repeat walk_at "s")
    refine ⟨_, rfl, ?_⟩
    walk_at "r"
    have lw : ((whrs (r : Int) u).map stpD).length ≤ 5 := by rw [List.length_map, List.length_map]; omega
    refine ⟨fun h => ?_, fun h => ?_⟩
    · walk_at "s"
      refine n_app rfl ?_
      (repeat walk_at "s")
      refine ⟨by show 2 ≤ sizeLine; decide, ?_⟩
      (repeat walk_at "s")
      refine ⟨by show 1 ≤ sizeLine; decide, ?_⟩
      (repeat walk_at "s")
      refine ⟨_, add_tup (by show 1 + _ ≤ _; omega), ?_⟩
      (repeat walk_at "s")
      refine ⟨by show 2 ≤ sizeLine; decide, ?_⟩
      (repeat walk_at "s")
      refine ⟨by show 1 ≤ sizeLine; decide, ?_⟩
      (repeat walk_at "s")
      refine ⟨_, add_tup (by rw [List.length_append]; show 1 + _ + 1 ≤ _; omega), ?_⟩
      refine ⟨by rw [sizeLine_eq]; omega, ?_⟩
      refine n_app rfl ?_
      (repeat walk_at "s")
      refine ⟨by show 2 ≤ sizeLine; decide, ?_⟩
      (repeat walk_at "s")
      refine ⟨by show 2 ≤ sizeLine; decide, ?_⟩
      (repeat walk_at "s")
      refine ⟨by show 2 ≤ sizeLine; decide, ?_⟩
      (repeat walk_at "s")
      refine ⟨_, add_tup (by show _ + 2 ≤ _; omega), ?_⟩
      refine ⟨by rw [List.length_append, sizeLine_eq]; simp; omega, ?_⟩
      refine ⟨rfl, ks, _, some (.d (keD u)), some (.d (.tuple ((whrs (r : Int) u).map stpD))), rfl, fun k hk => hks k (List.mem_cons_of_mem _ hk), ?_, ?_, rfl⟩
      · intro d hd
        rcases List.mem_append.mp hd with hd | hd
        · rcases List.mem_append.mp hd with hd | hd
          · exact hds d hd
          · rw [List.mem_singleton.mp hd]
            have := good0 (sure5 (v := (r : Int)) hK hr hu su (by omega) (by omega))
            rw [List.map_cons, List.map_append] at this
            exact this
        · rw [List.mem_singleton.mp hd]
          have := good0 (sure6 (v := (r : Int)) hK hr hc hu su (by omega) (by omega))
          rw [List.map_append] at this
          exact this
      · rw [List.length_append, List.length_append]
        simp
        omega
    · walk_at "s"
      exact ⟨rfl, ks, ds, some (.d (keD u)), some (.d (.tuple ((whrs (r : Int) u).map stpD))), rfl, fun k hk => hks k (List.mem_cons_of_mem _ hk), hds, by omega, rfl⟩
  · obtain ⟨rfl, ks, ds, x6, x7, er, hks, hds, hl, rfl⟩ := hI
    walk_at "s"
    refine n_fz rfl ?_
    refine n_for ?_
    (repeat walk_at "s")
    refine ⟨ds, rfl, fun rest e m' => m' = m ∧ ∃ (x8 : Option Sl), (∀ d ∈ rest, GoodD K rules keys d) ∧ e = [some .p, some (.d (schD K rules keys)), some (.d (.str (tx K))), some (.d (sg c)), some (.d (.int (r : Nat))), some (.d (.list ds)), x6, x7, x8, none],
      ⟨rfl, none, hds, rfl⟩, fun x rest e m hI => ?_, fun e m hI => ?_⟩
    · obtain ⟨rfl, x8, hg, rfl⟩ := hI
      obtain ⟨sts, f, rfl, g⟩ := hg x List.mem_cons_self
      refine ⟨_, rfl, ?_⟩
      walk_at "s"
      (repeat walk_at "s")
      refine is_report_yes hK g.prg g.fin g.few ?_
      (repeat walk_at "s")
      refine ⟨_, rfl, ?_⟩
      walk_at "r"
      walk_at "f"
      (repeat walk_at "s")
      refine settled_yes g hK hR hY ?_
      (repeat walk_at "s")
      refine ⟨_, rfl, ?_⟩
      walk_at "r"
      walk_at "f"
      walk_at "s"
      (repeat walk_at "s")
      refine find_yes g hK hR hY ?_
      (repeat walk_at "s")
      refine deriv_yes g hK hR hY ?_
      (repeat walk_at "s")
      refine ⟨_, rfl, ?_⟩
      walk_at "r"
      walk_at "f"
      walk_at "s"
      exact ⟨rfl, _, fun d hd => hg d (List.mem_cons_of_mem _ hd), rfl⟩
    · obtain ⟨rfl, x8, hg, rfl⟩ := hI
      (repeat walk_at "s")
      exact q _ (by omega)
end
section
variable {n : Nat} {K : List Nat} {rules rules' : List Rule} {keys keys' : List (List Nat)} {N : En → Nat → Prop} {R : PyData → Nat → Prop} {B C : En → Nat → Prop}
/-- the body behind the draws -/
theorem turn_body {sts : List Stp} {x2 x6 x7 : Option Sl} (hK : ColsOk K) (hR : RulesOk K rules) (hY : KeysOk K keys) (hR' : RulesOk K rules') (hY' : KeysOk K keys') (rs : ∀ p ∈ rules, p ∈ rules') (ks : ∀ k ∈ keys, k ∈ keys')
    (hp : Prg K false sts) (few : sts.length ≤ 5) (hn : 30 ≤ n)
    (hN : ∀ (m : Nat) (x6 x7 : Option Sl), n ≤ m + 30 → N [none, some .p, x2, some (.d (schD K rules keys)), some (.d (.tuple (sts.map stpD))), some (.d (schD K rules' keys')), x6, x7] m) :
    MS (sIf (wTru (wCall w_is_settled (wAName 3 (wAName 4 wANil)))) (sSeq (sIf (wTt (wOp (pIs true) (wCall w_is_settled (wAName 5 (wAName 4 wANil))) (wC (.bool true)))) (sRet (wC (.bool false))) sNext) (sFor (wSeq (wCall w__law_more_steps (wAName 1 (wACons (wCall w_kept_columns (wAName 3 (wAName 4 wANil))) wANil)))) (.nm 6) (sSeq (sSet (wOp pAdd (wVar 4) (wTup (wCons (wVal 6) wNil))) 7) (sSeq (sIf (wOrT (wTt (wOp (pIs true) (wCall w_is_report (wAName 3 (wAName 7 wANil))) (wC (.bool true)))) (wTt (wOp (pIs true) (wCall w_is_settled (wAName 3 (wAName 7 wANil))) (wC (.bool true))))) (sRet (wC (.bool false))) sNext) (sIf (wTt (wOp pNe2 (wSl (wCall w_find_derivation (wAName 3 (wAName 7 wANil))) wNoPart (wPart (wNeg (wC (.int 1))))) (wCall w_find_derivation (wAName 3 (wAName 4 wANil))))) (sRet (wC (.bool false))) sNext))))) sNext) [none, some .p, x2, some (.d (schD K rules keys)), some (.d (.tuple (sts.map stpD))), some (.d (schD K rules' keys')), x6, x7] n N R B C := by
  obtain ⟨pa, pk, pK⟩ := prg_ok hp hK
  have hr : ∀ p ∈ rules, p.2 ∈ K := fun p hp => (hR.one p hp).2.1
  have hr' : ∀ p ∈ rules', p.2 ∈ K := fun p hp => (hR'.one p hp).2.1
  have e0 : sts ++ finS .non = sts := List.append_nil sts
  (repeat walk_at "s")
  have st := is_settled_run (n := n) (f := .non) hK hR hY (sts := sts) (by omega) (fun s h => (pa s h).1) (fun s h => (pa s h).2.2) trivial pk
    (Q := fun d m => d = .bool (stlB K rules keys (keptR K sts) .non (sts.foldl (aft K rules keys) (Pu.stK K rules keys))) ∧ m = n) (by rw [derv_last, fold_fin]; exact ⟨rfl, rfl⟩)
  rw [e0] at st
  refine st.imp fun d m1 ⟨ed, em⟩ => ?_
  subst ed em
  walk_at "r"
  refine ⟨fun hs => ?_, fun hs => ?_⟩
  rotate_left
  · walk_at "s"
    exact hN _ _ _ (by omega)
  have g : Good K rules keys sts .non := ⟨hp, trivial, by rw [e0]; omega, hs⟩
  have g' : Good K rules' keys' sts .non := ⟨hp, trivial, by rw [e0]; omega, settled_wider hK (wider_of hK hr' rs ks) (fun s h => (pa s h).1) hs⟩
  walk_at "s"
  (repeat walk_at "s")
  have y1 := settled_yes (n := m1) (Q := fun d m => d = .bool true ∧ m = m1) g' hK hR' hY' ⟨rfl, rfl⟩
  rw [e0] at y1
  refine y1.imp fun d m2 ⟨ed, em⟩ => ?_
  subst ed em
  (repeat walk_at "s")
  refine ⟨_, rfl, ?_⟩
  walk_at "r"
  walk_at "f"
  walk_at "s"
  refine n_for ?_
  (repeat walk_at "s")
  refine kept_columns_run (fun s h => (pa s h).1) ?_
  (repeat walk_at "s")
  refine more_run pk (by omega) fun ds m3 hds lds hm3 => ?_
  refine ⟨ds, rfl, fun rest e m => m = m3 ∧ ∃ (x6 x7 : Option Sl), (∀ d ∈ rest, MoreS (keptR K sts) d) ∧ e = [none, some .p, x2, some (.d (schD K rules keys)), some (.d (.tuple (sts.map stpD))), some (.d (schD K rules' keys')), x6, x7],
    ⟨rfl, x6, x7, hds, rfl⟩, fun x rest e m hI => ?_, fun e m hI => ?_⟩
  rotate_left
  · obtain ⟨rfl, x6, x7, _, rfl⟩ := hI
    exact hN _ _ _ (by omega)
  obtain ⟨rfl, x6, x7, hd, rfl⟩ := hI
  -- the longer report
  have longer : ∃ sts' f' s, x = stpD s ∧ sts' ++ finS f' = sts ++ [s] ∧ Good K rules keys sts' f' ∧ StpOk K s := by
    rcases hd x List.mem_cons_self with ⟨s, ex, full, ns⟩ | ⟨f, ef, full⟩
    · obtain ⟨so, sm, ng⟩ := full.ok
      refine ⟨sts ++ [s], .non, s, ex, List.append_nil _, ⟨prg_snoc hp full (by rw [ns, Bool.and_false]), trivial, ?_, ?_⟩, so.mono pK⟩
      · show ((sts ++ [s]) ++ []).length ≤ 8
        rw [List.append_nil, List.length_append]
        simp
        omega
      · rw [kept_snoc, List.foldl_append]
        exact settled_more hK hr so ng pK (fun b p e => by subst e; cases ns) hs
    · obtain ⟨s, es⟩ : ∃ s, finS f = [s] := by
        cases f with
        | non => cases ef
        | cnt g => exact ⟨_, rfl⟩
        | sum g c => exact ⟨_, rfl⟩
        | hds g => exact ⟨_, rfl⟩
      rw [es] at ef
      refine ⟨sts, f, s, (List.cons.inj ef).1.symm, by rw [es], ⟨hp, full, ?_, settled_group hK hr (fin_full_ok full) hs⟩, fin_ok f s (by rw [es]; simp)⟩
      rw [es, List.length_append]
      simp
      omega
  obtain ⟨sts', f', s, rfl, es, gl, so⟩ := longer
  have okD : ∀ q ∈ dervK K rules keys (Pu.stK K rules keys) sts, KnOk K q := derv_ok hK sts _ stK_ok fun s h => (pa s h).1
  refine ⟨_, rfl, ?_⟩
  walk_at "s"
  (repeat walk_at "s")
  refine ⟨by show 1 ≤ sizeLine; decide, ?_⟩
  (repeat walk_at "s")
  refine ⟨_, add_tup (by rw [List.length_map]; show sts.length + 1 ≤ _; omega), ?_⟩
  have el : sts.map stpD ++ [stpD s] = (sts' ++ finS f').map stpD := by rw [es, List.map_append]; rfl
  rw [el]
  walk_at "s"
  (repeat walk_at "s")
  refine is_report_yes hK gl.prg gl.fin gl.few ?_
  (repeat walk_at "s")
  refine ⟨_, rfl, ?_⟩
  walk_at "r"
  walk_at "f"
  (repeat walk_at "s")
  refine settled_yes gl hK hR hY ?_
  (repeat walk_at "s")
  refine ⟨_, rfl, ?_⟩
  walk_at "r"
  walk_at "f"
  walk_at "s"
  (repeat walk_at "s")
  refine find_yes gl hK hR hY ?_
  rw [es, derv_snoc]
  (repeat walk_at "s")
  refine ⟨1, rfl, ?_⟩
  (repeat walk_at "s")
  refine ⟨_, rfl, ?_⟩
  rw [List.map_append]
  refine ⟨_, sl_init _ _, ?_⟩
  (repeat walk_at "s")
  have y2 := find_yes (n := m) (Q := fun d m' => d = .list ((dervK K rules keys (Pu.stK K rules keys) sts).map knD) ∧ m' = m) g hK hR hY (by rw [e0]; exact ⟨rfl, rfl⟩)
  rw [e0] at y2
  refine y2.imp fun d m4 ⟨ed, em⟩ => ?_
  subst ed em
  refine ⟨_, ne_same hK okD, ?_⟩
  walk_at "r"
  walk_at "f"
  walk_at "s"
  exact ⟨rfl, _, _, fun d hd' => hd d (List.mem_cons_of_mem _ hd'), rfl⟩
theorem law_run (hn : 2147480000 ≤ n) : MS t_law ((List.replicate N_law.length none).set 1 (some .p)) n (fun _ _ => False) (fun d _ => d = .bool true) noEnd noEnd := by
  unfold t_law
  walk_at "s"
  refine n_for ?_
  (repeat walk_at "s")
  refine ⟨8, rfl, by decide, by decide, fun rest e m => ∃ (x2 x3 x4 x5 x6 x7 : Option Sl), rest.length ≤ 8 ∧ n ≤ m + (8 - rest.length) * 800 ∧ e = [none, some .p, x2, x3, x4, x5, x6, x7],
    ⟨none, none, none, none, none, none, by decide, by omega, rfl⟩, fun x rest e m hI => ?_, fun e m hI => ?_⟩
  case refine_2 =>
    obtain ⟨x2, x3, x4, x5, x6, x7, _, _, rfl⟩ := hI
    (repeat walk_at "s")
    rfl
  obtain ⟨x2, x3, x4, x5, x6, x7, hl, hm, rfl⟩ := hI
  rw [List.length_cons] at hl hm
  refine ⟨_, rfl, ?_⟩
  walk_at "s"
  (repeat walk_at "s")
  refine draw_schema1_run (size := 5) (by omega) (by omega) (by omega) fun K rules keys m1 hK hlow _ hR r4 hY k2 hm1 => ?_
  (repeat walk_at "s")
  refine draw_report1_run (most := 5) (grp := false) hK (by omega) (by omega) fun xs m2 hd hm2 => ?_
  obtain ⟨sts, f, rfl, hlen, prg, _, hf⟩ := hd.ex
  rw [hf rfl] at hlen ⊢
  have e0 : sts ++ finS .non = sts := List.append_nil sts
  rw [e0] at hlen ⊢
  (repeat walk_at "s")
  refine wider_run hK hR r4 hY k2 (by omega) fun rules' keys' m3 hR' hY' rs ks hm3 => ?_
  walk_at "s"
  (repeat walk_at "s")
  refine is_schema_yes hK hlow hR' hY' ?_
  (repeat walk_at "s")
  refine ⟨_, rfl, ?_⟩
  walk_at "r"
  walk_at "f"
  (repeat walk_at "s")
  refine sure_right_run hK hR hY (by omega) fun m4 hm4 => ?_
  walk_at "r"
  walk_at "f"
  walk_at "s"
  exact turn_body hK hR hY hR' hY' rs ks prg (by omega) (by omega) fun m5 x6 x7 hm5 => ⟨_, _, _, _, _, _, by omega, by omega, rfl⟩
end
theorem holds : LawHolds := law_run (n := 2147483648) (by decide) { nx := fun _ _ => False, rt := fun d _ => d = .bool true } 2147483648 (Nat.le_refl _) (fun _ _ _ h _ => h) (fun _ _ _ h _ => h) (fun _ _ _ h _ => h.elim) (fun _ _ _ h _ => h.elim)
end Lw
namespace PuK
open PySem PySem.W PySem.Calls PyProof.Rows
section
variable {prog : Program} {w : World} {A : Around} {E : Value → Shared → Prop} {s : Shared} {a : Addr} {vs : List Value} {P : PySem.Fin → Shared → Prop} {kz : List PyData}
/-- the keys told so far are read, away from the list of keys at k -/
def KeysAt (k : Addr) (h : Heap) (ks : List Value) (ds : List PyData) : Prop := EachIs (fun v d => (∃ as, Reads h v d as ∧ k ∉ as) ∧ alike d d = true) ks ds
theorem KeysAt.len {k : Addr} {h : Heap} {ks : List Value} {ds : List PyData} (e : KeysAt k h ks ds) : ks.length = ds.length := e.length
theorem KeysAt.plain {k : Addr} {h : Heap} {ks : List Value} {ds : List PyData} (e : KeysAt k h ks ds) : EachIs (fun v d => ∃ as, Reads h v d as) ks ds := e.mono fun _ _ ⟨⟨as, r, _⟩, _⟩ => ⟨as, r⟩
end
end PuK
namespace Pu
open PySem PySem.Spec PyProof.Rows L2 LamX
end Pu
namespace Pu
open PySem PySem.Spec PyProof.Rows L2 LamX
def markItems : List (Addr × Str) → List Value
  | [] => []
  | (a, q) :: r => .ref a :: .str q 0 :: markItems r
def markO (T : List (Addr × Str)) : Obj := { cls := .none, data := .seq (markItems T).toArray 0 }
def withT (K : PySem.W.Frag) (a : Addr) (T : List (Addr × Str)) : PySem.W.Frag := K ++ [(a, markO T)]
theorem tabPairs_mark : ∀ T, tabPairs (markItems T) = T
  | [] => rfl
  | (a, q) :: r => by
    show (a, q) :: tabPairs (markItems r) = _
    rw [tabPairs_mark r]
theorem tabF_with {K : PySem.W.Frag} {a : Addr} {T : List (Addr × Str)} : tabF (withT K a T) = T := by
  unfold tabF withT
  rw [List.getLast?_concat]
  show tabPairs (markItems T).toArray.toList = T
  exact tabPairs_mark T
theorem lookup_with {K : PySem.W.Frag} {a : Addr} {T : List (Addr × Str)} (h : ∃ o, K.lookup a = some o) (b : Addr) : (withT K a T).lookup b = K.lookup b := by
  unfold withT
  rw [List.lookup_append]
  cases e : K.lookup b with
  | some o => rfl
  | none =>
    have ne : b ≠ a := fun z => by
      obtain ⟨o, h⟩ := h
      rw [z, h] at e
      cases e
    show (match b == a with | true => some (markO T) | false => none) = none
    rw [beq_eq_false_iff_ne.mpr ne]
section
variable {K K' : PySem.W.Frag}
theorem codeIn_cong (e : ∀ b, K'.lookup b = K.lookup b) (v : Value) (q : Str) : PySem.W.codeIn K' v q = PySem.W.codeIn K v q := by
  unfold PySem.W.codeIn
  cases v <;> simp only [e]
theorem _root_.L2.Fun.cong (e : ∀ b, K'.lookup b = K.lookup b) {x qual : Str} {st : Stmt} {f : Addr} {fd : FuncData} (F : Fun K x qual st f fd) : Fun K' x qual st f fd := by
  obtain ⟨⟨oc, od, kV, doc, pm, an, cdv, ct, osl, h1, h2, h3⟩, _⟩ := F
  refine ⟨⟨oc, od, kV, doc, pm, an, cdv, ct, osl, h1, (e f).trans h2, (codeIn_cong e _ _).trans h3⟩, ?_⟩
  unfold PySem.W.keepIn
  simp only [e, h2]
theorem PlT.cong (e : ∀ b, K'.lookup b = K.lookup b) {F : Hp} {a : Addr} {xs : List V} (h : PlT K F a xs) : PlT K' F a xs := h.imp id fun ⟨o, its, n, h1, r⟩ => ⟨o, its, n, (e a).trans h1, r⟩
theorem In.cong (e : ∀ b, K'.lookup b = K.lookup b) {h : Heap} (X : K.In h) : K'.In h := fun a o z => X a o ((e a).symm.trans z)
end
def SysT (h : Heap) : Prop := ∃ (o : Obj) (c : String), h.get? sysModules = some o ∧ o.cls = .type c ∧ c ≠ "list"
theorem sysT_ok {h : Heap} (e : sysB h.get? = true) : SysT h := by
  unfold sysB at e
  cases q : h.get? sysModules with
  | none => rw [q] at e; cases e
  | some o =>
    rw [q] at e
    obtain ⟨c, d, dt, sl⟩ := o
    cases c with
    | type n =>
      refine ⟨_, n, q, rfl, fun z => ?_⟩
      have e' : (!decide (n = "list")) = true := e
      simp [z] at e'
    | _ => cases e
abbrev TQ := List (He.Defn × Str)
def defsT (tq : TQ) : List He.Defn := tq.map (·.1)
def tabAt (K : PySem.W.Frag) (tq : TQ) : List (Addr × Str) := tq.map fun p => ((He.cT K p.1).2, p.2)
def apartB (K : PySem.W.Frag) (tq : TQ) : Bool := decide ((tabAt K tq).map (·.1)).Nodup
def obsHK (fa : List He.Fa) (fn : List He.DefD) (tb : Tbl) (tq : TQ) (g : Addr → Option Obj) (K : PySem.W.Frag) : Bool × Bool × He.AlD := (He.tabsB g (defsT tq) K && apartB K tq, obsC fa fn tb K)
def obsHG (n : Nat) (fa : List He.Fa) (fn : List He.DefD) (tb : Tbl) (tq : TQ) (g : Addr → Option Obj) : Bool × Bool × Bool × He.AlD := (sysB g, obsHK fa fn tb tq g (He.frT g (He.asD g n)))
structure SaysH (fa : List He.Fa) (fn : List He.DefD) (tb : Tbl) (tq : TQ) (h : Heap) (K : PySem.W.Frag) : Prop where
  c : SaysC fa fn tb K
  hd : ∀ p ∈ tq, PySem.W.codeHdIn K (He.cT K p.1).1 (He.cT K p.1).2 = true
  out : ∀ p ∈ tq, K.lookup (He.cT K p.1).2 = none
  empty : ∀ p ∈ tq, h.get? (He.cT K p.1).2 = some { cls := .none, data := .fields #[] }
  nd : ((tabAt K tq).map (·.1)).Nodup
theorem saysH_of {n : Nat} {fa : List He.Fa} {fn : List He.DefD} {tb : Tbl} {tq : TQ} {h : Heap} (e : obsHK fa fn tb tq h.get? (He.frT h.get? (He.asD h.get? n)) = (true, true, He.valD fn)) : SaysH fa fn tb tq h (He.frT h.get? (He.asD h.get? n)) := by
  have e2 : (He.tabsB h.get? (defsT tq) (He.frT h.get? (He.asD h.get? n)) && apartB (He.frT h.get? (He.asD h.get? n)) tq) = true := congrArg (fun z : Bool × Bool × He.AlD => z.1) e
  have e1 : obsC fa fn tb (He.frT h.get? (He.asD h.get? n)) = (true, He.valD fn) := congrArg (fun z : Bool × Bool × He.AlD => z.2) e
  obtain ⟨h2, h5⟩ := He.ba e2
  have key : ∀ p ∈ tq, PySem.W.codeHdIn (He.frT h.get? (He.asD h.get? n)) (He.cT (He.frT h.get? (He.asD h.get? n)) p.1).1 (He.cT (He.frT h.get? (He.asD h.get? n)) p.1).2 = true ∧ ∃ o, h.get? (He.cT (He.frT h.get? (He.asD h.get? n)) p.1).2 = some o ∧ He.emptyTab o = true := fun p hp => by
    obtain ⟨h3, h4⟩ := He.ba (List.all_eq_true.mp h2 p.1 (List.mem_map.mpr ⟨p, hp, rfl⟩))
    refine ⟨h3, ?_⟩
    cases q : h.get? (He.cT (He.frT h.get? (He.asD h.get? n)) p.1).2 with
    | none =>
      rw [q] at h4
      cases h4
    | some o =>
      rw [q] at h4
      exact ⟨o, rfl, h4⟩
  exact ⟨e1, fun p hp => (key p hp).1, fun p hp => by
    obtain ⟨_, o, q, z⟩ := key p hp
    exact He.frT_none q z, fun p hp => by
    obtain ⟨_, o, q, z⟩ := key p hp
    rw [q, He.emptyTab_eq z], of_decide_eq_true h5⟩
def hookH (n : Nat) (fa : List He.Fa) (fn : List He.DefD) (tb : Tbl) (tq : TQ) : PySem.W.Hook where
  α := Bool × Bool × Bool × He.AlD
  obs := fun s => obsHG n fa fn tb tq s.heap.get?
  val := fun _ => (true, true, true, He.valD fn)
  says := fun _ h => SysT h ∧ ∃ K : PySem.W.Frag, K.In h ∧ SaysH fa fn tb tq h K
  of := fun _ _ e => ⟨sysT_ok (congrArg (fun z : Bool × Bool × Bool × He.AlD => z.1) e), _, He.frT_in, saysH_of (congrArg (fun z : Bool × Bool × Bool × He.AlD => z.2) e)⟩
  keeps := fun _ _ _ ⟨⟨o, c, e, e2, n⟩, K, hK, x⟩ k => ⟨⟨o, c, k _ _ e, e2, n⟩, K, PySem.W.Frag.In.keeps hK k, ⟨x.c, x.hd, x.out, fun p hp => k _ _ (x.empty p hp), x.nd⟩⟩
theorem obsHG_eq {n : Nat} {fa : List He.Fa} {fn : List He.DefD} {tb : Tbl} {tq : TQ} {g : Addr → Option Obj} {s : Shared} (h : ∀ a, g a = s.heap.get? a) : obsHG n fa fn tb tq g = (hookH n fa fn tb tq).obs s := by
  obtain rfl : g = s.heap.get? := funext h
  rfl
/-- the code objects and their tables -/
def codesT (K : PySem.W.Frag) (tq : TQ) : List (Addr × Addr) := tq.map fun p => He.cT K p.1
section
variable {fa : List He.Fa} {fn : List He.DefD} {tb : Tbl} {tq : TQ} {h : Heap} {K : PySem.W.Frag}
theorem SaysH.mem (x : SaysH fa fn tb tq h K) (i : Nat) {p : He.Defn} {q : Str} (e : tq[i]? = some (p, q) := by rfl) : ((He.cT K p).2, q) ∈ tabAt K tq := List.mem_map.mpr ⟨(p, q), List.mem_of_getElem? e, rfl⟩
end
theorem law_callH {P : Program} {w : World} {K : PySem.W.Frag} {mg mb : Str → Option Value} {k : Nat} {fa a : Addr} {cs : List (Addr × Addr)} {fd : FuncData} {x : Str} {sp : Sp} {s₁ : Shared} {vs : List Value} {ns : List Int}
    (KX : K.In s₁.heap) (hns : s₁.heap.Ns mainGlobals mg) (hb : s₁.heap.Ns builtinsNs mb) (hbb : ∀ x : Str, x ≠ "__name__" → mb x = bootBuiltins x) (hlim : s₁.heap.NoLimit) (hg : s₁.gens = #[]) (sy : SysT s₁.heap)
    (hT : ∀ p ∈ cs, s₁.heap.get? p.2 = some { cls := .none, data := .fields #[] }) (nT : ∀ p ∈ cs, K.lookup p.2 = none) (C : ∀ p ∈ cs, PySem.W.CodeHd s₁.heap p.1 p.2)
    (hbm : ∃ (bm : Addr) (ob : Obj), mg "__builtins__" = some (.ref bm) ∧ bm ≠ builtinsNs ∧ s₁.heap.get? bm = some ob ∧ ob.cls = .type "module" ∧ ob.dict = some builtinsNs ∧ ob.data = .plain)
    (ha : s₁.heap.get? a = some { cls := .type "list", data := .seq vs.toArray }) (hi : IntsAre vs ns) (hl : ns.length ≤ sizeLine) (hr : Room k callerA)
    (F : ∀ base : Heap, K.In base → base.Ns mainGlobals mg → (∀ p ∈ cs, TabB base mg p.1 p.2) → TopOk P w K mg base k fa fd [x] sp) (hbind : ∀ (s : Shared) (u : Value), BindsTo s fd ⟨[u], []⟩ [(x, u)])
    (hsp : ∀ H : Hp, (∀ p ∈ cs, H p.2 = some (.tbl #[])) → SqL K H a (ns.map V.int) → sp [.ref a] H (fun v _ => v = .bl true) fun _ _ _ => False) :
    codeAny (model P w) callerA (.call (.ref fa) ⟨[.ref a], []⟩) (fun r s' => r = .ok (.ret (.bool true)) ∧ OldK s₁.heap s'.heap ∧ s'.os = s₁.os ∧ AllBare s'.gens) s₁ := by
  have rv := vals_ints hi
  have lenV := hi.length
  have isT : ∀ b : Addr, b ∈ cs.map (·.2) → s₁.heap.get? b = some { cls := .none, data := .fields #[] } := fun b hb => by
    obtain ⟨p, hp, e⟩ := List.mem_map.mp hb
    rw [← e]
    exact hT p hp
  have aT : a ∉ cs.map (·.2) := fun z => by
    have q := isT a z
    rw [ha] at q
    have z' : Data.seq vs.toArray _ = Data.fields #[] := congrArg Obj.data (Option.some.inj q)
    cases z'
  have memT : ∀ p ∈ cs, p.2 ∈ cs.map (·.2) := fun p hp => List.mem_map.mpr ⟨p, hp, rfl⟩
  obtain ⟨os, sc, so, sk, sn⟩ := sy
  have nsA : sysModules ≠ a := fun z => by
    rw [z, ha] at so
    cases so
    exact sn (by injection sk with sk; exact sk.symm)
  have nsT : sysModules ∉ cs.map (·.2) := fun z => by
    have q := isT _ z
    rw [so] at q
    cases q
    cases sk
  -- from an abstract heap in which nothing but the script and the tables may be tracked
  have core : ∀ H : Hp, (∀ p ∈ cs, H p.2 = some (.tbl #[])) → (∀ b, H b = none ∨ b ∈ cs.map (·.2) ∨ ∃ o xs, H b = some (.frz o (.lst xs))) → SqL K H a (ns.map V.int) → HOk P w H s₁.heap → (∀ b, H b ≠ none → b = a ∨ b ∈ cs.map (·.2)) → (H a ≠ none → K.lookup a = none) →
      codeAny (model P w) callerA (.call (.ref fa) ⟨[.ref a], []⟩) (fun r s' => r = .ok (.ret (.bool true)) ∧ OldK s₁.heap s'.heap ∧ s'.os = s₁.os ∧ AllBare s'.gens) s₁ := by
    intro H hH hO hS hok hA hK
    have base_of : ∀ {b : Addr} {o : Obj}, s₁.heap.get? b = some o → H b = none → (hidT s₁.heap H).get? b = some o := fun e n => hidT_get e n
    have noD : ∀ {b : Addr} {o : Obj}, s₁.heap.get? b = some o → (∀ vs n, o.data ≠ .seq vs n) → o.data ≠ .fields #[] → H b = none := fun {b o} e h1 h2 => by
      cases q : H b with
      | none => rfl
      | some u =>
        rcases hA b (by rw [q]; simp) with e' | e'
        · rw [e', ha] at e
          cases e
          exact (h1 _ _ rfl).elim
        · rw [isT b e'] at e
          cases e
          exact (h2 rfl).elim
    have noA : ∀ {b : Addr} {o : Obj} {es : Array DictEntry} {ep : Nat}, s₁.heap.get? b = some o → o.data = .dict es ep → H b = none := fun {b o es ep} e d => by
      refine noD e (fun vs n z => ?_) fun z => ?_
      · rw [d] at z
        cases z
      · rw [d] at z
        cases z
    have nsK : ∀ {b : Addr} {m : Str → Option Value}, s₁.heap.Ns b m → (hidT s₁.heap H).Ns b m := fun {b m} ⟨o, es, ep, e, d, r⟩ => ⟨o, es, ep, base_of e (noA e d), d, r⟩
    have hKb : K.In (hidT s₁.heap H) := fun b o e => base_of (KX b o e) (by
      cases q : H b with
      | none => rfl
      | some u =>
        rcases hA b (by rw [q]; simp) with e' | e'
        · rw [e'] at e q
          rw [hK (by rw [q]; simp)] at e
          cases e
        · obtain ⟨p, hp, ep⟩ := List.mem_map.mp e'
          rw [← ep, nT p hp] at e
          cases e)
    have hM : L2.Mod K mg (hidT s₁.heap H) := ⟨hKb, nsK hns, ⟨mb, nsK hb, hbb⟩, let ⟨mc, h1, h2⟩ := hlim; ⟨mc, nsK h1, h2⟩⟩
    have TB : ∀ p ∈ cs, TabB (hidT s₁.heap H) mg p.1 p.2 := fun p hp => by
      have hTp := hT p hp
      refine ⟨?_, ?_, fun z => ?_⟩
      · obtain ⟨o, us, file, tf, flags, tg, inF, text, tt, e1, r1, r2, r3, r4, r5, r6, r7, r8, hne⟩ := C p hp
        refine ⟨o, us, file, tf, flags, tg, inF, text, tt, base_of e1 (noD e1 (fun vs n z => ?_) fun z => ?_), r1, r2, r3, r4, r5, r6, r7, r8, hne⟩
        · rw [r2] at z
          cases z
        · rw [r2] at z
          cases z
          simp at r3
      · obtain ⟨bm, ob, b1, b2, b3, b4, b5, b6⟩ := hbm
        have nG : bm ≠ mainGlobals := fun q => by
          obtain ⟨o, es, ep, e, hd, _⟩ := hns
          rw [q, e] at b3
          cases b3
          rw [hd] at b6
          cases b6
        have nP : bm ≠ p.2 := fun q => by
          rw [q, hTp] at b3
          cases b3
          cases b6
        refine ⟨bm, ob, b1, b2, nG, nP, base_of b3 (noD b3 (fun vs n z => ?_) fun z => ?_), b4, b5, b6⟩
        · rw [b6] at z
          cases z
        · rw [b6] at z
          cases z
      · obtain ⟨o, es, ep, e, hd, _⟩ := hns
        rw [z, hTp] at e
        cases e
        cases hd
    have hSys : H sysModules = none := by
      cases q : H sysModules with
      | none => rfl
      | some u =>
        rcases hA _ (by rw [q]; simp) with e' | e'
        · exact absurd e' nsA
        · exact absurd e' nsT
    have e0 : Env0 P w K mg (hidT s₁.heap H) callerA [] s₁ H := ⟨rfl, hM, fun b o e => of_hidT e, Nat.le_of_eq (hidT_size _ _), trivial, fun b hb => absurd (show b ∈ ([] : List Addr) from hb) (by simp), hok, .of_eq hg⟩
    refine codeAny_mono (F _ hKb (nsK hns) TB callerA [] s₁ H ⟨[.ref a], []⟩ [.ref a] [.ref a] _ _ hr rfl ⟨os, so⟩ hSys e0 (hbind s₁ (.ref a)) (.cons rfl .nil) (hsp H hH hS)) fun r s' h => ?_
    cases r with
    | error e => exact False.elim h
    | ok fl =>
      cases fl with
      | next => exact False.elim h
      | brk => exact False.elim h
      | cont => exact False.elim h
      | ret u =>
        obtain ⟨v, H', os', bare, un, hok', r', q⟩ := h
        have q' : v = .bl true := q
        subst q'
        obtain rfl : u = Value.bool true := r'
        have key : ∀ b o, b ∉ cs.map (·.2) → s₁.heap.get? b = some o → s'.heap.get? b = some o := fun b o nb e => by
          cases q : H b with
          | none => exact un.keep b o e q (by intro z; exact absurd (show b ∈ ([] : List Addr) from z) (by simp)) (by simp)
          | some u =>
            rcases hO b with z | z | ⟨ob, xs, z⟩
            · rw [q] at z; cases z
            · exact absurd z nb
            · have z2 := un.frzs b ob _ z
              obtain ⟨e1, _⟩ := hok b _ z
              obtain ⟨e2, _⟩ := hok' b _ z2
              rw [e] at e1; cases e1
              exact e2
        have grown : ∀ p ∈ cs, ∃ more : Array Value, s'.heap.get? p.2 = some { cls := .none, data := .fields more } := fun p hp => by
          obtain ⟨more, z⟩ := un.tbls p.2 #[] (hH p hp)
          exact ⟨_, hok' p.2 _ z⟩
        refine ⟨rfl, ⟨fun b o e => ?_, fun b o e => ?_⟩, os', bare⟩
        · by_cases hb : b ∈ cs.map (·.2)
          · obtain ⟨p, hp, ep⟩ := List.mem_map.mp hb
            obtain ⟨more, hm⟩ := grown p hp
            rw [← ep] at e ⊢
            rw [hT p hp] at e
            cases e
            exact .inr (.inl ⟨((C p hp).tab (hT p hp)).isCodeTable, rfl, #[], more, rfl, by rw [Array.empty_append]; exact hm⟩)
          · exact .inl (key b o hb e)
        · by_cases hb : b ∈ cs.map (·.2)
          · obtain ⟨p, hp, ep⟩ := List.mem_map.mp hb
            obtain ⟨more, hm⟩ := grown p hp
            rw [← ep]
            exact ⟨_, hm⟩
          · exact ⟨o, key b o hb e⟩
  cases hk : K.lookup a with
  | some o =>
    have e := KX a o hk
    rw [ha] at e
    cases e
    refine core (fun b => if b ∈ cs.map (·.2) then some (.tbl #[]) else none) (fun p hp => if_pos (memT p hp)) (fun b => ?_) (.inr ⟨_, vs.toArray, _, hk, rfl, rfl, rfl, by rw [List.size_toArray, lenV]; exact hl, by simpa using rv⟩) (fun b u z => ?_) (fun b z => ?_) fun z => absurd (show (if a ∈ cs.map (·.2) then some (HO.tbl #[]) else none) = none from if_neg aT) z
    · by_cases hb : b ∈ cs.map (·.2)
      · exact .inr (.inl hb)
      · exact .inl (if_neg hb)
    · by_cases hb : b ∈ cs.map (·.2)
      · have z' := (if_pos hb).symm.trans z
        cases z'
        exact isT b hb
      · have z' := (if_neg hb).symm.trans z
        cases z'
    · by_cases hb : b ∈ cs.map (·.2)
      · exact .inr hb
      · exact absurd (if_neg hb) z
  | none =>
    refine core (fun b => if b = a then some (.frz { cls := .type "list", data := .seq vs.toArray } (.lst (ns.map V.int))) else if b ∈ cs.map (·.2) then some (.tbl #[]) else none) (fun p hp => (if_neg (show ¬ p.2 = a from fun z => aT (by rw [← z]; exact memT p hp))).trans (if_pos (memT p hp))) (fun b => ?_)
      (.inl (.inr ⟨{ cls := .type "list", data := .seq vs.toArray }, if_pos rfl⟩)) (fun b u z => ?_) (fun b z => ?_) fun _ => hk
    · by_cases hb : b = a
      · exact .inr (.inr ⟨_, _, if_pos hb⟩)
      · by_cases hb2 : b ∈ cs.map (·.2)
        · exact .inr (.inl hb2)
        · exact .inl ((if_neg hb).trans (if_neg hb2))
    · by_cases hb : b = a
      · have z' := (if_pos hb).symm.trans z
        cases z'
        rw [hb]
        exact ⟨ha, by rw [List.length_map]; exact hl, vs, _, rv, ha⟩
      · have z1 := (if_neg hb).symm.trans z
        by_cases hb2 : b ∈ cs.map (·.2)
        · have z' := (if_pos hb2).symm.trans z1
          cases z'
          exact isT b hb2
        · have z' := (if_neg hb2).symm.trans z1
          cases z'
    · by_cases hb : b = a
      · exact .inl hb
      · by_cases hb2 : b ∈ cs.map (·.2)
        · exact .inr hb2
        · exact absurd ((if_neg hb).trans (if_neg hb2)) z
theorem walk_ofH {l : PySem.W.OpenLaw} {n k : Nat} {q : Program} {loose : List Str} {XP : (Str → Option Value) → Heap → Prop} {fa : List He.Fa} {fn : List He.DefD} {tb : Tbl} {tq : TQ} {d : DefRec} {x : Str} (hn : l.most = some n) (hn2 : n ≤ sizeLine) (hdf : d.params.defaults = []) (hr : Room k callerA)
    (F : ∀ (w : World) (mg : Str → Option Value) (a : Addr) (h : Heap) (K : PySem.W.Frag), K.In h → SaysH fa fn tb tq h K → h.Ns mainGlobals mg → mg d.name = some (.ref a) → ∃ (K' : PySem.W.Frag) (fd : FuncData) (sp : Sp), (∀ b, K'.lookup b = K.lookup b) ∧ (∀ (s : Shared) (u : Value), BindsTo s fd ⟨[u], []⟩ [(x, u)]) ∧
      (∀ (H : Hp) (a : Addr) (ns : List Int), ns.length ≤ n → (∀ p ∈ codesT K tq, H p.2 = some (.tbl #[])) → SqL K' H a (ns.map V.int) → sp [.ref a] H (fun v _ => v = .bl true) fun _ _ _ => False) ∧ ∀ base : Heap, K'.In base → base.Ns mainGlobals mg → (∀ p ∈ codesT K tq, TabB base mg p.1 p.2) → TopOk l.prog w K' mg base k a fd [x] sp) :
    PySem.W.WalkO q loose XP (fun w h => (hookH 4 fa fn tb tq).says w h) l.row.toRowW d [] (fun f vs => PySem.call f vs) := by
  refine Att.attach_call hn hdf fun w s₀ s₁ mg mb f o pm cd doc a vs ns G Y ho hd hcd hmg hobj hints hlen hg => ?_
  obtain ⟨sy, K, KX, c⟩ := Y
  obtain ⟨K', fd, sp, ek, hb, hsp, run⟩ := F w mg f _ K KX c G.T.g hmg
  have mem : ∀ {p}, p ∈ codesT K tq → ∃ z ∈ tq, p = He.cT K z.1 := fun hp => let ⟨z, hz, e⟩ := List.mem_map.mp hp; ⟨z, hz, e.symm⟩
  refine law_callH (cs := codesT K tq) (In.cong ek KX) G.T.g G.T.b G.T.builtins G.T.nolimit hg sy (fun p hp => ?_) (fun p hp => ?_) (fun p hp => ?_) G.T.bmain hobj hints (Nat.le_trans hlen hn2) hr run hb fun H hH hS => hsp H a ns hlen hH hS
  · obtain ⟨z, hz, rfl⟩ := mem hp
    exact c.empty z hz
  · obtain ⟨z, hz, rfl⟩ := mem hp
    exact (ek _).trans (c.out z hz)
  · obtain ⟨z, hz, rfl⟩ := mem hp
    exact PySem.W.codeHd_of_K KX (c.hd z hz)
end Pu
namespace Pu
open PySem PySem.Spec PyProof.Rows L2 LamX
/-- the pen in the midst of its turn -/
structure PenAt (q : Pens) (b : Nat) (F0 H0 F H : Hp) (cells : List Int) (at_ cur : Int) : Prop where
  ne : q.pa ≠ q.ca
  sub : Same F H
  ext : Ext (some q) F0 H0 F H
  f1 : F q.pa = none
  f2 : F q.ca = none
  tabs : TabsIs q.tb F H
  pen : H q.pa = some (.lst [.ref q.ca, .int at_, .int cur])
  cellsAt : H q.ca = some (.lst (cells.map V.int))
  inv : PenInv cells at_ cur b
section
variable {q : Pens} {b b' : Nat} {F0 H0 F H F1 H1 : Hp} {cells : List Int} {at_ cur at' cur' : Int}
theorem PenAt.ok (p : PenAt q b F0 H0 F H cells at_ cur) : Ok (some q) b F H := ⟨p.sub, p.f1, p.f2, p.ne, p.tabs, cells, at_, cur, p.pen, p.cellsAt, p.inv⟩
theorem PenAt.of (o : Ok (some q) b F H) (x : Ext (some q) F0 H0 F H) : ∃ cells at_ cur, PenAt q b F0 H0 F H cells at_ cur := by
  obtain ⟨f1, f2, ne, tb, cells, at_, cur, h1, h2, i⟩ := o.pen
  exact ⟨cells, at_, cur, ne, o.sub, x, f1, f2, tb, h1, h2, i⟩
theorem PenAt.le (p : PenAt q b F0 H0 F H cells at_ cur) (h : b' ≤ b) : PenAt q b' F0 H0 F H cells at_ cur :=
  ⟨p.ne, p.sub, p.ext, p.f1, p.f2, p.tabs, p.pen, p.cellsAt, p.inv.at0, by have := p.inv.most; omega, p.inv.cur0, p.inv.few⟩
theorem PenAt.turn (p : PenAt q b F0 H0 F H cells at_ cur) (i : PenInv cells at' cur' b') : PenAt q b' F0 H0 F (upd H q.pa (.lst [V.ref q.ca, V.int at', V.int cur'])) cells at' cur' := by
  refine ⟨p.ne, fun a u e => ?_, ⟨p.ext.fsub, fun a u e f n => ?_⟩, p.f1, p.f2, p.tabs.to (Same.refl _) fun t ht => ⟨(p.tabs t ht).1, upd_ne fun z => ?_⟩, upd_same, by rw [upd_ne (Ne.symm p.ne)]; exact p.cellsAt, i⟩
  · rw [upd_ne fun z => by rw [z, p.f1] at e; cases e]
    exact p.sub a u e
  · rw [upd_ne (n q rfl).1]
    exact p.ext.keep a u e f n
  · obtain ⟨_, ps, e, _⟩ := p.tabs t ht
    rw [z, p.pen] at e
    cases e
theorem PenAt.trans (p : PenAt q b F0 H0 F H cells at_ cur) {b2 : Nat} (o : Ok (some q) b2 F1 H1) (x : Ext (some q) F H F1 H1) : ∃ cells at_ cur, PenAt q b2 F0 H0 F1 H1 cells at_ cur := PenAt.of o (p.ext.trans x)
end
/-- a new pen -/
def spOpen (K : PySem.W.Frag) : Sp := fun vs H Q _ => ∃ (a : Addr) (ns : List Int), vs = [.ref a] ∧ SqL K H a (ns.map V.int) ∧ ns.length ≤ 63 ∧
  ∀ (H' : Hp) (pa ca : Addr) (cells : List Int), Same H H' → pa ≠ ca → H pa = none → H ca = none → H' pa = some (.lst [.ref ca, .int 0, .int 0]) → H' ca = some (.lst (cells.map V.int)) → cells.length ≤ 12 → Q (.ref pa) H'
/-- the law's body: the pen, then the rest by its reading -/
def spLawTop (K : PySem.W.Frag) : Sp := fun vs H Q _ => ∃ (a : Addr) (ns : List Int), vs = [.ref a] ∧ SqL K H a (ns.map V.int) ∧ ns.length ≤ 63 ∧ (∀ p ∈ tabF K, H p.1 = some (.tbl #[])) ∧ ∀ H', Q (.bl true) H'
theorem tabs_new {K : PySem.W.Frag} {H : Hp} (h : ∀ p ∈ tabF K, H p.1 = some (.tbl #[])) : TabsIs (tabF K) (fun _ => none) H := fun p hp => ⟨rfl, #[], h p hp, True.intro, fun pos cv hc => by
  have z : codeAmong pos [] = some cv := hc
  simp [codeAmong] at z⟩
theorem law_rep {K : PySem.W.Frag} {pa ca a : Addr} {N : List Str} {ip : Nat} {H : Hp} {cells : List Int} (hN : 1 ≤ N.length) (ne : pa ≠ ca) (h1 : H pa = some (.lst [.ref ca, .int 0, .int 0])) (h2 : H ca = some (.lst (cells.map V.int))) (h3 : cells.length ≤ 12) (ht : ∀ p ∈ tabF K, H p.1 = some (.tbl #[])) :
    RepS K (some ⟨pa, ca, tabF K⟩) (fun _ => none) H (fun _ => none) H ((L2.start N [.ref a]).set ip (some (.ref pa))) ((List.replicate N.length none).set ip (some .p)) 2147483648 := by
  have get : ∀ (i : Nat) (s : Sl), ((List.replicate N.length none).set ip (some Sl.p))[i]? = some (some s) → i = ip ∧ s = .p ∧ i < N.length := fun i s h => by
    have hl : i < N.length := by have := (List.getElem?_eq_some_iff.mp h).1; simpa using this
    by_cases e : i = ip
    · subst e
      rw [List.getElem?_set_self (by simpa using hl)] at h
      cases h
      exact ⟨rfl, rfl, hl⟩
    · rw [List.getElem?_set_ne (Ne.symm e)] at h
      have := List.mem_of_getElem? h
      simp at this
  have ls : (L2.start N [V.ref a]).length = N.length := by simp [L2.start]; omega
  refine ⟨⟨⟨fun _ _ h => (nomatch h), rfl, rfl, ne, tabs_new ht, cells, 0, 0, h1, h2, by decide, by decide, by decide, h3⟩, by simp [ls], fun i s h => ?_, fun i j c xs ys _ q _ _ => ?_, ⟨_, rfl, rfl⟩⟩, .refl, fun i c xs hq q _ => ?_⟩
  · obtain ⟨rfl, rfl, hl⟩ := get i s h
    exact ⟨_, List.getElem?_set_self (by rw [ls]; exact hl), (), ⟨pa, ca, tabF K⟩, rfl, rfl⟩
  · cases (get i _ q).2.1
  · rw [(get i _ q).2.1] at hq; cases hq
theorem tab_codes {K : PySem.W.Frag} {tq : TQ} {H : Hp} (h : ∀ p ∈ codesT K tq, H p.2 = some (.tbl #[])) : ∀ p ∈ tabAt K tq, H p.1 = some (.tbl #[]) := fun p hp => by
  obtain ⟨z, hz, rfl⟩ := List.mem_map.mp hp
  exact h (He.cT K z.1) (List.mem_map.mpr ⟨z, hz, rfl⟩)
end Pu
namespace Lw
open PySem PySem.Spec PyProof.Rows L2 Pu
def topS (i : Nat) : Stmt := PySem.Challenge.pw_openties_k23_whole_settled_reports_exten.main.body.getD i (.Pass ⟨0, 0, 0, 0⟩)
abbrev s__law_open : Stmt := topS 53
abbrev s__law_spread : Stmt := topS 54
abbrev N__law_spread : List Str := ["cell", "at", "primes", "one", "two", "three"]
theorem sc__law_spread : FnScope N__law_spread ["cell", "at"] (defScope s__law_spread) := ⟨rfl, rfl, rfl, by decide +kernel, rfl, by decide +kernel, by decide +kernel⟩
abbrev s__law_take : Stmt := topS 55
abbrev s__law_one_of : Stmt := topS 56
abbrev N__law_one_of : List Str := ["pen", "some"]
theorem sc__law_one_of : FnScope N__law_one_of ["pen", "some"] (defScope s__law_one_of) := ⟨rfl, rfl, rfl, by decide +kernel, rfl, by decide +kernel, by decide +kernel⟩
abbrev s__law_some : Stmt := topS 57
abbrev N__law_some : List Str := ["pen", "columns", "column"]
theorem sc__law_some : FnScope N__law_some ["pen", "columns"] (defScope s__law_some) := ⟨rfl, rfl, rfl, by decide +kernel, rfl, by decide +kernel, by decide +kernel⟩
abbrev s__law_draw_schema : Stmt := topS 59
abbrev N__law_draw_schema : List Str := ["pen", "size", "some", "columns", "rules", "keys", "again", "right", "rule", "unique"]
theorem sc__law_draw_schema : FnScope N__law_draw_schema ["pen", "size"] (defScope s__law_draw_schema) := ⟨rfl, rfl, rfl, by decide +kernel, rfl, by decide +kernel, by decide +kernel⟩
abbrev s_kept_after : Stmt := topS 25
abbrev N_kept_after : List Str := ["kept", "step"]
theorem sc_kept_after : FnScope N_kept_after ["kept", "step"] (defScope s_kept_after) := ⟨rfl, rfl, rfl, by decide +kernel, rfl, by decide +kernel, by decide +kernel⟩
abbrev s_kept_columns : Stmt := topS 24
abbrev N_kept_columns : List Str := ["schema", "report", "kept", "step"]
theorem sc_kept_columns : FnScope N_kept_columns ["schema", "report"] (defScope s_kept_columns) := ⟨rfl, rfl, rfl, by decide +kernel, rfl, by decide +kernel, by decide +kernel⟩
abbrev s_contains : Stmt := topS 8
abbrev N_contains : List Str := ["columns", "part", "column"]
theorem sc_contains : FnScope N_contains ["columns", "part"] (defScope s_contains) := ⟨rfl, rfl, rfl, by decide +kernel, rfl, by decide +kernel, by decide +kernel⟩
abbrev s__has_key : Stmt := topS 15
abbrev N__has_key : List Str := ["columns", "keys", "key"]
theorem sc__has_key : FnScope N__has_key ["columns", "keys"] (defScope s__has_key) := ⟨rfl, rfl, rfl, by decide +kernel, rfl, by decide +kernel, by decide +kernel⟩
abbrev s_common : Stmt := topS 7
abbrev N_common : List Str := ["columns", "names", "column"]
theorem sc_common : FnScope N_common ["columns", "names"] (defScope s_common) := ⟨rfl, rfl, rfl, by decide +kernel, rfl, by decide +kernel, by decide +kernel⟩
abbrev s__closure_round : Stmt := topS 16
abbrev N__closure_round : List Str := ["schema", "found", "names", "rules", "keys", "gained", "left", "right"]
theorem sc__closure_round : FnScope N__closure_round ["schema", "found"] (defScope s__closure_round) := ⟨rfl, rfl, rfl, by decide +kernel, rfl, by decide +kernel, by decide +kernel⟩
abbrev s_closure : Stmt := topS 10
abbrev N_closure : List Str := ["schema", "columns", "found", "_"]
theorem sc_closure : FnScope N_closure ["schema", "columns"] (defScope s_closure) := ⟨rfl, rfl, rfl, by decide +kernel, rfl, by decide +kernel, by decide +kernel⟩
abbrev s_determined : Stmt := topS 38
abbrev N_determined : List Str := ["schema", "knowledge", "columns", "constants", "order", "names", "column", "_"]
theorem sc_determined : FnScope N_determined ["schema", "knowledge", "columns"] (defScope s_determined) := ⟨rfl, rfl, rfl, by decide +kernel, rfl, by decide +kernel, by decide +kernel⟩
abbrev s_settles : Stmt := topS 37
abbrev N_settles : List Str := ["schema", "report", "knowledge", "known", "counted", "most", "kind", "kept", "group"]
theorem sc_settles : FnScope N_settles ["schema", "report", "knowledge"] (defScope s_settles) := ⟨rfl, rfl, rfl, by decide +kernel, rfl, by decide +kernel, by decide +kernel⟩
abbrev s_is_unique : Stmt := topS 11
abbrev N_is_unique : List Str := ["schema", "columns"]
theorem sc_is_unique : FnScope N_is_unique ["schema", "columns"] (defScope s_is_unique) := ⟨rfl, rfl, rfl, by decide +kernel, rfl, by decide +kernel, by decide +kernel⟩
abbrev s_start_knowledge : Stmt := topS 33
abbrev N_start_knowledge : List Str := ["schema", "most"]
theorem sc_start_knowledge : FnScope N_start_knowledge ["schema"] (defScope s_start_knowledge) := ⟨rfl, rfl, rfl, by decide +kernel, rfl, by decide +kernel, by decide +kernel⟩
abbrev s__after_where : Stmt := topS 43
abbrev N__after_where : List Str := ["schema", "knowledge", "column", "worth", "constants", "order", "known", "counted", "most", "fixed"]
theorem sc__after_where : FnScope N__after_where ["schema", "knowledge", "column", "worth"] (defScope s__after_where) := ⟨rfl, rfl, rfl, by decide +kernel, rfl, by decide +kernel, by decide +kernel⟩
abbrev s__known_beginning : Stmt := topS 45
abbrev N__known_beginning : List Str := ["known", "columns", "at", "column"]
theorem sc__known_beginning : FnScope N__known_beginning ["known", "columns"] (defScope s__known_beginning) := ⟨rfl, rfl, rfl, by decide +kernel, rfl, by decide +kernel, by decide +kernel⟩
abbrev s__after_sorting : Stmt := topS 44
abbrev N__after_sorting : List Str := ["knowledge", "kind", "columns", "constants", "order", "known", "counted", "most", "new_order", "column"]
theorem sc__after_sorting : FnScope N__after_sorting ["knowledge", "kind", "columns"] (defScope s__after_sorting) := ⟨rfl, rfl, rfl, by decide +kernel, rfl, by decide +kernel, by decide +kernel⟩
abbrev s__placed : Stmt := topS 42
abbrev N__placed : List Str := ["schema", "knowledge"]
theorem sc__placed : FnScope N__placed ["schema", "knowledge"] (defScope s__placed) := ⟨rfl, rfl, rfl, by decide +kernel, rfl, by decide +kernel, by decide +kernel⟩
abbrev s__after_first : Stmt := topS 46
abbrev N__after_first : List Str := ["schema", "knowledge", "count", "constants", "order", "_", "counted", "most"]
theorem sc__after_first : FnScope N__after_first ["schema", "knowledge", "count"] (defScope s__after_first) := ⟨rfl, rfl, rfl, by decide +kernel, rfl, by decide +kernel, by decide +kernel⟩
abbrev s__after_skip : Stmt := topS 47
abbrev N__after_skip : List Str := ["schema", "knowledge", "count", "constants", "order", "_", "counted", "most"]
theorem sc__after_skip : FnScope N__after_skip ["schema", "knowledge", "count"] (defScope s__after_skip) := ⟨rfl, rfl, rfl, by decide +kernel, rfl, by decide +kernel, by decide +kernel⟩
abbrev s_knowledge_after : Stmt := topS 34
abbrev N_knowledge_after : List Str := ["schema", "knowledge", "step", "kind", "constants", "order", "known", "counted", "most"]
theorem sc_knowledge_after : FnScope N_knowledge_after ["schema", "knowledge", "step"] (defScope s_knowledge_after) := ⟨rfl, rfl, rfl, by decide +kernel, rfl, by decide +kernel, by decide +kernel⟩
abbrev s_derive : Stmt := topS 35
abbrev N_derive : List Str := ["schema", "report", "found", "step"]
theorem sc_derive : FnScope N_derive ["schema", "report"] (defScope s_derive) := ⟨rfl, rfl, rfl, by decide +kernel, rfl, by decide +kernel, by decide +kernel⟩
abbrev s_is_settled : Stmt := topS 36
abbrev N_is_settled : List Str := ["schema", "report"]
theorem sc_is_settled : FnScope N_is_settled ["schema", "report"] (defScope s_is_settled) := ⟨rfl, rfl, rfl, by decide +kernel, rfl, by decide +kernel, by decide +kernel⟩
abbrev s__law_mixed : Stmt := topS 58
abbrev N__law_mixed : List Str := ["pen", "columns", "least", "found", "column", "spot"]
theorem sc__law_mixed : FnScope N__law_mixed ["pen", "columns", "least"] (defScope s__law_mixed) := ⟨rfl, rfl, rfl, by decide +kernel, rfl, by decide +kernel, by decide +kernel⟩
abbrev s__law_draw_step : Stmt := topS 60
abbrev N__law_draw_step : List Str := ["pen", "kept", "is_cut_before", "way"]
theorem sc__law_draw_step : FnScope N__law_draw_step ["pen", "kept", "is_cut_before"] (defScope s__law_draw_step) := ⟨rfl, rfl, rfl, by decide +kernel, rfl, by decide +kernel, by decide +kernel⟩
abbrev s__law_draw_report : Stmt := topS 61
abbrev N__law_draw_report : List Str := ["pen", "schema", "most", "with_groups", "steps", "kept", "is_cut_before", "again", "step", "columns", "rest", "kind", "column"]
theorem sc__law_draw_report : FnScope N__law_draw_report ["pen", "schema", "most", "with_groups"] (defScope s__law_draw_report) := ⟨rfl, rfl, rfl, by decide +kernel, rfl, by decide +kernel, by decide +kernel⟩
abbrev s__law_wider : Stmt := topS 63
abbrev N__law_wider : List Str := ["pen", "schema", "columns", "rules", "keys", "right", "rule", "unique"]
theorem sc__law_wider : FnScope N__law_wider ["pen", "schema"] (defScope s__law_wider) := ⟨rfl, rfl, rfl, by decide +kernel, rfl, by decide +kernel, by decide +kernel⟩
abbrev s__law_more_steps : Stmt := topS 62
abbrev N__law_more_steps : List Str := ["pen", "kept", "column", "some", "steps", "rest", "one"]
theorem sc__law_more_steps : FnScope N__law_more_steps ["pen", "kept"] (defScope s__law_more_steps) := ⟨rfl, rfl, rfl, by decide +kernel, rfl, by decide +kernel, by decide +kernel⟩
abbrev s_is_column_set : Stmt := topS 5
abbrev N_is_column_set : List Str := ["columns", "value"]
theorem sc_is_column_set : FnScope N_is_column_set ["columns", "value"] (defScope s_is_column_set) := ⟨rfl, rfl, rfl, by decide +kernel, rfl, by decide +kernel, by decide +kernel⟩
abbrev s_is_column : Stmt := topS 4
abbrev N_is_column : List Str := ["columns", "value"]
theorem sc_is_column : FnScope N_is_column ["columns", "value"] (defScope s_is_column) := ⟨rfl, rfl, rfl, by decide +kernel, rfl, by decide +kernel, by decide +kernel⟩
abbrev s__is_rule : Stmt := topS 13
abbrev N__is_rule : List Str := ["columns", "value", "left", "right"]
theorem sc__is_rule : FnScope N__is_rule ["columns", "value"] (defScope s__is_rule) := ⟨rfl, rfl, rfl, by decide +kernel, rfl, by decide +kernel, by decide +kernel⟩
abbrev s__are_rules : Stmt := topS 12
abbrev N__are_rules : List Str := ["columns", "value", "rule"]
theorem sc__are_rules : FnScope N__are_rules ["columns", "value"] (defScope s__are_rules) := ⟨rfl, rfl, rfl, by decide +kernel, rfl, by decide +kernel, by decide +kernel⟩
abbrev s__are_keys : Stmt := topS 14
abbrev N__are_keys : List Str := ["columns", "value", "key"]
theorem sc__are_keys : FnScope N__are_keys ["columns", "value"] (defScope s__are_keys) := ⟨rfl, rfl, rfl, by decide +kernel, rfl, by decide +kernel, by decide +kernel⟩
abbrev s_is_schema : Stmt := topS 9
abbrev N_is_schema : List Str := ["value", "columns", "rules", "keys"]
theorem sc_is_schema : FnScope N_is_schema ["value"] (defScope s_is_schema) := ⟨rfl, rfl, rfl, by decide +kernel, rfl, by decide +kernel, by decide +kernel⟩
abbrev s_is_weaker : Stmt := topS 49
abbrev N_is_weaker : List Str := ["knowledge", "other", "constants", "order", "known", "counted", "most", "other_constants", "other_order", "other_known", "other_counted", "other_most", "pair"]
theorem sc_is_weaker : FnScope N_is_weaker ["knowledge", "other"] (defScope s_is_weaker) := ⟨rfl, rfl, rfl, by decide +kernel, rfl, by decide +kernel, by decide +kernel⟩
abbrev s_is_plain_integer : Stmt := topS 3
abbrev N_is_plain_integer : List Str := ["value"]
theorem sc_is_plain_integer : FnScope N_is_plain_integer ["value"] (defScope s_is_plain_integer) := ⟨rfl, rfl, rfl, by decide +kernel, rfl, by decide +kernel, by decide +kernel⟩
abbrev s__is_bound : Stmt := topS 41
abbrev N__is_bound : List Str := ["value"]
theorem sc__is_bound : FnScope N__is_bound ["value"] (defScope s__is_bound) := ⟨rfl, rfl, rfl, by decide +kernel, rfl, by decide +kernel, by decide +kernel⟩
abbrev s__is_constant : Stmt := topS 40
abbrev N__is_constant : List Str := ["columns", "value"]
theorem sc__is_constant : FnScope N__is_constant ["columns", "value"] (defScope s__is_constant) := ⟨rfl, rfl, rfl, by decide +kernel, rfl, by decide +kernel, by decide +kernel⟩
abbrev s__are_constants : Stmt := topS 39
abbrev N__are_constants : List Str := ["columns", "value", "pair", "column", "_"]
theorem sc__are_constants : FnScope N__are_constants ["columns", "value"] (defScope s__are_constants) := ⟨rfl, rfl, rfl, by decide +kernel, rfl, by decide +kernel, by decide +kernel⟩
abbrev s_is_order : Stmt := topS 6
abbrev N_is_order : List Str := ["columns", "value", "column"]
theorem sc_is_order : FnScope N_is_order ["columns", "value"] (defScope s_is_order) := ⟨rfl, rfl, rfl, by decide +kernel, rfl, by decide +kernel, by decide +kernel⟩
abbrev s_is_knowledge : Stmt := topS 32
abbrev N_is_knowledge : List Str := ["schema", "value", "columns", "constants", "order", "known", "counted", "most"]
theorem sc_is_knowledge : FnScope N_is_knowledge ["schema", "value"] (defScope s_is_knowledge) := ⟨rfl, rfl, rfl, by decide +kernel, rfl, by decide +kernel, by decide +kernel⟩
abbrev s_is_derivation : Stmt := topS 50
abbrev N_is_derivation : List Str := ["schema", "report", "value", "at", "step", "knowledge"]
theorem sc_is_derivation : FnScope N_is_derivation ["schema", "report", "value"] (defScope s_is_derivation) := ⟨rfl, rfl, rfl, by decide +kernel, rfl, by decide +kernel, by decide +kernel⟩
abbrev s__is_filled_set : Stmt := topS 29
abbrev N__is_filled_set : List Str := ["kept", "value"]
theorem sc__is_filled_set : FnScope N__is_filled_set ["kept", "value"] (defScope s__is_filled_set) := ⟨rfl, rfl, rfl, by decide +kernel, rfl, by decide +kernel, by decide +kernel⟩
abbrev s__is_long_step : Stmt := topS 28
abbrev N__is_long_step : List Str := ["kept", "kind", "part", "last"]
theorem sc__is_long_step : FnScope N__is_long_step ["kept", "kind", "part", "last"] (defScope s__is_long_step) := ⟨rfl, rfl, rfl, by decide +kernel, rfl, by decide +kernel, by decide +kernel⟩
abbrev s__is_short_step : Stmt := topS 27
abbrev N__is_short_step : List Str := ["kept", "kind", "part"]
theorem sc__is_short_step : FnScope N__is_short_step ["kept", "kind", "part"] (defScope s__is_short_step) := ⟨rfl, rfl, rfl, by decide +kernel, rfl, by decide +kernel, by decide +kernel⟩
abbrev s__is_step : Stmt := topS 26
abbrev N__is_step : List Str := ["kept", "value"]
theorem sc__is_step : FnScope N__is_step ["kept", "value"] (defScope s__is_step) := ⟨rfl, rfl, rfl, by decide +kernel, rfl, by decide +kernel, by decide +kernel⟩
abbrev s_is_report : Stmt := topS 23
abbrev N_is_report : List Str := ["schema", "value", "kept", "is_cut", "is_grouped", "step", "kind"]
theorem sc_is_report : FnScope N_is_report ["schema", "value"] (defScope s_is_report) := ⟨rfl, rfl, rfl, by decide +kernel, rfl, by decide +kernel, by decide +kernel⟩
abbrev s_find_derivation : Stmt := topS 51
abbrev N_find_derivation : List Str := ["schema", "report", "found"]
theorem sc_find_derivation : FnScope N_find_derivation ["schema", "report"] (defScope s_find_derivation) := ⟨rfl, rfl, rfl, by decide +kernel, rfl, by decide +kernel, by decide +kernel⟩
abbrev s__law_sure_right : Stmt := topS 64
abbrev N__law_sure_right : List Str := ["pen", "schema", "columns", "column", "value", "reports", "unique", "fixed", "report", "one"]
theorem sc__law_sure_right : FnScope N__law_sure_right ["pen", "schema"] (defScope s__law_sure_right) := ⟨rfl, rfl, rfl, by decide +kernel, rfl, by decide +kernel, by decide +kernel⟩
abbrev s_law : Stmt := topS 65
theorem sc_law : FnScope N_law ["script"] (defScope s_law) := ⟨rfl, rfl, rfl, by decide +kernel, rfl, by decide +kernel, by decide +kernel⟩
/-- what the top has left -/
structure Txt (P : Program) (w : World) (base : Heap) (K : PySem.W.Frag) (mg : Str → Option Value) where
  a__law_open : Addr
  d__law_open : FuncData
  F__law_open : Fun K "_law_open" "_law_open" s__law_open a__law_open d__law_open
  g__law_open : mg "_law_open" = some (.ref a__law_open)
  a__law_spread : Addr
  d__law_spread : FuncData
  F__law_spread : Fun K "_law_spread" "_law_spread" s__law_spread a__law_spread d__law_spread
  g__law_spread : mg "_law_spread" = some (.ref a__law_spread)
  a__law_take : Addr
  d__law_take : FuncData
  F__law_take : Fun K "_law_take" "_law_take" s__law_take a__law_take d__law_take
  g__law_take : mg "_law_take" = some (.ref a__law_take)
  a__law_one_of : Addr
  d__law_one_of : FuncData
  F__law_one_of : Fun K "_law_one_of" "_law_one_of" s__law_one_of a__law_one_of d__law_one_of
  g__law_one_of : mg "_law_one_of" = some (.ref a__law_one_of)
  a__law_some : Addr
  d__law_some : FuncData
  F__law_some : Fun K "_law_some" "_law_some" s__law_some a__law_some d__law_some
  g__law_some : mg "_law_some" = some (.ref a__law_some)
  a__law_draw_schema : Addr
  d__law_draw_schema : FuncData
  F__law_draw_schema : Fun K "_law_draw_schema" "_law_draw_schema" s__law_draw_schema a__law_draw_schema d__law_draw_schema
  g__law_draw_schema : mg "_law_draw_schema" = some (.ref a__law_draw_schema)
  a_kept_after : Addr
  d_kept_after : FuncData
  F_kept_after : Fun K "kept_after" "kept_after" s_kept_after a_kept_after d_kept_after
  g_kept_after : mg "kept_after" = some (.ref a_kept_after)
  a_kept_columns : Addr
  d_kept_columns : FuncData
  F_kept_columns : Fun K "kept_columns" "kept_columns" s_kept_columns a_kept_columns d_kept_columns
  g_kept_columns : mg "kept_columns" = some (.ref a_kept_columns)
  a_contains : Addr
  d_contains : FuncData
  F_contains : Fun K "contains" "contains" s_contains a_contains d_contains
  g_contains : mg "contains" = some (.ref a_contains)
  a__has_key : Addr
  d__has_key : FuncData
  F__has_key : Fun K "_has_key" "_has_key" s__has_key a__has_key d__has_key
  g__has_key : mg "_has_key" = some (.ref a__has_key)
  a_common : Addr
  d_common : FuncData
  F_common : Fun K "common" "common" s_common a_common d_common
  g_common : mg "common" = some (.ref a_common)
  a__closure_round : Addr
  d__closure_round : FuncData
  F__closure_round : Fun K "_closure_round" "_closure_round" s__closure_round a__closure_round d__closure_round
  g__closure_round : mg "_closure_round" = some (.ref a__closure_round)
  a_closure : Addr
  d_closure : FuncData
  F_closure : Fun K "closure" "closure" s_closure a_closure d_closure
  g_closure : mg "closure" = some (.ref a_closure)
  a_determined : Addr
  d_determined : FuncData
  F_determined : Fun K "determined" "determined" s_determined a_determined d_determined
  g_determined : mg "determined" = some (.ref a_determined)
  a_settles : Addr
  d_settles : FuncData
  F_settles : Fun K "settles" "settles" s_settles a_settles d_settles
  g_settles : mg "settles" = some (.ref a_settles)
  a_is_unique : Addr
  d_is_unique : FuncData
  F_is_unique : Fun K "is_unique" "is_unique" s_is_unique a_is_unique d_is_unique
  g_is_unique : mg "is_unique" = some (.ref a_is_unique)
  a_start_knowledge : Addr
  d_start_knowledge : FuncData
  F_start_knowledge : Fun K "start_knowledge" "start_knowledge" s_start_knowledge a_start_knowledge d_start_knowledge
  g_start_knowledge : mg "start_knowledge" = some (.ref a_start_knowledge)
  a__after_where : Addr
  d__after_where : FuncData
  F__after_where : Fun K "_after_where" "_after_where" s__after_where a__after_where d__after_where
  g__after_where : mg "_after_where" = some (.ref a__after_where)
  a__known_beginning : Addr
  d__known_beginning : FuncData
  F__known_beginning : Fun K "_known_beginning" "_known_beginning" s__known_beginning a__known_beginning d__known_beginning
  g__known_beginning : mg "_known_beginning" = some (.ref a__known_beginning)
  a__after_sorting : Addr
  d__after_sorting : FuncData
  F__after_sorting : Fun K "_after_sorting" "_after_sorting" s__after_sorting a__after_sorting d__after_sorting
  g__after_sorting : mg "_after_sorting" = some (.ref a__after_sorting)
  a__placed : Addr
  d__placed : FuncData
  F__placed : Fun K "_placed" "_placed" s__placed a__placed d__placed
  g__placed : mg "_placed" = some (.ref a__placed)
  a__after_first : Addr
  d__after_first : FuncData
  F__after_first : Fun K "_after_first" "_after_first" s__after_first a__after_first d__after_first
  g__after_first : mg "_after_first" = some (.ref a__after_first)
  a__after_skip : Addr
  d__after_skip : FuncData
  F__after_skip : Fun K "_after_skip" "_after_skip" s__after_skip a__after_skip d__after_skip
  g__after_skip : mg "_after_skip" = some (.ref a__after_skip)
  a_knowledge_after : Addr
  d_knowledge_after : FuncData
  F_knowledge_after : Fun K "knowledge_after" "knowledge_after" s_knowledge_after a_knowledge_after d_knowledge_after
  g_knowledge_after : mg "knowledge_after" = some (.ref a_knowledge_after)
  a_derive : Addr
  d_derive : FuncData
  F_derive : Fun K "derive" "derive" s_derive a_derive d_derive
  g_derive : mg "derive" = some (.ref a_derive)
  a_is_settled : Addr
  d_is_settled : FuncData
  F_is_settled : Fun K "is_settled" "is_settled" s_is_settled a_is_settled d_is_settled
  g_is_settled : mg "is_settled" = some (.ref a_is_settled)
  a__law_mixed : Addr
  d__law_mixed : FuncData
  F__law_mixed : Fun K "_law_mixed" "_law_mixed" s__law_mixed a__law_mixed d__law_mixed
  g__law_mixed : mg "_law_mixed" = some (.ref a__law_mixed)
  a__law_draw_step : Addr
  d__law_draw_step : FuncData
  F__law_draw_step : Fun K "_law_draw_step" "_law_draw_step" s__law_draw_step a__law_draw_step d__law_draw_step
  g__law_draw_step : mg "_law_draw_step" = some (.ref a__law_draw_step)
  a__law_draw_report : Addr
  d__law_draw_report : FuncData
  F__law_draw_report : Fun K "_law_draw_report" "_law_draw_report" s__law_draw_report a__law_draw_report d__law_draw_report
  g__law_draw_report : mg "_law_draw_report" = some (.ref a__law_draw_report)
  a__law_wider : Addr
  d__law_wider : FuncData
  F__law_wider : Fun K "_law_wider" "_law_wider" s__law_wider a__law_wider d__law_wider
  g__law_wider : mg "_law_wider" = some (.ref a__law_wider)
  a__law_more_steps : Addr
  d__law_more_steps : FuncData
  F__law_more_steps : Fun K "_law_more_steps" "_law_more_steps" s__law_more_steps a__law_more_steps d__law_more_steps
  g__law_more_steps : mg "_law_more_steps" = some (.ref a__law_more_steps)
  a_is_column_set : Addr
  d_is_column_set : FuncData
  F_is_column_set : Fun K "is_column_set" "is_column_set" s_is_column_set a_is_column_set d_is_column_set
  g_is_column_set : mg "is_column_set" = some (.ref a_is_column_set)
  a_is_column : Addr
  d_is_column : FuncData
  F_is_column : Fun K "is_column" "is_column" s_is_column a_is_column d_is_column
  g_is_column : mg "is_column" = some (.ref a_is_column)
  a__is_rule : Addr
  d__is_rule : FuncData
  F__is_rule : Fun K "_is_rule" "_is_rule" s__is_rule a__is_rule d__is_rule
  g__is_rule : mg "_is_rule" = some (.ref a__is_rule)
  a__are_rules : Addr
  d__are_rules : FuncData
  F__are_rules : Fun K "_are_rules" "_are_rules" s__are_rules a__are_rules d__are_rules
  g__are_rules : mg "_are_rules" = some (.ref a__are_rules)
  a__are_keys : Addr
  d__are_keys : FuncData
  F__are_keys : Fun K "_are_keys" "_are_keys" s__are_keys a__are_keys d__are_keys
  g__are_keys : mg "_are_keys" = some (.ref a__are_keys)
  a_is_schema : Addr
  d_is_schema : FuncData
  F_is_schema : Fun K "is_schema" "is_schema" s_is_schema a_is_schema d_is_schema
  g_is_schema : mg "is_schema" = some (.ref a_is_schema)
  a_is_weaker : Addr
  d_is_weaker : FuncData
  F_is_weaker : Fun K "is_weaker" "is_weaker" s_is_weaker a_is_weaker d_is_weaker
  g_is_weaker : mg "is_weaker" = some (.ref a_is_weaker)
  a_is_plain_integer : Addr
  d_is_plain_integer : FuncData
  F_is_plain_integer : Fun K "is_plain_integer" "is_plain_integer" s_is_plain_integer a_is_plain_integer d_is_plain_integer
  g_is_plain_integer : mg "is_plain_integer" = some (.ref a_is_plain_integer)
  a__is_bound : Addr
  d__is_bound : FuncData
  F__is_bound : Fun K "_is_bound" "_is_bound" s__is_bound a__is_bound d__is_bound
  g__is_bound : mg "_is_bound" = some (.ref a__is_bound)
  a__is_constant : Addr
  d__is_constant : FuncData
  F__is_constant : Fun K "_is_constant" "_is_constant" s__is_constant a__is_constant d__is_constant
  g__is_constant : mg "_is_constant" = some (.ref a__is_constant)
  a__are_constants : Addr
  d__are_constants : FuncData
  F__are_constants : Fun K "_are_constants" "_are_constants" s__are_constants a__are_constants d__are_constants
  g__are_constants : mg "_are_constants" = some (.ref a__are_constants)
  a_is_order : Addr
  d_is_order : FuncData
  F_is_order : Fun K "is_order" "is_order" s_is_order a_is_order d_is_order
  g_is_order : mg "is_order" = some (.ref a_is_order)
  a_is_knowledge : Addr
  d_is_knowledge : FuncData
  F_is_knowledge : Fun K "is_knowledge" "is_knowledge" s_is_knowledge a_is_knowledge d_is_knowledge
  g_is_knowledge : mg "is_knowledge" = some (.ref a_is_knowledge)
  a_is_derivation : Addr
  d_is_derivation : FuncData
  F_is_derivation : Fun K "is_derivation" "is_derivation" s_is_derivation a_is_derivation d_is_derivation
  g_is_derivation : mg "is_derivation" = some (.ref a_is_derivation)
  a__is_filled_set : Addr
  d__is_filled_set : FuncData
  F__is_filled_set : Fun K "_is_filled_set" "_is_filled_set" s__is_filled_set a__is_filled_set d__is_filled_set
  g__is_filled_set : mg "_is_filled_set" = some (.ref a__is_filled_set)
  a__is_long_step : Addr
  d__is_long_step : FuncData
  F__is_long_step : Fun K "_is_long_step" "_is_long_step" s__is_long_step a__is_long_step d__is_long_step
  g__is_long_step : mg "_is_long_step" = some (.ref a__is_long_step)
  a__is_short_step : Addr
  d__is_short_step : FuncData
  F__is_short_step : Fun K "_is_short_step" "_is_short_step" s__is_short_step a__is_short_step d__is_short_step
  g__is_short_step : mg "_is_short_step" = some (.ref a__is_short_step)
  a__is_step : Addr
  d__is_step : FuncData
  F__is_step : Fun K "_is_step" "_is_step" s__is_step a__is_step d__is_step
  g__is_step : mg "_is_step" = some (.ref a__is_step)
  a_is_report : Addr
  d_is_report : FuncData
  F_is_report : Fun K "is_report" "is_report" s_is_report a_is_report d_is_report
  g_is_report : mg "is_report" = some (.ref a_is_report)
  a_find_derivation : Addr
  d_find_derivation : FuncData
  F_find_derivation : Fun K "find_derivation" "find_derivation" s_find_derivation a_find_derivation d_find_derivation
  g_find_derivation : mg "find_derivation" = some (.ref a_find_derivation)
  a__law_sure_right : Addr
  d__law_sure_right : FuncData
  F__law_sure_right : Fun K "_law_sure_right" "_law_sure_right" s__law_sure_right a__law_sure_right d__law_sure_right
  g__law_sure_right : mg "_law_sure_right" = some (.ref a__law_sure_right)
  a_law : Addr
  d_law : FuncData
  F_law : Fun K "law" "law" s_law a_law d_law
  g_law : mg "law" = some (.ref a_law)
  n_all : mg "all" = none
  n_any : mg "any" = none
  n_bool : mg "bool" = none
  n_dict : mg "dict" = none
  n_enumerate : mg "enumerate" = none
  n_int : mg "int" = none
  n_isinstance : mg "isinstance" = none
  n_len : mg "len" = none
  n_list : mg "list" = none
  n_range : mg "range" = none
  n_set : mg "set" = none
  n_sorted : mg "sorted" = none
  n_str : mg "str" = none
  n_tuple : mg "tuple" = none
  a_CUTTING : Addr
  k_CUTTING : Cst mg "CUTTING" (.ref a_CUTTING)
  r_CUTTING : ∀ F : Hp, RV K F (.ref a_CUTTING) d_CUTTING
  a_EMPTY : Addr
  k_EMPTY : Cst mg "EMPTY" (.ref a_EMPTY)
  r_EMPTY : ∀ F : Hp, RV K F (.ref a_EMPTY) d_EMPTY
  a_GROUPING : Addr
  k_GROUPING : Cst mg "GROUPING" (.ref a_GROUPING)
  r_GROUPING : ∀ F : Hp, RV K F (.ref a_GROUPING) d_GROUPING
  k_LETTERS : Cst mg "LETTERS" (.str "abcdefghijklmnopqrstuvwxyz")
  k_MOST_COLUMNS : Cst mg "MOST_COLUMNS" (.int 5)
  k_MOST_COUNT : Cst mg "MOST_COUNT" (.int 20)
  k_MOST_STEPS : Cst mg "MOST_STEPS" (.int 8)
  a_SORTING : Addr
  k_SORTING : Cst mg "SORTING" (.ref a_SORTING)
  r_SORTING : ∀ F : Hp, RV K F (.ref a_SORTING) d_SORTING
section
variable {P : Program} {w : World} {K : PySem.W.Frag} {mg : Str → Option Value} {base : Heap}
theorem rv_CUTTING (T : Txt P w base K mg) {F : Hp} : RV K F (.ref T.a_CUTTING) d_CUTTING := T.r_CUTTING F
theorem rv_EMPTY (T : Txt P w base K mg) {F : Hp} : RV K F (.ref T.a_EMPTY) d_EMPTY := T.r_EMPTY F
theorem rv_GROUPING (T : Txt P w base K mg) {F : Hp} : RV K F (.ref T.a_GROUPING) d_GROUPING := T.r_GROUPING F
theorem rv_LETTERS (T : Txt P w base K mg) {F : Hp} : RV K F (.str "abcdefghijklmnopqrstuvwxyz") d_LETTERS := .str _
theorem rv_MOST_COLUMNS (T : Txt P w base K mg) {F : Hp} : RV K F (.int 5) d_MOST_COLUMNS := .int _
theorem rv_MOST_COUNT (T : Txt P w base K mg) {F : Hp} : RV K F (.int 20) d_MOST_COUNT := .int _
theorem rv_MOST_STEPS (T : Txt P w base K mg) {F : Hp} : RV K F (.int 8) d_MOST_STEPS := .int _
theorem rv_SORTING (T : Txt P w base K mg) {F : Hp} : RV K F (.ref T.a_SORTING) d_SORTING := T.r_SORTING F
end
theorem sc__law_open : FnScope ["script", "cells", "k", "cell"] ["script"] (defScope s__law_open) := ⟨rfl, rfl, rfl, by decide +kernel, rfl, by decide +kernel, by decide +kernel⟩
section
variable {P : Program} {w : World} {K : PySem.W.Frag} {mg : Str → Option Value} {base : Heap}
theorem b__law_open (T : Txt P w base K mg) : Binds K T.d__law_open ["script"] [] := T.F__law_open.binds fun _ _ _ _ _ _ us hl => match us, hl with | [_], _ => rfl
theorem ok__law_open (T : Txt P w base K mg) : FnOk P w K mg base CX0 1 T.a__law_open T.d__law_open ["script"] (spOpen K) := by
  refine T.F__law_open.ok sc__law_open (fun vs H Q E h => ?_) (fun cdv A outer s H vs Q E hr h => ?_)
  · obtain ⟨a, ns, rfl, _⟩ := h
    rfl
  · obtain ⟨a, ns, rfl, hS, hlen, q⟩ := h
    refine ⟨_, pss_cons (ps_set (i := 1) sc__law_open.nd rfl (.inl rfl) (pe_callTy call_list_of (by rfl) T.n_list (by decide +kernel) (pa_cons (pe_slice sl_list (pv 0) po_none (po_some pe_int)) pa_nil)))
      (pss_cons (ps_for PassesOwn.never rfl (pi_enum (by rfl) T.n_enumerate (pa_cons (pe_slice sl_list (pv 0) (po_some pe_int) (po_some pe_int)) pa_nil)) (pg_tup rfl (pgs_cons (pg_name (i := 2) sc__law_open.nd rfl (.inl rfl)) (pgs_cons (pg_name (i := 3) sc__law_open.nd rfl (.inl rfl)) pgs_nil)))
        (pss_one (ps_asg (pe_op op_add (pe_ix ix_list (pv 1) (pe_op op_mod (pv 2) pe_int) (fun _ _ => rfl)) (pv 3)) (pg_sub (pv 1) (pe_op op_mod (pv 2) pe_int) set_list))))
      (pss_one (ps_ret (pe_lst (pa_cons (pv 1) (pa_cons pe_int (pa_cons pe_int pa_nil))))))), ?_⟩
    have cutI : ∀ lo hi, cutV (ns.map V.int) lo hi = ((ns.drop (HT.sIx ns.length 0 lo)).take (HT.sIx ns.length ns.length hi - HT.sIx ns.length 0 lo)).map V.int := fun lo hi => by
      unfold cutV
      rw [List.length_map, ← List.map_drop, ← List.map_take]
    -- cells = list(script[:12])
    refine ⟨.ref a, rfl, 12, rfl, a, _, rfl, hS, fun c1 n1 => ?_⟩
    refine ⟨c1, _, rfl, .inl (SqL.of upd_same), fun ca nca => ?_⟩
    have s1 : Same H (upd (upd H c1 (.lst (cutV (ns.map V.int) none (some 12)))) ca (.lst (cutV (ns.map V.int) none (some 12)))) := (same_new n1).trans (same_new nca)
    have hca : H ca = none := (same_new n1).free nca
    -- script[12:63]
    refine ⟨.ref a, rfl, 12, rfl, 63, rfl, a, _, rfl, s1.seq hS, fun c2 n2 => ?_⟩
    have n2' : H c2 = none := s1.free n2
    have s2 : Same H (upd (upd (upd H c1 (.lst (cutV (ns.map V.int) none (some 12)))) ca (.lst (cutV (ns.map V.int) none (some 12)))) c2 (.lst (cutV (ns.map V.int) (some 12) (some 63)))) := s1.trans (same_new n2)
    have ne2 : ca ≠ c2 := fun z => by rw [← z, upd_same] at n2; cases n2
    rw [cutI, cutI] at *
    generalize hA : (ns.drop (HT.sIx ns.length 0 none)).take (HT.sIx ns.length ns.length (some 12) - HT.sIx ns.length 0 none) = A at *
    generalize hB : (ns.drop (HT.sIx ns.length 0 (some 12))).take (HT.sIx ns.length ns.length (some 63) - HT.sIx ns.length 0 (some 12)) = B at *
    have lA : A.length = min 12 ns.length := by
      rw [← hA, HT.sIx_none, show HT.sIx ns.length ns.length (some 12) = min 12 ns.length from HT.sIx_nat _ _ 12, List.length_take, List.length_drop]
      omega
    have lB : B.length = ns.length - 12 := by
      rw [← hB, show HT.sIx ns.length 0 (some 12) = min 12 ns.length from HT.sIx_nat _ _ 12, show HT.sIx ns.length ns.length (some 63) = min 63 ns.length from HT.sIx_nat _ _ 63, List.length_take, List.length_drop]
      omega
    refine ⟨c2, B.map V.int, rfl, SqL.of upd_same, ?_⟩
    refine ⟨fun i m σ H3 => ∃ (y2 y3 : Option V) (cells : List Int), σ = [some (.ref a), some (.ref ca), y2, y3] ∧ i + m = B.length ∧ Same H H3 ∧ H3 c2 = some (.lst (B.map V.int)) ∧ H3 ca = some (.lst (cells.map V.int)) ∧ cells.length = A.length,
      ⟨B.length, none, none, A, rfl, by omega, s2, upd_same, by rw [upd_ne ne2, upd_same], rfl⟩, fun i m σ H3 hW => ?_⟩
    obtain ⟨y2, y3, cells, rfl, em, sm, ec2, eca, lc⟩ := hW
    by_cases hi : i < B.length
    · have g1 : (B.map V.int)[i]? = some (.int B[i]) := by rw [List.getElem?_map, List.getElem?_eq_getElem hi]; rfl
      refine .inr ⟨⟨_, _, SqL.of ec2, g1⟩, fun σ' H' => ∃ (y2 y3 : Option V) (cells : List Int), σ' = [some (.ref a), some (.ref ca), y2, y3] ∧ Same H H' ∧ H' c2 = some (.lst (B.map V.int)) ∧ H' ca = some (.lst (cells.map V.int)) ∧ cells.length = A.length, fun σ' H' hN => ?_, fun x H' hy => ?_⟩
      · obtain ⟨z2, z3, cs, e, h1, h2, h3, h4⟩ := hN
        exact ⟨m - 1, by omega, z2, z3, cs, e, by omega, h1, h2, h3, h4⟩
      · obtain ⟨Tp, x1, rfl, nT, rfl, f1⟩ := hy
        have ex1 : x1 = .int B[i] := Option.some.inj ((f1 _ (SqL.of ec2)).symm.trans g1)
        subst ex1
        have nTc : c2 ≠ Tp := ne_of_none ec2 nT
        have nTa : ca ≠ Tp := ne_of_none eca nT
        have l12 : cells.length = 12 := by rw [lc, lA]; omega
        have k0 : (0 : Int) ≤ (i : Nat) % 12 := Int.emod_nonneg _ (by decide)
        have k1 := Int.emod_lt_of_pos ((i : Nat) : Int) (show (0 : Int) < 12 by decide)
        generalize hk : ((i : Nat) : Int) % 12 = k at k0 k1
        have hl : k.toNat < cells.length := by omega
        have hat : atI (cells.map V.int) k = some (.int cells[k.toNat]) := by
          have := atI_nat (j := k.toNat) (xs := cells.map V.int) (v := .int cells[k.toNat]) (by rw [List.getElem?_map, List.getElem?_eq_getElem hl]; rfl)
          rw [Int.toNat_of_nonneg k0] at this
          exact this
        have hix : ixN (cells.map V.int).length k = some k.toNat := by
          unfold ixN
          rw [if_pos k0, if_pos (by rw [List.length_map]; omega)]
        have ecaT : (upd H3 Tp (.tup [.int (i : Nat), .int B[i]])) ca = some (.lst (cells.map V.int)) := by rw [upd_ne nTa]; exact eca
        refine ⟨Tp, _, rfl, SqT.of upd_same, rfl, _, _, rfl, _, _, rfl, rfl, ?_⟩
        refine ⟨_, rfl, _, rfl, _, 12, rfl, rfl, (show (0 : Int) < 12 by decide), ca, _, k, _, rfl, congrArg V.int hk, SqL.of ecaT, hat, _, rfl, _, _, rfl, rfl, ?_⟩
        refine ⟨_, rfl, _, rfl, _, 12, rfl, rfl, (show (0 : Int) < 12 by decide), ca, _, k, k.toNat, rfl, congrArg V.int hk, ecaT, hix, ?_⟩
        refine ⟨_, _, cells.set k.toNat (cells[k.toNat] + B[i]), rfl, fun b z e => ?_, ?_, ?_, by rw [List.length_set]; exact lc⟩
        · have nb : b ≠ ca := fun zz => by rw [zz, hca] at e; cases e
          have nb2 : b ≠ Tp := ne_of_none (sm _ _ e) nT
          rw [upd_ne nb, upd_ne nb2]; exact sm _ _ e
        · rw [upd_ne (Ne.symm ne2), upd_ne nTc]; exact ec2
        · rw [upd_same, List.map_set]
    · refine .inl ⟨⟨_, SqL.of ec2, by rw [List.length_map]; omega⟩, ?_⟩
      refine ⟨.ref ca, rfl, (by show 3 ≤ sizeLine; decide), fun pa np => ?_⟩
      have npa : ca ≠ pa := ne_of_none eca np
      exact q _ pa ca cells (sm.trans (same_new np)) (Ne.symm npa) (sm.free np) hca upd_same (by rw [upd_ne npa]; exact eca) (by rw [lc, lA]; omega)
end
section
variable {P : Program} {w : World} {K : PySem.W.Frag} {mg : Str → Option Value} {base : Heap}
theorem b__law_spread (T : Txt P w base K mg) : Binds K T.d__law_spread ["cell", "at"] [] := T.F__law_spread.binds fun _ _ _ _ _ _ us hl => match us, hl with | [_, _], _ => rfl
theorem ok__law_spread (T : Txt P w base K mg) : FnOk P w K mg base CX0 1 T.a__law_spread T.d__law_spread ["cell", "at"] (spW K w__law_spread) := ok_fn (N := N__law_spread) (k := 0) T.F__law_spread sc__law_spread fun cdv A outer s H E hr => 
  (sb_cons (s_if (t_cmp op_ge o_intB (b_var (pv 0)) (EE.eb (e_op op_pow o_int (EE.eb e_int) (EE.eb e_int))) (nomark _))
  (sb_one (s_ret (e_var (pv 0))))
  sb_nil)
  (sb_cons (s_set (i := 2) sc__law_spread.nd rfl (by first | exact Or.inl rfl | exact Or.inr rfl) (EF.ee (f_lst (d_cons e_int (d_cons e_int (d_cons e_int (d_cons e_int (d_cons e_int (d_cons e_int (d_cons e_int (d_cons e_int d_nil)))))))))))
  (sb_cons (s_set (i := 2) sc__law_spread.nd rfl (by first | exact Or.inl rfl | exact Or.inr rfl) (e_op opr_add o_add (b_var (pv 2)) (EE.eb (EF.ee (f_lst (d_cons e_int (d_cons e_int (d_cons e_int (d_cons e_int (d_cons e_int d_nil))))))))))
  (sb_cons (s_set (i := 3) sc__law_spread.nd rfl (by first | exact Or.inl rfl | exact Or.inr rfl) (e_op op_mod o_int (EE.eb (e_op op_pow o_int (EE.eb (e_op opr_add o_add (EE.eb (e_op opr_add o_add (EE.eb (e_op opr_mulT o_mulT (EE.eb (e_op op_mod o_int (b_var (pv 0)) (EE.eb e_int))) (EE.eb (e_op opr_add o_add (EE.eb (e_op opr_mulT o_mulT (EE.eb e_int) (b_var (pv 1)))) (EE.eb e_int))))) (EE.eb (e_op opr_mulT o_mulT (b_var (pv 1)) (EE.eb e_int))))) (EE.eb e_int))) (EE.eb e_int))) (EE.eb (e_ix (b_var (pv 2)) (EE.eb (e_op op_mod o_int (b_var (pv 1)) (EE.eb e_int))) (fun _ _ => rfl)))))
  (sb_cons (s_set (i := 4) sc__law_spread.nd rfl (by first | exact Or.inl rfl | exact Or.inr rfl) (e_op op_mod o_int (EE.eb (e_op op_pow o_int (EE.eb (e_op opr_add o_add (EE.eb (e_op opr_add o_add (EE.eb (e_op opr_mulT o_mulT (b_var (pv 3)) (EE.eb (e_op opr_add o_add (b_var (pv 1)) (EE.eb e_int))))) (EE.eb (e_op op_mod o_int (b_var (pv 0)) (EE.eb e_int))))) (EE.eb e_int))) (EE.eb e_int))) (EE.eb (e_ix (b_var (pv 2)) (EE.eb (e_op op_mod o_int (EE.eb (e_op opr_add o_add (b_var (pv 1)) (EE.eb e_int))) (EE.eb e_int))) (fun _ _ => rfl)))))
  (sb_cons (s_set (i := 5) sc__law_spread.nd rfl (by first | exact Or.inl rfl | exact Or.inr rfl) (e_op op_mod o_int (EE.eb (e_op op_pow o_int (EE.eb (e_op opr_add o_add (EE.eb (e_op opr_add o_add (b_var (pv 4)) (EE.eb (e_op op_mod o_int (b_var (pv 3)) (EE.eb e_int))))) (b_var (pv 1)))) (EE.eb e_int))) (EE.eb (e_ix (b_var (pv 2)) (EE.eb (e_op op_mod o_int (EE.eb (e_op opr_add o_add (b_var (pv 1)) (EE.eb e_int))) (EE.eb e_int))) (fun _ _ => rfl)))))
  (sb_one (s_ret (e_op opr_add o_add (EE.eb (e_op opr_mulT o_mulT (EE.eb (e_op opr_add o_add (EE.eb (e_op opr_mulT o_mulT (b_var (pv 3)) (EE.eb e_int))) (b_var (pv 4)))) (EE.eb e_int))) (b_var (pv 5)))))))))))
end
theorem ix_run {xs : List PyData} {i : Int} {v : PyData} {P : PyData → Prop} (h : atI xs i = some v) (p : P v) : pIx (.list xs) (.int i) P := by
  unfold pIx; simp only [h]; exact p
abbrev primesL : List PyData := [.int 2147483629, .int 2147483587, .int 2147483579, .int 2147483563, .int 2147483549, .int 2147483543, .int 2147483497, .int 2147483489] ++ [.int 2147483477, .int 2147483423, .int 2147483399, .int 2147483353, .int 2147483323]
theorem primes_at (i : Int) (h0 : 0 ≤ i) (h1 : i < 13) : ∃ p : Int, atI primesL i = some (.int p) ∧ 0 < p ∧ p < 2147483648 := by
  obtain ⟨n, rfl⟩ := Int.eq_ofNat_of_zero_le h0
  have hn : n = 0 ∨ n = 1 ∨ n = 2 ∨ n = 3 ∨ n = 4 ∨ n = 5 ∨ n = 6 ∨ n = 7 ∨ n = 8 ∨ n = 9 ∨ n = 10 ∨ n = 11 ∨ n = 12 := by omega
  rcases hn with rfl | rfl | rfl | rfl | rfl | rfl | rfl | rfl | rfl | rfl | rfl | rfl | rfl <;> exact ⟨_, rfl, by decide, by decide⟩
theorem mulb {a b c d : Int} (h0 : 0 ≤ a) (h1 : a ≤ c) (h2 : 0 ≤ b) (h3 : b ≤ d) : 0 ≤ a * b ∧ a * b ≤ c * d :=
  ⟨Int.mul_nonneg h0 h2, Int.mul_le_mul h1 h3 h2 (Int.le_trans h0 h1)⟩
theorem spread_run (cell at_ : Int) (b : Nat) (P : PyData → Nat → Prop) (h0 : 0 ≤ at_) (h1 : at_ ≤ 4294967296) (h : ∀ r : Int, 0 ≤ r → P (.int r) b) : w__law_spread [.d (.int cell), .d (.int at_)] b P := by
  refine ⟨rfl, ⟨by decide, by decide, by decide⟩, trivial, ite2 (fun e => ?_) (fun e => ?_)⟩
  · have e2 := of_decide_eq_true e
    have e3 : (10 : Int) ^ Int.toNat 18 = 1000000000000000000 := by decide
    rw [e3] at e2
    exact h cell (by omega)
  · have m0 : 0 ≤ cell % 1000000007 := Int.emod_nonneg _ (by decide)
    have m1 : cell % 1000000007 ≤ 1000000006 := by have := Int.emod_lt_of_pos cell (show (0 : Int) < 1000000007 by decide); omega
    have q1 := mulb m0 m1 (show 0 ≤ 2 * at_ + 69069 by omega) (show 2 * at_ + 69069 ≤ 8590003661 by omega)
    obtain ⟨p1, e1, g1, l1⟩ := primes_at (at_ % 13) (Int.emod_nonneg _ (by decide)) (Int.emod_lt_of_pos _ (by decide))
    refine ⟨by decide, by decide, by decide, show (0 : Int) < 1000000007 by decide, .inl (by decide), .inl ⟨by omega, by omega⟩, .inl ⟨by omega, by omega⟩, ⟨by decide, by decide, by omega⟩, show (0 : Int) < 13 by decide, ?_⟩
    refine ix_run e1 ⟨g1, ?_⟩
    generalize hone : ((cell % 1000000007 * (2 * at_ + 69069) + at_ * 40503 + 977) ^ Int.toNat 3) % p1 = one
    have o0 : 0 ≤ one := by rw [← hone]; exact Int.emod_nonneg _ (by omega)
    have o1 : one ≤ 2147483647 := by have := Int.emod_lt_of_pos ((cell % 1000000007 * (2 * at_ + 69069) + at_ * 40503 + 977) ^ Int.toNat 3) g1; omega
    have c0 : 0 ≤ cell % 65537 := Int.emod_nonneg _ (by decide)
    have c1 : cell % 65537 ≤ 65536 := by have := Int.emod_lt_of_pos cell (show (0 : Int) < 65537 by decide); omega
    have q2 := mulb o0 o1 (show 0 ≤ at_ + 3 by omega) (show at_ + 3 ≤ 4294967299 by omega)
    obtain ⟨p2, e2, g2, l2⟩ := primes_at ((at_ + 5) % 13) (Int.emod_nonneg _ (by decide)) (Int.emod_lt_of_pos _ (by decide))
    refine ⟨.inl ⟨by omega, by omega⟩, show (0 : Int) < 65537 by decide, ⟨by decide, by decide, by rw [hone]; omega⟩, show (0 : Int) < 13 by decide, ?_⟩
    refine ix_run e2 ⟨g2, ?_⟩
    generalize htwo : ((one * (at_ + 3) + cell % 65537 + 5) ^ Int.toNat 5) % p2 = two
    have t0 : 0 ≤ two := by rw [← htwo]; exact Int.emod_nonneg _ (by omega)
    have t1 : two ≤ 2147483647 := by have := Int.emod_lt_of_pos ((one * (at_ + 3) + cell % 65537 + 5) ^ Int.toNat 5) g2; omega
    have n0 : 0 ≤ one % 1009 := Int.emod_nonneg _ (by decide)
    have n1 : one % 1009 ≤ 1008 := by have := Int.emod_lt_of_pos one (show (0 : Int) < 1009 by decide); omega
    obtain ⟨p3, e3, g3, l3⟩ := primes_at ((at_ + 7) % 13) (Int.emod_nonneg _ (by decide)) (Int.emod_lt_of_pos _ (by decide))
    refine ⟨show (0 : Int) < 1009 by decide, ⟨by decide, by decide, by rw [hone, htwo]; omega⟩, show (0 : Int) < 13 by decide, ?_⟩
    refine ix_run e3 ⟨g3, .inl ?_, .inl ?_, ?_⟩
    · simp only [hone, htwo]; constructor <;> omega
    · simp only [hone, htwo]; constructor <;> omega
    refine h _ ?_
    simp only [hone, htwo]
    have s0 : 0 ≤ ((two + one % 1009 + at_) ^ Int.toNat 3) % p3 := Int.emod_nonneg _ (by omega)
    omega
theorem sc__law_take : FnScope ["pen", "amount", "at", "cell", "found"] ["pen", "amount"] (defScope s__law_take) := ⟨rfl, rfl, rfl, by decide +kernel, rfl, by decide +kernel, by decide +kernel⟩
section
variable {P : Program} {w : World} {K : PySem.W.Frag} {mg : Str → Option Value} {base : Heap}
theorem b__law_take (T : Txt P w base K mg) : Binds K T.d__law_take ["pen", "amount"] [] := T.F__law_take.binds fun _ _ _ _ _ _ us hl => match us, hl with | [_, _], _ => rfl
theorem ok__law_take (T : Txt P w base K mg) : FnOk P w K mg base CX0 2 T.a__law_take T.d__law_take ["pen", "amount"] (spW K w__law_take) := by
  refine T.F__law_take.ok sc__law_take (fun vs H Q E h => ?_) (fun cdv A outer s H vs Q E hr h => ?_)
  · obtain ⟨pn, F, ss, b, P, o, ar, ⟨n, e, _⟩, _⟩ := h
    rw [ar.len, e]; rfl
  · obtain ⟨pn, F, ss, b, PP, o, ar, ⟨n, rfl, n0, n1, b0, q⟩, k⟩ := h
    match vs, ar with
    | [v1, v2], ⟨⟨_, pq, epn, ev⟩, _, rv2, _, tk⟩ =>
    cases rv2
    subst epn
    subst ev
    obtain ⟨cells, at_, cur, p0⟩ := PenAt.of o (Ext.refl (F := F) (H := H))
    obtain ⟨pa, ca, tb⟩ := pq
    have iv := p0.inv
    have GS := ok__law_spread T
    refine ⟨_, pss_cons (ps_if (pt_cmpR op_lt (pe_ix ix_list (pv 0) pe_int (fun _ _ => rfl)) (pv 1) (nomark _))
        (pss_cons (ps_set (i := 2) sc__law_take.nd rfl (.inl rfl) (pe_ix ix_list (pv 0) pe_int (fun _ _ => rfl)))
        (pss_cons (ps_set (i := 3) sc__law_take.nd rfl (.inl rfl) pe_int)
        (pss_cons (ps_if (pt_cmpR op_lt (pv 2) (pe_callB call_len_seq (by rfl) T.n_len PySem.boot_len (pa_cons (pe_ix ix_list (pv 0) pe_int (fun _ _ => rfl)) pa_nil)) (nomark _))
            (pss_one (ps_set (i := 3) sc__law_take.nd rfl (.inl rfl) (pe_ix ix_list (pe_ix ix_list (pv 0) pe_int (fun _ _ => rfl)) (pv 2) (fun _ _ => rfl))))
            (pss_one (ps_if (pt_cmpR op_gt (pe_callB call_len_seq (by rfl) T.n_len PySem.boot_len (pa_cons (pe_ix ix_list (pv 0) pe_int (fun _ _ => rfl)) pa_nil)) pe_int (nomark _))
              (pss_one (ps_set (i := 3) sc__law_take.nd rfl (.inl rfl) (pe_op op_mod (pe_ix ix_list (pe_ix ix_list (pv 0) pe_int (fun _ _ => rfl)) (pe_op op_mod (pe_op op_add (pe_op op_mul (pv 2) pe_int) pe_int) (pe_callB call_len_seq (by rfl) T.n_len PySem.boot_len (pa_cons (pe_ix ix_list (pv 0) pe_int (fun _ _ => rfl)) pa_nil))) (fun _ _ => rfl)) (pe_op op_add (pe_op op_pow pe_int pe_int) (pv 2)))))
              pss_nil)))
        (pss_cons (ps_asg (pe_op op_add (pv 2) pe_int) (pg_sub (pv 0) pe_int set_list))
        (pss_one (ps_asg (pe_call GS (hr.mono (by decide)) (by rfl) T.g__law_spread T.F__law_spread.kp (b__law_spread T) .nil pass0 (pa_cons (pv 3) (pa_cons (pv 2) pa_nil))) (pg_sub (pv 0) pe_int set_list)))))))
        pss_nil)
      (pss_cons (ps_set (i := 4) sc__law_take.nd rfl (.inl rfl) (pe_op op_mod (pe_ix ix_list (pv 0) pe_int (fun _ _ => rfl)) (pv 1)))
      (pss_cons (ps_asg (pe_op op_fdiv (pe_ix ix_list (pv 0) pe_int (fun _ _ => rfl)) (pv 1)) (pg_sub (pv 0) pe_int set_list))
      (pss_one (ps_ret (pv 4))))), ?_⟩
    -- the end, from any moment at which the pen has turned
    have fin : ∀ (y2 y3 y4 : Option V) (F1 H1 : Hp) (cells1 : List Int) (at1 cur1 : Int), PenAt ⟨pa, ca, tb⟩ (b - 1) F H F1 H1 cells1 at1 cur1 →
        tSeq (tAsg (tOp (rI (fun _ j => 0 < j) fun i j => .int (i % j)) (tOp (rIxL K) (tVar 0) (tC (.int 2))) (tVar 1)) (gName 4))
          (tSeq (tAsg (tOp (rI CDiv fun i j => .int (i / j)) (tOp (rIxL K) (tVar 0) (tC (.int 2))) (tVar 1)) (gSub (tVar 0) (tC (.int 2)) rSetL)) (tRet (tVar 4)))
          { nx := fun _ H' => Q .non H', rt := Q } [some (.ref pa), some (.int n), y2, y3, y4] H1 := fun y2 y3 y4 F1 H1 cells1 at1 cur1 p => by
      refine ⟨_, rfl, pa, _, _, _, rfl, rfl, SqL.of p.pen, rfl, _, rfl, cur1, n, rfl, rfl, n0, ?_⟩
      refine ⟨_, rfl, pa, _, _, _, rfl, rfl, SqL.of p.pen, rfl, _, rfl, cur1, n, rfl, rfl, ⟨n0, n1⟩, ?_⟩
      refine ⟨_, rfl, pa, _, 2, 2, rfl, rfl, p.pen, rfl, ?_⟩
      refine ⟨_, rfl, ?_⟩
      have pt := p.turn (at' := at1) (cur' := cur1 / n) (b' := b - 1) ⟨p.inv.at0, p.inv.most, Int.ediv_nonneg p.inv.cur0 (by omega), p.inv.few⟩
      exact k _ _ F1 _ (b - 1) pt.ok pt.ext (.int _) (q _ (Int.emod_nonneg _ (by omega)) (Int.emod_lt_of_pos _ n0))
    refine ⟨_, rfl, pa, _, _, _, rfl, rfl, SqL.of p0.pen, rfl, _, rfl, cur, n, rfl, rfl, _, rfl, ite2 (fun _ => ?_) (fun _ => ?_)⟩
    · -- a new cell
      refine ⟨_, rfl, pa, _, _, _, rfl, rfl, SqL.of p0.pen, rfl, ?_⟩
      have cont : ∀ (c : Int), tSeq (tAsg (tOp (rI0 fun i j => .int (i + j)) (tVar 2) (tC (.int 1))) (gSub (tVar 0) (tC (.int 1)) rSetL))
          (tAsg (tCall (spW K w__law_spread) [] E0 (tCons (tVar 3) (tCons (tVar 2) tNil))) (gSub (tVar 0) (tC (.int 2)) rSetL))
          { nx := fun σ' H' => (tSeq (tAsg (tOp (rI (fun _ j => 0 < j) fun i j => .int (i % j)) (tOp (rIxL K) (tVar 0) (tC (.int 2))) (tVar 1)) (gName 4))
          (tSeq (tAsg (tOp (rI CDiv fun i j => .int (i / j)) (tOp (rIxL K) (tVar 0) (tC (.int 2))) (tVar 1)) (gSub (tVar 0) (tC (.int 2)) rSetL)) (tRet (tVar 4)))
          { nx := fun _ H' => Q .non H', rt := Q } σ' H'), rt := Q } [some (.ref pa), some (.int n), some (.int at_), some (.int c), none] H := fun c => by
        refine ⟨_, rfl, at_, 1, rfl, rfl, _, rfl, pa, _, 1, 1, rfl, rfl, p0.pen, rfl, ?_⟩
        have p1 := p0.turn (at' := at_ + 1) (cur' := cur) (b' := b - 1) ⟨by have := iv.at0; omega, by have := iv.most; omega, iv.cur0, iv.few⟩
        refine ⟨_, rfl, _, rfl, some ⟨pa, ca, tb⟩, F, [.d (.int c), .d (.int at_)], b - 1, _, p1.ok, ⟨.int c, rfl, .int at_, rfl, tk⟩, spread_run c at_ (b - 1) (fun d b2 => ∃ r : Int, d = .int r ∧ 0 ≤ r ∧ b2 = b - 1) iv.at0 (by have := iv.most; omega) (fun r r0 => ⟨r, rfl, r0, rfl⟩), fun v d F2 H2 b2 o2 x2 rv ⟨r, er, r0, eb⟩ => ?_⟩
        subst er
        subst eb
        cases rv
        obtain ⟨cells2, at2, cur2, p2⟩ := p1.trans o2 x2
        refine ⟨_, rfl, pa, _, 2, 2, rfl, rfl, p2.pen, rfl, ?_⟩
        exact fin _ _ _ F2 _ cells2 at2 r (p2.turn ⟨p2.inv.at0, p2.inv.most, r0, p2.inv.few⟩)
      refine ⟨_, rfl, _, rfl, pa, _, _, _, rfl, rfl, SqL.of p0.pen, rfl, ca, _, rfl, .inl (SqL.of p0.cellsAt), ?_⟩
      refine ⟨_, _, rfl, rfl, _, rfl, ite2 (fun e => ?_) (fun e => ?_)⟩
      · have e1 := of_decide_eq_true e
        rw [List.length_map] at e1
        have a0 := iv.at0
        have hl : at_.toNat < cells.length := by omega
        have hat : atI (cells.map V.int) at_ = some (.int cells[at_.toNat]) := by
          have := atI_nat (j := at_.toNat) (xs := cells.map V.int) (v := .int cells[at_.toNat]) (by rw [List.getElem?_map, List.getElem?_eq_getElem hl]; rfl)
          rw [Int.toNat_of_nonneg a0] at this
          exact this
        refine ⟨_, rfl, pa, _, _, _, rfl, rfl, SqL.of p0.pen, rfl, _, rfl, ca, _, at_, _, rfl, rfl, SqL.of p0.cellsAt, hat, ?_⟩
        exact cont _
      · refine ⟨_, rfl, pa, _, _, _, rfl, rfl, SqL.of p0.pen, rfl, ca, _, rfl, .inl (SqL.of p0.cellsAt), ?_⟩
        refine ⟨_, 0, rfl, rfl, _, rfl, ite2 (fun e => ?_) (fun e => ?_)⟩
        · have e1 := of_decide_eq_true e
          rw [List.length_map] at e1
          have a0 := iv.at0
          have am := iv.most
          refine ⟨_, rfl, pa, _, _, _, rfl, rfl, SqL.of p0.pen, rfl, _, rfl, at_, 5, rfl, rfl, .inl ⟨by omega, by omega⟩, _, 3, rfl, rfl, _, rfl, pa, _, _, _, rfl, rfl, SqL.of p0.pen, rfl, ca, _, rfl, .inl (SqL.of p0.cellsAt), ?_⟩
          have len0 : (0 : Int) < ((cells.map V.int).length : Nat) := by rw [List.length_map]; omega
          have m0 : 0 ≤ (at_ * 5 + 3) % ((cells.map V.int).length : Nat) := Int.emod_nonneg _ (by omega)
          have m1 := Int.emod_lt_of_pos (at_ * 5 + 3) len0
          have lenE : (((cells.map V.int).length : Nat) : Int) = (cells.length : Nat) := by rw [List.length_map]
          generalize hm : (at_ * 5 + 3) % ((cells.map V.int).length : Nat) = m at m0 m1
          have hl : m.toNat < cells.length := by omega
          have hat : atI (cells.map V.int) m = some (.int cells[m.toNat]) := by
            have := atI_nat (j := m.toNat) (xs := cells.map V.int) (v := .int cells[m.toNat]) (by rw [List.getElem?_map, List.getElem?_eq_getElem hl]; rfl)
            rw [Int.toNat_of_nonneg m0] at this
            exact this
          refine ⟨_, _, rfl, rfl, len0, ca, _, _, _, rfl, rfl, SqL.of p0.cellsAt, by rw [hm]; exact hat, 10, 17, rfl, rfl, ⟨by decide, by decide, by decide⟩, _, rfl, _, at_, rfl, rfl, _, _, rfl, rfl, ?_, ?_⟩
          · show (0 : Int) < 10 ^ Int.toNat 17 + at_
            have : (10 : Int) ^ Int.toNat 17 = 100000000000000000 := by decide
            omega
          · exact cont _
        · exact cont 0
    · exact fin _ _ _ F H cells at_ cur (p0.le (by omega))
end
section
variable {P : Program} {w : World} {K : PySem.W.Frag} {mg : Str → Option Value} {base : Heap}
theorem b__law_one_of (T : Txt P w base K mg) : Binds K T.d__law_one_of ["pen", "some"] [] := T.F__law_one_of.binds fun _ _ _ _ _ _ us hl => match us, hl with | [_, _], _ => rfl
theorem ok__law_one_of (T : Txt P w base K mg) : FnOk P w K mg base CX0 3 T.a__law_one_of T.d__law_one_of ["pen", "some"] (spW K w__law_one_of) := ok_fn (N := N__law_one_of) (k := 2) T.F__law_one_of sc__law_one_of fun cdv A outer s H E hr => 
  (sb_one (s_ret (e_ix (b_var (pv 1)) (EE.eb (e_call (ok__law_take T) (hr.mono (by decide)) (by rfl) T.g__law_take T.F__law_take.kp (b__law_take T) (a_name (pv 0) (a_cons (e_call1 call_len c_len (by rfl) T.n_len (by decide +kernel) (b_var (pv 1))) a_nil)))) (fun _ _ => rfl))))
theorem one__law_one_of (T : Txt P w base K mg) : OneRun P w K mg base 3 T.a__law_one_of T.d__law_one_of ["pen", "some"] w__law_take := one_run T.F__law_one_of sc__law_one_of rfl (ok__law_take T) T.g__law_take T.F__law_take.kp (b__law_take T) T.n_len (.inl rfl) (.inl rfl) rfl rfl
end
section
variable {P : Program} {w : World} {K : PySem.W.Frag} {mg : Str → Option Value} {base : Heap}
theorem b__law_some (T : Txt P w base K mg) : Binds K T.d__law_some ["pen", "columns"] [] := T.F__law_some.binds fun _ _ _ _ _ _ us hl => match us, hl with | [_, _], _ => rfl
theorem ok__law_some (T : Txt P w base K mg) : FnOk P w K mg base CX0 3 T.a__law_some T.d__law_some ["pen", "columns"] (spW K w__law_some) := ok_fn (N := N__law_some) (k := 2) T.F__law_some sc__law_some fun cdv A outer s H E hr => 
  (sb_one (s_ret (e_join (EE.eb e_str) (EE.eb (EF.ee (f_lc (own := [("column", 2)]) (g := (.nm 2)) rfl sc__law_some.nd (i_seqB (b_var (pv 1))) (blkOk_by (N := N__law_some) (sc := defScope s__law_some) (by decide +kernel)) (by simp [Tg.slots]) (fun _ _ _ _ _ => (g_nm sc__law_some.nd rfl (by first | exact Or.inl rfl | exact Or.inr rfl))) (fun _ _ _ _ _ => (ts_one (t_cmp (op_eq2 (hu64 hr)) o_eq2 (EE.eb (e_call (ok__law_take T) (hr.mono (by decide)) (by rfl) T.g__law_take T.F__law_take.kp (b__law_take T) (a_name (pv 0) (a_cons e_int a_nil)))) (EE.eb e_int) (nomark _)))) (fun _ _ _ _ _ => (e_var (pv 2)))))))))
end
section
variable {P : Program} {w : World} {K : PySem.W.Frag} {mg : Str → Option Value} {base : Heap}
theorem b__law_draw_schema (T : Txt P w base K mg) : Binds K T.d__law_draw_schema ["pen", "size"] [] := T.F__law_draw_schema.binds fun _ _ _ _ _ _ us hl => match us, hl with | [_, _], _ => rfl
theorem ok__law_draw_schema (T : Txt P w base K mg) : FnOk P w K mg base CX0 4 T.a__law_draw_schema T.d__law_draw_schema ["pen", "size"] (spW K w__law_draw_schema_v1) := ok_fn (N := N__law_draw_schema) (k := 3) T.F__law_draw_schema sc__law_draw_schema fun cdv A outer s H E hr => 
  (sb_cons (s_set (i := 2) sc__law_draw_schema.nd rfl (by first | exact Or.inl rfl | exact Or.inr rfl) (EF.ee (f_lst (d_cons e_str (d_cons e_str (d_cons e_str (d_cons e_str (d_cons e_str (d_cons e_str (d_cons e_str (d_cons e_str (d_cons e_str d_nil))))))))))))
  (sb_cons (s_set (i := 3) sc__law_draw_schema.nd rfl (by first | exact Or.inl rfl | exact Or.inr rfl) (e_call (ok__law_one_of T) (hr.mono (by decide)) (by rfl) T.g__law_one_of T.F__law_one_of.kp (b__law_one_of T) (a_name (pv 0) (a_cons (e_sl (b_var (pv 2)) o_none (o_some (EE.eb (e_ix (EE.eb (EF.ee (f_lst (d_cons e_int (d_cons e_int (d_cons e_int (d_cons e_int (d_cons e_int d_nil)))))))) (EE.eb (e_op op_sub o_int0 (b_var (pv 1)) (EE.eb e_int))) (fun _ _ => rfl))))) a_nil))))
  (sb_cons (s_par rfl sc__law_draw_schema.nd (i := 4) (j := 5) rfl rfl (by decide) rfl rfl (EF.ee (f_lst d_nil)) (EF.ee (f_lst d_nil)) (by rfl))
  (sb_cons (s_if (PW.pt (tw_and (t_cmp (op_eq2 (hu64 hr)) o_eq2 (b_var (pv 3)) (EE.eb e_str) (nomark _)) (pw_and1 (t_cmp (op_eq2 (hu64 hr)) o_eq2 (EE.eb (e_call (ok__law_take T) (hr.mono (by decide)) (by rfl) T.g__law_take T.F__law_take.kp (b__law_take T) (a_name (pv 0) (a_cons e_int a_nil)))) (EE.eb e_int) (nomark _)))))
  (sb_one (s_ret (e_tup (d_cons (e_var (pv 3)) (d_cons (e_tup (d_cons (e_tup (d_cons e_str (d_cons e_str d_nil))) (d_cons (e_tup (d_cons e_str (d_cons e_str d_nil))) (d_cons (e_tup (d_cons e_str (d_cons e_str d_nil))) (d_cons (e_tup (d_cons e_str (d_cons e_str d_nil))) d_nil))))) (d_cons (e_tup (d_cons e_str d_nil)) d_nil))))))
  sb_nil)
  (sb_cons (s_for PassesOwn.never rfl (i_rng1 false (by rfl) T.n_range (EE.eb (e_call (ok__law_take T) (hr.mono (by decide)) (by rfl) T.g__law_take T.F__law_take.kp (b__law_take T) (a_name (pv 0) (a_cons e_int a_nil))))) (g_nm sc__law_draw_schema.nd rfl (by first | exact Or.inl rfl | exact Or.inr rfl))
  (sb_pickOne (ip := 0) (ic := 3) (ir := 7) sc__law_draw_schema.nd rfl (by first | exact Or.inl rfl | exact Or.inr (Or.inl rfl)) rfl (by first | exact Or.inl rfl | exact Or.inr (Or.inl rfl)) rfl rfl (one__law_one_of T) (hr.mono (by decide)) (by rfl) T.g__law_one_of T.F__law_one_of.kp (b__law_one_of T) rfl
  (psr_set (i := 8) sc__law_draw_schema.nd rfl (by first | exact Or.inl rfl | exact Or.inr rfl) (per_tup (dar_cons (per_call (ip := 0) (per_repl (ic := 3) rfl (by first | exact Or.inl rfl | exact Or.inr (Or.inl rfl))) rfl (by first | exact Or.inl rfl | exact Or.inr (Or.inl rfl)) (ok__law_some T) (hr.mono (by decide)) (by rfl) T.g__law_some T.F__law_some.kp (b__law_some T)) (d_cons (e_var (pv 7)) d_nil))))
  (sb_one (s_set (i := 4) sc__law_draw_schema.nd rfl (by first | exact Or.inl rfl | exact Or.inr rfl) (e_op opr_add o_add (b_var (pv 4)) (EE.eb (e_op opr_mulT o_mulT (EE.eb (EF.ee (f_lst (d_cons (e_var (pv 8)) d_nil)))) (EE.eb (e_ty1 call_int1 c_int (by rfl) T.n_int (by decide +kernel) (EE.eb (e_cmp (opr_ni2 (hu64 hr)) o_ni2 (b_var (pv 8)) (b_var (pv 4)) (by rfl))))))))))))
  (sb_cons (s_for PassesOwn.never rfl (i_rng1 false (by rfl) T.n_range (EE.eb (e_call (ok__law_one_of T) (hr.mono (by decide)) (by rfl) T.g__law_one_of T.F__law_one_of.kp (b__law_one_of T) (a_name (pv 0) (a_cons (EF.ee (f_lst (d_cons e_int (d_cons e_int (d_cons e_int (d_cons e_int (d_cons e_int d_nil))))))) a_nil))))) (g_nm sc__law_draw_schema.nd rfl (by first | exact Or.inl rfl | exact Or.inr rfl))
  (sb_cons (s_set (i := 9) sc__law_draw_schema.nd rfl (by first | exact Or.inl rfl | exact Or.inr rfl) (e_call (ok__law_some T) (hr.mono (by decide)) (by rfl) T.g__law_some T.F__law_some.kp (b__law_some T) (a_name (pv 0) (a_name (pv 3) a_nil))))
  (sb_one (s_set (i := 5) sc__law_draw_schema.nd rfl (by first | exact Or.inl rfl | exact Or.inr rfl) (e_op opr_add o_add (b_var (pv 5)) (EE.eb (e_op opr_mulT o_mulT (EE.eb (EF.ee (f_lst (d_cons (e_var (pv 9)) d_nil)))) (EE.eb (e_ty1 call_int1 c_int (by rfl) T.n_int (by decide +kernel) (EE.eb (e_and (e_cmp (opr_ne2 (hu64 hr)) o_ne2 (b_var (pv 9)) (EE.eb e_str) (nomark _)) (e_one (e_cmp (opr_ni2 (hu64 hr)) o_ni2 (b_var (pv 9)) (b_var (pv 5)) (by rfl))))))))))))))
  (sb_one (s_ret (e_tup (d_cons (e_var (pv 3)) (d_cons (e_ty1 (call_tupA rfl) c_tupA (by rfl) T.n_tuple (by decide +kernel) (b_var (pv 4))) (d_cons (e_ty1 (call_tupA rfl) c_tupA (by rfl) T.n_tuple (by decide +kernel) (b_var (pv 5))) d_nil))))))))))))
end
section
variable {P : Program} {w : World} {K : PySem.W.Frag} {mg : Str → Option Value} {base : Heap}
theorem b_kept_after (T : Txt P w base K mg) : Binds K T.d_kept_after ["kept", "step"] [] := T.F_kept_after.binds fun _ _ _ _ _ _ us hl => match us, hl with | [_, _], _ => rfl
theorem ok_kept_after (T : Txt P w base K mg) : FnOk P w K mg base CX0 1 T.a_kept_after T.d_kept_after ["kept", "step"] (spW K w_kept_after) := ok_fn (N := N_kept_after) (k := 0) T.F_kept_after sc_kept_after fun cdv A outer s H E hr => 
  (sb_one (s_ret (e_if (t_cmp (op_eq2 (hu64 hr)) o_eq2 (EE.eb (e_ix (b_var (pv 1)) (EE.eb e_int) (fun _ _ => rfl))) (EE.eb e_str) (nomark _)) (e_ix (b_var (pv 1)) (EE.eb e_int) (fun _ _ => rfl)) (e_var (pv 0)))))
end
section
variable {P : Program} {w : World} {K : PySem.W.Frag} {mg : Str → Option Value} {base : Heap}
theorem b_kept_columns (T : Txt P w base K mg) : Binds K T.d_kept_columns ["schema", "report"] [] := T.F_kept_columns.binds fun _ _ _ _ _ _ us hl => match us, hl with | [_, _], _ => rfl
theorem ok_kept_columns (T : Txt P w base K mg) : FnOk P w K mg base CX0 2 T.a_kept_columns T.d_kept_columns ["schema", "report"] (spW K w_kept_columns) := ok_fn (N := N_kept_columns) (k := 1) T.F_kept_columns sc_kept_columns fun cdv A outer s H E hr => 
  (sb_cons (s_set (i := 2) sc_kept_columns.nd rfl (by first | exact Or.inl rfl | exact Or.inr rfl) (e_ix (b_var (pv 0)) (EE.eb e_int) (fun _ _ => rfl)))
  (sb_cons (s_for PassesOwn.never rfl (i_seq false (e_var (pv 1))) (g_nm sc_kept_columns.nd rfl (by first | exact Or.inl rfl | exact Or.inr rfl))
  (sb_one (s_set (i := 2) sc_kept_columns.nd rfl (by first | exact Or.inl rfl | exact Or.inr rfl) (e_call (ok_kept_after T) (hr.mono (by decide)) (by rfl) T.g_kept_after T.F_kept_after.kp (b_kept_after T) (a_name (pv 2) (a_name (pv 3) a_nil))))))
  (sb_one (s_ret (e_var (pv 2))))))
end
section
variable {P : Program} {w : World} {K : PySem.W.Frag} {mg : Str → Option Value} {base : Heap}
theorem b_contains (T : Txt P w base K mg) : Binds K T.d_contains ["columns", "part"] [] := T.F_contains.binds fun _ _ _ _ _ _ us hl => match us, hl with | [_, _], _ => rfl
theorem ok_contains (T : Txt P w base K mg) : FnOk P w K mg base CX0 1 T.a_contains T.d_contains ["columns", "part"] (spW K w_contains) := ok_fn (N := N_contains) (k := 0) T.F_contains sc_contains fun cdv A outer s H E hr => 
  (sb_one (s_ret (e_call1 (cr_all rfl) c_all (by rfl) T.n_all (by decide +kernel) (EE.eb (EF.ee (f_lc (own := [("column", 2)]) (g := (.nm 2)) rfl sc_contains.nd (i_seqB (b_var (pv 1))) (blkOk_by (N := N_contains) (sc := defScope s_contains) (by decide +kernel)) (by simp [Tg.slots]) (fun _ _ _ _ _ => (g_nm sc_contains.nd rfl (by first | exact Or.inl rfl | exact Or.inr rfl))) (fun _ _ _ _ _ => ts_nil) (fun _ _ _ _ _ => (e_cmp (opr_in2 (hu64 hr)) o_in2 (b_var (pv 2)) (b_var (pv 0)) (by rfl)))))))))
end
section
variable {P : Program} {w : World} {K : PySem.W.Frag} {mg : Str → Option Value} {base : Heap}
theorem b__has_key (T : Txt P w base K mg) : Binds K T.d__has_key ["columns", "keys"] [] := T.F__has_key.binds fun _ _ _ _ _ _ us hl => match us, hl with | [_, _], _ => rfl
theorem ok__has_key (T : Txt P w base K mg) : FnOk P w K mg base CX0 2 T.a__has_key T.d__has_key ["columns", "keys"] (spW K w__has_key) := ok_fn (N := N__has_key) (k := 1) T.F__has_key sc__has_key fun cdv A outer s H E hr => 
  (sb_one (s_ret (e_call1 (cr_any rfl) c_any (by rfl) T.n_any (by decide +kernel) (EE.eb (EF.ee (f_lc (own := [("key", 2)]) (g := (.nm 2)) rfl sc__has_key.nd (i_seqB (b_var (pv 1))) (blkOk_by (N := N__has_key) (sc := defScope s__has_key) (by decide +kernel)) (by simp [Tg.slots]) (fun _ _ _ _ _ => (g_nm sc__has_key.nd rfl (by first | exact Or.inl rfl | exact Or.inr rfl))) (fun _ _ _ _ _ => ts_nil) (fun _ _ _ _ _ => (e_call (ok_contains T) (hr.mono (by decide)) (by rfl) T.g_contains T.F_contains.kp (b_contains T) (a_name (pv 0) (a_name (pv 2) a_nil))))))))))
end
section
variable {P : Program} {w : World} {K : PySem.W.Frag} {mg : Str → Option Value} {base : Heap}
theorem b_common (T : Txt P w base K mg) : Binds K T.d_common ["columns", "names"] [] := T.F_common.binds fun _ _ _ _ _ _ us hl => match us, hl with | [_, _], _ => rfl
theorem ok_common (T : Txt P w base K mg) : FnOk P w K mg base CX0 1 T.a_common T.d_common ["columns", "names"] (spW K w_common) := ok_fn (N := N_common) (k := 0) T.F_common sc_common fun cdv A outer s H E hr => 
  (sb_one (s_ret (e_join (EE.eb e_str) (EE.eb (EF.ee (f_lc (own := [("column", 2)]) (g := (.nm 2)) rfl sc_common.nd (i_seqB (b_var (pv 0))) (blkOk_by (N := N_common) (sc := defScope s_common) (by decide +kernel)) (by simp [Tg.slots]) (fun _ _ _ _ _ => (g_nm sc_common.nd rfl (by first | exact Or.inl rfl | exact Or.inr rfl))) (fun _ _ _ _ _ => (ts_one (t_cmp (opr_in2 (hu64 hr)) o_in2 (b_var (pv 2)) (b_var (pv 1)) (by rfl)))) (fun _ _ _ _ _ => (e_var (pv 2)))))))))
end
section
variable {P : Program} {w : World} {K : PySem.W.Frag} {mg : Str → Option Value} {base : Heap}
theorem b__closure_round (T : Txt P w base K mg) : Binds K T.d__closure_round ["schema", "found"] [] := T.F__closure_round.binds fun _ _ _ _ _ _ us hl => match us, hl with | [_, _], _ => rfl
theorem ok__closure_round (T : Txt P w base K mg) : FnOk P w K mg base CX0 3 T.a__closure_round T.d__closure_round ["schema", "found"] (spW K w__closure_round) := ok_fn (N := N__closure_round) (k := 2) T.F__closure_round sc__closure_round fun cdv A outer s H E hr => 
  (sb_cons (s_asg (e_var (pv 0)) (g_tp rfl (.cons (pg_name sc__closure_round.nd rfl (by first | exact Or.inl rfl | exact Or.inr rfl)) (by rfl) (.cons (pg_name sc__closure_round.nd rfl (by first | exact Or.inl rfl | exact Or.inr rfl)) (by rfl) (.cons (pg_name sc__closure_round.nd rfl (by first | exact Or.inl rfl | exact Or.inr rfl)) (by rfl) .nil)))))
  (sb_cons (s_if (t_tru (EE.eb (e_call (ok__has_key T) (hr.mono (by decide)) (by rfl) T.g__has_key T.F__has_key.kp (b__has_key T) (a_name (pv 1) (a_name (pv 4) a_nil)))) (by intro _; rfl))
  (sb_one (s_ret (e_var (pv 2))))
  sb_nil)
  (sb_cons (s_setLc (i := 5) (own := [("left", 6), ("right", 7)]) (g := (.tp [6, 7])) rfl sc__closure_round.nd rfl rfl (sw_true rfl rfl rfl (by decide +kernel)) (i_seqB (b_var (pv 3))) (blkOk_by (N := N__closure_round) (sc := defScope s__closure_round) (by decide +kernel)) (by simp [Tg.slots]) (fun _ _ _ _ _ => (g_tp rfl (.cons (pg_name sc__closure_round.nd rfl (by first | exact Or.inl rfl | exact Or.inr rfl)) (by rfl) (.cons (pg_name sc__closure_round.nd rfl (by first | exact Or.inl rfl | exact Or.inr rfl)) (by rfl) .nil)))) (fun _ _ _ _ _ => (ts_one (t_tru (EE.eb (e_call (ok_contains T) (hr.mono (by decide)) (by rfl) T.g_contains T.F_contains.kp (b_contains T) (a_name (pv 1) (a_name (pv 6) a_nil)))) (by intro _; rfl)))) (fun _ _ _ _ _ => (e_var (pv 7))))
  (sb_one (s_ret (e_call (ok_common T) (hr.mono (by decide)) (by rfl) T.g_common T.F_common.kp (b_common T) (a_name (pv 2) (a_cons (e_op opr_add o_add (b_var (pv 1)) (EE.eb (e_join (EE.eb e_str) (b_var (pv 5))))) a_nil))))))))
end
section
variable {P : Program} {w : World} {K : PySem.W.Frag} {mg : Str → Option Value} {base : Heap}
theorem b_closure (T : Txt P w base K mg) : Binds K T.d_closure ["schema", "columns"] [] := T.F_closure.binds fun _ _ _ _ _ _ us hl => match us, hl with | [_, _], _ => rfl
theorem ok_closure (T : Txt P w base K mg) : FnOk P w K mg base CX0 4 T.a_closure T.d_closure ["schema", "columns"] (spW K w_closure) := ok_fn (N := N_closure) (k := 3) T.F_closure sc_closure fun cdv A outer s H E hr => 
  (sb_cons (s_set (i := 2) sc_closure.nd rfl (by first | exact Or.inl rfl | exact Or.inr rfl) (e_var (pv 1)))
  (sb_cons (s_for PassesOwn.never rfl (i_seq false (e_ix (b_var (pv 0)) (EE.eb e_int) (fun _ _ => rfl))) (g_nm sc_closure.nd rfl (by first | exact Or.inl rfl | exact Or.inr rfl))
  (sb_one (s_set (i := 2) sc_closure.nd rfl (by first | exact Or.inl rfl | exact Or.inr rfl) (e_call (ok__closure_round T) (hr.mono (by decide)) (by rfl) T.g__closure_round T.F__closure_round.kp (b__closure_round T) (a_name (pv 0) (a_name (pv 2) a_nil))))))
  (sb_one (s_ret (e_var (pv 2))))))
end
section
variable {P : Program} {w : World} {K : PySem.W.Frag} {mg : Str → Option Value} {base : Heap}
theorem b_determined (T : Txt P w base K mg) : Binds K T.d_determined ["schema", "knowledge", "columns"] [] := T.F_determined.binds fun _ _ _ _ _ _ us hl => match us, hl with | [_, _, _], _ => rfl
theorem ok_determined (T : Txt P w base K mg) : FnOk P w K mg base CX0 5 T.a_determined T.d_determined ["schema", "knowledge", "columns"] (spW K w_determined) := ok_fn (N := N_determined) (k := 4) T.F_determined sc_determined fun cdv A outer s H E hr => 
  (sb_cons (s_asg (e_sl (b_var (pv 1)) o_none (o_some (EE.eb e_int))) (g_tp rfl (.cons (pg_name sc_determined.nd rfl (by first | exact Or.inl rfl | exact Or.inr rfl)) (by rfl) (.cons (pg_name sc_determined.nd rfl (by first | exact Or.inl rfl | exact Or.inr rfl)) (by rfl) .nil))))
  (sb_cons (s_set (i := 5) sc_determined.nd rfl (by first | exact Or.inl rfl | exact Or.inr rfl) (e_op opr_add o_add (EE.eb (e_op opr_add o_add (EE.eb (e_join (EE.eb e_str) (EE.eb (EF.ee (f_lc (own := [("column", 6), ("_", 7)]) (g := (.tp [6, 7])) rfl sc_determined.nd (i_seqB (b_var (pv 3))) (blkOk_by (N := N_determined) (sc := defScope s_determined) (by decide +kernel)) (by simp [Tg.slots]) (fun _ _ _ _ _ => (g_tp rfl (.cons (pg_name sc_determined.nd rfl (by first | exact Or.inl rfl | exact Or.inr rfl)) (by rfl) (.cons (pg_name sc_determined.nd rfl (by first | exact Or.inl rfl | exact Or.inr rfl)) (by rfl) .nil)))) (fun _ _ _ _ _ => ts_nil) (fun _ _ _ _ _ => (e_var (pv 6)))))))) (b_var (pv 4)))) (b_var (pv 2))))
  (sb_one (s_ret (e_call (ok_closure T) (hr.mono (by decide)) (by rfl) T.g_closure T.F_closure.kp (b_closure T) (a_name (pv 0) (a_cons (e_call (ok_common T) (hr.mono (by decide)) (by rfl) T.g_common T.F_common.kp (b_common T) (a_cons (e_ix (b_var (pv 0)) (EE.eb e_int) (fun _ _ => rfl)) (a_name (pv 5) a_nil))) a_nil)))))))
end
section
variable {P : Program} {w : World} {K : PySem.W.Frag} {mg : Str → Option Value} {base : Heap}
theorem b_settles (T : Txt P w base K mg) : Binds K T.d_settles ["schema", "report", "knowledge"] [] := T.F_settles.binds fun _ _ _ _ _ _ us hl => match us, hl with | [_, _, _], _ => rfl
theorem ok_settles (T : Txt P w base K mg) : FnOk P w K mg base CX0 6 T.a_settles T.d_settles ["schema", "report", "knowledge"] (spW K w_settles) := ok_fn (N := N_settles) (k := 5) T.F_settles sc_settles fun cdv A outer s H E hr => 
  (sb_cons (s_if (t_cmp (op_eq2 (hu64 hr)) o_eq2 (b_var (pv 2)) (EE.eb (e_glo (by rfl) T.k_EMPTY (fun _ => rv_EMPTY T))) (nomark _))
  (sb_one (s_ret e_bl))
  sb_nil)
  (sb_cons (s_asg (e_sl (b_var (pv 2)) (o_some (EE.eb e_int)) o_none) (g_tp rfl (.cons (pg_name sc_settles.nd rfl (by first | exact Or.inl rfl | exact Or.inr rfl)) (by rfl) (.cons (pg_name sc_settles.nd rfl (by first | exact Or.inl rfl | exact Or.inr rfl)) (by rfl) (.cons (pg_name sc_settles.nd rfl (by first | exact Or.inl rfl | exact Or.inr rfl)) (by rfl) .nil)))))
  (sb_cons (s_if (t_not (t_tru (b_var (pv 4)) (by intro _; rfl)))
  (sb_one (s_ret e_bl))
  sb_nil)
  (sb_cons (s_set (i := 6) sc_settles.nd rfl (by first | exact Or.inl rfl | exact Or.inr rfl) (e_if (t_tru (b_var (pv 1)) (by intro _; rfl)) (e_ix (EE.eb (e_ix (b_var (pv 1)) (EE.eb (e_neg (EE.eb e_int))) (fun _ _ => rfl))) (EE.eb e_int) (fun _ _ => rfl)) e_str))
  (sb_cons (s_if (t_cmp (op_eq2 (hu64 hr)) o_eq2 (b_var (pv 6)) (EE.eb e_str) (nomark _))
  (sb_one (s_ret (e_call (ok_contains T) (hr.mono (by decide)) (by rfl) T.g_contains T.F_contains.kp (b_contains T) (a_name (pv 3) (a_cons (e_ix (EE.eb (e_ix (b_var (pv 1)) (EE.eb (e_neg (EE.eb e_int))) (fun _ _ => rfl))) (EE.eb e_int) (fun _ _ => rfl)) a_nil)))))
  sb_nil)
  (sb_cons (s_if (t_cmp (op_eq2 (hu64 hr)) o_eq2 (b_var (pv 6)) (EE.eb e_str) (nomark _))
  (sb_one (s_ret (e_call (ok_contains T) (hr.mono (by decide)) (by rfl) T.g_contains T.F_contains.kp (b_contains T) (a_name (pv 3) (a_cons (e_op opr_add o_add (EE.eb (e_ix (EE.eb (e_ix (b_var (pv 1)) (EE.eb (e_neg (EE.eb e_int))) (fun _ _ => rfl))) (EE.eb e_int) (fun _ _ => rfl))) (EE.eb (e_ix (EE.eb (e_ix (b_var (pv 1)) (EE.eb (e_neg (EE.eb e_int))) (fun _ _ => rfl))) (EE.eb e_int) (fun _ _ => rfl)))) a_nil)))))
  sb_nil)
  (sb_cons (s_set (i := 7) sc_settles.nd rfl (by first | exact Or.inl rfl | exact Or.inr rfl) (e_call (ok_kept_columns T) (hr.mono (by decide)) (by rfl) T.g_kept_columns T.F_kept_columns.kp (b_kept_columns T) (a_name (pv 0) (a_name (pv 1) a_nil))))
  (sb_cons (s_if (t_not (t_tru (EE.eb (e_call (ok_contains T) (hr.mono (by decide)) (by rfl) T.g_contains T.F_contains.kp (b_contains T) (a_name (pv 3) (a_name (pv 7) a_nil)))) (by intro _; rfl)))
  (sb_one (s_ret e_bl))
  sb_nil)
  (sb_cons (s_set (i := 8) sc_settles.nd rfl (by first | exact Or.inl rfl | exact Or.inr rfl) (e_if (t_cmp (op_eq2 (hu64 hr)) o_eq2 (b_var (pv 6)) (EE.eb e_str) (nomark _)) (e_ix (EE.eb (e_ix (b_var (pv 1)) (EE.eb (e_neg (EE.eb e_int))) (fun _ _ => rfl))) (EE.eb e_int) (fun _ _ => rfl)) e_str))
  (sb_one (s_ret (e_or (e_cmp (op_eq2 (hu64 hr)) o_eq2 (b_var (pv 5)) (EE.eb e_int) (nomark _)) (e_one (e_call (ok_contains T) (hr.mono (by decide)) (by rfl) T.g_contains T.F_contains.kp (b_contains T) (a_cons (e_call (ok_determined T) (hr.mono (by decide)) (by rfl) T.g_determined T.F_determined.kp (b_determined T) (a_name (pv 0) (a_name (pv 2) (a_name (pv 8) a_nil)))) (a_name (pv 7) a_nil))))))))))))))))
end
section
variable {P : Program} {w : World} {K : PySem.W.Frag} {mg : Str → Option Value} {base : Heap}
theorem b_is_unique (T : Txt P w base K mg) : Binds K T.d_is_unique ["schema", "columns"] [] := T.F_is_unique.binds fun _ _ _ _ _ _ us hl => match us, hl with | [_, _], _ => rfl
theorem ok_is_unique (T : Txt P w base K mg) : FnOk P w K mg base CX0 5 T.a_is_unique T.d_is_unique ["schema", "columns"] (spW K w_is_unique) := ok_fn (N := N_is_unique) (k := 4) T.F_is_unique sc_is_unique fun cdv A outer s H E hr => 
  (sb_one (s_ret (e_call (ok__has_key T) (hr.mono (by decide)) (by rfl) T.g__has_key T.F__has_key.kp (b__has_key T) (a_cons (e_call (ok_closure T) (hr.mono (by decide)) (by rfl) T.g_closure T.F_closure.kp (b_closure T) (a_name (pv 0) (a_name (pv 1) a_nil))) (a_cons (e_ix (b_var (pv 0)) (EE.eb e_int) (fun _ _ => rfl)) a_nil)))))
end
section
variable {P : Program} {w : World} {K : PySem.W.Frag} {mg : Str → Option Value} {base : Heap}
theorem b_start_knowledge (T : Txt P w base K mg) : Binds K T.d_start_knowledge ["schema"] [] := T.F_start_knowledge.binds fun _ _ _ _ _ _ us hl => match us, hl with | [_], _ => rfl
theorem ok_start_knowledge (T : Txt P w base K mg) : FnOk P w K mg base CX0 6 T.a_start_knowledge T.d_start_knowledge ["schema"] (spW K w_start_knowledge) := ok_fn (N := N_start_knowledge) (k := 5) T.F_start_knowledge sc_start_knowledge fun cdv A outer s H E hr => 
  (sb_cons (s_set (i := 1) sc_start_knowledge.nd rfl (by first | exact Or.inl rfl | exact Or.inr rfl) (e_if (t_tru (EE.eb (e_call (ok_is_unique T) (hr.mono (by decide)) (by rfl) T.g_is_unique T.F_is_unique.kp (b_is_unique T) (a_name (pv 0) (a_cons e_str a_nil)))) (by intro _; rfl)) e_int e_non))
  (sb_one (s_ret (e_tup (d_cons (e_tup d_nil) (d_cons e_str (d_cons (e_ix (b_var (pv 0)) (EE.eb e_int) (fun _ _ => rfl)) (d_cons e_bl (d_cons (e_var (pv 1)) d_nil)))))))))
end
section
variable {P : Program} {w : World} {K : PySem.W.Frag} {mg : Str → Option Value} {base : Heap}
theorem b__after_where (T : Txt P w base K mg) : Binds K T.d__after_where ["schema", "knowledge", "column", "worth"] [] := T.F__after_where.binds fun _ _ _ _ _ _ us hl => match us, hl with | [_, _, _, _], _ => rfl
theorem ok__after_where (T : Txt P w base K mg) : FnOk P w K mg base CX0 6 T.a__after_where T.d__after_where ["schema", "knowledge", "column", "worth"] (spW K w__after_where) := ok_fn (N := N__after_where) (k := 5) T.F__after_where sc__after_where fun cdv A outer s H E hr => 
  (sb_cons (s_asg (e_var (pv 1)) (g_tp rfl (.cons (pg_name sc__after_where.nd rfl (by first | exact Or.inl rfl | exact Or.inr rfl)) (by rfl) (.cons (pg_name sc__after_where.nd rfl (by first | exact Or.inl rfl | exact Or.inr rfl)) (by rfl) (.cons (pg_name sc__after_where.nd rfl (by first | exact Or.inl rfl | exact Or.inr rfl)) (by rfl) (.cons (pg_name sc__after_where.nd rfl (by first | exact Or.inl rfl | exact Or.inr rfl)) (by rfl) (.cons (pg_name sc__after_where.nd rfl (by first | exact Or.inl rfl | exact Or.inr rfl)) (by rfl) .nil)))))))
  (sb_cons (s_dictK (i := 9) rfl sc__after_where.nd rfl (by first | exact Or.inl rfl | exact Or.inr rfl) (by rfl) T.n_dict (b_var (pv 4)))
  (sb_cons (s_if (t_kin (i := 9) (hu64 hr) (pv 9) (b_var (pv 2)) (by rfl))
  (sb_one (s_ret (e_if (t_cmp (op_eq2 (hu64 hr)) o_eq2 (EE.eb (e_kget (i := 9) (hu64 hr) (pv 9) (b_var (pv 2)) (fun _ _ => rfl))) (b_var (pv 3)) (nomark _)) (e_var (pv 1)) (e_glo (by rfl) T.k_EMPTY (fun _ => rv_EMPTY T)))))
  sb_nil)
  (sb_cons (s_kset (i := 9) (hu64 hr) (pv 9) (e_var (pv 3)) (b_var (pv 2)))
  (sb_cons (s_if (t_cmp (opr_ni2 (hu64 hr)) o_ni2 (b_var (pv 2)) (b_var (pv 6)) (by rfl))
  (sb_one (s_asg (e_tup (d_cons e_str (d_cons e_bl d_nil))) (g_tp rfl (.cons (pg_name sc__after_where.nd rfl (by first | exact Or.inl rfl | exact Or.inr rfl)) (by rfl) (.cons (pg_name sc__after_where.nd rfl (by first | exact Or.inl rfl | exact Or.inr rfl)) (by rfl) .nil)))))
  sb_nil)
  (sb_cons (s_if (t_tru (EE.eb (e_call (ok_is_unique T) (hr.mono (by decide)) (by rfl) T.g_is_unique T.F_is_unique.kp (b_is_unique T) (a_name (pv 0) (a_cons (e_call (ok_common T) (hr.mono (by decide)) (by rfl) T.g_common T.F_common.kp (b_common T) (a_cons (e_ix (b_var (pv 0)) (EE.eb e_int) (fun _ _ => rfl)) (a_cons (EF.ee (f_klist (i := 9) rfl (by rfl) T.n_list (pv 9))) a_nil))) a_nil)))) (by intro _; rfl))
  (sb_one (s_set (i := 8) sc__after_where.nd rfl (by first | exact Or.inl rfl | exact Or.inr rfl) e_int))
  sb_nil)
  (sb_one (s_ret (e_tup (d_cons (e_ty1 (call_tupA rfl) c_tupA (by rfl) T.n_tuple (by decide +kernel) (EE.eb (EF.ee (f_ksort (i := 9) (hu64 hr) rfl (by rfl) T.n_sorted (pv 9))))) (d_cons (e_var (pv 5)) (d_cons (e_var (pv 6)) (d_cons (e_var (pv 7)) (d_cons (e_var (pv 8)) d_nil))))))))))))))
end
section
variable {P : Program} {w : World} {K : PySem.W.Frag} {mg : Str → Option Value} {base : Heap}
theorem b__known_beginning (T : Txt P w base K mg) : Binds K T.d__known_beginning ["known", "columns"] [] := T.F__known_beginning.binds fun _ _ _ _ _ _ us hl => match us, hl with | [_, _], _ => rfl
theorem ok__known_beginning (T : Txt P w base K mg) : FnOk P w K mg base CX0 1 T.a__known_beginning T.d__known_beginning ["known", "columns"] (spW K w__known_beginning) := ok_fn (N := N__known_beginning) (k := 0) T.F__known_beginning sc__known_beginning fun cdv A outer s H E hr => 
  (sb_cons (s_for PassesOwn.never rfl (i_enumT false (by rfl) T.n_enumerate (e_var (pv 1))) (g_tp rfl (.cons (pg_name sc__known_beginning.nd rfl (by first | exact Or.inl rfl | exact Or.inr rfl)) (by rfl) (.cons (pg_name sc__known_beginning.nd rfl (by first | exact Or.inl rfl | exact Or.inr rfl)) (by rfl) .nil)))
  (sb_one (s_if (t_cmp (opr_ni2 (hu64 hr)) o_ni2 (b_var (pv 3)) (b_var (pv 0)) (by rfl))
  (sb_one (s_ret (e_sl (b_var (pv 1)) o_none (o_some (b_var (pv 2))))))
  sb_nil)))
  (sb_one (s_ret (e_var (pv 1)))))
end
section
variable {P : Program} {w : World} {K : PySem.W.Frag} {mg : Str → Option Value} {base : Heap}
theorem b__after_sorting (T : Txt P w base K mg) : Binds K T.d__after_sorting ["knowledge", "kind", "columns"] [] := T.F__after_sorting.binds fun _ _ _ _ _ _ us hl => match us, hl with | [_, _, _], _ => rfl
theorem ok__after_sorting (T : Txt P w base K mg) : FnOk P w K mg base CX0 2 T.a__after_sorting T.d__after_sorting ["knowledge", "kind", "columns"] (spW K w__after_sorting) := ok_fn (N := N__after_sorting) (k := 1) T.F__after_sorting sc__after_sorting fun cdv A outer s H E hr => 
  (sb_cons (s_asg (e_var (pv 0)) (g_tp rfl (.cons (pg_name sc__after_sorting.nd rfl (by first | exact Or.inl rfl | exact Or.inr rfl)) (by rfl) (.cons (pg_name sc__after_sorting.nd rfl (by first | exact Or.inl rfl | exact Or.inr rfl)) (by rfl) (.cons (pg_name sc__after_sorting.nd rfl (by first | exact Or.inl rfl | exact Or.inr rfl)) (by rfl) (.cons (pg_name sc__after_sorting.nd rfl (by first | exact Or.inl rfl | exact Or.inr rfl)) (by rfl) (.cons (pg_name sc__after_sorting.nd rfl (by first | exact Or.inl rfl | exact Or.inr rfl)) (by rfl) .nil)))))))
  (sb_cons (s_set (i := 8) sc__after_sorting.nd rfl (by first | exact Or.inl rfl | exact Or.inr rfl) (e_call (ok__known_beginning T) (hr.mono (by decide)) (by rfl) T.g__known_beginning T.F__known_beginning.kp (b__known_beginning T) (a_name (pv 5) (a_name (pv 2) a_nil))))
  (sb_cons (s_if (PW.pt (tw_and (t_cmp (op_eq2 (hu64 hr)) o_eq2 (b_var (pv 1)) (EE.eb e_str) (nomark _)) (pw_and1 (t_cmp (op_eq2 (hu64 hr)) o_eq2 (b_var (pv 8)) (b_var (pv 2)) (nomark _)))))
  (sb_one (s_set (i := 8) sc__after_sorting.nd rfl (by first | exact Or.inl rfl | exact Or.inr rfl) (e_op opr_add o_add (b_var (pv 2)) (EE.eb (e_join (EE.eb e_str) (EE.eb (EF.ee (f_lc (own := [("column", 9)]) (g := (.nm 9)) rfl sc__after_sorting.nd (i_seqB (b_var (pv 4))) (blkOk_by (N := N__after_sorting) (sc := defScope s__after_sorting) (by decide +kernel)) (by simp [Tg.slots]) (fun _ _ _ _ _ => (g_nm sc__after_sorting.nd rfl (by first | exact Or.inl rfl | exact Or.inr rfl))) (fun _ _ _ _ _ => (ts_one (t_cmp (opr_ni2 (hu64 hr)) o_ni2 (b_var (pv 9)) (b_var (pv 2)) (by rfl)))) (fun _ _ _ _ _ => (e_var (pv 9)))))))))))
  sb_nil)
  (sb_one (s_ret (e_tup (d_cons (e_var (pv 3)) (d_cons (e_var (pv 8)) (d_cons (e_var (pv 5)) (d_cons (e_var (pv 6)) (d_cons (e_var (pv 7)) d_nil)))))))))))
end
section
variable {P : Program} {w : World} {K : PySem.W.Frag} {mg : Str → Option Value} {base : Heap}
theorem b__placed (T : Txt P w base K mg) : Binds K T.d__placed ["schema", "knowledge"] [] := T.F__placed.binds fun _ _ _ _ _ _ us hl => match us, hl with | [_, _], _ => rfl
theorem ok__placed (T : Txt P w base K mg) : FnOk P w K mg base CX0 6 T.a__placed T.d__placed ["schema", "knowledge"] (spW K w__placed) := ok_fn (N := N__placed) (k := 5) T.F__placed sc__placed fun cdv A outer s H E hr => 
  (sb_one (s_ret (e_call (ok_common T) (hr.mono (by decide)) (by rfl) T.g_common T.F_common.kp (b_common T) (a_cons (e_ix (b_var (pv 1)) (EE.eb e_int) (fun _ _ => rfl)) (a_cons (e_call (ok_determined T) (hr.mono (by decide)) (by rfl) T.g_determined T.F_determined.kp (b_determined T) (a_name (pv 0) (a_name (pv 1) (a_cons e_str a_nil)))) a_nil)))))
end
section
variable {P : Program} {w : World} {K : PySem.W.Frag} {mg : Str → Option Value} {base : Heap}
theorem b__after_first (T : Txt P w base K mg) : Binds K T.d__after_first ["schema", "knowledge", "count"] [] := T.F__after_first.binds fun _ _ _ _ _ _ us hl => match us, hl with | [_, _, _], _ => rfl
theorem ok__after_first (T : Txt P w base K mg) : FnOk P w K mg base CX0 7 T.a__after_first T.d__after_first ["schema", "knowledge", "count"] (spW K w__after_first) := ok_fn (N := N__after_first) (k := 6) T.F__after_first sc__after_first fun cdv A outer s H E hr => 
  (sb_cons (s_asg (e_var (pv 1)) (g_tp rfl (.cons (pg_name sc__after_first.nd rfl (by first | exact Or.inl rfl | exact Or.inr rfl)) (by rfl) (.cons (pg_name sc__after_first.nd rfl (by first | exact Or.inl rfl | exact Or.inr rfl)) (by rfl) (.cons (pg_name sc__after_first.nd rfl (by first | exact Or.inl rfl | exact Or.inr rfl)) (by rfl) (.cons (pg_name sc__after_first.nd rfl (by first | exact Or.inl rfl | exact Or.inr rfl)) (by rfl) (.cons (pg_name sc__after_first.nd rfl (by first | exact Or.inl rfl | exact Or.inr rfl)) (by rfl) .nil)))))))
  (sb_cons (s_if (t_cmp (op_eq2 (hu64 hr)) o_eq2 (b_var (pv 2)) (EE.eb e_int) (nomark _))
  (sb_one (s_ret (e_glo (by rfl) T.k_EMPTY (fun _ => rv_EMPTY T))))
  sb_nil)
  (sb_cons (s_if (PW.pt (tw_and (t_cmp opr_ns o_ns (b_var (pv 7)) (EE.eb e_non) (nomark _)) (pw_and1 (t_cmp op_le o_intB (b_var (pv 7)) (b_var (pv 2)) (nomark _)))))
  (sb_one (s_ret (e_var (pv 1))))
  sb_nil)
  (sb_one (s_ret (e_tup (d_cons (e_var (pv 3)) (d_cons (e_var (pv 4)) (d_cons (e_call (ok__placed T) (hr.mono (by decide)) (by rfl) T.g__placed T.F__placed.kp (b__placed T) (a_name (pv 0) (a_name (pv 1) a_nil))) (d_cons (e_var (pv 6)) (d_cons (e_var (pv 2)) d_nil)))))))))))
end
section
variable {P : Program} {w : World} {K : PySem.W.Frag} {mg : Str → Option Value} {base : Heap}
theorem b__after_skip (T : Txt P w base K mg) : Binds K T.d__after_skip ["schema", "knowledge", "count"] [] := T.F__after_skip.binds fun _ _ _ _ _ _ us hl => match us, hl with | [_, _, _], _ => rfl
theorem ok__after_skip (T : Txt P w base K mg) : FnOk P w K mg base CX0 7 T.a__after_skip T.d__after_skip ["schema", "knowledge", "count"] (spW K w__after_skip) := ok_fn (N := N__after_skip) (k := 6) T.F__after_skip sc__after_skip fun cdv A outer s H E hr => 
  (sb_cons (s_asg (e_var (pv 1)) (g_tp rfl (.cons (pg_name sc__after_skip.nd rfl (by first | exact Or.inl rfl | exact Or.inr rfl)) (by rfl) (.cons (pg_name sc__after_skip.nd rfl (by first | exact Or.inl rfl | exact Or.inr rfl)) (by rfl) (.cons (pg_name sc__after_skip.nd rfl (by first | exact Or.inl rfl | exact Or.inr rfl)) (by rfl) (.cons (pg_name sc__after_skip.nd rfl (by first | exact Or.inl rfl | exact Or.inr rfl)) (by rfl) (.cons (pg_name sc__after_skip.nd rfl (by first | exact Or.inl rfl | exact Or.inr rfl)) (by rfl) .nil)))))))
  (sb_cons (s_if (t_cmp (op_eq2 (hu64 hr)) o_eq2 (b_var (pv 2)) (EE.eb e_int) (nomark _))
  (sb_one (s_ret (e_var (pv 1))))
  sb_nil)
  (sb_cons (s_if (t_cmp opr_is o_is (b_var (pv 7)) (EE.eb e_non) (nomark _))
  (sb_one (s_ret (e_tup (d_cons (e_var (pv 3)) (d_cons (e_var (pv 4)) (d_cons (e_call (ok__placed T) (hr.mono (by decide)) (by rfl) T.g__placed T.F__placed.kp (b__placed T) (a_name (pv 0) (a_name (pv 1) a_nil))) (d_cons (e_var (pv 6)) (d_cons e_non d_nil))))))))
  sb_nil)
  (sb_cons (s_if (t_cmp op_le o_intB (b_var (pv 7)) (b_var (pv 2)) (nomark _))
  (sb_one (s_ret (e_glo (by rfl) T.k_EMPTY (fun _ => rv_EMPTY T))))
  sb_nil)
  (sb_one (s_ret (e_tup (d_cons (e_var (pv 3)) (d_cons (e_var (pv 4)) (d_cons (e_call (ok__placed T) (hr.mono (by decide)) (by rfl) T.g__placed T.F__placed.kp (b__placed T) (a_name (pv 0) (a_name (pv 1) a_nil))) (d_cons (e_var (pv 6)) (d_cons (e_op op_sub o_int0 (b_var (pv 7)) (b_var (pv 2))) d_nil))))))))))))
end
section
variable {P : Program} {w : World} {K : PySem.W.Frag} {mg : Str → Option Value} {base : Heap}
theorem b_knowledge_after (T : Txt P w base K mg) : Binds K T.d_knowledge_after ["schema", "knowledge", "step"] [] := T.F_knowledge_after.binds fun _ _ _ _ _ _ us hl => match us, hl with | [_, _, _], _ => rfl
theorem ok_knowledge_after (T : Txt P w base K mg) : FnOk P w K mg base CX0 8 T.a_knowledge_after T.d_knowledge_after ["schema", "knowledge", "step"] (spW K w_knowledge_after) := ok_fn (N := N_knowledge_after) (k := 7) T.F_knowledge_after sc_knowledge_after fun cdv A outer s H E hr => 
  (sb_cons (s_set (i := 3) sc_knowledge_after.nd rfl (by first | exact Or.inl rfl | exact Or.inr rfl) (e_ix (b_var (pv 2)) (EE.eb e_int) (fun _ _ => rfl)))
  (sb_cons (s_if (PW.pt (tw_or (t_cmp (op_eq2 (hu64 hr)) o_eq2 (b_var (pv 1)) (EE.eb (e_glo (by rfl) T.k_EMPTY (fun _ => rv_EMPTY T))) (nomark _)) (pw_or1 (t_cmp (opr_in2 (hu64 hr)) o_in2 (b_var (pv 3)) (EE.eb (e_glo (by rfl) T.k_GROUPING (fun _ => rv_GROUPING T))) (by rfl)))))
  (sb_one (s_ret (e_var (pv 1))))
  sb_nil)
  (sb_cons (s_if (t_cmp (op_eq2 (hu64 hr)) o_eq2 (b_var (pv 3)) (EE.eb e_str) (nomark _))
  (sb_one (s_ret (e_call (ok__after_where T) (hr.mono (by decide)) (by rfl) T.g__after_where T.F__after_where.kp (b__after_where T) (a_name (pv 0) (a_name (pv 1) (a_cons (e_ix (b_var (pv 2)) (EE.eb e_int) (fun _ _ => rfl)) (a_cons (e_ix (b_var (pv 2)) (EE.eb e_int) (fun _ _ => rfl)) a_nil)))))))
  sb_nil)
  (sb_cons (s_if (t_cmp (opr_in2 (hu64 hr)) o_in2 (b_var (pv 3)) (EE.eb (e_glo (by rfl) T.k_SORTING (fun _ => rv_SORTING T))) (by rfl))
  (sb_one (s_ret (e_call (ok__after_sorting T) (hr.mono (by decide)) (by rfl) T.g__after_sorting T.F__after_sorting.kp (b__after_sorting T) (a_name (pv 1) (a_name (pv 3) (a_cons (e_ix (b_var (pv 2)) (EE.eb e_int) (fun _ _ => rfl)) a_nil))))))
  sb_nil)
  (sb_cons (s_if (t_cmp (op_eq2 (hu64 hr)) o_eq2 (b_var (pv 3)) (EE.eb e_str) (nomark _))
  (sb_one (s_ret (e_call (ok__after_first T) (hr.mono (by decide)) (by rfl) T.g__after_first T.F__after_first.kp (b__after_first T) (a_name (pv 0) (a_name (pv 1) (a_cons (e_ix (b_var (pv 2)) (EE.eb e_int) (fun _ _ => rfl)) a_nil))))))
  sb_nil)
  (sb_cons (s_if (t_cmp (op_eq2 (hu64 hr)) o_eq2 (b_var (pv 3)) (EE.eb e_str) (nomark _))
  (sb_one (s_ret (e_call (ok__after_skip T) (hr.mono (by decide)) (by rfl) T.g__after_skip T.F__after_skip.kp (b__after_skip T) (a_name (pv 0) (a_name (pv 1) (a_cons (e_ix (b_var (pv 2)) (EE.eb e_int) (fun _ _ => rfl)) a_nil))))))
  sb_nil)
  (sb_cons (s_asg (e_var (pv 1)) (g_tp rfl (.cons (pg_name sc_knowledge_after.nd rfl (by first | exact Or.inl rfl | exact Or.inr rfl)) (by rfl) (.cons (pg_name sc_knowledge_after.nd rfl (by first | exact Or.inl rfl | exact Or.inr rfl)) (by rfl) (.cons (pg_name sc_knowledge_after.nd rfl (by first | exact Or.inl rfl | exact Or.inr rfl)) (by rfl) (.cons (pg_name sc_knowledge_after.nd rfl (by first | exact Or.inl rfl | exact Or.inr rfl)) (by rfl) (.cons (pg_name sc_knowledge_after.nd rfl (by first | exact Or.inl rfl | exact Or.inr rfl)) (by rfl) .nil)))))))
  (sb_one (s_ret (e_tup (d_cons (e_var (pv 4)) (d_cons (e_var (pv 5)) (d_cons (e_call (ok_common T) (hr.mono (by decide)) (by rfl) T.g_common T.F_common.kp (b_common T) (a_name (pv 6) (a_cons (e_ix (b_var (pv 2)) (EE.eb e_int) (fun _ _ => rfl)) a_nil))) (d_cons (e_var (pv 7)) (d_cons (e_var (pv 8)) d_nil)))))))))))))))
end
section
variable {P : Program} {w : World} {K : PySem.W.Frag} {mg : Str → Option Value} {base : Heap}
theorem b_derive (T : Txt P w base K mg) : Binds K T.d_derive ["schema", "report"] [] := T.F_derive.binds fun _ _ _ _ _ _ us hl => match us, hl with | [_, _], _ => rfl
theorem ok_derive (T : Txt P w base K mg) : FnOk P w K mg base CX0 9 T.a_derive T.d_derive ["schema", "report"] (spO K w_derive) := ok_fnO (N := N_derive) (k := 8) T.F_derive sc_derive fun cdv A outer s H E hr => 
  (sb_cons (s_setL (i := 2) sc_derive.nd rfl (by first | exact Or.inl rfl | exact Or.inr rfl) (f_lst (d_cons (e_call (ok_start_knowledge T) (hr.mono (by decide)) (by rfl) T.g_start_knowledge T.F_start_knowledge.kp (b_start_knowledge T) (a_name (pv 0) a_nil)) d_nil)))
  (sb_cons (s_for PassesOwn.never rfl (i_seq false (e_var (pv 1))) (g_nm sc_derive.nd rfl (by first | exact Or.inl rfl | exact Or.inr rfl))
  (sb_one (s_app (pv 2) (e_call (ok_knowledge_after T) (hr.mono (by decide)) (by rfl) T.g_knowledge_after T.F_knowledge_after.kp (b_knowledge_after T) (a_name (pv 0) (a_cons (e_ix (b_var (pv 2)) (EE.eb (e_neg (EE.eb e_int))) (fun _ _ => rfl)) (a_name (pv 3) a_nil)))))))
  (sb_one (s_retO (pv 2)))))
end
section
variable {P : Program} {w : World} {K : PySem.W.Frag} {mg : Str → Option Value} {base : Heap}
theorem b_is_settled (T : Txt P w base K mg) : Binds K T.d_is_settled ["schema", "report"] [] := T.F_is_settled.binds fun _ _ _ _ _ _ us hl => match us, hl with | [_, _], _ => rfl
theorem ok_is_settled (T : Txt P w base K mg) : FnOk P w K mg base CX0 10 T.a_is_settled T.d_is_settled ["schema", "report"] (spW K w_is_settled) := ok_fn (N := N_is_settled) (k := 9) T.F_is_settled sc_is_settled fun cdv A outer s H E hr => 
  (sb_one (s_ret (e_call (ok_settles T) (hr.mono (by decide)) (by rfl) T.g_settles T.F_settles.kp (b_settles T) (a_name (pv 0) (a_name (pv 1) (a_cons (e_ix (EE.eb (e_call (spO.fz (ok_derive T)) (hr.mono (by decide)) (by rfl) T.g_derive T.F_derive.kp (b_derive T) (a_name (pv 0) (a_name (pv 1) a_nil)))) (EE.eb (e_neg (EE.eb e_int))) (fun _ _ => rfl)) a_nil))))))
end
section
variable {P : Program} {w : World} {K : PySem.W.Frag} {mg : Str → Option Value} {base : Heap}
theorem b__law_mixed (T : Txt P w base K mg) : Binds K T.d__law_mixed ["pen", "columns", "least"] [] := T.F__law_mixed.binds fun _ _ _ _ _ _ us hl => match us, hl with | [_, _, _], _ => rfl
theorem ok__law_mixed (T : Txt P w base K mg) : FnOk P w K mg base CX0 3 T.a__law_mixed T.d__law_mixed ["pen", "columns", "least"] (spW K w__law_mixed_v1) := ok_fn (N := N__law_mixed) (k := 2) T.F__law_mixed sc__law_mixed fun cdv A outer s H E hr => 
  (sb_cons (s_set (i := 3) sc__law_mixed.nd rfl (by first | exact Or.inl rfl | exact Or.inr rfl) e_str)
  (sb_cons (s_for PassesOwn.never rfl (i_seq false (e_var (pv 1))) (g_nm sc__law_mixed.nd rfl (by first | exact Or.inl rfl | exact Or.inr rfl))
  (sb_one (s_if (PW.pt (tw_or (t_cmp (op_eq2 (hu64 hr)) o_eq2 (EE.eb (e_call (ok__law_take T) (hr.mono (by decide)) (by rfl) T.g__law_take T.F__law_take.kp (b__law_take T) (a_name (pv 0) (a_cons e_int a_nil)))) (EE.eb e_int) (nomark _)) (pw_or1 (PW.pt (tw_and (t_cmp op_lt o_intB (EE.eb (e_call1 call_len c_len (by rfl) T.n_len (by decide +kernel) (b_var (pv 3)))) (b_var (pv 2)) (nomark _)) (pw_and1 (t_cmp (op_eq2 (hu64 hr)) o_eq2 (b_var (pv 4)) (EE.eb (e_ix (b_var (pv 1)) (EE.eb (e_neg (EE.eb e_int))) (fun _ _ => rfl))) (nomark _))))))))
  (sb_cons (s_set (i := 5) sc__law_mixed.nd rfl (by first | exact Or.inl rfl | exact Or.inr rfl) (e_call (ok__law_take T) (hr.mono (by decide)) (by rfl) T.g__law_take T.F__law_take.kp (b__law_take T) (a_name (pv 0) (a_cons (e_op opr_add o_add (EE.eb (e_call1 call_len c_len (by rfl) T.n_len (by decide +kernel) (b_var (pv 3)))) (EE.eb e_int)) a_nil))))
  (sb_one (s_set (i := 3) sc__law_mixed.nd rfl (by first | exact Or.inl rfl | exact Or.inr rfl) (e_op opr_add o_add (EE.eb (e_op opr_add o_add (EE.eb (e_sl (b_var (pv 3)) o_none (o_some (b_var (pv 5))))) (b_var (pv 4)))) (EE.eb (e_sl (b_var (pv 3)) (o_some (b_var (pv 5))) o_none))))))
  sb_nil)))
  (sb_one (s_ret (e_var (pv 3))))))
end
section
variable {P : Program} {w : World} {K : PySem.W.Frag} {mg : Str → Option Value} {base : Heap}
theorem b__law_draw_step (T : Txt P w base K mg) : Binds K T.d__law_draw_step ["pen", "kept", "is_cut_before"] [] := T.F__law_draw_step.binds fun _ _ _ _ _ _ us hl => match us, hl with | [_, _, _], _ => rfl
theorem ok__law_draw_step (T : Txt P w base K mg) : FnOk P w K mg base CX0 4 T.a__law_draw_step T.d__law_draw_step ["pen", "kept", "is_cut_before"] (spW K w__law_draw_step_v1) := ok_fn (N := N__law_draw_step) (k := 3) T.F__law_draw_step sc__law_draw_step fun cdv A outer s H E hr => 
  (sb_cons (s_set (i := 3) sc__law_draw_step.nd rfl (by first | exact Or.inl rfl | exact Or.inr rfl) (e_call (ok__law_take T) (hr.mono (by decide)) (by rfl) T.g__law_take T.F__law_take.kp (b__law_take T) (a_name (pv 0) (a_cons e_int a_nil))))
  (sb_cons (s_if (PW.pt (tw_and (t_cmp op_lt o_intB (b_var (pv 3)) (EE.eb e_int) (nomark _)) (pw_and1 (t_not (t_tru (b_var (pv 2)) (by intro _; rfl))))))
  (sb_one (s_ret (e_tup (d_cons (e_ix (EE.eb (EF.ee (f_lst (d_cons e_str (d_cons e_str (d_cons e_str (d_cons e_str d_nil))))))) (b_var (pv 3)) (fun _ _ => rfl)) (d_cons (e_call (ok__law_mixed T) (hr.mono (by decide)) (by rfl) T.g__law_mixed T.F__law_mixed.kp (b__law_mixed T) (a_name (pv 0) (a_name (pv 1) (a_cons e_int a_nil)))) d_nil)))))
  sb_nil)
  (sb_cons (s_if (t_cmp op_lt o_intB (b_var (pv 3)) (EE.eb e_int) (nomark _))
  (sb_one (s_ret (e_tup (d_cons e_str (d_cons (e_call (ok__law_one_of T) (hr.mono (by decide)) (by rfl) T.g__law_one_of T.F__law_one_of.kp (b__law_one_of T) (a_name (pv 0) (a_name (pv 1) a_nil))) (d_cons (e_call (ok__law_one_of T) (hr.mono (by decide)) (by rfl) T.g__law_one_of T.F__law_one_of.kp (b__law_one_of T) (a_name (pv 0) (a_cons (EF.ee (f_lst (d_cons e_int (d_cons e_int (d_cons e_int (d_cons e_int (d_cons e_int (d_cons e_int (d_cons e_int (d_cons (e_neg (EE.eb e_int)) (d_cons (e_neg (EE.eb e_int)) (d_cons e_int d_nil)))))))))))) a_nil))) d_nil))))))
  sb_nil)
  (sb_cons (s_if (t_cmp (op_eq2 (hu64 hr)) o_eq2 (b_var (pv 3)) (EE.eb e_int) (nomark _))
  (sb_one (s_ret (e_tup (d_cons e_str (d_cons (e_or (e_call (ok__law_some T) (hr.mono (by decide)) (by rfl) T.g__law_some T.F__law_some.kp (b__law_some T) (a_name (pv 0) (a_name (pv 1) a_nil))) (e_one (e_call (ok__law_one_of T) (hr.mono (by decide)) (by rfl) T.g__law_one_of T.F__law_one_of.kp (b__law_one_of T) (a_name (pv 0) (a_name (pv 1) a_nil))))) d_nil)))))
  sb_nil)
  (sb_one (s_ret (e_tup (d_cons (e_ix (EE.eb (EF.ee (f_lst (d_cons e_str (d_cons e_str d_nil))))) (EE.eb (e_op op_sub o_int0 (b_var (pv 3)) (EE.eb e_int))) (fun _ _ => rfl)) (d_cons (e_call (ok__law_one_of T) (hr.mono (by decide)) (by rfl) T.g__law_one_of T.F__law_one_of.kp (b__law_one_of T) (a_name (pv 0) (a_cons (EF.ee (f_lst (d_cons e_int (d_cons e_int (d_cons e_int (d_cons e_int (d_cons e_int (d_cons e_int (d_cons e_int (d_cons e_int d_nil)))))))))) a_nil))) d_nil)))))))))
end
section
variable {P : Program} {w : World} {K : PySem.W.Frag} {mg : Str → Option Value} {base : Heap}
theorem b__law_draw_report (T : Txt P w base K mg) : Binds K T.d__law_draw_report ["pen", "schema", "most", "with_groups"] [] := T.F__law_draw_report.binds fun _ _ _ _ _ _ us hl => match us, hl with | [_, _, _, _], _ => rfl
theorem ok__law_draw_report (T : Txt P w base K mg) : FnOk P w K mg base CX0 5 T.a__law_draw_report T.d__law_draw_report ["pen", "schema", "most", "with_groups"] (spW K w__law_draw_report_v1) := ok_fn (N := N__law_draw_report) (k := 4) T.F__law_draw_report sc__law_draw_report fun cdv A outer s H E hr => 
  (sb_cons (s_parF3 rfl sc__law_draw_report.nd (i := 4) (j := 5) (l := 6) rfl rfl rfl (by decide) (by decide) (by decide) rfl rfl rfl (f_lst d_nil) (e_ix (b_var (pv 1)) (EE.eb e_int) (fun _ _ => rfl)) e_bl (by rfl))
  (sb_cons (s_for PassesOwn.never rfl (i_rng1 false (by rfl) T.n_range (EE.eb (e_call (ok__law_take T) (hr.mono (by decide)) (by rfl) T.g__law_take T.F__law_take.kp (b__law_take T) (a_name (pv 0) (a_cons (e_op opr_add o_add (b_var (pv 2)) (EE.eb e_int)) a_nil))))) (g_nm sc__law_draw_report.nd rfl (by first | exact Or.inl rfl | exact Or.inr rfl))
  (sb_cons (s_set (i := 8) sc__law_draw_report.nd rfl (by first | exact Or.inl rfl | exact Or.inr rfl) (e_call (ok__law_draw_step T) (hr.mono (by decide)) (by rfl) T.g__law_draw_step T.F__law_draw_step.kp (b__law_draw_step T) (a_name (pv 0) (a_name (pv 5) (a_name (pv 6) a_nil)))))
  (sb_cons (s_set (i := 5) sc__law_draw_report.nd rfl (by first | exact Or.inl rfl | exact Or.inr rfl) (e_if (t_cmp (op_eq2 (hu64 hr)) o_eq2 (EE.eb (e_ix (b_var (pv 8)) (EE.eb e_int) (fun _ _ => rfl))) (EE.eb e_str) (nomark _)) (e_ix (b_var (pv 8)) (EE.eb e_int) (fun _ _ => rfl)) (e_var (pv 5))))
  (sb_cons (s_set (i := 6) sc__law_draw_report.nd rfl (by first | exact Or.inl rfl | exact Or.inr rfl) (e_or (e_var (pv 6)) (e_one (e_cmp (opr_in2 (hu64 hr)) o_in2 (EE.eb (e_ix (b_var (pv 8)) (EE.eb e_int) (fun _ _ => rfl))) (EE.eb (e_tup (d_cons e_str (d_cons e_str d_nil)))) (by rfl)))))
  (sb_one (s_app (pv 4) (e_var (pv 8))))))))
  (sb_cons (s_if (PW.pt (tw_and (t_tru (b_var (pv 3)) (by intro _; rfl)) (tw_and (t_cmp op_lt o_intB (EE.eb (e_call1 call_len c_len (by rfl) T.n_len (by decide +kernel) (b_var (pv 4)))) (b_var (pv 2)) (nomark _)) (pw_and1 (t_cmp (op_eq2 (hu64 hr)) o_eq2 (EE.eb (e_call (ok__law_take T) (hr.mono (by decide)) (by rfl) T.g__law_take T.F__law_take.kp (b__law_take T) (a_name (pv 0) (a_cons e_int a_nil)))) (EE.eb e_int) (nomark _))))))
  (sb_cons (s_set (i := 9) sc__law_draw_report.nd rfl (by first | exact Or.inl rfl | exact Or.inr rfl) (e_or (e_call (ok__law_some T) (hr.mono (by decide)) (by rfl) T.g__law_some T.F__law_some.kp (b__law_some T) (a_name (pv 0) (a_name (pv 5) a_nil))) (e_one (e_call (ok__law_one_of T) (hr.mono (by decide)) (by rfl) T.g__law_one_of T.F__law_one_of.kp (b__law_one_of T) (a_name (pv 0) (a_name (pv 5) a_nil))))))
  (sb_cons (s_setLc (i := 10) (own := [("column", 12)]) (g := (.nm 12)) rfl sc__law_draw_report.nd rfl rfl (sw_true rfl rfl rfl (by decide +kernel)) (i_seqB (b_var (pv 5))) (blkOk_by (N := N__law_draw_report) (sc := defScope s__law_draw_report) (by decide +kernel)) (by simp [Tg.slots]) (fun _ _ _ _ _ => (g_nm sc__law_draw_report.nd rfl (by first | exact Or.inl rfl | exact Or.inr rfl))) (fun _ _ _ _ _ => (ts_one (t_cmp (opr_ni2 (hu64 hr)) o_ni2 (b_var (pv 12)) (b_var (pv 9)) (by rfl)))) (fun _ _ _ _ _ => (e_var (pv 12))))
  (sb_cons (s_set (i := 11) sc__law_draw_report.nd rfl (by first | exact Or.inl rfl | exact Or.inr rfl) (e_call (ok__law_one_of T) (hr.mono (by decide)) (by rfl) T.g__law_one_of T.F__law_one_of.kp (b__law_one_of T) (a_name (pv 0) (a_cons (e_if (t_cmp (opr_ne2 (hu64 hr)) o_ne2 (b_var (pv 10)) (EE.eb (EF.ee (f_lst d_nil))) (nomark _)) (EF.ee (f_lst (d_cons e_str (d_cons e_str (d_cons e_str d_nil))))) (EF.ee (f_lst (d_cons e_str (d_cons e_str d_nil))))) a_nil))))
  (sb_one (s_app (pv 4) (e_if (t_cmp (op_eq2 (hu64 hr)) o_eq2 (b_var (pv 11)) (EE.eb e_str) (nomark _)) (e_tup (d_cons (e_var (pv 11)) (d_cons (e_var (pv 9)) (d_cons (e_call (ok__law_one_of T) (hr.mono (by decide)) (by rfl) T.g__law_one_of T.F__law_one_of.kp (b__law_one_of T) (a_name (pv 0) (a_name (pv 10) a_nil))) d_nil)))) (e_tup (d_cons (e_var (pv 11)) (d_cons (e_var (pv 9)) d_nil)))))))))
  sb_nil)
  (sb_one (s_ret (e_ty1 (call_tupA rfl) c_tupA (by rfl) T.n_tuple (by decide +kernel) (b_var (pv 4))))))))
end
section
variable {P : Program} {w : World} {K : PySem.W.Frag} {mg : Str → Option Value} {base : Heap}
theorem b__law_wider (T : Txt P w base K mg) : Binds K T.d__law_wider ["pen", "schema"] [] := T.F__law_wider.binds fun _ _ _ _ _ _ us hl => match us, hl with | [_, _], _ => rfl
theorem ok__law_wider (T : Txt P w base K mg) : FnOk P w K mg base CX0 4 T.a__law_wider T.d__law_wider ["pen", "schema"] (spW K w__law_wider) := ok_fn (N := N__law_wider) (k := 3) T.F__law_wider sc__law_wider fun cdv A outer s H E hr => 
  (sb_cons (s_asg (e_var (pv 1)) (g_tp rfl (.cons (pg_name sc__law_wider.nd rfl (by first | exact Or.inl rfl | exact Or.inr rfl)) (by rfl) (.cons (pg_name sc__law_wider.nd rfl (by first | exact Or.inl rfl | exact Or.inr rfl)) (by rfl) (.cons (pg_name sc__law_wider.nd rfl (by first | exact Or.inl rfl | exact Or.inr rfl)) (by rfl) .nil)))))
  (sb_pickOne (ip := 0) (ic := 2) (ir := 5) sc__law_wider.nd rfl (by first | exact Or.inl rfl | exact Or.inr (Or.inl rfl)) rfl (by first | exact Or.inl rfl | exact Or.inr (Or.inl rfl)) rfl rfl (one__law_one_of T) (hr.mono (by decide)) (by rfl) T.g__law_one_of T.F__law_one_of.kp (b__law_one_of T) rfl
  (psr_par rfl sc__law_wider.nd (i := 6) (j := 7) rfl rfl (by decide) rfl rfl (per_tup (dar_cons (per_call (ip := 0) (per_repl (ic := 2) rfl (by first | exact Or.inl rfl | exact Or.inr (Or.inl rfl))) rfl (by first | exact Or.inl rfl | exact Or.inr (Or.inl rfl)) (ok__law_some T) (hr.mono (by decide)) (by rfl) T.g__law_some T.F__law_some.kp (b__law_some T)) (d_cons (e_var (pv 5)) d_nil))) (e_call (ok__law_some T) (hr.mono (by decide)) (by rfl) T.g__law_some T.F__law_some.kp (b__law_some T) (a_name (pv 0) (a_name (pv 2) a_nil))) (by rfl))
  (sb_cons (s_set (i := 3) sc__law_wider.nd rfl (by first | exact Or.inl rfl | exact Or.inr rfl) (e_if (t_cmp (opr_in2 (hu64 hr)) o_in2 (b_var (pv 6)) (b_var (pv 3)) (by rfl)) (e_var (pv 3)) (e_op opr_add o_add (b_var (pv 3)) (EE.eb (e_tup (d_cons (e_var (pv 6)) d_nil))))))
  (sb_one (s_ret (e_tup (d_cons (e_var (pv 2)) (d_cons (e_var (pv 3)) (d_cons (e_if (PW.pt (tw_or (t_cmp (op_eq2 (hu64 hr)) o_eq2 (b_var (pv 7)) (EE.eb e_str) (nomark _)) (pw_or1 (t_cmp (opr_in2 (hu64 hr)) o_in2 (b_var (pv 7)) (b_var (pv 4)) (by rfl))))) (e_var (pv 4)) (e_op opr_add o_add (b_var (pv 4)) (EE.eb (e_tup (d_cons (e_var (pv 7)) d_nil))))) d_nil)))))))))
end
section
variable {P : Program} {w : World} {K : PySem.W.Frag} {mg : Str → Option Value} {base : Heap}
theorem b__law_more_steps (T : Txt P w base K mg) : Binds K T.d__law_more_steps ["pen", "kept"] [] := T.F__law_more_steps.binds fun _ _ _ _ _ _ us hl => match us, hl with | [_, _], _ => rfl
theorem ok__law_more_steps (T : Txt P w base K mg) : FnOk P w K mg base CX0 4 T.a__law_more_steps T.d__law_more_steps ["pen", "kept"] (spW K w__law_more_steps) := ok_fn (N := N__law_more_steps) (k := 3) T.F__law_more_steps sc__law_more_steps fun cdv A outer s H E hr => 
  (sb_cons (s_asg (e_tup (d_cons (e_call (ok__law_one_of T) (hr.mono (by decide)) (by rfl) T.g__law_one_of T.F__law_one_of.kp (b__law_one_of T) (a_name (pv 0) (a_name (pv 1) a_nil))) (d_cons (e_or (e_call (ok__law_some T) (hr.mono (by decide)) (by rfl) T.g__law_some T.F__law_some.kp (b__law_some T) (a_name (pv 0) (a_name (pv 1) a_nil))) (e_one (e_ix (b_var (pv 1)) (EE.eb e_int) (fun _ _ => rfl)))) d_nil))) (g_tp rfl (.cons (pg_name sc__law_more_steps.nd rfl (by first | exact Or.inl rfl | exact Or.inr rfl)) (by rfl) (.cons (pg_name sc__law_more_steps.nd rfl (by first | exact Or.inl rfl | exact Or.inr rfl)) (by rfl) .nil))))
  (sb_cons (s_set (i := 4) sc__law_more_steps.nd rfl (by first | exact Or.inl rfl | exact Or.inr rfl) (EF.ee (f_lst (d_cons (e_tup (d_cons e_str (d_cons (e_var (pv 2)) (d_cons (e_call (ok__law_take T) (hr.mono (by decide)) (by rfl) T.g__law_take T.F__law_take.kp (b__law_take T) (a_name (pv 0) (a_cons e_int a_nil))) d_nil)))) (d_cons (e_tup (d_cons e_str (d_cons (e_call (ok__law_take T) (hr.mono (by decide)) (by rfl) T.g__law_take T.F__law_take.kp (b__law_take T) (a_name (pv 0) (a_cons e_int a_nil))) d_nil))) (d_cons (e_tup (d_cons e_str (d_cons (e_call (ok__law_take T) (hr.mono (by decide)) (by rfl) T.g__law_take T.F__law_take.kp (b__law_take T) (a_name (pv 0) (a_cons e_int a_nil))) d_nil))) d_nil))))))
  (sb_cons (s_set (i := 4) sc__law_more_steps.nd rfl (by first | exact Or.inl rfl | exact Or.inr rfl) (e_op opr_add o_add (b_var (pv 4)) (EE.eb (EF.ee (f_lst (d_cons (e_tup (d_cons e_str (d_cons (e_var (pv 3)) d_nil))) (d_cons (e_tup (d_cons e_str (d_cons (e_var (pv 3)) d_nil))) (d_cons (e_tup (d_cons e_str (d_cons (e_var (pv 3)) d_nil))) d_nil))))))))
  (sb_cons (s_setLc (i := 5) (own := [("one", 6)]) (g := (.nm 6)) rfl sc__law_more_steps.nd rfl rfl (sw_true rfl rfl rfl (by decide +kernel)) (i_seqB (b_var (pv 1))) (blkOk_by (N := N__law_more_steps) (sc := defScope s__law_more_steps) (by decide +kernel)) (by simp [Tg.slots]) (fun _ _ _ _ _ => (g_nm sc__law_more_steps.nd rfl (by first | exact Or.inl rfl | exact Or.inr rfl))) (fun _ _ _ _ _ => (ts_one (t_cmp (opr_ni2 (hu64 hr)) o_ni2 (b_var (pv 6)) (b_var (pv 3)) (by rfl)))) (fun _ _ _ _ _ => (e_var (pv 6))))
  (sb_one (s_ret (e_op opr_add o_add (b_var (pv 4)) (EE.eb (EF.ee (f_lc (own := [("one", 6)]) (g := (.nm 6)) rfl sc__law_more_steps.nd (i_seqB (b_var (pv 5))) (blkOk_by (N := N__law_more_steps) (sc := defScope s__law_more_steps) (by decide +kernel)) (by simp [Tg.slots]) (fun _ _ _ _ _ => (g_nm sc__law_more_steps.nd rfl (by first | exact Or.inl rfl | exact Or.inr rfl))) (fun _ _ _ _ _ => ts_nil) (fun _ _ _ _ _ => (e_tup (d_cons e_str (d_cons (e_var (pv 3)) (d_cons (e_var (pv 6)) d_nil)))))))))))))))
end
section
variable {P : Program} {w : World} {K : PySem.W.Frag} {mg : Str → Option Value} {base : Heap}
theorem b_is_column_set (T : Txt P w base K mg) : Binds K T.d_is_column_set ["columns", "value"] [] := T.F_is_column_set.binds fun _ _ _ _ _ _ us hl => match us, hl with | [_, _], _ => rfl
theorem ok_is_column_set (T : Txt P w base K mg) : FnOk P w K mg base CX0 2 T.a_is_column_set T.d_is_column_set ["columns", "value"] (spW K w_is_column_set) := ok_fn (N := N_is_column_set) (k := 1) T.F_is_column_set sc_is_column_set fun cdv A outer s H E hr => 
  (sb_cons (s_if (PW.pt (tw_or (t_not (t_tru (EE.eb (e_isi kit_str (by rfl) T.n_isinstance (b_var (pv 1)) (pe_bltn (by rfl) T.n_str (by decide +kernel) rfl))) (by intro _; rfl))) (pw_or1 (t_cmp op_gt o_intB (EE.eb (e_call1 call_len c_len (by rfl) T.n_len (by decide +kernel) (b_var (pv 1)))) (EE.eb (e_call1 call_len c_len (by rfl) T.n_len (by decide +kernel) (b_var (pv 0)))) (nomark _)))))
  (sb_one (s_ret e_bl))
  sb_nil)
  (sb_one (s_ret (e_cmp (op_eq2 (hu64 hr)) o_eq2 (b_var (pv 1)) (EE.eb (e_call (ok_common T) (hr.mono (by decide)) (by rfl) T.g_common T.F_common.kp (b_common T) (a_name (pv 0) (a_name (pv 1) a_nil)))) (nomark _)))))
end
section
variable {P : Program} {w : World} {K : PySem.W.Frag} {mg : Str → Option Value} {base : Heap}
theorem b_is_column (T : Txt P w base K mg) : Binds K T.d_is_column ["columns", "value"] [] := T.F_is_column.binds fun _ _ _ _ _ _ us hl => match us, hl with | [_, _], _ => rfl
theorem ok_is_column (T : Txt P w base K mg) : FnOk P w K mg base CX0 1 T.a_is_column T.d_is_column ["columns", "value"] (spW K w_is_column) := ok_fn (N := N_is_column) (k := 0) T.F_is_column sc_is_column fun cdv A outer s H E hr => 
  (sb_one (s_ret (e_and (e_isi kit_str (by rfl) T.n_isinstance (b_var (pv 1)) (pe_bltn (by rfl) T.n_str (by decide +kernel) rfl)) (e_and (e_cmp (op_eq2 (hu64 hr)) o_eq2 (EE.eb (e_call1 call_len c_len (by rfl) T.n_len (by decide +kernel) (b_var (pv 1)))) (EE.eb e_int) (nomark _)) (e_one (e_cmp (opr_in2 (hu64 hr)) o_in2 (b_var (pv 1)) (b_var (pv 0)) (by rfl)))))))
end
section
variable {P : Program} {w : World} {K : PySem.W.Frag} {mg : Str → Option Value} {base : Heap}
theorem b__is_rule (T : Txt P w base K mg) : Binds K T.d__is_rule ["columns", "value"] [] := T.F__is_rule.binds fun _ _ _ _ _ _ us hl => match us, hl with | [_, _], _ => rfl
theorem ok__is_rule (T : Txt P w base K mg) : FnOk P w K mg base CX0 3 T.a__is_rule T.d__is_rule ["columns", "value"] (spW K w__is_rule) := ok_fn (N := N__is_rule) (k := 2) T.F__is_rule sc__is_rule fun cdv A outer s H E hr => 
  (sb_cons (s_if (PW.pt (tw_or (t_not (t_tru (EE.eb (e_isi kit_tuple (by rfl) T.n_isinstance (b_var (pv 1)) (pe_bltn (by rfl) T.n_tuple (by decide +kernel) rfl))) (by intro _; rfl))) (pw_or1 (t_cmp (opr_ne2 (hu64 hr)) o_ne2 (EE.eb (e_call1 call_len c_len (by rfl) T.n_len (by decide +kernel) (b_var (pv 1)))) (EE.eb e_int) (nomark _)))))
  (sb_one (s_ret e_bl))
  sb_nil)
  (sb_cons (s_asg (e_var (pv 1)) (g_tp rfl (.cons (pg_name sc__is_rule.nd rfl (by first | exact Or.inl rfl | exact Or.inr rfl)) (by rfl) (.cons (pg_name sc__is_rule.nd rfl (by first | exact Or.inl rfl | exact Or.inr rfl)) (by rfl) .nil))))
  (sb_one (s_ret (e_and (e_call (ok_is_column_set T) (hr.mono (by decide)) (by rfl) T.g_is_column_set T.F_is_column_set.kp (b_is_column_set T) (a_name (pv 0) (a_name (pv 2) a_nil))) (e_and (e_call (ok_is_column T) (hr.mono (by decide)) (by rfl) T.g_is_column T.F_is_column.kp (b_is_column T) (a_name (pv 0) (a_name (pv 3) a_nil))) (e_one (e_cmp (opr_ni2 (hu64 hr)) o_ni2 (b_var (pv 3)) (b_var (pv 2)) (by rfl)))))))))
end
section
variable {P : Program} {w : World} {K : PySem.W.Frag} {mg : Str → Option Value} {base : Heap}
theorem b__are_rules (T : Txt P w base K mg) : Binds K T.d__are_rules ["columns", "value"] [] := T.F__are_rules.binds fun _ _ _ _ _ _ us hl => match us, hl with | [_, _], _ => rfl
theorem ok__are_rules (T : Txt P w base K mg) : FnOk P w K mg base CX0 4 T.a__are_rules T.d__are_rules ["columns", "value"] (spW K w__are_rules) := ok_fn (N := N__are_rules) (k := 3) T.F__are_rules sc__are_rules fun cdv A outer s H E hr => 
  (sb_cons (s_if (PW.pt (tw_or (t_not (t_tru (EE.eb (e_isi kit_tuple (by rfl) T.n_isinstance (b_var (pv 1)) (pe_bltn (by rfl) T.n_tuple (by decide +kernel) rfl))) (by intro _; rfl))) (pw_or1 (t_not (t_tru (EE.eb (e_call1 (cr_all rfl) c_all (by rfl) T.n_all (by decide +kernel) (EE.eb (EF.ee (f_lc (own := [("rule", 2)]) (g := (.nm 2)) rfl sc__are_rules.nd (i_seqB (b_var (pv 1))) (blkOk_by (N := N__are_rules) (sc := defScope s__are_rules) (by decide +kernel)) (by simp [Tg.slots]) (fun _ _ _ _ _ => (g_nm sc__are_rules.nd rfl (by first | exact Or.inl rfl | exact Or.inr rfl))) (fun _ _ _ _ _ => ts_nil) (fun _ _ _ _ _ => (e_call (ok__is_rule T) (hr.mono (by decide)) (by rfl) T.g__is_rule T.F__is_rule.kp (b__is_rule T) (a_name (pv 0) (a_name (pv 2) a_nil))))))))) (by intro _; rfl))))))
  (sb_one (s_ret e_bl))
  sb_nil)
  (sb_one (s_ret (e_cmp (op_eq2 (hu64 hr)) o_eq2 (EE.eb (e_lenSet2 (hu64 hr) rfl (by rfl) T.n_len (by rfl) T.n_set (b_var (pv 1)))) (EE.eb (e_call1 call_len c_len (by rfl) T.n_len (by decide +kernel) (b_var (pv 1)))) (nomark _)))))
end
section
variable {P : Program} {w : World} {K : PySem.W.Frag} {mg : Str → Option Value} {base : Heap}
theorem b__are_keys (T : Txt P w base K mg) : Binds K T.d__are_keys ["columns", "value"] [] := T.F__are_keys.binds fun _ _ _ _ _ _ us hl => match us, hl with | [_, _], _ => rfl
theorem ok__are_keys (T : Txt P w base K mg) : FnOk P w K mg base CX0 3 T.a__are_keys T.d__are_keys ["columns", "value"] (spW K w__are_keys) := ok_fn (N := N__are_keys) (k := 2) T.F__are_keys sc__are_keys fun cdv A outer s H E hr => 
  (sb_cons (s_if (PW.pt (tw_or (t_not (t_tru (EE.eb (e_isi kit_tuple (by rfl) T.n_isinstance (b_var (pv 1)) (pe_bltn (by rfl) T.n_tuple (by decide +kernel) rfl))) (by intro _; rfl))) (pw_or1 (t_not (t_tru (EE.eb (e_call1 (cr_all rfl) c_all (by rfl) T.n_all (by decide +kernel) (EE.eb (EF.ee (f_lc (own := [("key", 2)]) (g := (.nm 2)) rfl sc__are_keys.nd (i_seqB (b_var (pv 1))) (blkOk_by (N := N__are_keys) (sc := defScope s__are_keys) (by decide +kernel)) (by simp [Tg.slots]) (fun _ _ _ _ _ => (g_nm sc__are_keys.nd rfl (by first | exact Or.inl rfl | exact Or.inr rfl))) (fun _ _ _ _ _ => ts_nil) (fun _ _ _ _ _ => (e_call (ok_is_column_set T) (hr.mono (by decide)) (by rfl) T.g_is_column_set T.F_is_column_set.kp (b_is_column_set T) (a_name (pv 0) (a_name (pv 2) a_nil))))))))) (by intro _; rfl))))))
  (sb_one (s_ret e_bl))
  sb_nil)
  (sb_one (s_ret (e_and (e_cmp (opr_ni2 (hu64 hr)) o_ni2 (EE.eb e_str) (b_var (pv 1)) (by rfl)) (e_one (e_cmp (op_eq2 (hu64 hr)) o_eq2 (EE.eb (e_lenSet2 (hu64 hr) rfl (by rfl) T.n_len (by rfl) T.n_set (b_var (pv 1)))) (EE.eb (e_call1 call_len c_len (by rfl) T.n_len (by decide +kernel) (b_var (pv 1)))) (nomark _)))))))
end
section
variable {P : Program} {w : World} {K : PySem.W.Frag} {mg : Str → Option Value} {base : Heap}
theorem b_is_schema (T : Txt P w base K mg) : Binds K T.d_is_schema ["value"] [] := T.F_is_schema.binds fun _ _ _ _ _ _ us hl => match us, hl with | [_], _ => rfl
theorem ok_is_schema (T : Txt P w base K mg) : FnOk P w K mg base CX0 5 T.a_is_schema T.d_is_schema ["value"] (spW K w_is_schema) := ok_fn (N := N_is_schema) (k := 4) T.F_is_schema sc_is_schema fun cdv A outer s H E hr => 
  (sb_cons (s_if (PW.pt (tw_or (t_not (t_tru (EE.eb (e_isi kit_tuple (by rfl) T.n_isinstance (b_var (pv 0)) (pe_bltn (by rfl) T.n_tuple (by decide +kernel) rfl))) (by intro _; rfl))) (pw_or1 (t_cmp (opr_ne2 (hu64 hr)) o_ne2 (EE.eb (e_call1 call_len c_len (by rfl) T.n_len (by decide +kernel) (b_var (pv 0)))) (EE.eb e_int) (nomark _)))))
  (sb_one (s_ret e_bl))
  sb_nil)
  (sb_cons (s_asg (e_var (pv 0)) (g_tp rfl (.cons (pg_name sc_is_schema.nd rfl (by first | exact Or.inl rfl | exact Or.inr rfl)) (by rfl) (.cons (pg_name sc_is_schema.nd rfl (by first | exact Or.inl rfl | exact Or.inr rfl)) (by rfl) (.cons (pg_name sc_is_schema.nd rfl (by first | exact Or.inl rfl | exact Or.inr rfl)) (by rfl) .nil)))))
  (sb_cons (s_if (PW.pt (tw_or (t_not (t_tru (EE.eb (e_call (ok_is_column_set T) (hr.mono (by decide)) (by rfl) T.g_is_column_set T.F_is_column_set.kp (b_is_column_set T) (a_cons (e_glo (by rfl) T.k_LETTERS (fun _ => rv_LETTERS T)) (a_name (pv 1) a_nil)))) (by intro _; rfl))) (pw_or1 (t_not (t_chain op_le op_le o_intB o_intB (EE.eb e_int) (EE.eb (e_call1 call_len c_len (by rfl) T.n_len (by decide +kernel) (b_var (pv 1)))) (EE.eb (e_glo (by rfl) T.k_MOST_COLUMNS (fun _ => rv_MOST_COLUMNS T))))))))
  (sb_one (s_ret e_bl))
  sb_nil)
  (sb_one (s_ret (e_and (e_call (ok__are_rules T) (hr.mono (by decide)) (by rfl) T.g__are_rules T.F__are_rules.kp (b__are_rules T) (a_name (pv 1) (a_name (pv 2) a_nil))) (e_one (e_call (ok__are_keys T) (hr.mono (by decide)) (by rfl) T.g__are_keys T.F__are_keys.kp (b__are_keys T) (a_name (pv 1) (a_name (pv 3) a_nil))))))))))
end
section
variable {P : Program} {w : World} {K : PySem.W.Frag} {mg : Str → Option Value} {base : Heap}
theorem b_is_weaker (T : Txt P w base K mg) : Binds K T.d_is_weaker ["knowledge", "other"] [] := T.F_is_weaker.binds fun _ _ _ _ _ _ us hl => match us, hl with | [_, _], _ => rfl
theorem ok_is_weaker (T : Txt P w base K mg) : FnOk P w K mg base CX0 2 T.a_is_weaker T.d_is_weaker ["knowledge", "other"] (spW K w_is_weaker) := ok_fn (N := N_is_weaker) (k := 1) T.F_is_weaker sc_is_weaker fun cdv A outer s H E hr => 
  (sb_cons (s_if (PW.pt (tw_or (t_cmp (op_eq2 (hu64 hr)) o_eq2 (b_var (pv 0)) (EE.eb (e_glo (by rfl) T.k_EMPTY (fun _ => rv_EMPTY T))) (nomark _)) (pw_or1 (t_cmp (op_eq2 (hu64 hr)) o_eq2 (b_var (pv 1)) (EE.eb (e_glo (by rfl) T.k_EMPTY (fun _ => rv_EMPTY T))) (nomark _)))))
  (sb_one (s_ret (e_cmp (op_eq2 (hu64 hr)) o_eq2 (b_var (pv 1)) (EE.eb (e_glo (by rfl) T.k_EMPTY (fun _ => rv_EMPTY T))) (nomark _))))
  sb_nil)
  (sb_cons (s_asg (e_var (pv 0)) (g_tp rfl (.cons (pg_name sc_is_weaker.nd rfl (by first | exact Or.inl rfl | exact Or.inr rfl)) (by rfl) (.cons (pg_name sc_is_weaker.nd rfl (by first | exact Or.inl rfl | exact Or.inr rfl)) (by rfl) (.cons (pg_name sc_is_weaker.nd rfl (by first | exact Or.inl rfl | exact Or.inr rfl)) (by rfl) (.cons (pg_name sc_is_weaker.nd rfl (by first | exact Or.inl rfl | exact Or.inr rfl)) (by rfl) (.cons (pg_name sc_is_weaker.nd rfl (by first | exact Or.inl rfl | exact Or.inr rfl)) (by rfl) .nil)))))))
  (sb_cons (s_asg (e_var (pv 1)) (g_tp rfl (.cons (pg_name sc_is_weaker.nd rfl (by first | exact Or.inl rfl | exact Or.inr rfl)) (by rfl) (.cons (pg_name sc_is_weaker.nd rfl (by first | exact Or.inl rfl | exact Or.inr rfl)) (by rfl) (.cons (pg_name sc_is_weaker.nd rfl (by first | exact Or.inl rfl | exact Or.inr rfl)) (by rfl) (.cons (pg_name sc_is_weaker.nd rfl (by first | exact Or.inl rfl | exact Or.inr rfl)) (by rfl) (.cons (pg_name sc_is_weaker.nd rfl (by first | exact Or.inl rfl | exact Or.inr rfl)) (by rfl) .nil)))))))
  (sb_cons (s_if (t_not (t_tru (EE.eb (e_call1 (cr_all rfl) c_all (by rfl) T.n_all (by decide +kernel) (EE.eb (EF.ee (f_lc (own := [("pair", 12)]) (g := (.nm 12)) rfl sc_is_weaker.nd (i_seqB (b_var (pv 2))) (blkOk_by (N := N_is_weaker) (sc := defScope s_is_weaker) (by decide +kernel)) (by simp [Tg.slots]) (fun _ _ _ _ _ => (g_nm sc_is_weaker.nd rfl (by first | exact Or.inl rfl | exact Or.inr rfl))) (fun _ _ _ _ _ => ts_nil) (fun _ _ _ _ _ => (e_cmp (opr_in2 (hu64 hr)) o_in2 (b_var (pv 12)) (b_var (pv 7)) (by rfl)))))))) (by intro _; rfl)))
  (sb_one (s_ret e_bl))
  sb_nil)
  (sb_cons (s_if (PW.pt (tw_or (t_not (t_tru (EE.eb (e_startswith (b_var (pv 8)) (b_var (pv 3)))) (by intro _; rfl))) (pw_or1 (t_not (t_tru (EE.eb (e_call (ok_contains T) (hr.mono (by decide)) (by rfl) T.g_contains T.F_contains.kp (b_contains T) (a_name (pv 9) (a_name (pv 4) a_nil)))) (by intro _; rfl))))))
  (sb_one (s_ret e_bl))
  sb_nil)
  (sb_cons (s_if (PW.pt (tw_and (t_tru (b_var (pv 5)) (by intro _; rfl)) (pw_and1 (t_not (t_tru (b_var (pv 10)) (by intro _; rfl))))))
  (sb_one (s_ret e_bl))
  sb_nil)
  (sb_one (s_ret (e_or (e_cmp opr_is o_is (b_var (pv 6)) (EE.eb e_non) (nomark _)) (e_one (e_and (e_cmp opr_ns o_ns (b_var (pv 11)) (EE.eb e_non) (nomark _)) (e_one (e_cmp op_le o_intB (b_var (pv 11)) (b_var (pv 6)) (nomark _))))))))))))))
end
section
variable {P : Program} {w : World} {K : PySem.W.Frag} {mg : Str → Option Value} {base : Heap}
theorem b_is_plain_integer (T : Txt P w base K mg) : Binds K T.d_is_plain_integer ["value"] [] := T.F_is_plain_integer.binds fun _ _ _ _ _ _ us hl => match us, hl with | [_], _ => rfl
theorem ok_is_plain_integer (T : Txt P w base K mg) : FnOk P w K mg base CX0 1 T.a_is_plain_integer T.d_is_plain_integer ["value"] (spW K w_is_plain_integer) := ok_fn (N := N_is_plain_integer) (k := 0) T.F_is_plain_integer sc_is_plain_integer fun cdv A outer s H E hr => 
  (sb_one (s_ret (e_and (e_isi kit_int (by rfl) T.n_isinstance (b_var (pv 0)) (pe_bltn (by rfl) T.n_int (by decide +kernel) rfl)) (e_one (e_not (EE.eb (e_isi kit_bool (by rfl) T.n_isinstance (b_var (pv 0)) (pe_bltn (by rfl) T.n_bool (by decide +kernel) rfl))))))))
end
section
variable {P : Program} {w : World} {K : PySem.W.Frag} {mg : Str → Option Value} {base : Heap}
theorem b__is_bound (T : Txt P w base K mg) : Binds K T.d__is_bound ["value"] [] := T.F__is_bound.binds fun _ _ _ _ _ _ us hl => match us, hl with | [_], _ => rfl
theorem ok__is_bound (T : Txt P w base K mg) : FnOk P w K mg base CX0 2 T.a__is_bound T.d__is_bound ["value"] (spW K w__is_bound) := ok_fn (N := N__is_bound) (k := 1) T.F__is_bound sc__is_bound fun cdv A outer s H E hr => 
  (sb_one (s_ret (e_or (e_cmp opr_is o_is (b_var (pv 0)) (EE.eb e_non) (nomark _)) (e_one (e_and (e_call (ok_is_plain_integer T) (hr.mono (by decide)) (by rfl) T.g_is_plain_integer T.F_is_plain_integer.kp (b_is_plain_integer T) (a_name (pv 0) a_nil)) (e_one (e_cmp op_ge o_intB (b_var (pv 0)) (EE.eb e_int) (nomark _))))))))
end
section
variable {P : Program} {w : World} {K : PySem.W.Frag} {mg : Str → Option Value} {base : Heap}
theorem b__is_constant (T : Txt P w base K mg) : Binds K T.d__is_constant ["columns", "value"] [] := T.F__is_constant.binds fun _ _ _ _ _ _ us hl => match us, hl with | [_, _], _ => rfl
theorem ok__is_constant (T : Txt P w base K mg) : FnOk P w K mg base CX0 2 T.a__is_constant T.d__is_constant ["columns", "value"] (spW K w__is_constant) := ok_fn (N := N__is_constant) (k := 1) T.F__is_constant sc__is_constant fun cdv A outer s H E hr => 
  (sb_cons (s_if (PW.pt (tw_or (t_not (t_tru (EE.eb (e_isi kit_tuple (by rfl) T.n_isinstance (b_var (pv 1)) (pe_bltn (by rfl) T.n_tuple (by decide +kernel) rfl))) (by intro _; rfl))) (pw_or1 (t_cmp (opr_ne2 (hu64 hr)) o_ne2 (EE.eb (e_call1 call_len c_len (by rfl) T.n_len (by decide +kernel) (b_var (pv 1)))) (EE.eb e_int) (nomark _)))))
  (sb_one (s_ret e_bl))
  sb_nil)
  (sb_one (s_ret (e_and (e_call (ok_is_column T) (hr.mono (by decide)) (by rfl) T.g_is_column T.F_is_column.kp (b_is_column T) (a_name (pv 0) (a_cons (e_ix (b_var (pv 1)) (EE.eb e_int) (fun _ _ => rfl)) a_nil))) (e_one (e_call (ok_is_plain_integer T) (hr.mono (by decide)) (by rfl) T.g_is_plain_integer T.F_is_plain_integer.kp (b_is_plain_integer T) (a_cons (e_ix (b_var (pv 1)) (EE.eb e_int) (fun _ _ => rfl)) a_nil)))))))
end
section
variable {P : Program} {w : World} {K : PySem.W.Frag} {mg : Str → Option Value} {base : Heap}
theorem b__are_constants (T : Txt P w base K mg) : Binds K T.d__are_constants ["columns", "value"] [] := T.F__are_constants.binds fun _ _ _ _ _ _ us hl => match us, hl with | [_, _], _ => rfl
theorem ok__are_constants (T : Txt P w base K mg) : FnOk P w K mg base CX0 3 T.a__are_constants T.d__are_constants ["columns", "value"] (spW K w__are_constants) := ok_fn (N := N__are_constants) (k := 2) T.F__are_constants sc__are_constants fun cdv A outer s H E hr => 
  (sb_cons (s_if (PW.pt (tw_or (t_not (t_tru (EE.eb (e_isi kit_tuple (by rfl) T.n_isinstance (b_var (pv 1)) (pe_bltn (by rfl) T.n_tuple (by decide +kernel) rfl))) (by intro _; rfl))) (pw_or1 (t_not (t_tru (EE.eb (e_call1 (cr_all rfl) c_all (by rfl) T.n_all (by decide +kernel) (EE.eb (EF.ee (f_lc (own := [("pair", 2)]) (g := (.nm 2)) rfl sc__are_constants.nd (i_seqB (b_var (pv 1))) (blkOk_by (N := N__are_constants) (sc := defScope s__are_constants) (by decide +kernel)) (by simp [Tg.slots]) (fun _ _ _ _ _ => (g_nm sc__are_constants.nd rfl (by first | exact Or.inl rfl | exact Or.inr rfl))) (fun _ _ _ _ _ => ts_nil) (fun _ _ _ _ _ => (e_call (ok__is_constant T) (hr.mono (by decide)) (by rfl) T.g__is_constant T.F__is_constant.kp (b__is_constant T) (a_name (pv 0) (a_name (pv 2) a_nil))))))))) (by intro _; rfl))))))
  (sb_one (s_ret e_bl))
  sb_nil)
  (sb_one (s_ret (e_call (ok_is_column_set T) (hr.mono (by decide)) (by rfl) T.g_is_column_set T.F_is_column_set.kp (b_is_column_set T) (a_name (pv 0) (a_cons (e_join (EE.eb e_str) (EE.eb (EF.ee (f_lc (own := [("column", 3), ("_", 4)]) (g := (.tp [3, 4])) rfl sc__are_constants.nd (i_seqB (b_var (pv 1))) (blkOk_by (N := N__are_constants) (sc := defScope s__are_constants) (by decide +kernel)) (by simp [Tg.slots]) (fun _ _ _ _ _ => (g_tp rfl (.cons (pg_name sc__are_constants.nd rfl (by first | exact Or.inl rfl | exact Or.inr rfl)) (by rfl) (.cons (pg_name sc__are_constants.nd rfl (by first | exact Or.inl rfl | exact Or.inr rfl)) (by rfl) .nil)))) (fun _ _ _ _ _ => ts_nil) (fun _ _ _ _ _ => (e_var (pv 3))))))) a_nil))))))
end
section
variable {P : Program} {w : World} {K : PySem.W.Frag} {mg : Str → Option Value} {base : Heap}
theorem b_is_order (T : Txt P w base K mg) : Binds K T.d_is_order ["columns", "value"] [] := T.F_is_order.binds fun _ _ _ _ _ _ us hl => match us, hl with | [_, _], _ => rfl
theorem ok_is_order (T : Txt P w base K mg) : FnOk P w K mg base CX0 2 T.a_is_order T.d_is_order ["columns", "value"] (spW K w_is_order) := ok_fn (N := N_is_order) (k := 1) T.F_is_order sc_is_order fun cdv A outer s H E hr => 
  (sb_cons (s_if (PW.pt (tw_or (t_not (t_tru (EE.eb (e_isi kit_str (by rfl) T.n_isinstance (b_var (pv 1)) (pe_bltn (by rfl) T.n_str (by decide +kernel) rfl))) (by intro _; rfl))) (pw_or1 (t_cmp op_gt o_intB (EE.eb (e_call1 call_len c_len (by rfl) T.n_len (by decide +kernel) (b_var (pv 1)))) (EE.eb (e_call1 call_len c_len (by rfl) T.n_len (by decide +kernel) (b_var (pv 0)))) (nomark _)))))
  (sb_one (s_ret e_bl))
  sb_nil)
  (sb_one (s_ret (e_and (e_call1 (cr_all rfl) c_all (by rfl) T.n_all (by decide +kernel) (EE.eb (EF.ee (f_lc (own := [("column", 2)]) (g := (.nm 2)) rfl sc_is_order.nd (i_seqB (b_var (pv 1))) (blkOk_by (N := N_is_order) (sc := defScope s_is_order) (by decide +kernel)) (by simp [Tg.slots]) (fun _ _ _ _ _ => (g_nm sc_is_order.nd rfl (by first | exact Or.inl rfl | exact Or.inr rfl))) (fun _ _ _ _ _ => ts_nil) (fun _ _ _ _ _ => (e_call (ok_is_column T) (hr.mono (by decide)) (by rfl) T.g_is_column T.F_is_column.kp (b_is_column T) (a_name (pv 0) (a_name (pv 2) a_nil)))))))) (e_one (e_cmp (op_eq2 (hu64 hr)) o_eq2 (EE.eb (e_lenSet2 (hu64 hr) rfl (by rfl) T.n_len (by rfl) T.n_set (b_var (pv 1)))) (EE.eb (e_call1 call_len c_len (by rfl) T.n_len (by decide +kernel) (b_var (pv 1)))) (nomark _)))))))
end
section
variable {P : Program} {w : World} {K : PySem.W.Frag} {mg : Str → Option Value} {base : Heap}
theorem b_is_knowledge (T : Txt P w base K mg) : Binds K T.d_is_knowledge ["schema", "value"] [] := T.F_is_knowledge.binds fun _ _ _ _ _ _ us hl => match us, hl with | [_, _], _ => rfl
theorem ok_is_knowledge (T : Txt P w base K mg) : FnOk P w K mg base CX0 4 T.a_is_knowledge T.d_is_knowledge ["schema", "value"] (spW K w_is_knowledge) := ok_fn (N := N_is_knowledge) (k := 3) T.F_is_knowledge sc_is_knowledge fun cdv A outer s H E hr => 
  (sb_cons (s_if (PW.pt (tw_or (t_not (t_tru (EE.eb (e_isi kit_tuple (by rfl) T.n_isinstance (b_var (pv 1)) (pe_bltn (by rfl) T.n_tuple (by decide +kernel) rfl))) (by intro _; rfl))) (pw_or1 (t_cmp (opr_ni2 (hu64 hr)) o_ni2 (EE.eb (e_call1 call_len c_len (by rfl) T.n_len (by decide +kernel) (b_var (pv 1)))) (EE.eb (e_tup (d_cons e_int (d_cons e_int d_nil)))) (by rfl)))))
  (sb_one (s_ret e_bl))
  sb_nil)
  (sb_cons (s_if (t_cmp (op_eq2 (hu64 hr)) o_eq2 (EE.eb (e_call1 call_len c_len (by rfl) T.n_len (by decide +kernel) (b_var (pv 1)))) (EE.eb e_int) (nomark _))
  (sb_one (s_ret (e_cmp (op_eq2 (hu64 hr)) o_eq2 (b_var (pv 1)) (EE.eb (e_glo (by rfl) T.k_EMPTY (fun _ => rv_EMPTY T))) (nomark _))))
  sb_nil)
  (sb_cons (s_set (i := 2) sc_is_knowledge.nd rfl (by first | exact Or.inl rfl | exact Or.inr rfl) (e_ix (b_var (pv 0)) (EE.eb e_int) (fun _ _ => rfl)))
  (sb_cons (s_asg (e_var (pv 1)) (g_tp rfl (.cons (pg_name sc_is_knowledge.nd rfl (by first | exact Or.inl rfl | exact Or.inr rfl)) (by rfl) (.cons (pg_name sc_is_knowledge.nd rfl (by first | exact Or.inl rfl | exact Or.inr rfl)) (by rfl) (.cons (pg_name sc_is_knowledge.nd rfl (by first | exact Or.inl rfl | exact Or.inr rfl)) (by rfl) (.cons (pg_name sc_is_knowledge.nd rfl (by first | exact Or.inl rfl | exact Or.inr rfl)) (by rfl) (.cons (pg_name sc_is_knowledge.nd rfl (by first | exact Or.inl rfl | exact Or.inr rfl)) (by rfl) .nil)))))))
  (sb_cons (s_if (PW.pt (tw_or (t_not (t_tru (EE.eb (e_call (ok__are_constants T) (hr.mono (by decide)) (by rfl) T.g__are_constants T.F__are_constants.kp (b__are_constants T) (a_name (pv 2) (a_name (pv 3) a_nil)))) (by intro _; rfl))) (tw_or (t_not (t_tru (EE.eb (e_call (ok_is_order T) (hr.mono (by decide)) (by rfl) T.g_is_order T.F_is_order.kp (b_is_order T) (a_name (pv 2) (a_name (pv 4) a_nil)))) (by intro _; rfl))) (pw_or1 (t_not (t_tru (EE.eb (e_call (ok_is_column_set T) (hr.mono (by decide)) (by rfl) T.g_is_column_set T.F_is_column_set.kp (b_is_column_set T) (a_name (pv 2) (a_name (pv 5) a_nil)))) (by intro _; rfl)))))))
  (sb_one (s_ret e_bl))
  sb_nil)
  (sb_one (s_ret (e_and (e_isi kit_bool (by rfl) T.n_isinstance (b_var (pv 6)) (pe_bltn (by rfl) T.n_bool (by decide +kernel) rfl)) (e_one (e_call (ok__is_bound T) (hr.mono (by decide)) (by rfl) T.g__is_bound T.F__is_bound.kp (b__is_bound T) (a_name (pv 7) a_nil)))))))))))
end
section
variable {P : Program} {w : World} {K : PySem.W.Frag} {mg : Str → Option Value} {base : Heap}
theorem b_is_derivation (T : Txt P w base K mg) : Binds K T.d_is_derivation ["schema", "report", "value"] [] := T.F_is_derivation.binds fun _ _ _ _ _ _ us hl => match us, hl with | [_, _, _], _ => rfl
theorem ok_is_derivation (T : Txt P w base K mg) : FnOk P w K mg base CX0 9 T.a_is_derivation T.d_is_derivation ["schema", "report", "value"] (spW K w_is_derivation) := ok_fn (N := N_is_derivation) (k := 8) T.F_is_derivation sc_is_derivation fun cdv A outer s H E hr => 
  (sb_cons (s_if (PW.pt (tw_or (t_not (t_tru (EE.eb (e_isi kit_list (by rfl) T.n_isinstance (b_var (pv 2)) (pe_bltn (by rfl) T.n_list (by decide +kernel) rfl))) (by intro _; rfl))) (pw_or1 (t_cmp (opr_ne2 (hu64 hr)) o_ne2 (EE.eb (e_call1 call_len c_len (by rfl) T.n_len (by decide +kernel) (b_var (pv 2)))) (EE.eb (e_op opr_add o_add (EE.eb e_int) (EE.eb (e_call1 call_len c_len (by rfl) T.n_len (by decide +kernel) (b_var (pv 1)))))) (nomark _)))))
  (sb_one (s_ret e_bl))
  sb_nil)
  (sb_cons (s_if (t_not (t_tru (EE.eb (e_call1 (cr_all rfl) c_all (by rfl) T.n_all (by decide +kernel) (EE.eb (EF.ee (f_lc (own := [("knowledge", 5)]) (g := (.nm 5)) rfl sc_is_derivation.nd (i_seqB (b_var (pv 2))) (blkOk_by (N := N_is_derivation) (sc := defScope s_is_derivation) (by decide +kernel)) (by simp [Tg.slots]) (fun _ _ _ _ _ => (g_nm sc_is_derivation.nd rfl (by first | exact Or.inl rfl | exact Or.inr rfl))) (fun _ _ _ _ _ => ts_nil) (fun _ _ _ _ _ => (e_call (ok_is_knowledge T) (hr.mono (by decide)) (by rfl) T.g_is_knowledge T.F_is_knowledge.kp (b_is_knowledge T) (a_name (pv 0) (a_name (pv 5) a_nil))))))))) (by intro _; rfl)))
  (sb_one (s_ret e_bl))
  sb_nil)
  (sb_cons (s_if (t_not (t_tru (EE.eb (e_call (ok_is_weaker T) (hr.mono (by decide)) (by rfl) T.g_is_weaker T.F_is_weaker.kp (b_is_weaker T) (a_cons (e_ix (b_var (pv 2)) (EE.eb e_int) (fun _ _ => rfl)) (a_cons (e_call (ok_start_knowledge T) (hr.mono (by decide)) (by rfl) T.g_start_knowledge T.F_start_knowledge.kp (b_start_knowledge T) (a_name (pv 0) a_nil)) a_nil)))) (by intro _; rfl)))
  (sb_one (s_ret e_bl))
  sb_nil)
  (sb_cons (s_for PassesOwn.never rfl (i_enumT false (by rfl) T.n_enumerate (e_var (pv 1))) (g_tp rfl (.cons (pg_name sc_is_derivation.nd rfl (by first | exact Or.inl rfl | exact Or.inr rfl)) (by rfl) (.cons (pg_name sc_is_derivation.nd rfl (by first | exact Or.inl rfl | exact Or.inr rfl)) (by rfl) .nil)))
  (sb_one (s_if (t_not (t_tru (EE.eb (e_call (ok_is_weaker T) (hr.mono (by decide)) (by rfl) T.g_is_weaker T.F_is_weaker.kp (b_is_weaker T) (a_cons (e_ix (b_var (pv 2)) (EE.eb (e_op opr_add o_add (b_var (pv 3)) (EE.eb e_int))) (fun _ _ => rfl)) (a_cons (e_call (ok_knowledge_after T) (hr.mono (by decide)) (by rfl) T.g_knowledge_after T.F_knowledge_after.kp (b_knowledge_after T) (a_name (pv 0) (a_cons (e_ix (b_var (pv 2)) (b_var (pv 3)) (fun _ _ => rfl)) (a_name (pv 4) a_nil)))) a_nil)))) (by intro _; rfl)))
  (sb_one (s_ret e_bl))
  sb_nil)))
  (sb_one (s_ret (e_call (ok_settles T) (hr.mono (by decide)) (by rfl) T.g_settles T.F_settles.kp (b_settles T) (a_name (pv 0) (a_name (pv 1) (a_cons (e_ix (b_var (pv 2)) (EE.eb (e_neg (EE.eb e_int))) (fun _ _ => rfl)) a_nil))))))))))
end
section
variable {P : Program} {w : World} {K : PySem.W.Frag} {mg : Str → Option Value} {base : Heap}
theorem b__is_filled_set (T : Txt P w base K mg) : Binds K T.d__is_filled_set ["kept", "value"] [] := T.F__is_filled_set.binds fun _ _ _ _ _ _ us hl => match us, hl with | [_, _], _ => rfl
theorem ok__is_filled_set (T : Txt P w base K mg) : FnOk P w K mg base CX0 3 T.a__is_filled_set T.d__is_filled_set ["kept", "value"] (spW K w__is_filled_set) := ok_fn (N := N__is_filled_set) (k := 2) T.F__is_filled_set sc__is_filled_set fun cdv A outer s H E hr => 
  (sb_one (s_ret (e_and (e_call (ok_is_column_set T) (hr.mono (by decide)) (by rfl) T.g_is_column_set T.F_is_column_set.kp (b_is_column_set T) (a_name (pv 0) (a_name (pv 1) a_nil))) (e_one (e_cmp (opr_ne2 (hu64 hr)) o_ne2 (b_var (pv 1)) (EE.eb e_str) (nomark _))))))
end
section
variable {P : Program} {w : World} {K : PySem.W.Frag} {mg : Str → Option Value} {base : Heap}
theorem b__is_long_step (T : Txt P w base K mg) : Binds K T.d__is_long_step ["kept", "kind", "part", "last"] [] := T.F__is_long_step.binds fun _ _ _ _ _ _ us hl => match us, hl with | [_, _, _, _], _ => rfl
theorem ok__is_long_step (T : Txt P w base K mg) : FnOk P w K mg base CX0 4 T.a__is_long_step T.d__is_long_step ["kept", "kind", "part", "last"] (spW K w__is_long_step) := ok_fn (N := N__is_long_step) (k := 3) T.F__is_long_step sc__is_long_step fun cdv A outer s H E hr => 
  (sb_cons (s_if (t_cmp (op_eq2 (hu64 hr)) o_eq2 (b_var (pv 1)) (EE.eb e_str) (nomark _))
  (sb_one (s_ret (e_and (e_call (ok_is_column T) (hr.mono (by decide)) (by rfl) T.g_is_column T.F_is_column.kp (b_is_column T) (a_name (pv 0) (a_name (pv 2) a_nil))) (e_one (e_call (ok_is_plain_integer T) (hr.mono (by decide)) (by rfl) T.g_is_plain_integer T.F_is_plain_integer.kp (b_is_plain_integer T) (a_name (pv 3) a_nil))))))
  sb_nil)
  (sb_one (s_ret (e_and (e_cmp (op_eq2 (hu64 hr)) o_eq2 (b_var (pv 1)) (EE.eb e_str) (nomark _)) (e_and (e_call (ok__is_filled_set T) (hr.mono (by decide)) (by rfl) T.g__is_filled_set T.F__is_filled_set.kp (b__is_filled_set T) (a_name (pv 0) (a_name (pv 2) a_nil))) (e_and (e_call (ok_is_column T) (hr.mono (by decide)) (by rfl) T.g_is_column T.F_is_column.kp (b_is_column T) (a_name (pv 0) (a_name (pv 3) a_nil))) (e_one (e_cmp (opr_ni2 (hu64 hr)) o_ni2 (b_var (pv 3)) (b_var (pv 2)) (by rfl)))))))))
end
section
variable {P : Program} {w : World} {K : PySem.W.Frag} {mg : Str → Option Value} {base : Heap}
theorem b__is_short_step (T : Txt P w base K mg) : Binds K T.d__is_short_step ["kept", "kind", "part"] [] := T.F__is_short_step.binds fun _ _ _ _ _ _ us hl => match us, hl with | [_, _, _], _ => rfl
theorem ok__is_short_step (T : Txt P w base K mg) : FnOk P w K mg base CX0 4 T.a__is_short_step T.d__is_short_step ["kept", "kind", "part"] (spW K w__is_short_step) := ok_fn (N := N__is_short_step) (k := 3) T.F__is_short_step sc__is_short_step fun cdv A outer s H E hr => 
  (sb_cons (s_if (t_cmp (opr_in2 (hu64 hr)) o_in2 (b_var (pv 1)) (EE.eb (e_glo (by rfl) T.k_SORTING (fun _ => rv_SORTING T))) (by rfl))
  (sb_one (s_ret (e_and (e_call (ok_is_order T) (hr.mono (by decide)) (by rfl) T.g_is_order T.F_is_order.kp (b_is_order T) (a_name (pv 0) (a_name (pv 2) a_nil))) (e_one (e_cmp (opr_ne2 (hu64 hr)) o_ne2 (b_var (pv 2)) (EE.eb e_str) (nomark _))))))
  sb_nil)
  (sb_cons (s_if (t_cmp (opr_in2 (hu64 hr)) o_in2 (b_var (pv 1)) (EE.eb (e_glo (by rfl) T.k_CUTTING (fun _ => rv_CUTTING T))) (by rfl))
  (sb_one (s_ret (e_and (e_call (ok_is_plain_integer T) (hr.mono (by decide)) (by rfl) T.g_is_plain_integer T.F_is_plain_integer.kp (b_is_plain_integer T) (a_name (pv 2) a_nil)) (e_one (e_chain op_le op_le o_intB o_intB (EE.eb e_int) (b_var (pv 2)) (EE.eb (e_glo (by rfl) T.k_MOST_COUNT (fun _ => rv_MOST_COUNT T))))))))
  sb_nil)
  (sb_one (s_ret (e_and (e_cmp (opr_in2 (hu64 hr)) o_in2 (b_var (pv 1)) (EE.eb (e_tup (d_cons e_str (d_cons e_str (d_cons e_str d_nil))))) (by rfl)) (e_one (e_call (ok__is_filled_set T) (hr.mono (by decide)) (by rfl) T.g__is_filled_set T.F__is_filled_set.kp (b__is_filled_set T) (a_name (pv 0) (a_name (pv 2) a_nil)))))))))
end
section
variable {P : Program} {w : World} {K : PySem.W.Frag} {mg : Str → Option Value} {base : Heap}
theorem b__is_step (T : Txt P w base K mg) : Binds K T.d__is_step ["kept", "value"] [] := T.F__is_step.binds fun _ _ _ _ _ _ us hl => match us, hl with | [_, _], _ => rfl
theorem ok__is_step (T : Txt P w base K mg) : FnOk P w K mg base CX0 5 T.a__is_step T.d__is_step ["kept", "value"] (spW K w__is_step) := ok_fn (N := N__is_step) (k := 4) T.F__is_step sc__is_step fun cdv A outer s H E hr => 
  (sb_cons (s_if (PW.pt (tw_or (t_not (t_tru (EE.eb (e_isi kit_tuple (by rfl) T.n_isinstance (b_var (pv 1)) (pe_bltn (by rfl) T.n_tuple (by decide +kernel) rfl))) (by intro _; rfl))) (pw_or1 (t_cmp (opr_ni2 (hu64 hr)) o_ni2 (EE.eb (e_call1 call_len c_len (by rfl) T.n_len (by decide +kernel) (b_var (pv 1)))) (EE.eb (e_tup (d_cons e_int (d_cons e_int d_nil)))) (by rfl)))))
  (sb_one (s_ret e_bl))
  sb_nil)
  (sb_cons (s_if (t_cmp (op_eq2 (hu64 hr)) o_eq2 (EE.eb (e_call1 call_len c_len (by rfl) T.n_len (by decide +kernel) (b_var (pv 1)))) (EE.eb e_int) (nomark _))
  (sb_one (s_ret (e_call (ok__is_short_step T) (hr.mono (by decide)) (by rfl) T.g__is_short_step T.F__is_short_step.kp (b__is_short_step T) (a_name (pv 0) (a_cons (e_ix (b_var (pv 1)) (EE.eb e_int) (fun _ _ => rfl)) (a_cons (e_ix (b_var (pv 1)) (EE.eb e_int) (fun _ _ => rfl)) a_nil))))))
  sb_nil)
  (sb_one (s_ret (e_call (ok__is_long_step T) (hr.mono (by decide)) (by rfl) T.g__is_long_step T.F__is_long_step.kp (b__is_long_step T) (a_name (pv 0) (a_cons (e_ix (b_var (pv 1)) (EE.eb e_int) (fun _ _ => rfl)) (a_cons (e_ix (b_var (pv 1)) (EE.eb e_int) (fun _ _ => rfl)) (a_cons (e_ix (b_var (pv 1)) (EE.eb e_int) (fun _ _ => rfl)) a_nil)))))))))
end
section
variable {P : Program} {w : World} {K : PySem.W.Frag} {mg : Str → Option Value} {base : Heap}
theorem b_is_report (T : Txt P w base K mg) : Binds K T.d_is_report ["schema", "value"] [] := T.F_is_report.binds fun _ _ _ _ _ _ us hl => match us, hl with | [_, _], _ => rfl
theorem ok_is_report (T : Txt P w base K mg) : FnOk P w K mg base CX0 6 T.a_is_report T.d_is_report ["schema", "value"] (spW K w_is_report) := ok_fn (N := N_is_report) (k := 5) T.F_is_report sc_is_report fun cdv A outer s H E hr => 
  (sb_cons (s_if (PW.pt (tw_or (t_not (t_tru (EE.eb (e_isi kit_tuple (by rfl) T.n_isinstance (b_var (pv 1)) (pe_bltn (by rfl) T.n_tuple (by decide +kernel) rfl))) (by intro _; rfl))) (pw_or1 (t_cmp op_gt o_intB (EE.eb (e_call1 call_len c_len (by rfl) T.n_len (by decide +kernel) (b_var (pv 1)))) (EE.eb (e_glo (by rfl) T.k_MOST_STEPS (fun _ => rv_MOST_STEPS T))) (nomark _)))))
  (sb_one (s_ret e_bl))
  sb_nil)
  (sb_cons (s_set (i := 2) sc_is_report.nd rfl (by first | exact Or.inl rfl | exact Or.inr rfl) (e_ix (b_var (pv 0)) (EE.eb e_int) (fun _ _ => rfl)))
  (sb_cons (s_set (i := 3) sc_is_report.nd rfl (by first | exact Or.inl rfl | exact Or.inr rfl) e_bl)
  (sb_cons (s_set (i := 4) sc_is_report.nd rfl (by first | exact Or.inl rfl | exact Or.inr rfl) e_bl)
  (sb_cons (s_for PassesOwn.never rfl (i_seq false (e_var (pv 1))) (g_nm sc_is_report.nd rfl (by first | exact Or.inl rfl | exact Or.inr rfl))
  (sb_cons (s_if (PW.pt (tw_or (t_tru (b_var (pv 4)) (by intro _; rfl)) (pw_or1 (t_not (t_tru (EE.eb (e_call (ok__is_step T) (hr.mono (by decide)) (by rfl) T.g__is_step T.F__is_step.kp (b__is_step T) (a_name (pv 2) (a_name (pv 5) a_nil)))) (by intro _; rfl))))))
  (sb_one (s_ret e_bl))
  sb_nil)
  (sb_cons (s_set (i := 6) sc_is_report.nd rfl (by first | exact Or.inl rfl | exact Or.inr rfl) (e_ix (b_var (pv 5)) (EE.eb e_int) (fun _ _ => rfl)))
  (sb_cons (s_if (PW.pt (tw_and (t_tru (b_var (pv 3)) (by intro _; rfl)) (pw_and1 (t_cmp (opr_in2 (hu64 hr)) o_in2 (b_var (pv 6)) (EE.eb (e_glo (by rfl) T.k_SORTING (fun _ => rv_SORTING T))) (by rfl)))))
  (sb_one (s_ret e_bl))
  sb_nil)
  (sb_cons (s_set (i := 3) sc_is_report.nd rfl (by first | exact Or.inl rfl | exact Or.inr rfl) (e_or (e_var (pv 3)) (e_one (e_cmp (opr_in2 (hu64 hr)) o_in2 (b_var (pv 6)) (EE.eb (e_glo (by rfl) T.k_CUTTING (fun _ => rv_CUTTING T))) (by rfl)))))
  (sb_cons (s_set (i := 4) sc_is_report.nd rfl (by first | exact Or.inl rfl | exact Or.inr rfl) (e_cmp (opr_in2 (hu64 hr)) o_in2 (b_var (pv 6)) (EE.eb (e_glo (by rfl) T.k_GROUPING (fun _ => rv_GROUPING T))) (by rfl)))
  (sb_one (s_set (i := 2) sc_is_report.nd rfl (by first | exact Or.inl rfl | exact Or.inr rfl) (e_call (ok_kept_after T) (hr.mono (by decide)) (by rfl) T.g_kept_after T.F_kept_after.kp (b_kept_after T) (a_name (pv 2) (a_name (pv 5) a_nil)))))))))))
  (sb_one (s_ret e_bl)))))))
end
section
variable {P : Program} {w : World} {K : PySem.W.Frag} {mg : Str → Option Value} {base : Heap}
theorem b_find_derivation (T : Txt P w base K mg) : Binds K T.d_find_derivation ["schema", "report"] [] := T.F_find_derivation.binds fun _ _ _ _ _ _ us hl => match us, hl with | [_, _], _ => rfl
theorem ok_find_derivation (T : Txt P w base K mg) : FnOk P w K mg base CX0 10 T.a_find_derivation T.d_find_derivation ["schema", "report"] (spW K w_find_derivation) := ok_fn (N := N_find_derivation) (k := 9) T.F_find_derivation sc_find_derivation fun cdv A outer s H E hr => 
  (sb_cons (s_set (i := 2) sc_find_derivation.nd rfl (by first | exact Or.inl rfl | exact Or.inr rfl) (e_call (spO.fz (ok_derive T)) (hr.mono (by decide)) (by rfl) T.g_derive T.F_derive.kp (b_derive T) (a_name (pv 0) (a_name (pv 1) a_nil))))
  (sb_one (s_ret (e_if (t_tru (EE.eb (e_call (ok_settles T) (hr.mono (by decide)) (by rfl) T.g_settles T.F_settles.kp (b_settles T) (a_name (pv 0) (a_name (pv 1) (a_cons (e_ix (b_var (pv 2)) (EE.eb (e_neg (EE.eb e_int))) (fun _ _ => rfl)) a_nil))))) (by intro _; rfl)) (e_var (pv 2)) e_non))))
end
section
variable {P : Program} {w : World} {K : PySem.W.Frag} {mg : Str → Option Value} {base : Heap}
theorem b__law_sure_right (T : Txt P w base K mg) : Binds K T.d__law_sure_right ["pen", "schema"] [] := T.F__law_sure_right.binds fun _ _ _ _ _ _ us hl => match us, hl with | [_, _], _ => rfl
theorem ok__law_sure_right (T : Txt P w base K mg) : FnOk P w K mg base CX0 11 T.a__law_sure_right T.d__law_sure_right ["pen", "schema"] (spW K w__law_sure_right) := ok_fn (N := N__law_sure_right) (k := 10) T.F__law_sure_right sc__law_sure_right fun cdv A outer s H E hr => 
  (sb_cons (s_set (i := 2) sc__law_sure_right.nd rfl (by first | exact Or.inl rfl | exact Or.inr rfl) (e_ix (b_var (pv 1)) (EE.eb e_int) (fun _ _ => rfl)))
  (sb_cons (s_asg (e_tup (d_cons (e_call (ok__law_one_of T) (hr.mono (by decide)) (by rfl) T.g__law_one_of T.F__law_one_of.kp (b__law_one_of T) (a_name (pv 0) (a_name (pv 2) a_nil))) (d_cons (e_call (ok__law_take T) (hr.mono (by decide)) (by rfl) T.g__law_take T.F__law_take.kp (b__law_take T) (a_name (pv 0) (a_cons e_int a_nil))) d_nil))) (g_tp rfl (.cons (pg_name sc__law_sure_right.nd rfl (by first | exact Or.inl rfl | exact Or.inr rfl)) (by rfl) (.cons (pg_name sc__law_sure_right.nd rfl (by first | exact Or.inl rfl | exact Or.inr rfl)) (by rfl) .nil))))
  (sb_cons (s_setL (i := 5) sc__law_sure_right.nd rfl (by first | exact Or.inl rfl | exact Or.inr rfl) (f_lst (d_cons (e_tup (d_cons (e_tup (d_cons e_str (d_cons (e_call (ok__law_mixed T) (hr.mono (by decide)) (by rfl) T.g__law_mixed T.F__law_mixed.kp (b__law_mixed T) (a_name (pv 0) (a_name (pv 2) (a_cons e_int a_nil)))) d_nil))) (d_cons (e_tup (d_cons e_str (d_cons e_int d_nil))) d_nil))) (d_cons (e_tup (d_cons (e_tup (d_cons e_str (d_cons (e_var (pv 2)) d_nil))) (d_cons (e_tup (d_cons e_str (d_cons e_int d_nil))) d_nil))) d_nil))))
  (sb_cons (s_app (pv 5) (e_tup (d_cons (e_tup (d_cons e_str (d_cons (e_var (pv 3)) (d_cons (e_var (pv 4)) d_nil)))) (d_cons (e_tup (d_cons e_str (d_cons e_int d_nil))) (d_cons (e_tup (d_cons e_str (d_cons (e_var (pv 3)) (d_cons (e_op opr_add o_add (b_var (pv 4)) (EE.eb e_int)) d_nil)))) d_nil)))))
  (sb_cons (s_app (pv 5) (e_tup (d_cons (e_tup (d_cons e_str (d_cons e_int d_nil))) (d_cons (e_tup (d_cons e_str (d_cons e_int d_nil))) (d_cons (e_tup (d_cons e_str (d_cons (e_var (pv 3)) d_nil))) d_nil)))))
  (sb_cons (s_for PassesOwn.never rfl (i_seq false (e_ix (b_var (pv 1)) (EE.eb e_int) (fun _ _ => rfl))) (g_nm sc__law_sure_right.nd rfl (by first | exact Or.inl rfl | exact Or.inr rfl))
  (sb_cons (s_set (i := 7) sc__law_sure_right.nd rfl (by first | exact Or.inl rfl | exact Or.inr rfl) (e_ty1 (call_tupA rfl) c_tupA (by rfl) T.n_tuple (by decide +kernel) (EE.eb (EF.ee (f_lc (own := [("one", 9)]) (g := (.nm 9)) rfl sc__law_sure_right.nd (i_seqB (b_var (pv 6))) (blkOk_by (N := N__law_sure_right) (sc := defScope s__law_sure_right) (by decide +kernel)) (by simp [Tg.slots]) (fun _ _ _ _ _ => (g_nm sc__law_sure_right.nd rfl (by first | exact Or.inl rfl | exact Or.inr rfl))) (fun _ _ _ _ _ => ts_nil) (fun _ _ _ _ _ => (e_tup (d_cons e_str (d_cons (e_var (pv 9)) (d_cons (e_var (pv 4)) d_nil))))))))))
  (sb_one (s_if (t_cmp op_lt o_intB (EE.eb (e_call1 call_len c_len (by rfl) T.n_len (by decide +kernel) (b_var (pv 7)))) (EE.eb e_int) (nomark _))
  (sb_cons (s_app (pv 5) (e_op opr_add o_add (EE.eb (e_op opr_add o_add (EE.eb (e_tup (d_cons (e_tup (d_cons e_str (d_cons e_int d_nil))) d_nil))) (b_var (pv 7)))) (EE.eb (e_tup (d_cons (e_tup (d_cons e_str (d_cons e_int d_nil))) d_nil)))))
  (sb_one (s_app (pv 5) (e_op opr_add o_add (b_var (pv 7)) (EE.eb (e_tup (d_cons (e_tup (d_cons e_str (d_cons e_int d_nil))) (d_cons (e_tup (d_cons e_str (d_cons (e_var (pv 3)) d_nil))) d_nil))))))))
  sb_nil))))
  (sb_cons (s_fz (i := 5) (s_for PassesOwn.never rfl (i_seq false (e_var (pv 5))) (g_nm sc__law_sure_right.nd rfl (by first | exact Or.inl rfl | exact Or.inr rfl))
  (sb_cons (s_if (PW.pt (tw_or (t_cmp opr_ns o_ns (EE.eb (e_call (ok_is_report T) (hr.mono (by decide)) (by rfl) T.g_is_report T.F_is_report.kp (b_is_report T) (a_name (pv 1) (a_name (pv 8) a_nil)))) (EE.eb e_bl) (nomark _)) (pw_or1 (t_cmp opr_ns o_ns (EE.eb (e_call (ok_is_settled T) (hr.mono (by decide)) (by rfl) T.g_is_settled T.F_is_settled.kp (b_is_settled T) (a_name (pv 1) (a_name (pv 8) a_nil)))) (EE.eb e_bl) (nomark _)))))
  (sb_one (s_ret e_bl))
  sb_nil)
  (sb_one (s_if (t_cmp opr_ns o_ns (EE.eb (e_call (ok_is_derivation T) (hr.mono (by decide)) (by rfl) T.g_is_derivation T.F_is_derivation.kp (b_is_derivation T) (a_name (pv 1) (a_name (pv 8) (a_cons (e_call (ok_find_derivation T) (hr.mono (by decide)) (by rfl) T.g_find_derivation T.F_find_derivation.kp (b_find_derivation T) (a_name (pv 1) (a_name (pv 8) a_nil))) a_nil))))) (EE.eb e_bl) (nomark _))
  (sb_one (s_ret e_bl))
  sb_nil)))))
  (sb_one (s_ret e_bl)))))))))
end
section
variable {P : Program} {w : World} {K : PySem.W.Frag} {mg : Str → Option Value} {base : Heap}
theorem ok_law (T : Txt P w base K mg) (holds : LawHolds) : TopOk P w K mg base 12 T.a_law T.d_law ["script"] (spLawTop K) := by
  refine top_ok T.F_law sc_law (fun vs H Q E h => ?_) (fun cdv A outer s H vs Q E hr NS h => ?_)
  · obtain ⟨a, ns, rfl, _⟩ := h
    rfl
  · obtain ⟨a, ns, rfl, hS, hlen, ht, q⟩ := h
    refine ⟨_, pss_cons (ps_set (i := 1) sc_law.nd rfl (by first | exact Or.inl rfl | exact Or.inr rfl) (pe_call (ok__law_open T) (hr.mono (by decide)) (by rfl) T.g__law_open T.F__law_open.kp (b__law_open T) .nil pass0 (pa_cons (pv 0) pa_nil)))
      (show SB _ _ t_law from (sb_cons (s_for PassesOwn.never rfl (i_rng1 false (by rfl) T.n_range (EE.eb e_int)) (g_nm sc_law.nd rfl (by first | exact Or.inl rfl | exact Or.inr rfl))
  (sb_cons (s_set (i := 3) sc_law.nd rfl (by first | exact Or.inl rfl | exact Or.inr rfl) (e_call (ok__law_draw_schema T) (hr.mono (by decide)) (by rfl) T.g__law_draw_schema T.F__law_draw_schema.kp (b__law_draw_schema T) (a_name (pv 1) (a_cons e_int a_nil))))
  (sb_cons (s_par rfl sc_law.nd (i := 4) (j := 5) rfl rfl (by decide) rfl rfl (e_call (ok__law_draw_report T) (hr.mono (by decide)) (by rfl) T.g__law_draw_report T.F__law_draw_report.kp (b__law_draw_report T) (a_name (pv 1) (a_name (pv 3) (a_cons e_int (a_cons e_bl a_nil))))) (e_call (ok__law_wider T) (hr.mono (by decide)) (by rfl) T.g__law_wider T.F__law_wider.kp (b__law_wider T) (a_name (pv 1) (a_name (pv 3) a_nil))) (by rfl))
  (sb_cons (s_if (PW.pt (tw_or (t_cmp opr_ns o_ns (EE.eb (e_call (ok_is_schema T) (hr.mono (by decide)) (by rfl) T.g_is_schema T.F_is_schema.kp (b_is_schema T) (a_name (pv 5) a_nil))) (EE.eb e_bl) (nomark _)) (pw_or1 (t_not (t_tru (EE.eb (e_call (ok__law_sure_right T) (hr.mono (by decide)) (by rfl) T.g__law_sure_right T.F__law_sure_right.kp (b__law_sure_right T) (a_name (pv 1) (a_name (pv 3) a_nil)))) (by intro _; rfl))))))
  (sb_one (s_ret e_bl))
  sb_nil)
  (sb_one (s_if (t_tru (EE.eb (e_call (ok_is_settled T) (hr.mono (by decide)) (by rfl) T.g_is_settled T.F_is_settled.kp (b_is_settled T) (a_name (pv 3) (a_name (pv 4) a_nil)))) (by intro _; rfl))
  (sb_cons (s_if (t_cmp opr_ns o_ns (EE.eb (e_call (ok_is_settled T) (hr.mono (by decide)) (by rfl) T.g_is_settled T.F_is_settled.kp (b_is_settled T) (a_name (pv 5) (a_name (pv 4) a_nil)))) (EE.eb e_bl) (nomark _))
  (sb_one (s_ret e_bl))
  sb_nil)
  (sb_one (s_for PassesOwn.never rfl (i_seq false (e_call (ok__law_more_steps T) (hr.mono (by decide)) (by rfl) T.g__law_more_steps T.F__law_more_steps.kp (b__law_more_steps T) (a_name (pv 1) (a_cons (e_call (ok_kept_columns T) (hr.mono (by decide)) (by rfl) T.g_kept_columns T.F_kept_columns.kp (b_kept_columns T) (a_name (pv 3) (a_name (pv 4) a_nil))) a_nil)))) (g_nm sc_law.nd rfl (by first | exact Or.inl rfl | exact Or.inr rfl))
  (sb_cons (s_set (i := 7) sc_law.nd rfl (by first | exact Or.inl rfl | exact Or.inr rfl) (e_op opr_add o_add (b_var (pv 4)) (EE.eb (e_tup (d_cons (e_var (pv 6)) d_nil)))))
  (sb_cons (s_if (PW.pt (tw_or (t_cmp opr_ns o_ns (EE.eb (e_call (ok_is_report T) (hr.mono (by decide)) (by rfl) T.g_is_report T.F_is_report.kp (b_is_report T) (a_name (pv 3) (a_name (pv 7) a_nil)))) (EE.eb e_bl) (nomark _)) (pw_or1 (t_cmp opr_ns o_ns (EE.eb (e_call (ok_is_settled T) (hr.mono (by decide)) (by rfl) T.g_is_settled T.F_is_settled.kp (b_is_settled T) (a_name (pv 3) (a_name (pv 7) a_nil)))) (EE.eb e_bl) (nomark _)))))
  (sb_one (s_ret e_bl))
  sb_nil)
  (sb_one (s_if (t_cmp (opr_ne2 (hu64 hr)) o_ne2 (EE.eb (e_sl (EE.eb (e_call (ok_find_derivation T) (hr.mono (by decide)) (by rfl) T.g_find_derivation T.F_find_derivation.kp (b_find_derivation T) (a_name (pv 3) (a_name (pv 7) a_nil)))) o_none (o_some (EE.eb (e_neg (EE.eb e_int)))))) (EE.eb (e_call (ok_find_derivation T) (hr.mono (by decide)) (by rfl) T.g_find_derivation T.F_find_derivation.kp (b_find_derivation T) (a_name (pv 3) (a_name (pv 4) a_nil)))) (nomark _))
  (sb_one (s_ret e_bl))
  sb_nil)))))))
  sb_nil))))))
  (sb_one (s_ret e_bl)))), ?_⟩
    refine ⟨.ref a, rfl, a, ns, rfl, hS, hlen, fun H' pa ca cells sm ne hpa hca h1 h2 h3 => ?_⟩
    refine ⟨some ⟨pa, ca, tabF K⟩, fun _ => none, H', fun _ => none, _, _, _, law_rep (N := N_law) (ip := 1) (by decide) ne h1 h2 h3 (fun p hp => sm _ _ (ht p hp)), holds, fun σ' F' H2 env' b' rep' => ⟨fun z => z.elim, fun z => z, fun z => z⟩, fun v d F' H2 b' o' x' rv e => by subst e; cases rv; exact q _, fun _ _ _ _ _ _ _ _ _ z => z.elim⟩
end
end Lw
namespace Lw
open PySem PySem.Spec PyProof.Rows L2 Pu
theorem cst_int {K : PySem.W.Frag} {h : Heap} {mg : Str → Option Value} {x : Str} {i : Int} (X : K.In h) (G : h.Ns mainGlobals mg) (c : (He.Fa.int x i).ok K = true) : Cst mg x (.int i) := by
  obtain ⟨t, e⟩ := He.int_ok X G c
  exact ⟨_, e, t, rfl⟩
theorem cst_str {K : PySem.W.Frag} {h : Heap} {mg : Str → Option Value} {x z : Str} (X : K.In h) (G : h.Ns mainGlobals mg) (c : (He.Fa.str x z).ok K = true) : Cst mg x (.str z) := by
  obtain ⟨t, e⟩ := He.str_ok X G c
  exact ⟨_, e, t, rfl⟩
end Lw
namespace Lw
open PySem PySem.Spec PyProof.Rows L2 Pu
def f__law_open : He.DefD := ⟨("_law_open", none), "_law_open", "_law_open", defArgs s__law_open, defBody s__law_open, defScope s__law_open, [], []⟩
def f__law_spread : He.DefD := ⟨("_law_spread", none), "_law_spread", "_law_spread", defArgs s__law_spread, defBody s__law_spread, defScope s__law_spread, [], []⟩
def f__law_take : He.DefD := ⟨("_law_take", none), "_law_take", "_law_take", defArgs s__law_take, defBody s__law_take, defScope s__law_take, [], []⟩
def f__law_one_of : He.DefD := ⟨("_law_one_of", none), "_law_one_of", "_law_one_of", defArgs s__law_one_of, defBody s__law_one_of, defScope s__law_one_of, [], []⟩
def f__law_some : He.DefD := ⟨("_law_some", none), "_law_some", "_law_some", defArgs s__law_some, defBody s__law_some, defScope s__law_some, [], []⟩
def f__law_draw_schema : He.DefD := ⟨("_law_draw_schema", none), "_law_draw_schema", "_law_draw_schema", defArgs s__law_draw_schema, defBody s__law_draw_schema, defScope s__law_draw_schema, [], []⟩
def f_kept_after : He.DefD := ⟨("kept_after", none), "kept_after", "kept_after", defArgs s_kept_after, defBody s_kept_after, defScope s_kept_after, [], []⟩
def f_kept_columns : He.DefD := ⟨("kept_columns", none), "kept_columns", "kept_columns", defArgs s_kept_columns, defBody s_kept_columns, defScope s_kept_columns, [], []⟩
def f_contains : He.DefD := ⟨("contains", none), "contains", "contains", defArgs s_contains, defBody s_contains, defScope s_contains, [], []⟩
def f__has_key : He.DefD := ⟨("_has_key", none), "_has_key", "_has_key", defArgs s__has_key, defBody s__has_key, defScope s__has_key, [], []⟩
def f_common : He.DefD := ⟨("common", none), "common", "common", defArgs s_common, defBody s_common, defScope s_common, [], []⟩
def f__closure_round : He.DefD := ⟨("_closure_round", none), "_closure_round", "_closure_round", defArgs s__closure_round, defBody s__closure_round, defScope s__closure_round, [], []⟩
def f_closure : He.DefD := ⟨("closure", none), "closure", "closure", defArgs s_closure, defBody s_closure, defScope s_closure, [], []⟩
def f_determined : He.DefD := ⟨("determined", none), "determined", "determined", defArgs s_determined, defBody s_determined, defScope s_determined, [], []⟩
def f_settles : He.DefD := ⟨("settles", none), "settles", "settles", defArgs s_settles, defBody s_settles, defScope s_settles, [], []⟩
def f_is_unique : He.DefD := ⟨("is_unique", none), "is_unique", "is_unique", defArgs s_is_unique, defBody s_is_unique, defScope s_is_unique, [], []⟩
def f_start_knowledge : He.DefD := ⟨("start_knowledge", none), "start_knowledge", "start_knowledge", defArgs s_start_knowledge, defBody s_start_knowledge, defScope s_start_knowledge, [], []⟩
def f__after_where : He.DefD := ⟨("_after_where", none), "_after_where", "_after_where", defArgs s__after_where, defBody s__after_where, defScope s__after_where, [], []⟩
def f__known_beginning : He.DefD := ⟨("_known_beginning", none), "_known_beginning", "_known_beginning", defArgs s__known_beginning, defBody s__known_beginning, defScope s__known_beginning, [], []⟩
def f__after_sorting : He.DefD := ⟨("_after_sorting", none), "_after_sorting", "_after_sorting", defArgs s__after_sorting, defBody s__after_sorting, defScope s__after_sorting, [], []⟩
def f__placed : He.DefD := ⟨("_placed", none), "_placed", "_placed", defArgs s__placed, defBody s__placed, defScope s__placed, [], []⟩
def f__after_first : He.DefD := ⟨("_after_first", none), "_after_first", "_after_first", defArgs s__after_first, defBody s__after_first, defScope s__after_first, [], []⟩
def f__after_skip : He.DefD := ⟨("_after_skip", none), "_after_skip", "_after_skip", defArgs s__after_skip, defBody s__after_skip, defScope s__after_skip, [], []⟩
def f_knowledge_after : He.DefD := ⟨("knowledge_after", none), "knowledge_after", "knowledge_after", defArgs s_knowledge_after, defBody s_knowledge_after, defScope s_knowledge_after, [], []⟩
def f_derive : He.DefD := ⟨("derive", none), "derive", "derive", defArgs s_derive, defBody s_derive, defScope s_derive, [], []⟩
def f_is_settled : He.DefD := ⟨("is_settled", none), "is_settled", "is_settled", defArgs s_is_settled, defBody s_is_settled, defScope s_is_settled, [], []⟩
def f__law_mixed : He.DefD := ⟨("_law_mixed", none), "_law_mixed", "_law_mixed", defArgs s__law_mixed, defBody s__law_mixed, defScope s__law_mixed, [], []⟩
def f__law_draw_step : He.DefD := ⟨("_law_draw_step", none), "_law_draw_step", "_law_draw_step", defArgs s__law_draw_step, defBody s__law_draw_step, defScope s__law_draw_step, [], []⟩
def f__law_draw_report : He.DefD := ⟨("_law_draw_report", none), "_law_draw_report", "_law_draw_report", defArgs s__law_draw_report, defBody s__law_draw_report, defScope s__law_draw_report, [], []⟩
def f__law_wider : He.DefD := ⟨("_law_wider", none), "_law_wider", "_law_wider", defArgs s__law_wider, defBody s__law_wider, defScope s__law_wider, [], []⟩
def f__law_more_steps : He.DefD := ⟨("_law_more_steps", none), "_law_more_steps", "_law_more_steps", defArgs s__law_more_steps, defBody s__law_more_steps, defScope s__law_more_steps, [], []⟩
def f_is_column_set : He.DefD := ⟨("is_column_set", none), "is_column_set", "is_column_set", defArgs s_is_column_set, defBody s_is_column_set, defScope s_is_column_set, [], []⟩
def f_is_column : He.DefD := ⟨("is_column", none), "is_column", "is_column", defArgs s_is_column, defBody s_is_column, defScope s_is_column, [], []⟩
def f__is_rule : He.DefD := ⟨("_is_rule", none), "_is_rule", "_is_rule", defArgs s__is_rule, defBody s__is_rule, defScope s__is_rule, [], []⟩
def f__are_rules : He.DefD := ⟨("_are_rules", none), "_are_rules", "_are_rules", defArgs s__are_rules, defBody s__are_rules, defScope s__are_rules, [], []⟩
def f__are_keys : He.DefD := ⟨("_are_keys", none), "_are_keys", "_are_keys", defArgs s__are_keys, defBody s__are_keys, defScope s__are_keys, [], []⟩
def f_is_schema : He.DefD := ⟨("is_schema", none), "is_schema", "is_schema", defArgs s_is_schema, defBody s_is_schema, defScope s_is_schema, [], []⟩
def f_is_weaker : He.DefD := ⟨("is_weaker", none), "is_weaker", "is_weaker", defArgs s_is_weaker, defBody s_is_weaker, defScope s_is_weaker, [], []⟩
def f_is_plain_integer : He.DefD := ⟨("is_plain_integer", none), "is_plain_integer", "is_plain_integer", defArgs s_is_plain_integer, defBody s_is_plain_integer, defScope s_is_plain_integer, [], []⟩
def f__is_bound : He.DefD := ⟨("_is_bound", none), "_is_bound", "_is_bound", defArgs s__is_bound, defBody s__is_bound, defScope s__is_bound, [], []⟩
def f__is_constant : He.DefD := ⟨("_is_constant", none), "_is_constant", "_is_constant", defArgs s__is_constant, defBody s__is_constant, defScope s__is_constant, [], []⟩
def f__are_constants : He.DefD := ⟨("_are_constants", none), "_are_constants", "_are_constants", defArgs s__are_constants, defBody s__are_constants, defScope s__are_constants, [], []⟩
def f_is_order : He.DefD := ⟨("is_order", none), "is_order", "is_order", defArgs s_is_order, defBody s_is_order, defScope s_is_order, [], []⟩
def f_is_knowledge : He.DefD := ⟨("is_knowledge", none), "is_knowledge", "is_knowledge", defArgs s_is_knowledge, defBody s_is_knowledge, defScope s_is_knowledge, [], []⟩
def f_is_derivation : He.DefD := ⟨("is_derivation", none), "is_derivation", "is_derivation", defArgs s_is_derivation, defBody s_is_derivation, defScope s_is_derivation, [], []⟩
def f__is_filled_set : He.DefD := ⟨("_is_filled_set", none), "_is_filled_set", "_is_filled_set", defArgs s__is_filled_set, defBody s__is_filled_set, defScope s__is_filled_set, [], []⟩
def f__is_long_step : He.DefD := ⟨("_is_long_step", none), "_is_long_step", "_is_long_step", defArgs s__is_long_step, defBody s__is_long_step, defScope s__is_long_step, [], []⟩
def f__is_short_step : He.DefD := ⟨("_is_short_step", none), "_is_short_step", "_is_short_step", defArgs s__is_short_step, defBody s__is_short_step, defScope s__is_short_step, [], []⟩
def f__is_step : He.DefD := ⟨("_is_step", none), "_is_step", "_is_step", defArgs s__is_step, defBody s__is_step, defScope s__is_step, [], []⟩
def f_is_report : He.DefD := ⟨("is_report", none), "is_report", "is_report", defArgs s_is_report, defBody s_is_report, defScope s_is_report, [], []⟩
def f_find_derivation : He.DefD := ⟨("find_derivation", none), "find_derivation", "find_derivation", defArgs s_find_derivation, defBody s_find_derivation, defScope s_find_derivation, [], []⟩
def f__law_sure_right : He.DefD := ⟨("_law_sure_right", none), "_law_sure_right", "_law_sure_right", defArgs s__law_sure_right, defBody s__law_sure_right, defScope s__law_sure_right, [], []⟩
def f_law : He.DefD := ⟨("law", none), "law", "law", defArgs s_law, defBody s_law, defScope s_law, [], []⟩
def fn : List He.DefD := [f__law_open, f__law_spread, f__law_take, f__law_one_of, f__law_some, f__law_draw_schema, f_kept_after, f_kept_columns, f_contains, f__has_key, f_common, f__closure_round, f_closure, f_determined, f_settles, f_is_unique, f_start_knowledge, f__after_where, f__known_beginning, f__after_sorting, f__placed, f__after_first, f__after_skip, f_knowledge_after, f_derive, f_is_settled, f__law_mixed, f__law_draw_step, f__law_draw_report, f__law_wider, f__law_more_steps, f_is_column_set, f_is_column, f__is_rule, f__are_rules, f__are_keys, f_is_schema, f_is_weaker, f_is_plain_integer, f__is_bound, f__is_constant, f__are_constants, f_is_order, f_is_knowledge, f_is_derivation, f__is_filled_set, f__is_long_step, f__is_short_step, f__is_step, f_is_report, f_find_derivation, f__law_sure_right, f_law]
def fa : List He.Fa := [.glo "_law_open", .glo "_law_spread", .glo "_law_take", .glo "_law_one_of", .glo "_law_some", .glo "_law_draw_schema", .glo "kept_after", .glo "kept_columns", .glo "contains", .glo "_has_key", .glo "common", .glo "_closure_round", .glo "closure", .glo "determined", .glo "settles", .glo "is_unique", .glo "start_knowledge", .glo "_after_where", .glo "_known_beginning", .glo "_after_sorting", .glo "_placed", .glo "_after_first", .glo "_after_skip", .glo "knowledge_after", .glo "derive", .glo "is_settled", .glo "_law_mixed", .glo "_law_draw_step", .glo "_law_draw_report", .glo "_law_wider", .glo "_law_more_steps", .glo "is_column_set", .glo "is_column", .glo "_is_rule", .glo "_are_rules", .glo "_are_keys", .glo "is_schema", .glo "is_weaker", .glo "is_plain_integer", .glo "_is_bound", .glo "_is_constant", .glo "_are_constants", .glo "is_order", .glo "is_knowledge", .glo "is_derivation", .glo "_is_filled_set", .glo "_is_long_step", .glo "_is_short_step", .glo "_is_step", .glo "is_report", .glo "find_derivation", .glo "_law_sure_right", .glo "law", .free "all", .free "any", .free "bool", .free "dict", .free "enumerate", .free "int", .free "isinstance", .free "len", .free "list", .free "range", .free "set", .free "sorted", .free "str", .free "tuple", .glo "CUTTING", .glo "EMPTY", .glo "GROUPING", .str "LETTERS" "abcdefghijklmnopqrstuvwxyz", .int "MOST_COLUMNS" 5, .int "MOST_COUNT" 20, .int "MOST_STEPS" 8, .glo "SORTING"]
def tb : Tbl := [("CUTTING", [(.str "first"), (.str "skip")]), ("EMPTY", [(.str "empty")]), ("GROUPING", [(.str "count"), (.str "sum"), (.str "heads")]), ("SORTING", [(.str "sort"), (.str "stable")])]
def tq : TQ := []
def looseN : List PySem.Str := (["LETTERS", "MOST_COLUMNS", "is_plain_integer", "is_column", "is_column_set", "is_order", "common", "contains", "is_schema", "closure", "is_unique", "_are_rules", "_is_rule", "_are_keys", "_has_key", "_closure_round", "MOST_STEPS", "MOST_COUNT", "SORTING", "CUTTING"] : List PySem.Str) ++ (["GROUPING", "is_report", "kept_columns", "kept_after", "_is_step", "_is_short_step", "_is_long_step", "_is_filled_set", "EMPTY", "is_knowledge", "start_knowledge", "knowledge_after", "derive", "is_settled", "settles", "determined", "_are_constants", "_is_constant", "_is_bound", "_placed"] : List PySem.Str) ++ (["_after_where", "_after_sorting", "_known_beginning", "_after_first", "_after_skip", "is_weaker", "is_derivation", "find_derivation", "_law_open", "_law_spread", "_law_take", "_law_one_of", "_law_some", "_law_mixed", "_law_draw_schema", "_law_draw_step", "_law_draw_report", "_law_more_steps", "_law_wider", "_law_sure_right"] : List PySem.Str)
abbrev R : PySem.W.OpenRow := PySem.W.OpenLaw.row PySem.Challenge.rw_openties_k23_whole_settled_reports_exten
abbrev hk : PySem.W.Hook := hookH 4 fa fn tb tq
def ob (s : PySem.W.SharedT) : Bool × Bool × Bool × He.AlD := obsHG 4 fa fn tb tq (HandSHeadRun.getT s)
theorem ob_eq (s : PySem.W.SharedT) : ob s = hk.obs s.abs := obsHG_eq (HandSHeadRun.getT_eq s)
set_option maxHeartbeats 0 in
theorem run (w : World) : HandSHeadRun.RunEq R (PySem.W.view R.prog [65]) hk ob 4000 looseN w := by
  intro os
  kernel_rfl
theorem facts {P : Program} {w : World} {K : PySem.W.Frag} {h : Heap} {mg : Str → Option Value} {f : Addr} (holds : LawHolds) (X : K.In h) (cc : SaysH fa fn tb tq h K) (G : h.Ns mainGlobals mg) (hfa : mg ("law" : Str) = some (.ref f)) :
    ∃ (K' : PySem.W.Frag) (fd : FuncData), (∀ b, K'.lookup b = K.lookup b) ∧ tabF K' = tabAt K tq ∧ (∀ (s : Shared) (v : Value), BindsTo s fd ⟨[v], []⟩ [("script", v)]) ∧ ∀ base : Heap, K'.In base → base.Ns mainGlobals mg → (∀ p ∈ codesT K tq, LamX.TabB base mg p.1 p.2) → TopOk P w K' mg base 12 f fd ["script"] (spLawTop K') := by
  have c := cc.c
  obtain ⟨fd0, F0⟩ := c.def_ 0 (d := f__law_open) rfl
  obtain ⟨fd1, F1⟩ := c.def_ 1 (d := f__law_spread) rfl
  obtain ⟨fd2, F2⟩ := c.def_ 2 (d := f__law_take) rfl
  obtain ⟨fd3, F3⟩ := c.def_ 3 (d := f__law_one_of) rfl
  obtain ⟨fd4, F4⟩ := c.def_ 4 (d := f__law_some) rfl
  obtain ⟨fd5, F5⟩ := c.def_ 5 (d := f__law_draw_schema) rfl
  obtain ⟨fd6, F6⟩ := c.def_ 6 (d := f_kept_after) rfl
  obtain ⟨fd7, F7⟩ := c.def_ 7 (d := f_kept_columns) rfl
  obtain ⟨fd8, F8⟩ := c.def_ 8 (d := f_contains) rfl
  obtain ⟨fd9, F9⟩ := c.def_ 9 (d := f__has_key) rfl
  obtain ⟨fd10, F10⟩ := c.def_ 10 (d := f_common) rfl
  obtain ⟨fd11, F11⟩ := c.def_ 11 (d := f__closure_round) rfl
  obtain ⟨fd12, F12⟩ := c.def_ 12 (d := f_closure) rfl
  obtain ⟨fd13, F13⟩ := c.def_ 13 (d := f_determined) rfl
  obtain ⟨fd14, F14⟩ := c.def_ 14 (d := f_settles) rfl
  obtain ⟨fd15, F15⟩ := c.def_ 15 (d := f_is_unique) rfl
  obtain ⟨fd16, F16⟩ := c.def_ 16 (d := f_start_knowledge) rfl
  obtain ⟨fd17, F17⟩ := c.def_ 17 (d := f__after_where) rfl
  obtain ⟨fd18, F18⟩ := c.def_ 18 (d := f__known_beginning) rfl
  obtain ⟨fd19, F19⟩ := c.def_ 19 (d := f__after_sorting) rfl
  obtain ⟨fd20, F20⟩ := c.def_ 20 (d := f__placed) rfl
  obtain ⟨fd21, F21⟩ := c.def_ 21 (d := f__after_first) rfl
  obtain ⟨fd22, F22⟩ := c.def_ 22 (d := f__after_skip) rfl
  obtain ⟨fd23, F23⟩ := c.def_ 23 (d := f_knowledge_after) rfl
  obtain ⟨fd24, F24⟩ := c.def_ 24 (d := f_derive) rfl
  obtain ⟨fd25, F25⟩ := c.def_ 25 (d := f_is_settled) rfl
  obtain ⟨fd26, F26⟩ := c.def_ 26 (d := f__law_mixed) rfl
  obtain ⟨fd27, F27⟩ := c.def_ 27 (d := f__law_draw_step) rfl
  obtain ⟨fd28, F28⟩ := c.def_ 28 (d := f__law_draw_report) rfl
  obtain ⟨fd29, F29⟩ := c.def_ 29 (d := f__law_wider) rfl
  obtain ⟨fd30, F30⟩ := c.def_ 30 (d := f__law_more_steps) rfl
  obtain ⟨fd31, F31⟩ := c.def_ 31 (d := f_is_column_set) rfl
  obtain ⟨fd32, F32⟩ := c.def_ 32 (d := f_is_column) rfl
  obtain ⟨fd33, F33⟩ := c.def_ 33 (d := f__is_rule) rfl
  obtain ⟨fd34, F34⟩ := c.def_ 34 (d := f__are_rules) rfl
  obtain ⟨fd35, F35⟩ := c.def_ 35 (d := f__are_keys) rfl
  obtain ⟨fd36, F36⟩ := c.def_ 36 (d := f_is_schema) rfl
  obtain ⟨fd37, F37⟩ := c.def_ 37 (d := f_is_weaker) rfl
  obtain ⟨fd38, F38⟩ := c.def_ 38 (d := f_is_plain_integer) rfl
  obtain ⟨fd39, F39⟩ := c.def_ 39 (d := f__is_bound) rfl
  obtain ⟨fd40, F40⟩ := c.def_ 40 (d := f__is_constant) rfl
  obtain ⟨fd41, F41⟩ := c.def_ 41 (d := f__are_constants) rfl
  obtain ⟨fd42, F42⟩ := c.def_ 42 (d := f_is_order) rfl
  obtain ⟨fd43, F43⟩ := c.def_ 43 (d := f_is_knowledge) rfl
  obtain ⟨fd44, F44⟩ := c.def_ 44 (d := f_is_derivation) rfl
  obtain ⟨fd45, F45⟩ := c.def_ 45 (d := f__is_filled_set) rfl
  obtain ⟨fd46, F46⟩ := c.def_ 46 (d := f__is_long_step) rfl
  obtain ⟨fd47, F47⟩ := c.def_ 47 (d := f__is_short_step) rfl
  obtain ⟨fd48, F48⟩ := c.def_ 48 (d := f__is_step) rfl
  obtain ⟨fd49, F49⟩ := c.def_ 49 (d := f_is_report) rfl
  obtain ⟨fd50, F50⟩ := c.def_ 50 (d := f_find_derivation) rfl
  obtain ⟨fd51, F51⟩ := c.def_ 51 (d := f__law_sure_right) rfl
  obtain ⟨fd52, F52⟩ := c.def_ 52 (d := f_law) rfl
  have e := hfa.symm.trans (He.glo_ok X G (c.fact 52 (f := .glo "law") rfl))
  cases e
  have b := FunD.bindsA (ps := ["script"]) F52 fun _ _ _ _ _ _ us hl => match us, hl with | [_], _ => rfl
  have lk : ∃ o, K.lookup (He.ga K "law") = some o := by
    obtain ⟨⟨oc, od, kV, doc, pm, an, cdv, ct, osl, _, h2, _⟩, _⟩ := (toFun F52 : Fun K "law" "law" s_law _ _)
    exact ⟨_, h2⟩
  have ek := lookup_with (T := tabAt K tq) lk
  exact ⟨withT K _ (tabAt K tq), fd52, ek, tabF_with, fun s v => b s [v] rfl, fun base _ _ TB => ok_law (⟨_, fd0, L2.Fun.cong ek (toFun F0), He.glo_ok X G (c.fact 0 (f := .glo "_law_open") rfl), _, fd1, L2.Fun.cong ek (toFun F1), He.glo_ok X G (c.fact 1 (f := .glo "_law_spread") rfl), _, fd2, L2.Fun.cong ek (toFun F2), He.glo_ok X G (c.fact 2 (f := .glo "_law_take") rfl), _, fd3, L2.Fun.cong ek (toFun F3), He.glo_ok X G (c.fact 3 (f := .glo "_law_one_of") rfl), _, fd4, L2.Fun.cong ek (toFun F4), He.glo_ok X G (c.fact 4 (f := .glo "_law_some") rfl), _, fd5, L2.Fun.cong ek (toFun F5), He.glo_ok X G (c.fact 5 (f := .glo "_law_draw_schema") rfl), _, fd6, L2.Fun.cong ek (toFun F6), He.glo_ok X G (c.fact 6 (f := .glo "kept_after") rfl), _, fd7, L2.Fun.cong ek (toFun F7), He.glo_ok X G (c.fact 7 (f := .glo "kept_columns") rfl), _, fd8, L2.Fun.cong ek (toFun F8), He.glo_ok X G (c.fact 8 (f := .glo "contains") rfl), _, fd9, L2.Fun.cong ek (toFun F9), He.glo_ok X G (c.fact 9 (f := .glo "_has_key") rfl), _, fd10, L2.Fun.cong ek (toFun F10), He.glo_ok X G (c.fact 10 (f := .glo "common") rfl), _, fd11, L2.Fun.cong ek (toFun F11), He.glo_ok X G (c.fact 11 (f := .glo "_closure_round") rfl), _, fd12, L2.Fun.cong ek (toFun F12), He.glo_ok X G (c.fact 12 (f := .glo "closure") rfl), _, fd13, L2.Fun.cong ek (toFun F13), He.glo_ok X G (c.fact 13 (f := .glo "determined") rfl), _, fd14, L2.Fun.cong ek (toFun F14), He.glo_ok X G (c.fact 14 (f := .glo "settles") rfl), _, fd15, L2.Fun.cong ek (toFun F15), He.glo_ok X G (c.fact 15 (f := .glo "is_unique") rfl), _, fd16, L2.Fun.cong ek (toFun F16), He.glo_ok X G (c.fact 16 (f := .glo "start_knowledge") rfl), _, fd17, L2.Fun.cong ek (toFun F17), He.glo_ok X G (c.fact 17 (f := .glo "_after_where") rfl), _, fd18, L2.Fun.cong ek (toFun F18), He.glo_ok X G (c.fact 18 (f := .glo "_known_beginning") rfl), _, fd19, L2.Fun.cong ek (toFun F19), He.glo_ok X G (c.fact 19 (f := .glo "_after_sorting") rfl), _, fd20, L2.Fun.cong ek (toFun F20), He.glo_ok X G (c.fact 20 (f := .glo "_placed") rfl), _, fd21, L2.Fun.cong ek (toFun F21), He.glo_ok X G (c.fact 21 (f := .glo "_after_first") rfl), _, fd22, L2.Fun.cong ek (toFun F22), He.glo_ok X G (c.fact 22 (f := .glo "_after_skip") rfl), _, fd23, L2.Fun.cong ek (toFun F23), He.glo_ok X G (c.fact 23 (f := .glo "knowledge_after") rfl), _, fd24, L2.Fun.cong ek (toFun F24), He.glo_ok X G (c.fact 24 (f := .glo "derive") rfl), _, fd25, L2.Fun.cong ek (toFun F25), He.glo_ok X G (c.fact 25 (f := .glo "is_settled") rfl), _, fd26, L2.Fun.cong ek (toFun F26), He.glo_ok X G (c.fact 26 (f := .glo "_law_mixed") rfl), _, fd27, L2.Fun.cong ek (toFun F27), He.glo_ok X G (c.fact 27 (f := .glo "_law_draw_step") rfl), _, fd28, L2.Fun.cong ek (toFun F28), He.glo_ok X G (c.fact 28 (f := .glo "_law_draw_report") rfl), _, fd29, L2.Fun.cong ek (toFun F29), He.glo_ok X G (c.fact 29 (f := .glo "_law_wider") rfl), _, fd30, L2.Fun.cong ek (toFun F30), He.glo_ok X G (c.fact 30 (f := .glo "_law_more_steps") rfl), _, fd31, L2.Fun.cong ek (toFun F31), He.glo_ok X G (c.fact 31 (f := .glo "is_column_set") rfl), _, fd32, L2.Fun.cong ek (toFun F32), He.glo_ok X G (c.fact 32 (f := .glo "is_column") rfl), _, fd33, L2.Fun.cong ek (toFun F33), He.glo_ok X G (c.fact 33 (f := .glo "_is_rule") rfl), _, fd34, L2.Fun.cong ek (toFun F34), He.glo_ok X G (c.fact 34 (f := .glo "_are_rules") rfl), _, fd35, L2.Fun.cong ek (toFun F35), He.glo_ok X G (c.fact 35 (f := .glo "_are_keys") rfl), _, fd36, L2.Fun.cong ek (toFun F36), He.glo_ok X G (c.fact 36 (f := .glo "is_schema") rfl), _, fd37, L2.Fun.cong ek (toFun F37), He.glo_ok X G (c.fact 37 (f := .glo "is_weaker") rfl), _, fd38, L2.Fun.cong ek (toFun F38), He.glo_ok X G (c.fact 38 (f := .glo "is_plain_integer") rfl), _, fd39, L2.Fun.cong ek (toFun F39), He.glo_ok X G (c.fact 39 (f := .glo "_is_bound") rfl), _, fd40, L2.Fun.cong ek (toFun F40), He.glo_ok X G (c.fact 40 (f := .glo "_is_constant") rfl), _, fd41, L2.Fun.cong ek (toFun F41), He.glo_ok X G (c.fact 41 (f := .glo "_are_constants") rfl), _, fd42, L2.Fun.cong ek (toFun F42), He.glo_ok X G (c.fact 42 (f := .glo "is_order") rfl), _, fd43, L2.Fun.cong ek (toFun F43), He.glo_ok X G (c.fact 43 (f := .glo "is_knowledge") rfl), _, fd44, L2.Fun.cong ek (toFun F44), He.glo_ok X G (c.fact 44 (f := .glo "is_derivation") rfl), _, fd45, L2.Fun.cong ek (toFun F45), He.glo_ok X G (c.fact 45 (f := .glo "_is_filled_set") rfl), _, fd46, L2.Fun.cong ek (toFun F46), He.glo_ok X G (c.fact 46 (f := .glo "_is_long_step") rfl), _, fd47, L2.Fun.cong ek (toFun F47), He.glo_ok X G (c.fact 47 (f := .glo "_is_short_step") rfl), _, fd48, L2.Fun.cong ek (toFun F48), He.glo_ok X G (c.fact 48 (f := .glo "_is_step") rfl), _, fd49, L2.Fun.cong ek (toFun F49), He.glo_ok X G (c.fact 49 (f := .glo "is_report") rfl), _, fd50, L2.Fun.cong ek (toFun F50), He.glo_ok X G (c.fact 50 (f := .glo "find_derivation") rfl), _, fd51, L2.Fun.cong ek (toFun F51), He.glo_ok X G (c.fact 51 (f := .glo "_law_sure_right") rfl), _, fd52, L2.Fun.cong ek (toFun F52), He.glo_ok X G (c.fact 52 (f := .glo "law") rfl), He.free_ok X G (c.fact 53 (f := .free "all") rfl), He.free_ok X G (c.fact 54 (f := .free "any") rfl), He.free_ok X G (c.fact 55 (f := .free "bool") rfl), He.free_ok X G (c.fact 56 (f := .free "dict") rfl), He.free_ok X G (c.fact 57 (f := .free "enumerate") rfl), He.free_ok X G (c.fact 58 (f := .free "int") rfl), He.free_ok X G (c.fact 59 (f := .free "isinstance") rfl), He.free_ok X G (c.fact 60 (f := .free "len") rfl), He.free_ok X G (c.fact 61 (f := .free "list") rfl), He.free_ok X G (c.fact 62 (f := .free "range") rfl), He.free_ok X G (c.fact 63 (f := .free "set") rfl), He.free_ok X G (c.fact 64 (f := .free "sorted") rfl), He.free_ok X G (c.fact 65 (f := .free "str") rfl), He.free_ok X G (c.fact 66 (f := .free "tuple") rfl), _, ⟨_, He.glo_ok X G (c.fact 67 (f := .glo "CUTTING") rfl), rfl⟩, fun F => .tup ((c.tup 0 (x := "CUTTING") (vs := [(.str "first"), (.str "skip")]) rfl F).cong ek) (.cons (.str _) (.cons (.str _) .nil)), _, ⟨_, He.glo_ok X G (c.fact 68 (f := .glo "EMPTY") rfl), rfl⟩, fun F => .tup ((c.tup 1 (x := "EMPTY") (vs := [(.str "empty")]) rfl F).cong ek) (.cons (.str _) .nil), _, ⟨_, He.glo_ok X G (c.fact 69 (f := .glo "GROUPING") rfl), rfl⟩, fun F => .tup ((c.tup 2 (x := "GROUPING") (vs := [(.str "count"), (.str "sum"), (.str "heads")]) rfl F).cong ek) (.cons (.str _) (.cons (.str _) (.cons (.str _) .nil))), cst_str X G (c.fact 70 (f := .str "LETTERS" "abcdefghijklmnopqrstuvwxyz") rfl), cst_int X G (c.fact 71 (f := .int "MOST_COLUMNS" 5) rfl), cst_int X G (c.fact 72 (f := .int "MOST_COUNT" 20) rfl), cst_int X G (c.fact 73 (f := .int "MOST_STEPS" 8) rfl), _, ⟨_, He.glo_ok X G (c.fact 74 (f := .glo "SORTING") rfl), rfl⟩, fun F => .tup ((c.tup 3 (x := "SORTING") (vs := [(.str "sort"), (.str "stable")]) rfl F).cong ek) (.cons (.str _) (.cons (.str _) .nil))⟩ : Txt P w base (withT K _ (tabAt K tq)) mg) holds⟩
end Lw
open PySem PySem.W PySem.Calls PyProof.Rows
set_option maxRecDepth 100000 in
set_option maxHeartbeats 0 in
theorem PySem.Challenge.cw_openties_k23_whole_settled_reports_exten_holds : PySem.Challenge.rw_openties_k23_whole_settled_reports_exten.Holds := by
  w_on; o_law
  refine HandSHeadRun.head_any (r := OpenLaw.row PySem.Challenge.rw_openties_k23_whole_settled_reports_exten) (q := view (OpenLaw.row PySem.Challenge.rw_openties_k23_whole_settled_reports_exten).prog [65]) (H := Lw.hk) (ob := Lw.ob) (M := 4000) (loose := Lw.looseN) (d := HandSHeadRun.topDef (OpenLaw.row PySem.Challenge.rw_openties_k23_whole_settled_reports_exten).prog 65) (kwd := []) Lw.ob_eq
    (by kernel_rfl) (fun s => by kernel_rfl) Lw.run (by kernel_rfl) (by kernel_rfl) (by kernel_rfl) (by rfl) (by first | assumption | decide +kernel) (by decide +kernel) ⟨rfl, rfl, rfl, rfl, rfl, by decide +kernel⟩ ?hw ?hc
  case hw => w_witness2
  case hc =>
    refine Pu.walk_ofH (l := PySem.Challenge.rw_openties_k23_whole_settled_reports_exten) (n := 63) (k := 12) (x := "script") (fa := Lw.fa) (fn := Lw.fn) (tb := Lw.tb) (tq := Lw.tq) rfl (by decide) (by kernel_rfl) ⟨rfl, by decide, by decide⟩ ?F
    intro w mg f h K KX c G hmg0
    have hmg : mg ("law" : PySem.Str) = some (.ref f) := by
      have e : (HandSHeadRun.topDef (OpenLaw.row PySem.Challenge.rw_openties_k23_whole_settled_reports_exten).prog 65).name = ("law" : PySem.Str) := by kernel_rfl
      rw [← e]
      exact hmg0
    obtain ⟨K', fd, ek, et, hb, hF⟩ := Lw.facts (P := (PySem.Challenge.rw_openties_k23_whole_settled_reports_exten).prog) (w := w) Lw.holds KX c G hmg
    exact ⟨K', fd, Pu.spLawTop K', ek, hb, fun H a ns hl hT hS => ⟨a, ns, rfl, hS, hl, by rw [et]; exact Pu.tab_codes hT, fun _ => rfl⟩, hF⟩
