import PyProof.Rows.All
import Wide.All
import OpenK.AllK
import Wide.FinOn
import HandS.ForMost
import HandS.IsInst
import HandS.TupAny
import HandS.SetKeys
import HandS.DictComp
import HandS.Zip
import HandS.TupLe
import HandS.More
import HandS.Conv
import HandS.Codes
import KE.GoesNew
import KE.KDictZip
import HandS.Zip0
import KE.SortCalls
import KE.SortData
import HandS.Exc
import HandS.ExcInit
import HandS.ExcIs
import HandS.ClsMeth
import HandS.ForExc
import HandS.Deep
import HandS.TupMul
import HandS.Gcd
import HandS.WordsExc
import HandS.OwnEq
import HandS.TupSets
import HandS.Wide
import HandS.ExcField
import PyProof.InstNe
import KE.GoesSet
import KE.KDictKeyed
import KE.KDictDisplayH
import KE.KDictCopyH
import KE.KDictSum
import KE.KeyNested
import KE.KEqNest
import KE.LtData
import KE.KDictOf
import HandS.SetBool
import HandS.TryMany
import HandS.SortKw
import HandS.Slots
import KE.KSortKeyAny
import KE.DataMinMax
import HandS.Walk
import HandS.Style
import KE.DataCmp
import KE.KDictItemsList
import KE.KIndexOf
import KE.KMathGC
import HandS.TupLen
import KE.KDictWalk
import KE.KDictList
import KE.GoesMore
import HandS.Records
import PyProof.DictTruth
import PyProof.SetRoads
import HandS.SetFor
import KE.DataAny
import PyProof.EnumStmt
import PyProof.TupleOfSeq
import PySem.Challenge.RW_fairmasks_k25_whole_patterns_given_up
set_option Elab.async false
set_option maxRecDepth 100000
set_option maxHeartbeats 4000000
namespace Fm
open PySem PySem.Spec PyProof.Rows L2
/-- a thing that is judged: lists, dicts, instances are told by their type alone -/
inductive Dt where
  | non | bl (b : Bool) | int (i : Int) | str (s : Str) | tup (ds : List Dt) | oth (t : Value)
/-- only lists may have changed, and they are lists still -/
def Ext (H H' : Hp) : Prop := ∀ b o, H b = some o → H' b = some o ∨ ((∃ xs, o = .lst xs) ∧ ∃ ys, H' b = some (.lst ys))
theorem Ext.refl (H : Hp) : Ext H H := fun _ _ e => .inl e
theorem Ext.of {H H' : Hp} (s : Same H H') : Ext H H' := fun b o e => .inl (s b o e)
theorem Ext.trans {H H1 H2 : Hp} (a : Ext H H1) (b : Ext H1 H2) : Ext H H2 := fun c o e => by
  rcases a c o e with e1 | ⟨⟨xs, rfl⟩, ys, e1⟩
  · exact b c o e1
  · rcases b c _ e1 with e2 | ⟨_, zs, e2⟩
    · exact .inr ⟨⟨xs, rfl⟩, ys, e2⟩
    · exact .inr ⟨⟨xs, rfl⟩, zs, e2⟩
theorem Ext.tup {H H' : Hp} (e : Ext H H') {a : Addr} {xs : List V} (h : H a = some (.tup xs)) : H' a = some (.tup xs) := by
  rcases e a _ h with e1 | ⟨⟨ys, q⟩, _⟩
  · exact e1
  · cases q
theorem Ext.frz {H H' : Hp} (e : Ext H H') {a : Addr} {o : Obj} {u : HO} (h : H a = some (.frz o u)) : H' a = some (.frz o u) := by
  rcases e a _ h with e1 | ⟨⟨ys, q⟩, _⟩
  · exact e1
  · cases q
theorem Ext.sqT {K : PySem.W.Frag} {H H' : Hp} (e : Ext H H') {a : Addr} {xs : List V} (h : SqT K H a xs) : SqT K H' a xs := by
  rcases h with (h | ⟨o, h⟩) | h
  · exact .inl (.inl (e.tup h))
  · exact .inl (.inr ⟨o, e.frz h⟩)
  · exact .inr h
theorem same_new {H : Hp} {p : Addr} {o : HO} (h : H p = none) : Same H (upd H p o) := fun b x e => by
  rw [upd_ne (ne_of_none e h)]
  exact e
theorem Ext.new {H : Hp} {p : Addr} {o : HO} (h : H p = none) : Ext H (upd H p o) := .of (same_new h)
theorem TyX.ext {K : PySem.W.Frag} {H H' : Hp} {v : V} {t : Value} (e : Ext H H') (h : TyX K H v t) : TyX K H' v t := by
  have go : ∀ {a : Addr} {o : HO}, H a = some o → (∀ xs, o ≠ .lst xs) → H' a = some o := fun {a o} q n => by
    rcases e a _ q with e1 | ⟨⟨ys, z⟩, _⟩
    · exact e1
    · exact absurd z (n ys)
  cases h with
  | base b =>
    cases b with
    | non => exact .base .non
    | bl x => exact .base (.bl x)
    | int i => exact .base (.int i)
    | str x => exact .base (.str x)
    | flt x => exact .base (.flt x)
    | @lst a xs q =>
      rcases e a _ q with e1 | ⟨_, ys, e1⟩
      · exact .base (.lst e1)
      · exact .base (.lst e1)
    | frz q => exact .base (.frz (e.frz q))
    | tup q => exact .base (.tup (e.tup q))
    | dK q => exact .base (.dK (go q fun _ z => nomatch z))
    | dT q => exact .base (.dT (go q fun _ z => nomatch z))
    | ins q cl ha hn htk hm => exact .base (.ins (go q fun _ z => nomatch z) cl ha hn htk hm)
  | byt b => exact .byt b
  | set q => exact .set (go q fun _ z => nomatch z)
  | kList q c => exact .kList q c
  | kTuple q c => exact .kTuple q c
  | kDict q c => exact .kDict q c
  | fTuple q => exact .fTuple (e.frz q)
  | fDict q => exact .fDict (e.frz q)
mutual
inductive Dh (K : PySem.W.Frag) (H : Hp) : V → Dt → Prop
  | non : Dh K H .non .non
  | bl (b : Bool) : Dh K H (.bl b) (.bl b)
  | int (i : Int) : Dh K H (.int i) (.int i)
  | str (x : Str) : Dh K H (.str x) (.str x)
  | tup {a : Addr} {xs : List V} {ds : List Dt} : SqT K H a xs → DhAll K H xs ds → Dh K H (.ref a) (.tup ds)
  | oth {v : V} {t : Value} : TyX K H v t → PySem.W.kitOne K t (.type "int") = some false → PySem.W.kitOne K t (.type "tuple") = some false → Dh K H v (.oth t)
inductive DhAll (K : PySem.W.Frag) (H : Hp) : List V → List Dt → Prop
  | nil : DhAll K H [] []
  | cons {v : V} {vs : List V} {d : Dt} {ds : List Dt} : Dh K H v d → DhAll K H vs ds → DhAll K H (v :: vs) (d :: ds)
end
section
variable {K : PySem.W.Frag} {H H' : Hp}
mutual
theorem Dh.ext (e : Ext H H') : ∀ {v : V} {d : Dt}, Dh K H v d → Dh K H' v d
  | _, _, .non => .non
  | _, _, .bl b => .bl b
  | _, _, .int i => .int i
  | _, _, .str x => .str x
  | _, _, .tup s h => .tup (e.sqT s) (DhAll.ext e h)
  | _, _, .oth t k1 k2 => .oth (TyX.ext e t) k1 k2
theorem DhAll.ext (e : Ext H H') : ∀ {vs : List V} {ds : List Dt}, DhAll K H vs ds → DhAll K H' vs ds
  | _, _, .nil => .nil
  | _, _, .cons h t => .cons (Dh.ext e h) (DhAll.ext e t)
end
theorem DhAll.length : ∀ {vs : List V} {ds : List Dt}, DhAll K H vs ds → vs.length = ds.length
  | _, _, .nil => rfl
  | _, _, .cons _ t => congrArg (· + 1) (DhAll.length t)
theorem DhAll.get : ∀ {vs : List V} {ds : List Dt} {i : Nat} {v : V}, DhAll K H vs ds → vs[i]? = some v → ∃ d, ds[i]? = some d ∧ Dh K H v d
  | _, _, _, _, .nil, e => by simp at e
  | _, _, 0, _, .cons h _, e => by simp at e; subst e; exact ⟨_, rfl, h⟩
  | _, _, i + 1, v, .cons _ t, e => by
    obtain ⟨d, h1, h2⟩ := DhAll.get (i := i) (v := v) t (by simpa using e)
    exact ⟨d, by simpa using h1, h2⟩
theorem DhAll.at : ∀ {vs : List V} {ds : List Dt} {i : Nat} {d : Dt}, DhAll K H vs ds → ds[i]? = some d → ∃ v, vs[i]? = some v ∧ Dh K H v d
  | _, _, _, _, .nil, e => by simp at e
  | _, _, 0, _, .cons h _, e => by simp at e; subst e; exact ⟨_, rfl, h⟩
  | _, _, i + 1, d, .cons _ t, e => by
    obtain ⟨v, h1, h2⟩ := DhAll.at (i := i) (d := d) t (by simpa using e)
    exact ⟨v, by simpa using h1, h2⟩
theorem DhAll.snoc : ∀ {vs : List V} {ds : List Dt} {v : V} {d : Dt}, DhAll K H vs ds → Dh K H v d → DhAll K H (vs ++ [v]) (ds ++ [d])
  | _, _, _, _, .nil, h => .cons h .nil
  | _, _, _, _, .cons q t, h => .cons q (DhAll.snoc t h)
theorem DhAll.append : ∀ {vs ws : List V} {ds es : List Dt}, DhAll K H vs ds → DhAll K H ws es → DhAll K H (vs ++ ws) (ds ++ es)
  | _, _, _, _, .nil, h => h
  | _, _, _, _, .cons q t, h => .cons q (DhAll.append t h)
def Dt.isInt : Dt → Bool
  | .int _ => true
  | .bl _ => true
  | _ => false
def Dt.isW : Dt → Bool
  | .int _ => true
  | _ => false
def Dt.isTup : Dt → Bool
  | .tup _ => true
  | _ => false
theorem tyx_tup {a : Addr} {xs : List V} (h : SqT K H a xs) : TyX K H (.ref a) (.type "tuple") := by
  rcases h with (h | ⟨o, h⟩) | ⟨o, its, n, h1, h2, _⟩
  · exact .base (.tup h)
  · exact .fTuple h
  · exact .kTuple h1 h2
theorem Dh.kinds {v : V} {d : Dt} (h : Dh K H v d) : ∃ t, TyX K H v t ∧ PySem.W.kitOne K t (.type "int") = some d.isInt ∧ PySem.W.kitOne K t (.type "tuple") = some d.isTup ∧ (d.isInt = true → PySem.W.kitOne K t (.type "bool") = some (!d.isW)) := by
  cases h with
  | non => exact ⟨_, .base .non, kit_ty (by decide +kernel), kit_ty (by decide +kernel), fun z => nomatch z⟩
  | bl b => exact ⟨_, .base (.bl b), kit_ty (show kitB "bool" "int" = some true by decide +kernel), kit_ty (show kitB "bool" "tuple" = some false by decide +kernel), fun _ => kit_ty (show kitB "bool" "bool" = some true by decide +kernel)⟩
  | int i => exact ⟨_, .base (.int i), kit_ty (show kitB "int" "int" = some true by decide +kernel), kit_ty (show kitB "int" "tuple" = some false by decide +kernel), fun _ => kit_ty (show kitB "int" "bool" = some false by decide +kernel)⟩
  | str x => exact ⟨_, .base (.str x), kit_ty (show kitB "str" "int" = some false by decide +kernel), kit_ty (show kitB "str" "tuple" = some false by decide +kernel), fun z => nomatch z⟩
  | tup s _ => exact ⟨_, tyx_tup s, kit_ty (show kitB "tuple" "int" = some false by decide +kernel), kit_ty (show kitB "tuple" "tuple" = some true by decide +kernel), fun z => nomatch z⟩
  | oth t k1 k2 => exact ⟨_, t, k1, k2, fun z => nomatch z⟩
end
/-- plain: some data come in, one comes out, nothing is changed -/
def spD (K : PySem.W.Frag) (f : List Dt → Option Dt) : Sp := fun vs H Q _ => ∃ ds r, DhAll K H vs ds ∧ f ds = some r ∧ ∀ v H', Same H H' → Dh K H' v r → Q v H'
theorem Dh.bl_inv {K : PySem.W.Frag} {H : Hp} {v : V} {b : Bool} (h : Dh K H v (.bl b)) : v = .bl b := by cases h; rfl
theorem Dh.int_inv {K : PySem.W.Frag} {H : Hp} {v : V} {i : Int} (h : Dh K H v (.int i)) : v = .int i := by cases h; rfl
theorem Dh.tup_inv {K : PySem.W.Frag} {H : Hp} {v : V} {ds : List Dt} (h : Dh K H v (.tup ds)) : ∃ a xs, v = .ref a ∧ SqT K H a xs ∧ DhAll K H xs ds := by
  cases h with
  | tup s t => exact ⟨_, _, rfl, s, t⟩
theorem spD_bl {K : PySem.W.Frag} {f : List Dt → Option Dt} {vs : List V} {H : Hp} {Q : VK} {ds : List Dt} {b : Bool} (h : DhAll K H vs ds) (e : f ds = some (.bl b)) (q : ∀ H', Same H H' → Q (.bl b) H') : spD K f vs H Q E0 :=
  ⟨ds, _, h, e, fun v H' s d => by rw [d.bl_inv]; exact q H' s⟩
end Fm
namespace Fm
open PySem PySem.Spec PyProof.Rows L2
/-- a list (true), a tuple (false) that is read -/
def SqA (L : Bool) (K : PySem.W.Frag) (H : Hp) (a : Addr) (xs : List V) : Prop := match L with
  | true => SqL K H a xs
  | false => SqT K H a xs
theorem Ext.sqTs {K : PySem.W.Frag} {H H' : Hp} {a : Addr} {xs : List V} {L : Bool} (e : Same H H') (h : SqA L K H a xs) : SqA L K H' a xs := match L, h with
  | true, h => e.seq h
  | false, h => (Ext.of e).sqT h
theorem SqA.any {K : PySem.W.Frag} {H : Hp} {a : Addr} {xs : List V} {L : Bool} (h : SqA L K H a xs) : SqL K H a xs ∨ SqT K H a xs := match L, h with
  | true, h => .inl h
  | false, h => .inr h
theorem vals_at {xs : List V} {us : List Value} {i : Nat} {u : Value} (r : Vals xs us) (h : us[i]? = some u) : ∃ x, xs[i]? = some x ∧ RelV x u := by
  obtain ⟨hl, e⟩ := List.getElem?_eq_some_iff.mp h
  have hx : i < xs.length := by rw [r.length]; exact hl
  obtain ⟨u', e1, e2⟩ := r.get (List.getElem?_eq_getElem hx)
  rw [h] at e1
  cases e1
  exact ⟨_, List.getElem?_eq_getElem hx, e2⟩
end Fm
namespace Fm
open PySem PySem.Spec PyProof.Rows L2
section
variable {X : Cx} (K : PySem.W.Frag)
theorem op_catK (e : X.K = K := by rfl) : OpR X (binaryOp .Add) (rCatA K) := e ▸ op_catA
theorem op_eqK (hu : X.A.units + 64 < cLine) (e : X.K = K := by rfl) : OpR X (compareOp .Eq) (rEqD K) := e ▸ op_eqD hu
theorem op_neK (hu : X.A.units + 64 < cLine) (e : X.K = K := by rfl) : OpR X (compareOp .NotEq) (rNeD K) := e ▸ op_neD hu
theorem ix_tupK (e : X.K = K := by rfl) : IxR X (rIxT K) := e ▸ ix_tup
theorem ix_listK (e : X.K = K := by rfl) : IxR X (rIxL K) := e ▸ ix_list
theorem call_isiK' (e : X.K = K := by rfl) : CallR X (.builtin "isinstance") (rIsi K) := e ▸ call_isi
theorem pg_tupK {es : List Expr} {k : Nat} {t : TGs} {n : Nat} {pos : Pos} (hc : X.calm = true) (h : PGs X es t) (e : X.K = K := by rfl) (hn : (assignEach es X.env).length = n := by rfl) (hst : (assignEach es X.env).findIdx? (·.1) = none := by rfl) :
    PG X (.Tuple es k pos) (gTup K n t) := e ▸ pg_tup hc h hn hst
theorem pi_tupK {tg l : Expr} {tl : TE} (hl : PE X l tl) (e : X.K = K := by rfl) : PI X tg l (iTup K tl) := e ▸ pi_tup hl
theorem pi_listK {tg l : Expr} {tl : TE} (hl : PE X l tl) (e : X.K = K := by rfl) : PI X tg l (iList K tl) := e ▸ pi_list hl
theorem sl_tupK (e : X.K = K := by rfl) : SlR X (rSlA K) := e ▸ sl_tupA
theorem sl_listK (e : X.K = K := by rfl) : SlR X (rSlL K) := e ▸ sl_list
/-- len of a list or tuple; tuple(list or tuple) -/
def rLenK (K : PySem.W.Frag) : List V → Hp → VK → Prop := fun xs H Q => ∃ p ys, xs = [.ref p] ∧ (SqL K H p ys ∨ SqT K H p ys) ∧ Q (.int ys.length) H
theorem call_lenK (e : X.K = K := by rfl) : CallR X (.builtin "len") (rLenK K) := e ▸ call_len_seq
def rTupK (K : PySem.W.Frag) : List V → Hp → VK → Prop := fun xs H Q => ∃ p ys, xs = [.ref p] ∧ ((SqL K H p ys ∧ ∀ l, H l = none → Q (.ref l) (upd H l (.tup ys))) ∨ (SqT K H p ys ∧ Q (.ref p) H))
theorem call_tupleK (e : X.K = K := by rfl) : CallR X (.type "tuple") (rTupK K) := e ▸ call_tuple_of
end
end Fm
namespace FmSort
open PySem PySem.W PySem.SeqAt PyProof.Rows
def nonE : PyData → Bool
  | .tuple (_ :: _) => true
  | _ => false
section
variable {prog : Program} {w : World} {A : Around} {E : Value → Shared → Prop} {s : Shared} {vs : List Value} {ds : List PyData}
theorem call_tuple_lt {Q : Value → Shared → Prop} {l b : Addr} {items items2 : Array Value} {e r : Nat → Bool} (hl : s.heap.IsTuple l items) (hb : s.heap.IsTuple b items2)
    (he : ∀ j (h1 : j < items.size) (h2 : j < items2.size), EqAt A.in1 s items[j] items2[j] (e j)) (hr : ∀ j (h1 : j < items.size) (h2 : j < items2.size), e j = false → RcLt A.in1 s items[j] items2[j] (r j))
    (h : Q (.bool (firstLt e r (decide (items.size < items2.size)) (List.range (min items.size items2.size)))) s) : wpAny (model prog w) A (call (.builtin "tuple.__lt__") [.ref l, .ref b]) Q E s := by
  obtain ⟨⟨c1, u1, m1, p1⟩, g1, k1, n1, z1⟩ := id hl
  obtain ⟨⟨c2, u2, m2, p2⟩, g2, k2, n2, z2⟩ := id hb
  simp only at k1 z1 k2 z2
  subst k1 z1 k2 z2
  exact call_meets F.slot_tuple_lt ⟨_, g1, rfl⟩ F.entry_tuple_lt (F.args_tuple_lt_2 _ _) (tuple_ltAt l b items items2 n1 n2 u1 u2 p1 p2 e r) ⟨g1, g2, he, hr, h⟩
/-- two tuples, both of one type: by the slot itself -/
theorem oneLt_tup {xs ys : List PyData} {a b : Value} {as bs : List Addr} {Q : Bool → Shared → Prop} (ra : Reads s.heap a (.tuple xs) as) (rb : Reads s.heap b (.tuple ys) bs) (hal : alikeAll xs ys = true)
    (hu : A.units + min (PyData.tuple xs).depth (PyData.tuple ys).depth < cLine) (hq : Q (dataLt (.tuple xs) (.tuple ys)) s) : wpAny (model prog w) A (oneLt' true a b) Q E s := by
  cases ra with
  | @tuple l o us n _ as1 a1 a2 a3 a4 =>
    cases rb with
    | @tuple l2 o2 us2 n2 _ bs1 b1 b2 b3 b4 =>
      have z1 : us.size = xs.length := by simpa using ReadsAll.length _ _ _ a4
      have z2 : us2.size = ys.length := by simpa using ReadsAll.length _ _ _ b4
      rw [dataLt_tuple, ← firstLt_toks xs ys hal, ← z1, ← z2] at hq
      rw [oneLt'_eq]
      simp only [if_true]
      refine wpAny_bind (wpAny_cRoomFor (room_here hu) ?_)
      refine wpAny_bind (wpAny_callSpecialIfBound?_slot (T := "tuple") ⟨_, a1, a2⟩ F.slot_tuple_lt (call_tuple_lt (e := pairEq xs ys) (r := fun j => dataLt (xs.getD j .none) (ys.getD j .none)) ⟨_, a1, a2, _, a3⟩ ⟨_, b1, b2, _, b3⟩ (fun j j1 j2 => ?_) (fun j j1 j2 hj => ?_) ?_))
      · have t := eqAt_alikeAll xs ys A.in1 s us.toList us2.toList _ _ a4 b4 hal (room_in hu) j (by simpa using j1) (by simpa using j2)
        simpa using t
      · have t := rcLt_alikeAll xs ys A.in1 s us.toList us2.toList _ _ a4 b4 hal (room_in hu) j (by simpa using j1) (by simpa using j2) hj
        simpa using t
      · exact wpAny_truthy_bool hq
theorem firsts_each {M : Model} : ∀ {vs : List Value} {ds : List PyData} {Q : List (Option Value) → Shared → Prop}, EachIs (fun v d => ∃ as, Reads s.heap v d as) vs ds → (∀ d ∈ ds, ∃ xs, d = .tuple xs) →
    (∀ fs : List (Option Value), fs.map Option.isSome = ds.map nonE → Q fs s) → wpAny M A (vs.mapM firstOfTuple') Q E s
  | _, _, _, .nil, _, h => by
    rw [List.mapM_nil]
    exact wpAny_pure (h [] rfl)
  | _, _, Q, .cons (as := vs) ⟨as, r⟩ t, ht, h => by
    obtain ⟨xs, rfl⟩ := ht _ (List.mem_cons_self ..)
    rw [List.mapM_cons]
    refine wpAny_bind ?_
    rw [kas_first_eq]
    cases r with
    | @tuple l o us n _ as1 a1 a2 a3 a4 =>
      refine wpAny_bind (Looks.here (show Looks M s.heap (typeOf (.ref l)) o.cls from (Looks.ld a1).andThen .now) ?_)
      rw [a2, if_neg (by first | decide | simp)]
      refine wpAny_bind (listItems_at a1 a3 (wpAny_pure ?_))
      refine wpAny_bind (firsts_each (Q := fun bs s' => wpAny M A (pure (us[0]? :: bs)) Q E s') t (fun d hd => ht d (List.mem_cons_of_mem _ hd)) fun fs e => wpAny_pure (h _ ?_))
      rw [List.map_cons, List.map_cons, e]
      congr 1
      have z : us.toList.length = xs.length := by simpa using ReadsAll.length _ _ _ a4
      cases xs with
      | nil =>
        have e0 : us.size = 0 := by simpa using z
        rw [Array.getElem?_eq_none (by omega)]
        rfl
      | cons x r =>
        have e0 : us.size = r.length + 1 := by simpa using z
        rw [Array.getElem?_eq_getElem (by omega)]
        rfl
theorem sortsAt_tups (e : EachIs (fun v d => ∃ as, Reads s.heap v d as) vs ds) (hal : AllAlike ds) (ht : ∀ d ∈ ds, ∃ xs, d = .tuple xs) (hu : ∀ d ∈ ds, A.units + d.depth < cLine) : SortsAt prog w A s (dataKind s.heap ds) vs := by
  have room : ∀ {d d' : PyData}, d ∈ ds → A.units + min d.depth d'.depth < cLine := fun {d d'} hd => Nat.lt_of_le_of_lt (Nat.add_le_add_left (Nat.min_le_left _ _) _) (hu d hd)
  by_cases hne : ∀ d ∈ ds, nonE d = true
  · refine SortsAt.data e hal (.inl fun d hd => ?_) hu
    obtain ⟨xs, rfl⟩ := ht d hd
    cases xs with
    | nil => cases hne _ hd
    | cons x r => exact ⟨x, r, rfl⟩
  · have hall : (ds.map nonE).all id = false := by
      rw [List.all_map]
      cases q : ds.all (id ∘ nonE) with
      | false => rfl
      | true => exact absurd (fun d hd => List.all_eq_true.mp q d hd) hne
    have lt : ∀ f : Bool, H.LtAt prog w A s (dataKind s.heap ds) (if f = true then oneType' else general') := by
      intro f E x y a b Q ha hb hq
      obtain ⟨d, as, hd, ra, rfl⟩ := dataKind_inv ha
      obtain ⟨d', as', hd', rb, rfl⟩ := dataKind_inv hb
      obtain ⟨xs, rfl⟩ := ht d hd
      obtain ⟨ys, rfl⟩ := ht d' hd'
      have al := hal _ hd _ hd'
      cases f with
      | true => exact oneLt_tup ra rb (by simpa [alike] using al) (room hd) hq
      | false => exact oneLt_alike (f := false) (fun z => by cases z) ra rb al (fun z => by cases z) (room hd) hq
    refine ⟨fun v hv => ?_, (if (ds.map nonE).head? = some true then general' else oneType'), ?_, fun h2 E Q hq => ?_⟩
    · obtain ⟨d, hd, as, r⟩ := e.left v hv
      exact ⟨_, dataKind_some hal hd r⟩
    · by_cases q : (ds.map nonE).head? = some true
      · rw [if_pos q]
        exact lt false
      · rw [if_neg q]
        exact lt true
    · rw [keyKind'_eq, List.mapM_toArray, map_eq_pure_bind]
      refine wpAny_bind (wpAny_bind (firsts_each e ht fun fs hfs => wpAny_pure ?_))
      have e1 : (fs.toArray.all fun x => x.isSome) = false := by
        rw [List.all_toArray]
        have z : (fs.map Option.isSome).all id = false := by rw [hfs]; exact hall
        rw [List.all_map] at z
        exact z
      rw [if_neg (by rw [e1]; exact Bool.false_ne_true)]
      have e2 : ((fs.toArray)[0]?.bind id).isSome = decide ((ds.map nonE).head? = some true) := by
        rw [← hfs]
        cases fs with
        | nil => rfl
        | cons f r =>
          show (((f :: r).toArray)[0]?.bind id).isSome = _
          rw [List.getElem?_toArray]
          show f.isSome = decide (some f.isSome = some true)
          cases f <;> rfl
      rw [e2]
      by_cases q : (ds.map nonE).head? = some true
      · rw [if_pos (decide_eq_true q)]
        rw [if_pos q] at hq
        exact wpAny_pure hq
      · rw [if_neg (fun z => q (of_decide_eq_true z))]
        rw [if_neg q] at hq
        obtain ⟨v1, v2, r, rfl⟩ : ∃ v1 v2 r, vs = v1 :: v2 :: r := by
          match vs, h2 with
          | [], h2 => simp at h2
          | [_], h2 => simp at h2
          | v1 :: v2 :: r, _ => exact ⟨v1, v2, r, rfl⟩
        rw [oneTypeOnly'_eq, List.mapM_toArray, map_eq_pure_bind]
        refine wpAny_bind (wpAny_bind (wpAny_bind (kas_mapM (r := Value.type "tuple") _ (fun v hv Q' hq => ?_) (wpAny_pure ?_))))
        · obtain ⟨d, hd, as, rd⟩ := e.left v hv
          obtain ⟨xs, rfl⟩ := ht d hd
          exact (looks_reads rd).here hq
        · have a1 : ((List.map (fun _ => Value.type "tuple") (v1 :: v2 :: r)).toArray.all fun x => x == Value.type "tuple") = true := by
            simp only [List.all_toArray, List.all_map, List.all_eq_true]
            intro _ _
            rfl
          have a2 : (List.map (fun _ => Value.type "tuple") (v1 :: v2 :: r)).toArray[0]? = some (Value.type "tuple") := by simp
          rw [a2]
          simp only [a1, if_true]
          exact wpAny_pure (wpAny_pure hq)
end
end FmSort
namespace Fm
open PySem PySem.Spec PyProof.Rows L2 PySem.W
theorem each_vals : ∀ {bs : List (V × PyData)} {us : List Value}, Vals (bs.map (·.1)) us → EachIs (fun u b => RelV b.1 u) us bs
  | [], _, r => by
    cases r
    exact .nil
  | b :: bs, _, r => by
    cases r with
    | cons h t => exact .cons h (each_vals t)
theorem vals_each : ∀ {bs : List (V × PyData)} {us : List Value}, EachIs (fun u b => RelV b.1 u) us bs → Vals (bs.map (·.1)) us
  | _, _, .nil => .nil
  | _, _, .cons h t => .cons h (vals_each t)
theorem each_and {R S : Value → V × PyData → Prop} : ∀ {bs : List (V × PyData)} {us : List Value}, EachIs R us bs → (∀ u b, b ∈ bs → R u b → S u b) → EachIs S us bs
  | _, _, .nil, _ => .nil
  | _, _, .cons h t, k => .cons (k _ _ (List.mem_cons_self ..) h) (each_and t fun u b hb => k u b (List.mem_cons_of_mem _ hb))
/-- sorted of a list of tuples: each value goes with its data -/
def rSortTs (K : PySem.W.Frag) : List V → Hp → VK → Prop := fun vs H Q => ∃ (a : Addr) (bs : List (V × PyData)), vs = [.ref a] ∧ SqL K H a (bs.map (·.1)) ∧ (∀ b ∈ bs, Dp K H b.1 b.2 ∧ (∃ zs, b.2 = .tuple zs) ∧ b.2.depth ≤ 60) ∧ AllAlike (bs.map (·.2)) ∧
  ∀ p, H p = none → Q (.ref p) (upd H p (.lst ((bs.mergeSort (dataLe false (fun b : V × PyData => b.2))).map (·.1))))
theorem cr_sortTs {X : Cx} (hu : X.A.units + 64 < cLine) : CallR X (.builtin "sorted") (rSortTs X.K) := by
  intro pins s σ H vs us Q I r h
  obtain ⟨a, bs, rfl, hs, hb, hal, q⟩ := h
  obtain ⟨its, rv, hl, hz⟩ := I.list hs
  rw [Vals.ref1 r]
  have e0 := each_vals rv
  have er : EachIs (fun (v : Value) (b : V × PyData) => ∃ as, Reads (sortingHeap (copyHeap s.heap its) (s.heap.objs.size + 1) its) v b.2 as) its bs := each_and e0 fun u b hm hr => by
    obtain ⟨as, rd⟩ := Dp.reads I b.2 b.1 u (hb b hm).1 hr
    exact ⟨as, PyProof.Rows.Reads.keeps (fun _ _ => sorting_copy_old) rd⟩
  have hL : its.length ≤ sizeLine := by
    rw [← rv.length]
    exact hz
  refine sorted_vals hl.isList (FmSort.sortsAt_tups (s := { s with heap := sortingHeap (copyHeap s.heap its) (s.heap.objs.size + 1) its }) (each_map (R := fun v d => ∃ as, Reads (sortingHeap (copyHeap s.heap its) (s.heap.objs.size + 1) its) v d as) (fun b : V × PyData => b.2) er) hal (fun d hd => ?_) fun d hd => ?_) hL ?_
  · obtain ⟨b, hm, rfl⟩ := List.mem_map.mp hd
    exact (hb b hm).2.1
  · obtain ⟨b, hm, rfl⟩ := List.mem_map.mp hd
    have := (hb b hm).2.2
    show X.A.units + 1 + 1 + b.2.depth < cLine
    omega
  · have e1 := sortVals_data (R := fun u (b : V × PyData) => RelV b.1 u) false e0 er hal
    generalize sortVals (dataKind (sortingHeap (copyHeap s.heap its) (s.heap.objs.size + 1) its) (bs.map (·.2))) false its its = out at e1 ⊢
    have v1 := vals_each e1
    obtain ⟨ep, he'⟩ := PyProof.Rows.sortedAll_at s.heap its out.toArray
    have hlen : ((bs.mergeSort (dataLe false (fun b : V × PyData => b.2))).map (·.1)).length ≤ sizeLine := by
      rw [List.length_map, List.length_mergeSort]
      rw [List.length_map] at hz
      exact hz
    exact ⟨.ref _, upd H (s.heap.objs.size + 1) (.lst ((bs.mergeSort (dataLe false (fun b : V × PyData => b.2))).map (·.1))), I.laid (t' := s.toks) (fun _ _ => PyProof.Rows.sortedAll_old) (Nat.le_succ _) ⟨hlen, out, ep, v1, he'⟩, rfl, q _ (I.hok.fresh (Nat.le_succ _))⟩
end Fm
namespace Fm
open PySem PySem.Spec PyProof.Rows L2 PySem.W
/-- the class above at M, its __init__ being ValueError's -/
structure UpC (K : PySem.W.Frag) (M : Addr) (mc : Value) : Prop where
  rd : PySem.W.readsIn K M mc = true
  ga : PySem.W.specialIn K (.ref M) "__getattribute__" = some (some (.builtin "type.__getattribute__"))
  ini : PySem.W.findCls K (.ref M) mc "__init__" = some (.val (.builtin "ValueError.__init__"))
end Fm
namespace Fm
open PySem PySem.Spec PyProof.Rows L2 PySem.W
section
variable {X : Cx} {K : PySem.W.Frag}
/-- x in t, t a tuple of data -/
def rInT (K : PySem.W.Frag) : R2 := fun x y H Q => ∃ d ds, Dp K H x d ∧ Dp K H y (.tuple ds) ∧ SeqAt.shaped d = true ∧ SeqAt.shaped (.tuple ds) = true ∧ Q (.bl (ds.any fun z => PyData.eqv z d)) H
theorem op_inT (hu : X.A.units + 65 < cLine) (e : X.K = K := by rfl) : OpR X (compareOp .In) (rInT K) := by
  subst e
  intro pins s σ H x y v u Q I rx ry h
  obtain ⟨d, ds, h1, h2, s1, s2, q⟩ := h
  obtain ⟨as, r1⟩ := Dp.reads I d x v h1 rx
  obtain ⟨bs, r2⟩ := Dp.reads I (.tuple ds) y u h2 ry
  exact SeqAt.in_tuple_reads r2 r1 (SeqAt.canLay_of_shaped s2) (SeqAt.canLay_of_shaped s1) (room_in_shaped s1 hu) ⟨.bl _, H, I, rfl, q⟩
theorem op_ltTK (hu : X.A.units < cLine) (e : X.K = K := by rfl) : OpR X (compareOp .Lt) (rLtT K) := e ▸ op_ltT hu
end
end Fm
namespace Fm
open PySem PySem.Spec PyProof.Rows L2
theorem enum_new_tup (l : Addr) (items : Array Value) (n : Nat) (dct : Option Addr) (sl : Array (Option Value)) :
    Meets (Builtin.«enumerate.__new__» ⟨[.type "enumerate", .ref l], []⟩) (fun _ R s => s.heap.get? l = some { cls := .type "tuple", dict := dct, data := .seq items n, slots := sl } ∧
      R (.ok (.ret (.ref (s.heap.push { cls := .type "tuple_iterator", data := .fields #[.ref l, .int 0 0] }).objs.size)))
        { s with heap := (s.heap.push { cls := .type "tuple_iterator", data := .fields #[.ref l, .int 0 0] }).push { cls := .type "enumerate", data := .fields #[.none, .bool false, .ref s.heap.objs.size, rawInt 0, .none, .none] } }) :=
  .of_wp fun prog w A R s h => by
    obtain ⟨hp, g, d, tk, os⟩ := s
    obtain ⟨hl, h⟩ := h
    have hsub := sub_enumerate
    have hL : Heap.IsTuple (Shared.heap ⟨hp, g, d, tk, os⟩) l items := ⟨_, hl, rfl, n, rfl⟩
    wp_walk using wpAny_loadPart' hl
    refine wpAny_stack_any fun st => wpAny_pure ?_
    split
    · rename_i c _ _ _ _ _
      cases (c == Value.type "enumerate")
      · wp_walk using wpAny_loadPart' hl, wpAny_pyIter_tuple hL
        exact ⟨_, rfl, h⟩
      · wp_walk using wpAny_loadPart' hl, wpAny_pyIter_tuple hL
        exact ⟨_, rfl, h⟩
    · wp_walk using wpAny_loadPart' hl, wpAny_pyIter_tuple hL
      exact ⟨_, rfl, h⟩
section
variable {prog : Program} {w : World} {A : Around} {E : Value → Shared → Prop} {s : Shared}
theorem call_enum_tup {l : Addr} {items : Array Value} {Q : Value → Shared → Prop} (hL : s.heap.IsTuple l items)
    (h : ∀ h', IsEnum h' (s.heap.objs.size + 1) s.heap.objs.size 0 .none → h'.IsTupleIter s.heap.objs.size l 0 → (∀ b o, s.heap.get? b = some o → h'.get? b = some o) → Q (.ref (s.heap.objs.size + 1)) { s with heap := h' }) :
    wpAny (model prog w) A (call (.type "enumerate") [.ref l]) Q E s := by
  obtain ⟨⟨c, dct, dt, sl⟩, hl, hc, n, hd⟩ := hL
  replace hc : c = .type "tuple" := hc
  replace hd : dt = .seq items n := hd
  subst hc hd
  refine callType_new F.called_enumerate (by decide) (F.typeCall_enumerate_1 _) (F.newCall_enumerate_1 _) (fun obj => F.args_object_init_2 obj _) F.entry_enumerate_new (enum_new_tup l items n dct sl) ⟨hl, ?_⟩
  have hz : (s.heap.push { cls := .type "tuple_iterator", data := .fields #[.ref l, .int 0 0] }).objs.size = s.heap.objs.size + 1 := Heap.size_push ..
  show _ ∧ _
  rw [hz]
  have he : IsEnum ((s.heap.push { cls := .type "tuple_iterator", data := .fields #[.ref l, .int 0 0] }).push
      { cls := .type "enumerate", data := .fields #[.none, .bool false, .ref s.heap.objs.size, rawInt 0, .none, .none] }) (s.heap.objs.size + 1) s.heap.objs.size 0 .none := by
    have t := Heap.get?_push_size (s.heap.push { cls := .type "tuple_iterator", data := .fields #[.ref l, .int 0 0] })
      (o := { cls := .type "enumerate", data := .fields #[.none, .bool false, .ref s.heap.objs.size, rawInt 0, .none, .none] }) rfl
    rw [hz] at t
    exact t
  exact ⟨⟨_, he, rfl⟩, h _ he ⟨_, Heap.get?_push_of_some _ (Heap.get?_push_size _ rfl), rfl, rfl⟩ fun b o x => Heap.get?_push_of_some _ (Heap.get?_push_of_some _ x)⟩
end
/-- the numbered items of a tuple -/
def ItE (K : PySem.W.Frag) (a : Addr) (xs : List V) : It where
  go := fun i H => SqT K H a xs ∧ i < xs.length
  yld := fun i H v H' => ∃ T x, v = .ref T ∧ H T = none ∧ H' = upd H T (.tup [.int (i : Nat), x]) ∧ xs[i]? = some x
  stop := fun i H => SqT K H a xs ∧ i = xs.length
theorem turn_e {P : Program} {w : World} {K : PySem.W.Frag} {elts : List Expr} {kk : Nat} {tp : Pos} {a e it : Addr} {xs : List V} (n1 : a ≠ it) (n2 : e ≠ it) (n3 : e ≠ a) :
    Turn P w K (.Tuple elts kk tp) (ItE K a xs) [e, it] e (fun i h => (∃ old, IsEnum h e it ((i : Nat) : Int) old) ∧ h.IsTupleIter it a i) where
  mem := List.mem_cons_self ..
  obj := by
    rintro i h ⟨⟨old, q1⟩, ⟨o, q2, _, d2⟩⟩ c hc
    rcases (show c = e ∨ c = it by simpa using hc) with z | z <;> subst z
    · exact ⟨_, q1, fun _ y => nomatch y⟩
    · exact ⟨o, q2, fun _ y => by rw [d2] at y; cases y⟩
  keep := by
    rintro i h h' ⟨⟨old, q1⟩, q2⟩ k
    exact ⟨⟨old, k _ (by simp) _ q1⟩, q2.at fun o z => k _ (by simp) o z⟩
  item := by
    intro X hP hw hK hc i pins s σ H E I hf st hg
    subst hP hw hK
    obtain ⟨hx, lx⟩ := hg
    obtain ⟨us, rx, px, _⟩ := I.tuple hx
    obtain ⟨⟨old, q1⟩, q2⟩ := st
    have hd : X.A.in1.handled = none := I.ok.hd hc
    have hel : e < s.heap.objs.size := Heap.lt_size q1
    have hil : it < s.heap.objs.size := by
      obtain ⟨_, q, _⟩ := id q2
      exact Heap.lt_size q
    refine wpAny_pyNext_enum_itemD (Draws.tuple (prog := X.prog) (w := X.w) hd it a n1 us.toArray) q1 ⟨q2, px⟩ (by rw [List.size_toArray, ← rx.length]; exact lx) n2 (by simp [n2, n3]) fun u h' tk hu ho st' hT hsz hk => ?_
    obtain ⟨x, ex, rxu⟩ := vals_at rx (show us[i]? = some u by simpa using hu)
    refine ⟨_, rfl, wpAny_letOwnedTupleGo_enum (s := { s with heap := h', toks := tk + 1 }) ho fun h'' he' sb => ?_⟩
    have hT2 := (sb.2 _ (Nat.ne_of_gt hel)).trans hT
    have new : ObjOk X.prog X.w (upd H s.heap.objs.size (.tup [.int (i : Nat), x])) h'' s.heap.objs.size (.tup [.int (i : Nat), x]) :=
      ⟨by show 2 ≤ sizeLine; decide, [.int i tk, u], .cons ⟨_, rfl⟩ (.cons rxu .nil), ⟨_, hT2, rfl, _, rfl⟩⟩
    have I1 : Inv X pins σ (upd H s.heap.objs.size (.tup [.int (i : Nat), x])) { s with heap := h'', toks := tk + 1 } :=
      I.turnedNew (t' := tk + 1) (ch := [e, it]) (fun b ob hb q => (sb.2 b (fun z => hb (by simp [z]))).trans (hk b ob (fun z => hb (by simp [z])) (fun z => hb (by simp [z])) q)) hf (Nat.le_refl _) new
    refine ⟨.ref s.heap.objs.size, _, I1, rfl, ⟨_, x, rfl, I.hok.fresh (Nat.le_refl _), rfl, ex⟩, ⟨⟨u, ?_⟩, st'.1.at fun o q => (sb.2 it (Ne.symm n2)).trans q⟩, fun b hb => ?_⟩
    · have e1 : ((i + 1 : Nat) : Int) = (i : Int) + 1 := by omega
      rw [e1]
      exact he'
    · have hb' : b < s.heap.objs.size := by
        rcases (show b = e ∨ b = it by simpa using hb) with z | z <;> subst z
        · exact hel
        · exact hil
      rw [upd_ne (Nat.ne_of_lt hb')]
      exact (hf b hb).1
  done := by
    intro X hP hw hK hc i pins s σ H E I hf st hg
    subst hP hw hK
    obtain ⟨hx, hi⟩ := hg
    obtain ⟨us, rx, px, _⟩ := I.tuple hx
    obtain ⟨⟨old, q1⟩, q2⟩ := st
    have hd : X.A.in1.handled = none := I.ok.hd hc
    have hn : i = us.toArray.size := by
      rw [List.size_toArray, ← rx.length]
      exact hi
    subst hn
    obtain ⟨f0, f1, f2, f3, f4, f5⟩ := hf it (by simp)
    exact wpAny_pyNext_enum_endD (Draws.tuple (prog := X.prog) (w := X.w) hd it a n1 us.toArray) q1 ⟨q2, px⟩ fun h' eb => ⟨rfl, I.turned (t' := s.toks) (fun b o hb q => eb b o hb q) f0 f1 f3 f4 f5⟩
  self := fun A i s Q E st q => by
    obtain ⟨⟨_, he⟩, _⟩ := st
    exact wpAny_pyIter_enum he q
def iEnumT (K : PySem.W.Frag) (ta : TA) : TI := fun σ H R => ta σ H fun vs H1 => ∃ a xs, vs = [.ref a] ∧ SqT K H1 a xs ∧ R (ItE K a xs) H1
theorem pi_enumT {X : Cx} {K : PySem.W.Frag} {e : Expr} {ta : TA} {p pos tpos : Pos} {elts : List Expr} {kk : Nat} (hg : Gl X "enumerate") (hm : X.mg "enumerate" = none) (ha : PA X [e] ta) (eK : X.K = K := by rfl) (hs : starEach [e] X.env = [(false, eval e X.env)] := by rfl) :
    PI X (.Tuple elts kk tpos) (.Call (.Name "enumerate" p) [e] [] pos) (iEnumT K ta) := by
  subst eK
  refine ⟨fun pins s σ H R I h => ?_⟩
  refine Call_ (ld_blt I hg hm boot_enumerate (PyProof.Rows.callWith_type1 (thn (ha.run pos pins s σ H _ I h) fun us s1 ⟨vs, H1, I1, r1, q1⟩ => ?_) hs rfl))
  obtain ⟨a, xs, ex, hq, q⟩ := q1
  subst ex
  cases r1 with
  | cons r rr =>
    cases rr
    cases r
    obtain ⟨its, rv, p', hz⟩ := I1.tuple hq
    have hal : a < s1.heap.objs.size := by
      obtain ⟨_, z, _⟩ := id p'
      exact Heap.lt_size z
    refine call_enum_tup p' fun h' he hit hk => wpAny_pyIter_enum he ?_
    have I2 : Inv X pins σ H1 { s1 with heap := h' } := I1.kept (t' := s1.toks) hk
    refine ⟨s1.heap.objs.size + 1, [s1.heap.objs.size + 1, s1.heap.objs.size], _, _, H1, rfl, I2, turn_e (xs := xs) (Nat.ne_of_lt hal) (Nat.succ_ne_self _) (Nat.ne_of_gt (Nat.lt_succ_of_lt hal)), ⟨⟨.none, he⟩, hit⟩, fun b hb => ?_, q⟩
    have hle : s1.heap.objs.size ≤ b := by
      rcases (show b = s1.heap.objs.size + 1 ∨ b = s1.heap.objs.size by simpa using hb) with z | z
      · rw [z]
        exact Nat.le_add_right _ _
      · rw [z]
        exact Nat.le_refl _
    exact I1.fpOk hle (I1.hok.fresh hle)
section
variable {X : Cx} {K : PySem.W.Frag}
theorem call_allK (hc : X.calm = true) (e : X.K = K := by rfl) : CallR X (.builtin "all") (rAll K) := e ▸ cr_all hc
theorem call_sortTsK (hu : X.A.units + 64 < PySem.cLine) (e : X.K = K := by rfl) : CallR X (.builtin "sorted") (rSortTs K) := e ▸ cr_sortTs hu
def rListOf (K : PySem.W.Frag) : List V → Hp → VK → Prop := fun xs H Q => ∃ p ys, xs = [.ref p] ∧ (SqL K H p ys ∨ SqT K H p ys) ∧ ∀ l, H l = none → Q (.ref l) (upd H l (.lst ys))
theorem call_listK (e : X.K = K := by rfl) : CallR X (.type "list") (rListOf K) := by
  subst e
  exact call_list_of
end
end Fm
namespace Fm
open PySem L2
theorem room65 {k : Nat} {A : Around} (r : Room k A) : A.units + 65 < cLine := by
  have := r.un
  omega
end Fm
namespace Fm
open PySem PySem.Spec PyProof.Rows L2
theorem for_enumT {K : PySem.W.Frag} {a : Addr} {xs : List V} {g : TG} {tb : TS} {D : Ends} {σ : L2.St} {H : Hp} (Pv : Nat → L2.St → Hp → Prop) (h0 : Pv 0 σ H) (hq : ∀ i σ H, Pv i σ H → SqT K H a xs)
    (hs : ∀ (i : Nat) (x : V) (T : Addr) (σ : L2.St) (H : Hp), xs[i]? = some x → Pv i σ H → H T = none → g (.ref T) σ (upd H T (.tup [.int (i : Nat), x])) fun σ2 H2 => tb { D with nx := Pv (i + 1), ct := Pv (i + 1), bk := D.nx } σ2 H2)
    (hd : ∀ σ H, Pv xs.length σ H → D.nx σ H) :
    ∃ W : Nat → Nat → L2.St → Hp → Prop, (∃ m, W 0 m σ H) ∧ ∀ i m σ H, W i m σ H →
      ((ItE K a xs).stop i H ∧ D.nx σ H) ∨ ((ItE K a xs).go i H ∧ ∃ N : L2.St → Hp → Prop, (∀ σ' H', N σ' H' → ∃ m', m' < m ∧ W (i + 1) m' σ' H') ∧ ∀ v H', (ItE K a xs).yld i H v H' → g v σ H' fun σ2 H2 => tb { D with nx := N, ct := N, bk := D.nx } σ2 H2) := by
  refine ⟨fun i m σ H => i + m = xs.length ∧ Pv i σ H, ⟨_, Nat.zero_add _, h0⟩, ?_⟩
  rintro i m σ H ⟨em, p⟩
  have qx := hq i σ H p
  cases m with
  | zero =>
    have ei : i = xs.length := em
    refine .inl ⟨⟨qx, ei⟩, hd σ H ?_⟩
    rw [← ei]
    exact p
  | succ m =>
    refine .inr ⟨⟨qx, by omega⟩, Pv (i + 1), fun σ' H' p' => ⟨m, Nat.lt_succ_self m, by omega, p'⟩, fun v H' y => ?_⟩
    obtain ⟨T, x, rfl, hT, rfl, f1⟩ := y
    exact hs i x T σ H f1 p hT
end Fm
namespace Fm
open PySem PySem.Spec PyProof.Rows L2 PySem.W
theorem dataLt_tups (x y : List Int) : dataLt (.tuple (x.map .int)) (.tuple (y.map .int)) = decide (x < y) := by
  rw [dataLt_tuple]
  exact dataLt_ints x y
theorem dataLe_tups {β : Type} (x : β → List Int) : dataLe false (fun b => .tuple ((x b).map .int)) = fun p q => decide (x p ≤ x q) := by
  funext p q
  show (!dataLt (.tuple ((x q).map .int)) (.tuple ((x p).map .int))) = _
  rw [dataLt_tups]
  by_cases h : x q < x p
  · have h' : ¬ x p ≤ x q := fun r => List.not_lt.mpr r h
    simp [h, h']
  · have h' : x p ≤ x q := List.not_lt.mp h
    simp [h, h']
theorem lexLt_dec : ∀ x y : List Int, HT.lexLt x y = decide (x < y)
  | [], [] => by simp [HT.lexLt]
  | [], _ :: _ => by simp [HT.lexLt]
  | _ :: _, [] => by simp [HT.lexLt]
  | x :: xs, y :: ys => by
    rw [HT.lexLt_cons, lexLt_dec xs ys]
    by_cases h : x = y
    · simp [h, List.cons_lt_cons_iff]
    · simp [h, List.cons_lt_cons_iff]
theorem sorted_le {β : Type} (x : β → List Int) (l : List β) : (l.mergeSort (dataLe false (fun b => .tuple ((x b).map .int)))).Pairwise fun p q => x p ≤ x q := by
  rw [dataLe_tups]
  have h := List.pairwise_mergeSort (le := fun p q => decide (x p ≤ x q)) (fun a b c h1 h2 => decide_eq_true (List.le_trans (of_decide_eq_true h1) (of_decide_eq_true h2)))
    (fun a b => by
      rcases List.le_total (x a) (x b) with h | h
      · rw [decide_eq_true h]; rfl
      · rw [decide_eq_true h, Bool.or_true]) l
  exact h.imp fun h => of_decide_eq_true h
/-- distinct, so strictly -/
theorem sorted_lt {β : Type} (x : β → List Int) (l : List β) (hn : (l.map x).Nodup) : (l.mergeSort (dataLe false (fun b => .tuple ((x b).map .int)))).Pairwise fun p q => HT.lexLt (x p) (x q) = true := by
  have h1 := sorted_le x l
  have h2 : ((l.mergeSort (dataLe false (fun b => .tuple ((x b).map .int)))).map x).Nodup := ((List.mergeSort_perm l _).map x).nodup_iff.mpr hn
  have h3 := List.pairwise_map.mp h2
  refine (h1.and h3).imp fun {p q} h => ?_
  rw [lexLt_dec]
  refine decide_eq_true ?_
  rcases List.le_iff_lt_or_eq.mp h.1 with z | z
  · exact z
  · exact absurd z h.2
section
variable {P : Program} {w : World} {A : Around} {E : Value → Shared → Prop} {s : Shared}
theorem sorted_setU {a : Addr} {L : List (Addr × List Int)} {es : Array (Int × Value)} {ep : Nat} {t : SetTable} {Q : Value → Shared → Prop} (R : SetTR P w s.heap a L es ep t) (hh : A.handled = none) (hu : A.units + 64 < cLine)
    (hQ : ∀ s' p (out : Array Value) (c : Nat) (L' : List (Addr × List Int)), (∀ b o, s.heap.get? b = some o → s'.heap.get? b = some o) → s'.gens = s.gens → s'.os = s.os → s.heap.objs.size ≤ p →
      s'.heap.get? p = some (seqObj "list" out c) → out.toList = L'.map (fun q => Value.ref q.1) → L'.Perm L → L'.Pairwise (fun q r => HT.lexLt q.2 r.2 = true) → Q (.ref p) s') :
    wpAny (model P w) A (call (.builtin "sorted") [.ref a]) Q E s := by
  obtain ⟨o, ho, hex, hd⟩ := R.ob
  have hsz := R.size
  have hfew := R.few
  refine Calls.call_function_entry kind_sorted plain_sorted entry_sorted (args_sorted1 _) ?_
  unfold Builtin.«sorted»
  refine wpAny_bind (m := checkCount "sorted" 1 1 _) (wpAny_pure ?_)
  refine wpAny_bind (collect_set (A := A.in1) hh ⟨o, ho, hex.1, hd⟩ R.fits (by unfold scanBound; omega) R.tab.ris R.led fun s1 vs k1 hz g1 o1 pm => ?_)
  have hes : es.toList.map (·.2) = L.map fun q => Value.ref q.1 := by
    rw [R.rows]
    unfold L2.rowsOf
    rw [List.map_map] <;> rfl
  rw [hes] at pm
  have ord : ∀ vs : List Value, (∀ v ∈ vs, ∃ q ∈ L, v = Value.ref q.1) → ∃ L1 : List (Addr × List Int), vs = L1.map (fun q => Value.ref q.1) ∧ ∀ q ∈ L1, q ∈ L := by
    intro vs
    induction vs with
    | nil => intro _; exact ⟨[], rfl, fun q hq => (by cases hq)⟩
    | cons v vs ih =>
      intro hv
      obtain ⟨q, hq, e⟩ := hv v List.mem_cons_self
      obtain ⟨L1, e1, hs⟩ := ih fun u hu => hv u (List.mem_cons_of_mem _ hu)
      refine ⟨q :: L1, by rw [List.map_cons, e, e1], fun r hr => ?_⟩
      rcases List.mem_cons.mp hr with z | z
      · rw [z]; exact hq
      · exact hs r z
  have one : ∀ q ∈ L, ∀ r ∈ L, q.1 = r.1 → q = r := fun q hq r hr e => by
    have a1 := R.tup q hq
    have a2 := R.tup r hr
    rw [e] at a1
    have e2 : q.2 = r.2 := a1.inj a2
    exact Prod.ext e e2
  have perm_of : ∀ L1 : List (Addr × List Int), (∀ q ∈ L1, q ∈ L) → (L1.map (fun q => Value.ref q.1)).Perm (L.map fun q => Value.ref q.1) → L1.Perm L := by
    intro L1 hs pm1
    have nL : L.Nodup := nodup_of_map R.nd
    have nref : (L.map fun q => Value.ref q.1).Nodup := by
      refine List.pairwise_map.mpr (List.Pairwise.imp_of_mem (fun {q r} hq hr hne e => ?_) nL)
      injection e with e
      exact hne (one q hq r hr e)
    have n1 : L1.Nodup := nodup_of_map (pm1.nodup_iff.mpr nref)
    refine (List.perm_ext_iff_of_nodup n1 nL).mpr fun q => ⟨hs q, fun hq => ?_⟩
    have hm : Value.ref q.1 ∈ L1.map (fun q => Value.ref q.1) := pm1.mem_iff.mpr (List.mem_map.mpr ⟨q, hq, rfl⟩)
    obtain ⟨r, hr, e⟩ := List.mem_map.mp hm
    injection e with e
    rw [← one r (hs r hr) q hq e]
    exact hr
  have hvl : vs.length < 64 := by rw [pm.length_eq, List.length_map]; exact hfew
  obtain ⟨L1, e1, hs1⟩ := ord vs fun v hv => by
    obtain ⟨q, hq, e⟩ := List.mem_map.mp (pm.mem_iff.mp hv)
    exact ⟨q, hq, e.symm⟩
  have pL1 : L1.Perm L := perm_of L1 hs1 (by rw [← e1]; exact pm)
  refine wpAny_bind (wpAny_newList ?_ (by rw [sizeLine_eq]; omega))
  have hoL : (s1.heap.push (seqObj "list" vs.toArray 0)).get? s1.heap.objs.size = some (seqObj "list" vs.toArray 0) := Heap.get?_push_size _ rfl
  have keepT : ∀ q ∈ L, IsT P w (sortingHeap (s1.heap.push (seqObj "list" vs.toArray 0)) s1.heap.objs.size vs) q.2 q.1 := fun q hq => isT_keep (R.tup q hq) fun b u e => by
    have q1 := k1 b u e
    exact sortingHeap_old (Nat.ne_of_lt (Heap.lt_size q1)) (Heap.get?_push_of_some _ q1)
  have er : EachIs (fun (v : Value) (b : Addr × List Int) => ∃ as, Reads (sortingHeap (s1.heap.push (seqObj "list" vs.toArray 0)) s1.heap.objs.size vs) v (.tuple (b.2.map .int)) as) vs L1 := by
    have key : ∀ M : List (Addr × List Int), (∀ q ∈ M, q ∈ L) → EachIs (fun (v : Value) (b : Addr × List Int) => ∃ as, Reads (sortingHeap (s1.heap.push (seqObj "list" vs.toArray 0)) s1.heap.objs.size vs) v (.tuple (b.2.map .int)) as) (M.map fun q => Value.ref q.1) M := by
      intro M
      induction M with
      | nil => intro _; exact .nil
      | cons q M ih =>
        intro hM
        refine .cons ?_ (ih fun r hr => hM r (List.mem_cons_of_mem _ hr))
        obtain ⟨o, its, n, ho, hc, hd, hk⟩ := keepT q (hM q List.mem_cons_self)
        have r := ints_readAll (sortingHeap (s1.heap.push (seqObj "list" vs.toArray 0)) s1.heap.objs.size vs) (ints_of_items hk)
        exact ⟨_, .tuple ho hc hd r⟩
    have z := key L1 hs1
    rw [← e1] at z
    exact z
  have e0 : EachIs (fun (v : Value) (b : Addr × List Int) => v = Value.ref b.1) vs L1 := by
    have key : ∀ M : List (Addr × List Int), EachIs (fun (v : Value) (b : Addr × List Int) => v = Value.ref b.1) (M.map fun q => Value.ref q.1) M := by
      intro M
      induction M with
      | nil => exact .nil
      | cons q M ih => exact .cons rfl ih
    have z := key L1
    rw [← e1] at z
    exact z
  have hal : AllAlike (L1.map fun b => PyData.tuple (b.2.map .int)) := AllAlike.of fun b b' => by
    show alikeAll (b.2.map .int) (b'.2.map .int) = true
    exact alike_ints _ _
  have S := FmSort.sortsAt_tups (prog := P) (w := w) (A := A.in1.in1) (s := { s1 with heap := sortingHeap (s1.heap.push (seqObj "list" vs.toArray 0)) s1.heap.objs.size vs }) (each_map (R := fun v d => ∃ as, Reads (sortingHeap (s1.heap.push (seqObj "list" vs.toArray 0)) s1.heap.objs.size vs) v d as) (fun b : Addr × List Int => PyData.tuple (b.2.map .int)) er) hal (fun d hd => by
    obtain ⟨b, _, rfl⟩ := List.mem_map.mp hd
    exact ⟨_, rfl⟩) (fun d hd => by
    obtain ⟨b, _, rfl⟩ := List.mem_map.mp hd
    have z : (PyData.tuple (b.2.map .int)).depth = 1 := by
      show PyData.depthAll (b.2.map .int) + 1 = 1
      rw [depth_ints]
    show A.units + 1 + 1 + (PyData.tuple (b.2.map .int)).depth < cLine
    omega)
  refine wpAny_bind (wpAny_holding (wpAny_call_entry slot_list_sort ⟨_, hoL, rfl⟩ entry_list_sort (list_sort_vals (s := { s1 with heap := s1.heap.push (seqObj "list" vs.toArray 0) }) hoL S (by rw [sizeLine_eq]; omega) ⟨_, rfl, ?_⟩) (args_list_sort _)))
  have eo := sortVals_data (R := fun (v : Value) (b : Addr × List Int) => v = Value.ref b.1) false e0 er hal
  generalize sortVals (dataKind (sortingHeap (s1.heap.push (seqObj "list" vs.toArray 0)) s1.heap.objs.size vs) (L1.map fun b => PyData.tuple (b.2.map .int))) false vs vs = out at eo ⊢
  obtain ⟨c, hc⟩ := sortedHeap_at (vs := vs) (out := out.toArray) hoL
  have e' : out = (L1.mergeSort (dataLe false (fun b : Addr × List Int => PyData.tuple (b.2.map .int)))).map fun q => Value.ref q.1 := by
    have key : ∀ (us : List Value) (M : List (Addr × List Int)), EachIs (fun (v : Value) (b : Addr × List Int) => v = Value.ref b.1) us M → us = M.map fun q => Value.ref q.1 := by
      intro us M h
      induction h with
      | nil => rfl
      | cons h _ ih => rw [h, ih, List.map_cons]
    exact key _ _ eo
  refine wpAny_pure ⟨_, rfl, hQ _ s1.heap.objs.size out.toArray c _ (fun b u e => ?_) g1 o1 hz hc (by rw [List.toList_toArray]; exact e') ((List.mergeSort_perm _ _).trans pL1) (sorted_lt (fun b : Addr × List Int => b.2) L1 ((pL1.map _).nodup_iff.mpr R.nd))⟩
  have q := k1 b u e
  have hlt := Heap.lt_size q
  show (sortedHeap (s1.heap.push (seqObj "list" vs.toArray 0)) s1.heap.objs.size vs out.toArray).get? b = some u
  rw [sortedHeap_old (Nat.ne_of_lt hlt) (by rw [size_push']; exact Nat.lt_succ_of_lt hlt)]
  exact Heap.get?_push_of_some _ q
end
section
variable {X : Cx} {K : PySem.W.Frag} {P : Program} {w : World}
def rSortSU (K : PySem.W.Frag) (P : Program) (w : World) : List V → Hp → VK → Prop := fun vs H Q => ∃ (a : Addr) (L : List (Addr × List Int)), vs = [V.ref a] ∧ H a = some (SetTO P w a L) ∧ (∀ p ∈ L, SqT K H p.1 (p.2.map V.int)) ∧
  ∀ (L' : List (Addr × List Int)) (p : Addr), L'.Perm L → L'.length < 64 → L'.Pairwise (fun q r => HT.lexLt q.2 r.2 = true) → H p = none → Q (.ref p) (upd H p (.lst (L'.map fun q => V.ref q.1)))
theorem call_sortSU (hc : X.calm = true) (hu : X.A.units + 64 < cLine) (eK : X.K = K := by rfl) (eP : X.prog = P := by rfl) (ew : X.w = w := by rfl) : CallR X (.builtin "sorted") (rSortSU K P w) := by
  subst eK eP ew
  intro pins s σ H vs us Q I r h
  obtain ⟨a, L, rfl, ha, hk, q⟩ := h
  have R0 : SetT0 X.prog X.w s.heap a L := (I.hok a _ ha).1
  obtain ⟨es, ep, t, R⟩ := R0.full fun p hp => Inv.isT I (hk p hp)
  rw [Vals.ref1 r]
  refine sorted_setU R (I.ok.hd hc) hu fun s' p out c L' k g o hp hg hout pm pw => ?_
  have hfew : L'.length < 64 := by rw [pm.length_eq]; exact R.few
  have hlen : (L'.map fun q => V.ref q.1).length ≤ sizeLine := by rw [List.length_map, sizeLine_eq]; omega
  have hn : H p = none := I.hok.fresh hp
  have hv : Vals (L'.map fun q => V.ref q.1) out.toList := by rw [hout]; exact vals_of_refs L'
  have J : Inv X pins σ (upd H p (.lst (L'.map fun q => V.ref q.1))) { s with heap := s'.heap, gens := s'.gens, drawn := s'.drawn, toks := s'.toks } :=
    I.call (ch := []) (Un.laid k hp hn) (I.hok.laid k hp ⟨hlen, out.toList, c, hv, hg⟩) (by rw [g]; exact I.bare) (fun _ z => nomatch z)
  have e : s' = { s with heap := s'.heap, gens := s'.gens, drawn := s'.drawn, toks := s'.toks } := by
    cases s'
    cases s
    cases o
    rfl
  rw [e]
  exact ⟨.ref p, _, J, rfl, q L' p pm hfew pw hn⟩
theorem call_setOfTK (hc : X.calm = true) (hu : X.A.units + 64 < cLine) (eK : X.K = K := by rfl) (eP : X.prog = P := by rfl) (ew : X.w = w := by rfl) : CallR X (.type "set") (rSetOfT K P w) := by
  subst eK eP ew
  exact cr_setOfT hc hu
end
end Fm
namespace Fm
open PySem PySem.Spec PyProof.Rows L2 PySem.W
abbrev Ent := List Int × Addr × Value
section
variable {P : Program} {w : World} {h h' : Heap} {a : Addr} {xs : List Ent}
/-- the object at a, its keys' own tuples aside -/
def DRaw (P : Program) (w : World) (h : Heap) (a : Addr) (xs : List Ent) : Prop := (a == sysModules) = false ∧ (xs.map (·.1)).Nodup ∧ ∃ o es ep, h.get? a = some o ∧ o.ExactDict ∧ o.data = .dict es ep ∧ es.toList = xs.map (entryOfKey (TK P w))
def DTO (P : Program) (w : World) (a : Addr) (F : List Ent → Prop) : HO := .ext fun h => ∃ xs, F xs ∧ DRaw P w h a xs
theorem DRaw.full (d : DRaw P w h a xs) (ht : ∀ x ∈ xs, IsT P w h x.1 x.2.1) : h.DictOfH (TK P w) a xs := by
  obtain ⟨_, nd, o, es, ep, h1, h2, h3, h4⟩ := d
  exact ⟨o, es, ep, h1, h2, h3, h4, ht, nd⟩
theorem raw_of (m : h.DictOfH (TK P w) a xs) (hs : (a == sysModules) = false) : DRaw P w h a xs := by
  obtain ⟨o, es, ep, h1, h2, h3, h4, _, nd⟩ := m
  exact ⟨hs, nd, o, es, ep, h1, h2, h3, h4⟩
theorem dto_ok {F : List Ent → Prop} {H : Hp} (hF : F xs) (d : DRaw P w h a xs) : ObjOk P w H h a (DTO P w a F) := by
  have ⟨_, _, o, es, ep, h1, _⟩ := d
  refine ⟨⟨xs, hF, d⟩, ⟨o, h1⟩, fun g1 g2 p k => ?_⟩
  have ⟨ys, hy, hs, nd, o', es', ep', k1, r⟩ := p
  exact ⟨ys, hy, hs, nd, o', es', ep', k _ k1, r⟩
/-- its keys and what they have -/
def ValF (L : List (Addr × List Int × V)) : List Ent → Prop := fun xs => Paired (fun p (x : Ent) => x.2.1 = p.1 ∧ x.1 = p.2.1 ∧ RelV p.2.2 x.2.2) L xs
theorem ValF.find {L : List (Addr × List Int × V)} {xs : List Ent} (h : ValF L xs) (k : List Int) : RelO ((L.find? fun p => decide (p.2.1 = k)).map (·.2.2)) ((atKey xs k).map (·.2)) := by
  unfold ValF at h
  induction h with
  | nil => exact True.intro
  | @cons p x ps qs r _ ih =>
    obtain ⟨_, r2, r3⟩ := r
    by_cases e : p.2.1 = k
    · have b : atKey (x :: qs) k = some x.2 := by simp [atKey, List.find?_cons, r2, e]
      rw [b, List.find?_cons]
      simp only [e, decide_true, Option.map_some]
      exact r3
    · have b : atKey (x :: qs) k = atKey qs k := by simp [atKey, List.find?_cons, r2, e]
      rw [b, List.find?_cons]
      simp only [e, decide_false]
      exact ih
end
section
variable {X : Cx} {K : PySem.W.Frag} {P : Program} {w : World} {pins : List (Addr × Obj)} {σ : L2.St} {H : Hp} {s : Shared}
theorem Inv.dto {F : List Ent → Prop} {a : Addr} (I : Inv X pins σ H s) (h : Rd H a (DTO X.prog X.w a F)) : ∃ xs, F xs ∧ DRaw X.prog X.w s.heap a xs := (h.ok I.hok).1
end
end Fm
namespace Fm
open PySem PySem.Spec PyProof.Rows L2 PySem.W
section
variable {X : Cx} {K : PySem.W.Frag} {P : Program} {w : World} {pins : List (Addr × Obj)} {σ : L2.St} {H : Hp} {s : Shared}
theorem valF_mem {L : List (Addr × List Int × V)} {xs : List Ent} (h : ValF L xs) : ∀ x ∈ xs, ∃ p ∈ L, x.2.1 = p.1 ∧ x.1 = p.2.1 := by
  unfold ValF at h
  induction h with
  | nil => intro x hx; cases hx
  | @cons p x ps qs r _ ih =>
    intro z hz
    rcases List.mem_cons.mp hz with e | e
    · rw [e]
      exact ⟨p, List.mem_cons_self, r.1, r.2.1⟩
    · obtain ⟨p', hp', r'⟩ := ih z e
      exact ⟨p', List.mem_cons_of_mem _ hp', r'⟩
end
end Fm
namespace Fm
open PySem PySem.Spec PyProof.Rows L2 PySem.W
/-- the key of a box -/
def bk (q : List Int × List Int) : NestedKey := .tup [.tup (q.1.map NestedKey.num), .tup (q.2.map NestedKey.num)]
theorem num_inj : ∀ {a b : List Int}, a.map NestedKey.num = b.map NestedKey.num → a = b
  | [], [], _ => rfl
  | x :: a, y :: b, h => by
    rw [List.map_cons, List.map_cons] at h
    injection h with h1 h2
    injection h1 with h1
    rw [h1, num_inj h2]
  | [], _ :: _, h => by cases h
  | _ :: _, [], h => by cases h
theorem bk_inj {p q : List Int × List Int} (h : bk p = bk q) : p = q := by
  unfold bk at h
  injection h with h
  injection h with h1 h2
  injection h1 with h1
  injection h2 with h2 _
  injection h2 with h2
  exact Prod.ext (num_inj h1) (num_inj h2)
abbrev NK (P : Program) (w : World) : HeapKind P w NestedKey := nestedKind P w
abbrev EntB := NestedKey × Addr × Value
abbrev BoxL := List (Addr × (List Int × List Int) × V)
section
variable {P : Program} {w : World} {h h' : Heap} {a : Addr} {xs : List EntB}
def BRaw (P : Program) (w : World) (h : Heap) (a : Addr) (xs : List EntB) : Prop := (a == sysModules) = false ∧ (xs.map (·.1)).Nodup ∧ ∃ o es ep, h.get? a = some o ∧ o.ExactDict ∧ o.data = .dict es ep ∧ es.toList = xs.map (entryOfKey (NK P w))
def ValB (L : BoxL) : List EntB → Prop := fun xs => Paired (fun p (x : EntB) => x.2.1 = p.1 ∧ x.1 = bk p.2.1 ∧ RelV p.2.2 x.2.2) L xs
theorem BRaw.full (d : BRaw P w h a xs) (ht : ∀ x ∈ xs, (NK P w).is h x.1 x.2.1) : h.DictOfH (NK P w) a xs := by
  obtain ⟨_, nd, o, es, ep, h1, h2, h3, h4⟩ := d
  exact ⟨o, es, ep, h1, h2, h3, h4, ht, nd⟩
/-- what the dict has for a box -/
def findB (L : BoxL) (q : List Int × List Int) : Option V := (L.find? fun p => decide (p.2.1 = q)).map (·.2.2)
theorem ValB.find {L : BoxL} {xs : List EntB} (h : ValB L xs) (q : List Int × List Int) : RelO (findB L q) ((atKey xs (bk q)).map (·.2)) := by
  unfold ValB at h
  unfold findB
  induction h with
  | nil => exact True.intro
  | @cons p x ps qs r _ ih =>
    obtain ⟨_, r2, r3⟩ := r
    by_cases e : p.2.1 = q
    · have b : atKey (x :: qs) (bk q) = some x.2 := by simp [atKey, List.find?_cons, r2, e]
      rw [b, List.find?_cons]
      simp only [e, decide_true, Option.map_some]
      exact r3
    · have e' : ¬ bk p.2.1 = bk q := fun z => e (bk_inj z)
      have b : atKey (x :: qs) (bk q) = atKey qs (bk q) := by simp [atKey, List.find?_cons, r2, e']
      rw [b, List.find?_cons]
      simp only [e, decide_false]
      exact ih
end
section
variable {X : Cx} {K : PySem.W.Frag} {P : Program} {w : World} {pins : List (Addr × Obj)} {σ : L2.St} {H : Hp} {s : Shared}
/-- at b: the box q -/
def BoxAt (K : PySem.W.Frag) (H : Hp) (b : Addr) (q : List Int × List Int) : Prop := ∃ pa wa, SqT K H b [.ref pa, .ref wa] ∧ SqT K H pa (q.1.map V.int) ∧ SqT K H wa (q.2.map V.int)
theorem num_all {h : Heap} : ∀ {c : List Int} {us : List Value}, Vals (c.map V.int) us → NestedAll h (c.map NestedKey.num) us
  | [], _, .nil => .nil
  | _ :: _, _, .cons r t => by
    obtain ⟨u, rfl⟩ := r
    exact .cons (.int _ u) (num_all t)
theorem num_key {H : Hp} (I : Inv X pins σ H s) {a : Addr} {c : List Int} (h : SqT X.K H a (c.map V.int)) : NestedIs s.heap (.tup (c.map NestedKey.num)) (.ref a) := by
  obtain ⟨its, r, ⟨o, ho, hc, n, hd⟩, _⟩ := I.tuple h
  exact .tup ho hc hd (by simpa using num_all r)
theorem num_depth : ∀ c : List Int, NestedKey.depthAll (c.map NestedKey.num) = 0
  | [] => rfl
  | x :: c => by
    rw [List.map_cons]
    unfold NestedKey.depthAll
    rw [num_depth c]
    rfl
theorem Inv.boxKey (I : Inv X pins σ H s) {b : Addr} {q : List Int × List Int} (h : BoxAt X.K H b q) : (NK X.prog X.w).is s.heap (bk q) b := by
  obtain ⟨pa, wa, h1, h2, h3⟩ := h
  obtain ⟨its, r, ⟨o, ho, hc, n, hd⟩, _⟩ := I.tuple h1
  refine ⟨.tup ho hc hd ?_, ?_⟩
  · cases r with
    | cons r1 rr =>
      cases rr with
      | cons r2 rn =>
        cases rn
        cases r1
        cases r2
        exact .cons (num_key I h2) (.cons (num_key I h3) .nil)
  · show NestedKey.depth (.tup [.tup (q.1.map NestedKey.num), .tup (q.2.map NestedKey.num)]) ≤ 8
    simp [NestedKey.depth, NestedKey.depthAll, num_depth]
end
end Fm
namespace Fm
open PySem PySem.Spec PyProof.Rows L2 PySem.W
section
variable {X : Cx} {K : PySem.W.Frag} {P : Program} {w : World}
/-- what the dict has for a tuple of ints -/
def findT (L : List (Addr × List Int × L2.V)) (q : List Int) : Option L2.V := (L.find? fun p => decide (p.2.1 = q)).map (·.2.2)
end
end Fm
namespace Fm
open PySem PySem.Spec PyProof.Rows L2 PySem.W
open PySem.SeqAt (EqIn EqAt)
section
variable {X : Cx} {K : PySem.W.Frag} {P : Program} {w : World} {pins : List (Addr × Obj)} {σ : L2.St} {H : Hp} {s : Shared}
theorem depth_ints : ∀ c : List Int, PyData.depthAll (c.map PyData.int) = 0
  | [] => rfl
  | i :: c => by
    rw [List.map_cons]
    show max 0 (PyData.depthAll (c.map PyData.int)) = 0
    rw [depth_ints c]
    rfl
end
end Fm
namespace Fm
open PySem PySem.Spec PyProof.Rows L2 PySem.W
section
variable {X : Cx} {K : PySem.W.Frag} {P : Program} {w : World} {pins : List (Addr × Obj)} {σ : L2.St} {H : Hp} {s : Shared}
/-- what may be a key -/
inductive KeyV (K : PySem.W.Frag) (H : Hp) : L2.V → NestedKey → Prop
  | int (i : Int) : KeyV K H (.int i) (.num i)
  | str (x : Str) : KeyV K H (.str x) (.text x)
  | non : KeyV K H .non .none
  | box {b : Addr} {q : List Int × List Int} (h : BoxAt K H b q) : KeyV K H (.ref b) (bk q)
  | nil {b : Addr} (h : SqT K H b []) : KeyV K H (.ref b) (.tup [])
theorem KeyV.is (I : Inv X pins σ H s) {v : L2.V} {k : NestedKey} {u : Value} (h : KeyV X.K H v k) (r : RelV v u) : NestedIs s.heap k u ∧ k.depth ≤ 8 := by
  cases h with
  | int i =>
    obtain ⟨t, rfl⟩ := (show ∃ t, u = Value.int i t from r)
    exact ⟨.int i t, Nat.zero_le _⟩
  | str x =>
    obtain ⟨t, rfl⟩ := (show ∃ t, u = Value.str x t from r)
    exact ⟨.text x t, Nat.zero_le _⟩
  | non =>
    cases (show u = Value.none from r)
    exact ⟨.none, by decide⟩
  | box h =>
    rename_i b q
    cases (show u = Value.ref b from r)
    exact Inv.boxKey I h
  | nil h =>
    rename_i b
    cases (show u = Value.ref b from r)
    obtain ⟨its, r2, ⟨o, ho, hc, n, hd⟩, _⟩ := I.tuple h
    cases r2
    exact ⟨.tup ho hc hd .nil, by decide⟩
theorem KeyV.ext {H H' : Hp} (e : Ext H H') {v : L2.V} {k : NestedKey} (h : KeyV K H v k) : KeyV K H' v k := by
  cases h with
  | int i => exact .int i
  | str x => exact .str x
  | non => exact .non
  | box h =>
    obtain ⟨pa, wa, h1, h2, h3⟩ := h
    exact .box ⟨pa, wa, e.sqT h1, e.sqT h2, e.sqT h3⟩
  | nil h => exact .nil (e.sqT h)
end
end Fm
namespace Fm
open PySem PySem.Spec PyProof.Rows L2
theorem perm_map_inv {α β : Type} {f : α → β} {l l2 : List β} (h : l.Perm l2) : ∀ M : List α, l2 = M.map f → ∃ M' : List α, M'.Perm M ∧ l = M'.map f := by
  induction h with
  | nil => intro M e; exact ⟨M, .refl _, e⟩
  | cons x h ih =>
    intro M e
    cases M with
    | nil => cases e
    | cons a M =>
      rw [List.map_cons] at e
      injection e with e1 e2
      obtain ⟨M', p, e3⟩ := ih M e2
      exact ⟨a :: M', .cons a p, by rw [List.map_cons, ← e3, e1]⟩
  | swap x y l =>
    intro M e
    match M, e with
    | [], e => cases e
    | [_], e => cases e
    | a :: b :: M, e =>
      rw [List.map_cons, List.map_cons] at e
      injection e with e1 e2
      injection e2 with e2 e3
      exact ⟨b :: a :: M, .swap a b M, by rw [List.map_cons, List.map_cons, ← e1, ← e2, ← e3]⟩
  | trans h1 h2 ih1 ih2 =>
    intro M e
    obtain ⟨M1, p1, e1⟩ := ih2 M e
    obtain ⟨M2, p2, e2⟩ := ih1 M1 e1
    exact ⟨M2, p2.trans p1, e2⟩
theorem objOk_there {P : Program} {w : World} {H : Hp} {h : Heap} {a : Addr} {o : HO} (x : ObjOk P w H h a o) : h.get? a ≠ none := by
  have key : ∀ {u : Obj}, h.get? a = some u → h.get? a ≠ none := fun e z => by
    rw [e] at z
    cases z
  cases o with
  | lst xs => obtain ⟨_, _, _, _, e⟩ := x; exact key e
  | tup xs => obtain ⟨_, _, _, ⟨_, e, _⟩⟩ := x; exact key e
  | dK kvs => obtain ⟨_, _, _, _, o, _, _, e, _⟩ := x; exact key e
  | dT kvs => obtain ⟨_, _, _, _, o, _, _, e, _⟩ := x; exact key e
  | set S n => obtain ⟨o, _, _, _, e, _⟩ := x; exact key e
  | ins C dx fs => obtain ⟨_, _, _, e, _⟩ := x; exact key e
  | own y => obtain ⟨_, e⟩ := x; exact key e
  | xd fs => obtain ⟨_, ⟨_, _, _, e, _⟩, _⟩ := x; exact key e
  | rng lo hi => obtain ⟨_, _, _, e⟩ := x; exact key e
  | frz ob u => obtain ⟨e, _⟩ := x; exact key e
  | tbl ps => exact key (show h.get? a = some _ from x)
  | met f y => exact key (show h.get? a = some _ from x)
  | ext φ => obtain ⟨_, ⟨_, e⟩, _⟩ := x; exact key e
section
variable {X : Cx} {pins : List (Addr × Obj)} {σ : L2.St} {H : Hp} {s : Shared}
theorem inv_news {h' : Heap} {m : Str → Option Value} {D : Addr} {o : HO} {t' : Nat} (I : Inv X pins σ H s) (F : Fr X.base X.env.locals h' m) (hm : s.heap.Ns X.env.locals m) (kept : ∀ b u, b ≠ X.env.locals → s.heap.get? b = some u → h'.get? b = some u) (hD : s.heap.get? D = none) (hn : H D = none)
    (new : ObjOk X.prog X.w (upd H D o) h' D o) : Inv X pins σ (upd H D o) { s with heap := h', toks := t' } := by
  refine I.step (g' := s.gens) (d' := s.drawn) (ch := []) (fun b hb => by cases hb) (fun b u hL _ _ e _ => kept b u hL e) (fun b u hL _ _ e _ => ⟨u.slots, kept b u hL e⟩) (fun b u _ e n => ?_) (fun b u _ e => ?_)
    (fun b xs e => by rw [upd_ne (ne_of_none e hn)]; exact e) (fun b u v e => by rw [upd_ne (ne_of_none e hn)]; exact e) (fun b ps e => ⟨#[], by rw [upd_ne (ne_of_none e hn), e]; simp⟩) (fun m' hm' => by rw [SlX.ns_only hm' hm]; exact F.ns) (fun b u e => ?_) I.bare
  · rw [upd_ne (fun z => by rw [z, hD] at e; cases e)]
    exact n
  · by_cases z : b = X.env.locals
    · obtain ⟨o', _, _, ho, _⟩ := F.ns
      exact ⟨o', by rw [z]; exact ho⟩
    · exact ⟨u, kept b u z e⟩
  · by_cases hb : b = D
    · subst hb
      rw [upd_same] at e
      cases e
      exact new
    · rw [upd_ne hb] at e
      have own : ∀ c, (c = b ∨ H c = some (.own b)) → c ≠ X.env.locals := fun c hc z => by
        rcases hc with y | y
        · rw [← y, z, I.free] at e
          cases e
        · rw [z, I.free] at y
          cases y
      exact (I.hok b u e).stay (fun c v hc q => kept c v (own c hc) q) (fun c q => by rw [upd_ne (ne_of_none q hn)]; exact q) fun c xs q => by rw [upd_ne (ne_of_none q hn)]; exact q
end
section
variable {X : Cx} {K : PySem.W.Frag} {e : Expr} {ta : TA} {p p2 kpos pos : Pos}
def tSortLen (K : PySem.W.Frag) (ta : TA) : TE := fun σ H Q => ta σ H fun vs H1 => ∃ (a : Addr) (M : List (Addr × List V)), vs = [.ref a] ∧ SqL K H1 a (M.map fun m => V.ref m.1) ∧ (∀ m ∈ M, SqT K H1 m.1 m.2) ∧
  ∀ (M' : List (Addr × List V)) d, M'.Perm M → M'.Pairwise (fun x y => x.2.length ≤ y.2.length) → H1 d = none → Q (.ref d) (upd H1 d (.lst (M'.map fun m => V.ref m.1)))
theorem vals_refs {M : List (Addr × List V)} {us : List Value} (r : Vals (M.map fun m => V.ref m.1) us) : us = M.map fun m => Value.ref m.1 := by
  induction M generalizing us with
  | nil => cases r; rfl
  | cons m M ih =>
    cases r with
    | cons h t =>
      cases h
      rw [List.map_cons, ← ih t]
theorem pe_sortLen (hg : Gl X "sorted") (hm : X.mg "sorted" = none) (hg2 : Gl X "len") (hm2 : X.mg "len" = none) (ha : PA X [e] ta) (eK : X.K = K := by rfl)
    (hen : backTo pos (starEach [e] X.env) = (false, eval e X.env) :: backTo pos (starEach [] X.env) := by rfl) (hpl : (backTo pos (starEach [e] X.env)).any (·.1) = false := by rfl) :
    PE X (.Call (.Name "sorted" p) [e] [⟨some "key", .Name "len" p2, kpos⟩] pos) (tSortLen K ta) := by
  subst eK
  refine ⟨fun pins s σ H Q I h => ?_⟩
  refine wpAny_Call_Name_kw (ld_blt I hg hm (by decide +kernel : bootBuiltins "sorted" = some (.builtin "sorted")) ?_)
  refine PyProof.Rows.callWith_kw (thn (ha.run pos pins s σ H _ I h) fun us s1 ⟨vs, H1, I1, r1, q1⟩ => ?_) hen hpl rfl rfl
  obtain ⟨a, M, rfl, hl, ht, q⟩ := q1
  refine wpAny_evalAll_cons (wpAny_bind (ld_blt I1 hg2 hm2 PySem.boot_len (wpAny_bind (wpAny_standAt (wpAny_pure (wpAny_evalAll_nil ?_))))))
  obtain ⟨u, rfl, hu⟩ := r1.one
  cases hu
  obtain ⟨its, rv, pl, hz⟩ := I1.list hl
  have eit := vals_refs rv
  subst eit
  obtain ⟨ol, nl, hol, hcl, hdl, hdt⟩ := pl
  obtain ⟨m, hns, _⟩ := I1.loc
  have F : Fr X.base X.env.locals s1.heap m := ⟨hns, I1.bk, Nat.le_trans I1.ok.bsz I1.ok.above⟩
  have tupL : ∀ k ∈ M, k.1 ≠ X.env.locals := fun k hk z => by
    obtain ⟨its, _, ⟨o, ho, _, n, hd⟩, _⟩ := I1.tuple (ht k hk)
    obtain ⟨o', es, ep, ho', hd', _⟩ := hns
    rw [z, ho'] at ho
    cases ho
    rw [hd'] at hd
    cases hd
  have keptOf : ∀ {h' : Heap} {own : List (Addr × Obj)}, Fr X.base X.env.locals h' m → News X.base X.env.locals h' (allNews X.base s1.heap X.env.locals ++ own) → ∀ b u, b ≠ X.env.locals → s1.heap.get? b = some u → h'.get? b = some u := fun {h' own} F' N' b u hb e => by
    cases q0 : X.base.get? b with
    | some v =>
      have := I1.bk b v q0
      rw [e] at this
      cases this
      exact F'.keep b _ q0
    | none => exact (N' (b, u) (List.mem_append_left _ (mem_allNews hb q0 e))).1
  refine ksk_sortedAny (b := false) (kz := M.map fun m => (m.2.length : Int)) (vs := M.map fun m => Value.ref m.1) F news_all ⟨ol, hol, hcl, nl, hdt⟩ (by rw [List.length_map, List.length_map]) (by rw [List.length_map]; rw [List.length_map] at hz; exact hz)
    (ksk_s1 _ _) (fun x => ksk_l1 _ _) (fun x => ksk_t4 _ _) (fun i v k hv hk h tk own F' N' => ?turn) (fun D h' tk out c F' N' l1 ko => ?done)
  case turn =>
    rw [List.getElem?_map] at hv hk
    cases hi : M[i]? with
    | none =>
      rw [hi] at hv
      cases hv
    | some k0 =>
      rw [hi] at hv hk
      cases hv
      cases hk
      have hk0 := List.mem_of_getElem? hi
      obtain ⟨its, r0, ⟨o, ho, hc, n, hd⟩, hz0⟩ := I1.tuple (ht k0 hk0)
      have el := r0.length
      refine PyProof.Rows.len_tuple (items := its.toArray) ⟨o, keptOf F' N' _ _ (tupL k0 hk0) ho, hc, n, hd⟩ ?_ ?_
      · rw [List.size_toArray]
        rw [sizeLine_eq] at hz0
        omega
      · rw [List.size_toArray, ← el]
        exact ⟨h, _, _, rfl, rfl, F', N'⟩
  case done =>
    obtain ⟨ps, hp, eout, pw⟩ := ko
    rw [List.zip_map'] at hp
    obtain ⟨M', pM, rfl⟩ := perm_map_inv hp M rfl
    have nD := N' (D, seqObj "list" out c) (List.mem_cons_self ..)
    have N2 : News X.base X.env.locals h' (allNews X.base s1.heap X.env.locals ++ []) := fun z hz => N' z (by rw [List.append_nil] at hz; exact List.mem_cons_of_mem _ hz)
    have kept := keptOf F' N2
    have hD0 : s1.heap.get? D = none := by
      cases e0 : s1.heap.get? D with
      | none => rfl
      | some u => exact absurd (l1 (D, u) (mem_allNews nD.2.1 nD.2.2 e0)) (Nat.lt_irrefl D)
    have hn : H1 D = none := by
      cases e0 : H1 D with
      | none => rfl
      | some o => exact absurd hD0 (objOk_there (I1.hok D o e0))
    have lens : M'.length ≤ sizeLine := by
      rw [pM.length_eq]
      rw [List.length_map] at hz
      exact hz
    have eo : out = (M'.map fun m => Value.ref m.1).toArray := by
      rw [← (Array.toArray_toList : out.toList.toArray = out), eout, List.map_map]
      rfl
    refine ⟨.ref D, upd H1 D (.lst (M'.map fun m => V.ref m.1)), inv_news I1 F' hns kept hD0 hn ⟨by rw [List.length_map]; exact lens, M'.map (fun m => Value.ref m.1), c, ?_, ?_⟩, rfl, q M' D pM ?_ hn⟩
    · clear pM pw eout eo lens hp
      have key : ∀ N : List (Addr × List V), Vals (N.map fun m => V.ref m.1) (N.map fun m => Value.ref m.1) := fun N => by
        induction N with
        | nil => exact Paired.nil
        | cons k N ih => exact Paired.cons rfl ih
      exact key M'
    · rw [← eo]
      exact nD.1
    · rw [List.pairwise_map] at pw
      refine pw.imp fun {x y} h => ?_
      have h : (x.2.length : Int) ≤ (y.2.length : Int) := h
      omega
end
end Fm
namespace Fm
open PySem PySem.Spec PyProof.Rows L2 PySem.W
section
variable {X : Cx} {K : PySem.W.Frag}
def rNotInT (K : PySem.W.Frag) : R2 := fun x y H Q => ∃ d ds, Dp K H x d ∧ Dp K H y (.tuple ds) ∧ SeqAt.shaped d = true ∧ SeqAt.shaped (.tuple ds) = true ∧ Q (.bl (!ds.any fun z => PyData.eqv z d)) H
theorem op_notinT (hu : X.A.units + 65 < cLine) (e : X.K = K := by rfl) : OpR X (compareOp .NotIn) (rNotInT K) := by
  subst e
  intro pins s σ H x y v u Q I rx ry h
  obtain ⟨d, ds, h1, h2, s1, s2, q⟩ := h
  obtain ⟨as, r1⟩ := Dp.reads I d x v h1 rx
  obtain ⟨bs, r2⟩ := Dp.reads I (.tuple ds) y u h2 ry
  exact SeqAt.notIn_tuple_reads r2 r1 (SeqAt.canLay_of_shaped s2) (SeqAt.canLay_of_shaped s1) (room_in_shaped s1 hu) ⟨.bl _, H, I, rfl, q⟩
theorem op_notinLK (hu : X.A.units + 65 < cLine) (e : X.K = K := by rfl) : OpR X (compareOp .NotIn) (rNotInD K) := e ▸ op_notInD hu
def intP (c : List Int) : PyData := .tuple (c.map PyData.int)
theorem alike_ints : ∀ (x y : List Int), alikeAll (x.map PyData.int) (y.map PyData.int) = true
  | [], _ => by cases ‹List Int› <;> rfl
  | _ :: _, [] => rfl
  | a :: x, b :: y => by
    rw [List.map_cons, List.map_cons, alikeAll, alike_ints x y, alike]
    rfl
end
end Fm
namespace Fm
open PySem PySem.Spec PyProof.Rows L2 PySem.W
section
variable {X : Cx} {K : PySem.W.Frag} {P : Program} {w : World}
def rGtT (K : PySem.W.Frag) : R2 := fun x y H Q => ∃ (ns ms : List Int), Dp K H x (intP ns) ∧ Dp K H y (intP ms) ∧ Q (.bl (decide (ms < ns))) H
theorem op_gtTK (hu : X.A.units + 65 < cLine) (e : X.K = K := by rfl) : OpR X (compareOp .Gt) (rGtT K) := by
  subst e
  intro pins s σ H x y v u Q I rx ry h
  obtain ⟨ns, ms, h1, h2, q⟩ := h
  obtain ⟨as, r1⟩ := Dp.reads I _ x v h1 rx
  obtain ⟨bs, r2⟩ := Dp.reads I _ y u h2 ry
  refine gt_data r1 r2 ?_ (by intro z; cases z) ?_ ⟨.bl _, H, I, rfl, ?_⟩
  · show alike (.tuple _) (.tuple _) = true
    rw [alike]
    exact alike_ints _ _
  · have z : (intP ns).depth = 1 := by
      unfold intP
      rw [PyData.depth, depth_ints]
    omega
  · have e : dataLt (intP ms) (intP ns) = decide (ms < ns) := by
      unfold intP
      exact dataLt_tups ms ns
    rw [e]
    exact q
theorem call_anyK (hc : X.calm = true) (e : X.K = K := by rfl) : CallR X (.builtin "any") (rAny K) := e ▸ cr_any hc
def iSeq (K : PySem.W.Frag) (tl : TE) : TI := fun σ H R => tl σ H fun x H1 => ∃ a L xs, x = .ref a ∧ SqA L K H1 a xs ∧ R (if L = true then Itl K a else Itt K a) H1
theorem pi_seqK {tg l : Expr} {tl : TE} (hl : PE X l tl) (eK : X.K = K := by rfl) : PI X tg l (iSeq K tl) := by
  subst eK
  refine ⟨fun pins s σ H R I h => ?_⟩
  refine thn (hl.run pins s σ H _ I h) fun v s1 ⟨x, H1, I1, r1, a, L, xs, e, hq, q⟩ => ?_
  subst e
  cases r1
  have I2 : ∀ (o : Obj), Inv X pins σ H1 { s1 with heap := s1.heap.push o } := fun o => I1.kept (t' := s1.toks) fun b u e => Heap.get?_push_of_some _ e
  have fp : ∀ b ∈ [s1.heap.objs.size], FpOk X pins H1 b := fun b hb => by
    rw [List.mem_singleton.mp hb]
    exact I1.fpOk (Nat.le_refl _) (I1.hok.fresh (Nat.le_refl _))
  cases L with
  | true =>
    obtain ⟨its, rv, p, hz⟩ := I1.list (show SqL X.K H1 a xs from hq)
    exact wpAny_pyIter_list p.isList ⟨_, _, _, _, H1, rfl, I2 _, turn_list a _, ⟨_, Heap.get?_push_size _ rfl, rfl, rfl⟩, fp, q⟩
  | false =>
    obtain ⟨its, rv, p, hz⟩ := I1.tuple (show SqT X.K H1 a xs from hq)
    exact wpAny_pyIter_tuple (show s1.heap.IsTuple a its.toArray from p) ⟨_, _, _, _, H1, rfl, I2 _, turn_tuple a _, ⟨_, Heap.get?_push_size _ rfl, rfl, rfl⟩, fp, q⟩
theorem lc_seq {a : Addr} {L : Bool} {xs : List L2.V} {g : TG} {tt : TT} {te : TE} {vs : List Nat} {σ : L2.St} {H1 : Hp} {D : Addr} {Qd : Hp → Prop} (Pv : Nat → Hp → Prop) (h0 : Pv 0 (upd H1 D (.lst []))) (hl : ∀ i H, i ≤ xs.length → Pv i H → SqA L K H a xs)
    (hs : ∀ (i : Nat) (x : L2.V) (H : Hp), xs[i]? = some x → Pv i H → g x (wipe σ vs) H fun σ2 H2 => wipe σ2 vs = wipe σ vs ∧ tt σ2 H2 fun b H3 => if b = true then te σ2 H3 fun y H4 => ∃ acc, H4 D = some (.lst acc) ∧ acc.length < sizeLine ∧ Pv (i + 1) (upd H4 D (.lst (acc ++ [y]))) else Pv (i + 1) H3)
    (hd : ∀ H, Pv xs.length H → Qd H) :
    ∃ W : Nat → Nat → Hp → Prop, (∃ m, W 0 m (upd H1 D (.lst []))) ∧ ∀ i m H, W i m H →
      ((if L = true then Itl K a else Itt K a).stop i H ∧ Qd H) ∨ ((if L = true then Itl K a else Itt K a).go i H ∧ ∃ Nx : Hp → Prop, (∀ H', Nx H' → ∃ m', m' < m ∧ W (i + 1) m' H') ∧ ∀ x H', (if L = true then Itl K a else Itt K a).yld i H x H' → g x (wipe σ vs) H' fun σ2 H2 => wipe σ2 vs = wipe σ vs ∧ tt σ2 H2 fun b H3 =>
        if b = true then te σ2 H3 fun y H4 => ∃ acc, H4 D = some (.lst acc) ∧ acc.length < sizeLine ∧ Nx (upd H4 D (.lst (acc ++ [y]))) else Nx H3) := by
  cases L with
  | true => exact lc_list (K := K) (xs := xs) Pv h0 hl hs hd
  | false => exact lc_tup (K := K) (xs := xs) Pv h0 hl hs hd
abbrev TupL := List (Addr × List Int × L2.V)
def KeysT (K : PySem.W.Frag) (H : Hp) (L : TupL) : Prop := ∀ p ∈ L, SqT K H p.1 (p.2.1.map V.int)
def storeT (L : TupL) (b : Addr) (q : List Int) (v : L2.V) : TupL := if (findT L q).isSome then L.map (fun p => if p.2.1 = q then (p.1, p.2.1, v) else p) else L ++ [(b, q, v)]
theorem valF_put {L : TupL} {xs : List Ent} {q : List Int} {v : L2.V} {r : Value} (h : ValF L xs) (rv : RelV v r) : ValF (L.map fun p => if p.2.1 = q then (p.1, p.2.1, v) else p) (xs.map (putAt q r)) := by
  unfold ValF at h ⊢
  induction h with
  | nil => exact .nil
  | @cons p x ps qs r1 _ ih =>
    rw [List.map_cons, List.map_cons]
    refine .cons ?_ ih
    obtain ⟨a1, a2, a3⟩ := r1
    unfold putAt
    by_cases e : p.2.1 = q
    · rw [if_pos e, if_pos (by rw [a2, e])]
      exact ⟨a1, a2, rv⟩
    · rw [if_neg e, if_neg (fun z => e (a2.symm.trans z))]
      exact ⟨a1, a2, a3⟩
def sDPutT (K : PySem.W.Frag) (P : Program) (w : World) (td ty tv : TE) : TS := fun D σ H => tv σ H fun v H1 => td σ H1 fun x H2 => ty σ H2 fun y H3 => ∃ (a b : Addr) (q : List Int) (L : TupL), x = .ref a ∧ y = .ref b ∧ H3 a = some (DTO P w a (ValF L)) ∧ KeysT K H3 L ∧ SqT K H3 b (q.map V.int) ∧ L.length ≤ 100000 ∧
  D.nx σ (upd H3 a (DTO P w a (ValF (storeT L b q v))))
theorem ps_dputT {o i value : Expr} {pos pos' : Pos} {td ty tv : TE} (hu : X.A.units + 64 < cLine) (ho : PE X o td) (hi : PE X i ty) (hv : PE X value tv) (hs : swapsWith value (some (.Subscript o i pos')) pos.line X.env = pure false) (eK : X.K = K := by rfl) (eP : X.prog = P := by rfl) (ew : X.w = w := by rfl) :
    PS X (.Assign [.Subscript o i pos'] value pos) (sDPutT K P w td ty tv) := by
  subst eK eP ew
  refine ⟨fun pins s σ H D I h => ?_⟩
  refine wpAny_Assign_Subscript (thn (hv.run pins s σ H _ I h) fun r s1 ⟨v, H1, I1, rv, q1⟩ => thn (ho.run pins s1 σ H1 _ I1 q1) fun u s2 ⟨x, H2, I2, rx, q2⟩ => thn (hi.run pins s2 σ H2 _ I2 q2) fun iv s3 ⟨y, H3, I3, ry, a, b, q, L, ex, ey, ha, hL, hb, hl, q3⟩ => ?_) hs
  subst ex ey
  cases rx
  cases ry
  obtain ⟨xs, hF, hd⟩ := Inv.dto I3 (.inl ha)
  have hxl : xs.length = L.length := (Paired.length hF).symm
  have hk : ∀ x ∈ xs, IsT X.prog X.w s3.heap x.1 x.2.1 := fun x hx => by
    obtain ⟨p, hp, e1, e2⟩ := valF_mem hF x hx
    rw [e1, e2]
    exact Inv.isT I3 (hL p hp)
  refine wpAny_setItem_heap (knd := TK X.prog X.w) (hsz := by rw [hxl, sizeLine_eq]; omega) (show X.A.units + 1 < cLine by omega) (Inv.isT I3 hb) (hd.full hk) fun h' hm sb => ?_
  have he : ∃ u, h'.get? a = some u := by
    obtain ⟨o, _, _, z, _⟩ := hm
    exact ⟨o, z⟩
  have e : (findT L q).isSome = (atKey xs q).isSome := by
    have z : RelO (findT L q) ((atKey xs q).map (·.2)) := hF.find q
    rw [z.isSome_eq, Option.isSome_map]
  have hF2 : ValF (storeT L b q v) (storedH xs q b r) := by
    unfold storeT storedH
    rw [e]
    by_cases z : (atKey xs q).isSome = true
    · rw [if_pos z, if_pos z]
      exact valF_put hF rv
    · rw [if_neg z, if_neg z]
      exact Paired.snoc hF ⟨rfl, rfl, rv⟩
  exact ⟨σ, _, I3.write (e := a) (t' := s3.toks + (TK X.prog X.w).draws q) (by rw [ha]; trivial) (.inl rfl) (fun c u hc hu => (sb.2 c hc).trans hu) he (dto_ok hF2 (raw_of hm hd.1)), q3⟩
end
end Fm
namespace Fm
open PySem PySem.Spec PyProof.Rows L2 PySem.W
section
variable {P : Program} {w : World}
def numKey : NestedKey → Bool
  | .none => false
  | .num _ => true
  | .text _ => false
  | .tup ks => numKeys ks
where numKeys : List NestedKey → Bool
  | [] => true
  | k :: ks => numKey k && numKeys ks
end
end Fm
namespace Fm
open PySem PySem.Spec PyProof.Rows L2 PySem.W
section
variable {P : Program} {w : World} {α : Type} [DecidableEq α] {kn : HeapKind P w α} {fine : α → Prop} {A : Around} {E : Value → Shared → Prop} {s : Shared}
def memRow (kn : HeapKind P w α) (M : List (Addr × α)) : List (Int × Value) := M.map fun e => (kn.hash e.2, Value.ref e.1)
/-- at `a` a set that holds just these -/
structure SG (kn : HeapKind P w α) (fine : α → Prop) (h : Heap) (a : Addr) (M : List (Addr × α)) (es : Array (Int × Value)) (ep : Nat) (t : SetTable) : Prop where
  obj : ∃ ob, h.get? a = some ob ∧ ob.ExactSet ∧ ob.data = .set es ep t
  row : es.toList = memRow kn M
  tab : TabOk t (M.map fun e => kn.hash e.2)
  uni : (M.map (·.2)).Nodup
  key : ∀ e ∈ M, kn.is h e.2 e.1 ∧ fine e.2
  pl : t.plain = true
  lg : w.params.followText "set-order" = true ∨ t.led = true
  fit : M.length * 5 < t.mask * 3
  few : M.length < 64
variable {a : Addr} {M : List (Addr × α)} {es : Array (Int × Value)} {ep : Nat} {t : SetTable}
theorem memRow_len {M : List (Addr × α)} (e : es.toList = memRow kn M) : es.size = M.length := by
  have z := congrArg List.length e
  unfold memRow at z
  rwa [List.length_map, Array.length_toList] at z
theorem SG.len (Z : SG kn fine s.heap a M es ep t) : es.size = M.length := memRow_len Z.row
theorem SG.at (Z : SG kn fine s.heap a M es ep t) {i : Nat} {e : Addr × α} (he : M[i]? = some e) : es[i]? = some (kn.hash e.2, Value.ref e.1) := by
  rw [← Array.getElem?_toList, Z.row, memRow, List.getElem?_map, he]
  rfl
end
end Fm
namespace Fm
open PySem PySem.Spec PyProof.Rows L2 PySem.W
section
variable {P : Program} {w : World} {α : Type} [DecidableEq α] {kn : HeapKind P w α} {fine : α → Prop} {A : Around} {E : Value → Shared → Prop} {s : Shared}
/-- what a set has of the first i of a list -/
structure Has (ks : List (Addr × α)) (i : Nat) (M : List (Addr × α)) : Prop where
  sub : ∀ e ∈ M, e ∈ ks.take i
  all : ∀ e ∈ ks.take i, e.2 ∈ M.map (·.2)
  le : M.length ≤ i
theorem Has.next {ks M M' : List (Addr × α)} {i : Nat} {x : Addr × α} (g : Has ks i M) (hx : ks[i]? = some x) (h : (x.2 ∈ M.map (·.2) ∧ M' = M) ∨ (x.2 ∉ M.map (·.2) ∧ M'.Perm (x :: M))) : Has ks (i + 1) M' := by
  have tk : ks.take (i + 1) = ks.take i ++ [x] := by
    rw [List.take_add_one, hx]
    rfl
  rcases h with ⟨h1, rfl⟩ | ⟨_, h2⟩
  · refine ⟨fun e he => by rw [tk]; exact List.mem_append_left _ (g.sub e he), fun e he => ?_, Nat.le_succ_of_le g.le⟩
    rw [tk] at he
    rcases List.mem_append.mp he with z | z
    · exact g.all e z
    · rw [List.mem_singleton.mp z]
      exact h1
  · refine ⟨fun e he => ?_, fun e he => ?_, by rw [h2.length_eq, List.length_cons]; exact Nat.succ_le_succ g.le⟩
    · rw [tk]
      rcases List.mem_cons.mp (h2.mem_iff.mp he) with z | z
      · rw [z]
        exact List.mem_append_right _ (List.mem_singleton.mpr rfl)
      · exact List.mem_append_left _ (g.sub e z)
    · rw [(h2.map (·.2)).mem_iff, List.map_cons]
      rw [tk] at he
      rcases List.mem_append.mp he with z | z
      · exact List.mem_cons_of_mem _ (g.all e z)
      · rw [List.mem_singleton.mp z]
        exact List.mem_cons_self ..
theorem SG.up {h h' : Heap} {a : Addr} {M : List (Addr × α)} {es : Array (Int × Value)} {ep : Nat} {t : SetTable} (Z : SG kn fine h a M es ep t) (ha : ∀ o, h.get? a = some o → h'.get? a = some o) (hk : ∀ e ∈ M, kn.is h' e.2 e.1 ∧ fine e.2) : SG kn fine h' a M es ep t := by
  obtain ⟨ob, g1, g2⟩ := Z.obj
  exact ⟨⟨ob, ha ob g1, g2⟩, Z.row, Z.tab, Z.uni, hk, Z.pl, Z.lg, Z.fit, Z.few⟩
abbrev emptySet (w : World) : Obj := { cls := .type "set", dict := none, data := .set #[] 0 (.fresh 0 0 (!w.params.followText "set-order")) }
theorem SG.zero {h : Heap} {a : Addr} (e : h.get? a = some (emptySet w)) : SG kn fine h a [] #[] 0 (.fresh 0 0 (!w.params.followText "set-order")) where
  obj := ⟨_, e, ⟨rfl, rfl, rfl⟩, rfl⟩
  row := rfl
  tab := ⟨.nil, rfl, rfl, .inl rfl, (fun x hx => by cases hx), fun i h j hi => by simp at hi⟩
  uni := List.nodup_nil
  key := fun e he => by cases he
  pl := rfl
  lg := by
    cases hf : w.params.followText "set-order" with
    | true => exact .inl rfl
    | false => exact .inr rfl
  fit := show 0 * 5 < 7 * 3 by decide
  few := show 0 < 64 by decide
end
end Fm
namespace Fm
open PySem PySem.Spec PyProof.Rows L2 PySem.W
abbrev Box := List Int × List Int
def boxLt (p q : Box) : Prop := p.1 < q.1 ∨ (p.1 = q.1 ∧ p.2 < q.2)
instance (p q : Box) : Decidable (boxLt p q) := inferInstanceAs (Decidable (_ ∨ _))
section
variable {P : Program} {w : World}
theorem nums_num : ∀ c : List Int, numKey.numKeys (c.map NestedKey.num) = true
  | [] => rfl
  | _ :: c => nums_num c
theorem numKey_bk (q : Box) : numKey (bk q) = true := by
  show numKey.numKeys [.tup (q.1.map NestedKey.num), .tup (q.2.map NestedKey.num)] = true
  have e1 : numKey (.tup (q.1.map NestedKey.num)) = true := nums_num q.1
  have e2 : numKey (.tup (q.2.map NestedKey.num)) = true := nums_num q.2
  simp only [numKey.numKeys, e1, e2, Bool.and_self]
abbrev BoxS := List (Addr × Box)
def keysB (L : BoxS) : List (Addr × NestedKey) := L.map fun e => (e.1, bk e.2)
/-- the set at a, without the boxes themselves -/
def SB0 (P : Program) (w : World) (h : Heap) (a : Addr) (L : BoxS) : Prop := ∃ (es : Array (Int × Value)) (ep : Nat) (t : SetTable), (∃ ob, h.get? a = some ob ∧ ob.ExactSet ∧ ob.data = .set es ep t) ∧ es.toList = memRow (NK P w) (keysB L) ∧ TabOk t ((keysB L).map fun e => (NK P w).hash e.2) ∧ ((keysB L).map (·.2)).Nodup ∧ t.plain = true ∧
  (w.params.followText "set-order" = true ∨ t.led = true) ∧ (keysB L).length * 5 < t.mask * 3 ∧ (keysB L).length < 64
theorem SB0.full {h : Heap} {a : Addr} {L : BoxS} (R : SB0 P w h a L) (hk : ∀ e ∈ L, (NK P w).is h (bk e.2) e.1) : ∃ es ep t, SG (NK P w) (fun k => numKey k = true) h a (keysB L) es ep t := by
  obtain ⟨es, ep, t, h1, h2, h3, h4, h5, h6, h7, h8⟩ := R
  refine ⟨es, ep, t, h1, h2, h3, h4, fun e he => ?_, h5, h6, h7, h8⟩
  obtain ⟨x, hx, rfl⟩ := List.mem_map.mp he
  exact ⟨hk x hx, numKey_bk _⟩
end
end Fm
namespace Fm
open PySem PySem.Spec PyProof.Rows L2 PySem.W
section
variable {X : Cx} {K : PySem.W.Frag} {P : Program} {w : World}
def rNotInKT (K : PySem.W.Frag) (P : Program) (w : World) : R2 := fun x y H Q => ∃ (b a : Addr) (q : List Int) (L : TupL), x = .ref b ∧ y = .ref a ∧ Rd H a (DTO P w a (ValF L)) ∧ KeysT K H L ∧ SqT K H b (q.map V.int) ∧ Q (.bl (!(findT L q).isSome)) H
theorem op_notinKT (hu : X.A.units + 64 < cLine) (eK : X.K = K := by rfl) (eP : X.prog = P := by rfl) (ew : X.w = w := by rfl) : OpR X (compareOp .NotIn) (rNotInKT K P w) := by
  subst eK eP ew
  intro pins s σ H x y v u Q I rx ry h
  obtain ⟨b, a, q, L, rfl, rfl, ha, hL, hb, hq⟩ := h
  cases rx
  cases ry
  obtain ⟨xs, hF, hd⟩ := Inv.dto I ha
  have dd := hd.full fun x hx => by
    obtain ⟨p, hp, e1, e2⟩ := valF_mem hF x hx
    rw [e1, e2]
    exact Inv.isT I (hL p hp)
  refine wpAny_notIn_heap (knd := TK X.prog X.w) (show X.A.units + 1 < cLine by omega) (Inv.isT I hb) hd.1 dd ?_
  have e : (findT L q).isSome = (atKey xs q).isSome := by
    have z : RelO (findT L q) ((atKey xs q).map (·.2)) := hF.find q
    rw [z.isSome_eq, Option.isSome_map]
  rw [e] at hq
  exact ⟨.bl (!(atKey xs q).isSome), H, I.tok _, rfl, hq⟩
end
end Fm
namespace Fm
open PySem PySem.Spec PyProof.Rows L2 PySem.W
section
variable {X : Cx} {K : PySem.W.Frag} {P : Program} {w : World} {pins : List (Addr × Obj)} {σ : L2.St} {H : Hp} {s : Shared}
def tDispV (K : PySem.W.Frag) (P : Program) (w : World) (tk tv : TE) : TE := fun σ H Q => ∀ p, H p = none → tk σ (upd H p (DTO P w p (ValF []))) fun x H1 => tv σ H1 fun y H2 => ∃ (b : Addr) (q : List Int) (z : V), [(x, y)] = [(V.ref b, z)] ∧ H2 p = some (DTO P w p (ValF [])) ∧
  SqT K H2 b (q.map V.int) ∧ Q (.ref p) (upd H2 p (DTO P w p (ValF [(b, q, z)])))
theorem pe_dispV {pos : Pos} {k v : Expr} {tk tv : TE} (hu : X.A.units + 64 < cLine) (hk : PE X k tk) (hv : PE X v tv) (hshape : (evalEachOpt [some k] X.env).zip ((evalEach [v] X.env).map fun z => do let y ← z; standAt pos; pure y) = (pairTrees [some k] [v] X.env pos).map fun p => (some p.1, p.2) := by rfl)
    (hl : (pairTrees [some k] [v] X.env pos).length ≤ 15 := by decide) (h0 : pairTrees [some k] [v] X.env pos ≠ [] := by intro z; cases z) (eK : X.K = K := by rfl) (eP : X.prog = P := by rfl) (ew : X.w = w := by rfl) :
    PE X (.Dict [some k] [v] pos) (tDispV K P w tk tv) := by
  subst eK eP ew
  refine ⟨fun pins s σ H Q I h => ?_⟩
  have hn := I.hok.fresh (Nat.le_refl s.heap.objs.size)
  have hs : (s.heap.objs.size == sysModules) = false := beq_eq_false_iff_ne.mpr (Ne.symm (Nat.ne_of_lt I.big))
  have I1 : Inv X pins σ (upd H s.heap.objs.size (DTO X.prog X.w s.heap.objs.size (ValF []))) { s with heap := s.heap.push { cls := .type "dict", data := .dict #[] } } :=
    I.laid (t' := s.toks) (fun _ _ z => Heap.get?_push_of_some _ z) (Nat.le_refl _) (dto_ok (xs := []) .nil (raw_of (Heap.DictOfH.new s.heap) hs))
  have run : PPs X pos [some k] [v] [(tk, tv)] := pps_cons hk hv pps_nil
  rw [arm_eval_Dict, hshape, dictDisplay_pairs _ h0 (by omega)]
  refine wpAny_bind (wpAny_standAt (wpAny_bind (wpAny_subDictH (knd := TK X.prog X.w) (Q := fun d u => wpAny (model X.prog X.w) X.A (pure (Value.ref d)) (fun v s' => EP X pins σ Q v s') X.xe u) (show X.A.units < cLine by omega) hl
    (thn (run.run pins _ σ _ (fun ps H2 => ∃ (b : Addr) (q : List Int) (z : V), ps = [(V.ref b, z)] ∧ H2 s.heap.objs.size = some (DTO X.prog X.w s.heap.objs.size (ValF [])) ∧ SqT X.K H2 b (q.map V.int) ∧ Q (.ref s.heap.objs.size) (upd H2 s.heap.objs.size (DTO X.prog X.w s.heap.objs.size (ValF [(b, q, z)])))) I1 ?_) fun ws s2 ⟨ps, H2, I2, rel, b, q, z, ep, hp, hb, qq⟩ => ?_))))
  · show tk _ _ _
    exact h _ hn
  · subst ep
    cases rel with
    | @cons p kv ps qs r t =>
      cases t
      obtain ⟨k1, v1⟩ := kv
      obtain ⟨r1, r2⟩ := r
      cases r1
      obtain ⟨xs, hF, hd⟩ := Inv.dto I2 (.inl hp)
      cases hF
      have hk1 : IsT X.prog X.w s2.heap q b := Inv.isT I2 hb
      refine ⟨[(q, b, v1)], ⟨rfl, rfl, hk1, trivial⟩, hd.full fun z hz => (by cases hz), fun h' tk' hm hs' => wpAny_pure ?_⟩
      have he : ∃ u, h'.get? s.heap.objs.size = some u := by
        obtain ⟨o, es, ep, z, _⟩ := hm
        exact ⟨o, z⟩
      exact ⟨.ref s.heap.objs.size, _, I2.write (e := s.heap.objs.size) (t' := tk') (by rw [hp]; trivial) (.inl rfl) (fun c u hc hu => (hs'.2 c hc).trans hu) he (dto_ok (F := ValF [(b, q, z)]) (xs := [(q, b, v1)]) (.cons ⟨rfl, rfl, r2⟩ .nil) (raw_of hm hs)), rfl, qq⟩
end
end Fm
namespace Fm
open PySem PySem.Spec PyProof.Rows L2 PySem.W
abbrev BI := (List Int × List Int) × Int
def bik (q : BI) : NestedKey := .tup [bk q.1, .num q.2]
theorem bik_inj {p q : BI} (h : bik p = bik q) : p = q := by
  unfold bik at h
  injection h with h
  injection h with h1 h2
  injection h2 with h2 _
  injection h2 with h2
  exact Prod.ext (bk_inj h1) h2
abbrev BIL := List (Addr × BI × V)
section
variable {P : Program} {w : World} {h h' : Heap} {a : Addr} {xs : List EntB}
def ValI (L : BIL) : List EntB → Prop := fun xs => Paired (fun p (x : EntB) => x.2.1 = p.1 ∧ x.1 = bik p.2.1 ∧ RelV p.2.2 x.2.2) L xs
/-- what the dict has for a box -/
def findI (L : BIL) (q : BI) : Option V := (L.find? fun p => decide (p.2.1 = q)).map (·.2.2)
theorem ValI.find {L : BIL} {xs : List EntB} (h : ValI L xs) (q : BI) : RelO (findI L q) ((atKey xs (bik q)).map (·.2)) := by
  unfold ValI at h
  unfold findI
  induction h with
  | nil => exact True.intro
  | @cons p x ps qs r _ ih =>
    obtain ⟨_, r2, r3⟩ := r
    by_cases e : p.2.1 = q
    · have b : atKey (x :: qs) (bik q) = some x.2 := by simp [atKey, List.find?_cons, r2, e]
      rw [b, List.find?_cons]
      simp only [e, decide_true, Option.map_some]
      exact r3
    · have e' : ¬ bik p.2.1 = bik q := fun z => e (bik_inj z)
      have b : atKey (x :: qs) (bik q) = atKey qs (bik q) := by simp [atKey, List.find?_cons, r2, e']
      rw [b, List.find?_cons]
      simp only [e, decide_false]
      exact ih
end
end Fm
namespace Fm
open PySem PySem.Spec PyProof.Rows L2 PySem.W
section
variable {X : Cx} {pins : List (Addr × Obj)} {σ : L2.St} {H : Hp} {s : Shared}
def tk (ns : List Int) : NestedKey := .tup (ns.map NestedKey.num)
end
end Fm
namespace Fm
open PySem PySem.Spec PyProof.Rows L2 PySem.W
theorem owner_comb : Manifest.owners.lookup (String.ofList ['s', 'n', 'o', 'i', 't', 'a', 'n', 'i', 'b', 'm', 'o', 'c', '.', 's', 'l', 'o', 'o', 't', 'r', 'e', 't', 'i'].reverse) = some Manifest.sig_itertools_combinations := by kernel_rfl
theorem slot_comb_next : Slot "itertools.combinations" "__next__" "itertools.combinations.__next__" :=
  .of (owner := "itertools.combinations") (n := "__next__") (by rw [typeLookup_type, builtinLookup_eq_fast]; kernel_rfl) (by decide +kernel) (by decide +kernel) (by decide +kernel)
    (by first | exact .inl (by decide +kernel) | exact .inr (by decide +kernel)) (by rw [isSubtype_type]; kernel_rfl)
theorem slot_comb_iter : Slot "itertools.combinations" "__iter__" "itertools.combinations.__iter__" :=
  .of (owner := "itertools.combinations") (n := "__iter__") (by rw [typeLookup_type, builtinLookup_eq_fast]; kernel_rfl) (by decide +kernel) (by decide +kernel) (by decide +kernel)
    (by first | exact .inl (by decide +kernel) | exact .inr (by decide +kernel)) (by rw [isSubtype_type]; kernel_rfl)
theorem slot_comb_init : Slot "itertools.combinations" "__init__" "object.__init__" :=
  .of (owner := "object") (n := "__init__") (by rw [typeLookup_type, builtinLookup_eq_fast]; kernel_rfl) (by decide +kernel) (by decide +kernel) (by decide +kernel)
    (by first | exact .inl (by decide +kernel) | exact .inr (by decide +kernel)) (by rw [isSubtype_type]; kernel_rfl)
theorem entry_comb_next : entryFor table "itertools.combinations.__next__" = some Builtin.«itertools.combinations.__next__» := entryFor_of_tree (by kernel_rfl)
theorem entry_comb_new : entryFor table "itertools.combinations.__new__" = some Builtin.«itertools.combinations.__new__» := entryFor_of_tree (by kernel_rfl)
theorem entry_comb_iter : entryFor table "itertools.combinations.__iter__" = some Builtin.«dict_keyiterator.__iter__» :=
  entryFor_alias (id' := "dict_keyiterator.__iter__") (by kernel_rfl) (by first | rfl | decide +kernel | (unfold String.splitOn; simp +decide [String.splitOnAux])) (by decide +kernel) (by kernel_rfl)
theorem args_comb_next (a : Value) : argsOk "itertools.combinations.__next__" ⟨[a], []⟩ := by
  unfold argsOk; rw [signature?_of (id := "itertools.combinations.__next__") (n := ['_', '_', 't', 'x', 'e', 'n', '_', '_']) (o := ['s', 'n', 'o', 'i', 't', 'a', 'n', 'i', 'b', 'm', 'o', 'c', '.', 's', 'l', 'o', 'o', 't', 'r', 'e', 't', 'i']) (by kernel_rfl) owner_comb]; kernel_rfl
theorem args_comb_iter (a : Value) : argsOk "itertools.combinations.__iter__" ⟨[a], []⟩ := by
  unfold argsOk; rw [signature?_of (id := "itertools.combinations.__iter__") (n := ['_', '_', 'r', 'e', 't', 'i', '_', '_']) (o := ['s', 'n', 'o', 'i', 't', 'a', 'n', 'i', 'b', 'm', 'o', 'c', '.', 's', 'l', 'o', 'o', 't', 'r', 'e', 't', 'i']) (by kernel_rfl) owner_comb]; kernel_rfl
theorem mro_comb : mroOf (.type "itertools.combinations") = pure [.type "itertools.combinations", .type "object"] := by rw [mroOf_type]; kernel_rfl
theorem lookup_comb_new : typeLookup (.type "itertools.combinations") "__new__" = pure (some (.builtin "itertools.combinations.__new__")) := by rw [typeLookup_type, builtinLookup_eq_fast]; kernel_rfl
theorem called_comb : TypeCalled "itertools.combinations" "itertools.combinations.__new__" "object.__init__" :=
  ⟨by decide +kernel, by decide +kernel, ⟨_, _, mro_comb⟩, madeBy_type mro_comb lookup_comb_new (by decide +kernel), by decide +kernel, by rw [isSubtype_type]; kernel_rfl, slot_comb_init⟩
theorem typeCall_comb (a b : Value) : checkTypeCall "itertools.combinations" ⟨[a, b], []⟩ = pure () := by kernel_rfl
theorem newCall_comb (a b : Value) : checkBuiltinCall "itertools.combinations.__new__" ⟨[.type "itertools.combinations", a, b], []⟩ = pure () := by kernel_rfl
theorem owner_perm : Manifest.owners.lookup (String.ofList ['s', 'n', 'o', 'i', 't', 'a', 't', 'u', 'm', 'r', 'e', 'p', '.', 's', 'l', 'o', 'o', 't', 'r', 'e', 't', 'i'].reverse) = some Manifest.sig_itertools_permutations := by kernel_rfl
theorem slot_perm_next : Slot "itertools.permutations" "__next__" "itertools.permutations.__next__" :=
  .of (owner := "itertools.permutations") (n := "__next__") (by rw [typeLookup_type, builtinLookup_eq_fast]; kernel_rfl) (by decide +kernel) (by decide +kernel) (by decide +kernel)
    (by first | exact .inl (by decide +kernel) | exact .inr (by decide +kernel)) (by rw [isSubtype_type]; kernel_rfl)
theorem slot_perm_iter : Slot "itertools.permutations" "__iter__" "itertools.permutations.__iter__" :=
  .of (owner := "itertools.permutations") (n := "__iter__") (by rw [typeLookup_type, builtinLookup_eq_fast]; kernel_rfl) (by decide +kernel) (by decide +kernel) (by decide +kernel)
    (by first | exact .inl (by decide +kernel) | exact .inr (by decide +kernel)) (by rw [isSubtype_type]; kernel_rfl)
theorem slot_perm_init : Slot "itertools.permutations" "__init__" "object.__init__" :=
  .of (owner := "object") (n := "__init__") (by rw [typeLookup_type, builtinLookup_eq_fast]; kernel_rfl) (by decide +kernel) (by decide +kernel) (by decide +kernel)
    (by first | exact .inl (by decide +kernel) | exact .inr (by decide +kernel)) (by rw [isSubtype_type]; kernel_rfl)
theorem entry_perm_next : entryFor table "itertools.permutations.__next__" = some Builtin.«itertools.permutations.__next__» := entryFor_of_tree (by kernel_rfl)
theorem entry_perm_new : entryFor table "itertools.permutations.__new__" = some Builtin.«itertools.permutations.__new__» := entryFor_of_tree (by kernel_rfl)
theorem entry_perm_iter : entryFor table "itertools.permutations.__iter__" = some Builtin.«dict_keyiterator.__iter__» :=
  entryFor_alias (id' := "dict_keyiterator.__iter__") (by kernel_rfl) (by first | rfl | decide +kernel | (unfold String.splitOn; simp +decide [String.splitOnAux])) (by decide +kernel) (by kernel_rfl)
theorem args_perm_next (a : Value) : argsOk "itertools.permutations.__next__" ⟨[a], []⟩ := by
  unfold argsOk; rw [signature?_of (id := "itertools.permutations.__next__") (n := ['_', '_', 't', 'x', 'e', 'n', '_', '_']) (o := ['s', 'n', 'o', 'i', 't', 'a', 't', 'u', 'm', 'r', 'e', 'p', '.', 's', 'l', 'o', 'o', 't', 'r', 'e', 't', 'i']) (by kernel_rfl) owner_perm]; kernel_rfl
theorem args_perm_iter (a : Value) : argsOk "itertools.permutations.__iter__" ⟨[a], []⟩ := by
  unfold argsOk; rw [signature?_of (id := "itertools.permutations.__iter__") (n := ['_', '_', 'r', 'e', 't', 'i', '_', '_']) (o := ['s', 'n', 'o', 'i', 't', 'a', 't', 'u', 'm', 'r', 'e', 'p', '.', 's', 'l', 'o', 'o', 't', 'r', 'e', 't', 'i']) (by kernel_rfl) owner_perm]; kernel_rfl
theorem mro_perm : mroOf (.type "itertools.permutations") = pure [.type "itertools.permutations", .type "object"] := by rw [mroOf_type]; kernel_rfl
theorem lookup_perm_new : typeLookup (.type "itertools.permutations") "__new__" = pure (some (.builtin "itertools.permutations.__new__")) := by rw [typeLookup_type, builtinLookup_eq_fast]; kernel_rfl
theorem called_perm : TypeCalled "itertools.permutations" "itertools.permutations.__new__" "object.__init__" :=
  ⟨by decide +kernel, by decide +kernel, ⟨_, _, mro_perm⟩, madeBy_type mro_perm lookup_perm_new (by decide +kernel), by decide +kernel, by rw [isSubtype_type]; kernel_rfl, slot_perm_init⟩
theorem typeCall_perm (a : Value) : checkTypeCall "itertools.permutations" ⟨[a], []⟩ = pure () := by kernel_rfl
theorem newCall_perm (a : Value) : checkBuiltinCall "itertools.permutations.__new__" ⟨[.type "itertools.permutations", a], []⟩ = pure () := by kernel_rfl
end Fm
namespace Fm
open PySem PySem.Spec PyProof.Rows L2 PySem.W
def ni (i : Nat) : Value := rawInt (i : Int)
theorem ni_back (ix : List Nat) : ((ix.map ni).map fun v => match v with | .int n _ => n.toNat | _ => 0) = ix := by
  induction ix with
  | nil => rfl
  | cons i r ih =>
    rw [List.map_cons, List.map_cons, ih]
    rfl
/-- the next places of an ascending choice -/
def nextC (n : Nat) (ix : List Nat) : Option (List Nat) :=
  match (List.range ix.length).reverse.find? fun i => ix.getD i 0 != i + n - ix.length with
  | none => none
  | some i => some (ix.take i ++ (List.range (ix.length - i)).map fun x => ix.getD i 0 + 1 + x)
def recC (p : Addr) (st : Int) (old : Value) (ix : List Nat) : Array Value := (Value.ref p :: rawInt st :: old :: ix.map ni).toArray
abbrev IsComb (h : Heap) (c p : Addr) (st : Int) (old : Value) (ix : List Nat) : Prop := h.get? c = some { cls := .type "itertools.combinations", dict := none, data := .fields (recC p st old ix), slots := #[] }
theorem recC_st (p : Addr) (st u : Int) (old : Value) (ix : List Nat) : (recC p st old ix).setIfInBounds 1 (rawInt u) = recC p u old ix := by
  unfold recC
  rw [List.setIfInBounds_toArray]
  rfl
theorem recC_old (p : Addr) (st : Int) (old x : Value) (ix : List Nat) : (recC p st old ix).setIfInBounds 2 x = recC p st x ix := by
  unfold recC
  rw [List.setIfInBounds_toArray]
  rfl
theorem recC_ix (p : Addr) (st : Int) (old : Value) (ix ix' : List Nat) : (recC p st old ix).extract 0 3 ++ (ix'.map fun (n : Nat) => rawInt n).toArray = recC p st old ix' := by
  unfold recC
  simp [ni]
theorem recC_size (p : Addr) (st : Int) (old : Value) (ix : List Nat) : (recC p st old ix).size = ix.length + 3 := by
  unfold recC
  simp
section
variable {prog : Program} {w : World} {A : Around} {E : Value → Shared → Prop} {s : Shared}
theorem wp_numbers {c : Addr} {cls : Value} {vs : Array Value} {k : Nat} {ix : List Nat} {Q : List Nat → Shared → Prop} (he : s.heap.get? c = some { cls := cls, dict := none, data := .fields vs, slots := #[] }) (hx : vs.toList.drop k = ix.map ni) (q : Q ix s) : wpAny (model prog w) A (Builtin.Itertools.itNumbersFrom (.ref c) k) Q E s := by
  unfold Builtin.Itertools.itNumbersFrom
  refine wpAny_bind (wpAny_load he ?_)
  show wpAny _ _ (pure _) _ _ _
  refine wpAny_pure ?_
  rw [hx]
  exact (ni_back ix).symm ▸ q
theorem wp_intField {c : Addr} {cls : Value} {vs : Array Value} {k : Nat} {n : Int} {Q : Int → Shared → Prop} (he : s.heap.get? c = some { cls := cls, dict := none, data := .fields vs, slots := #[] }) (hx : vs[k]? = some (rawInt n)) (q : Q n s) : wpAny (model prog w) A (Builtin.Itertools.itIntField (.ref c) k) Q E s := by
  unfold Builtin.Itertools.itIntField
  refine wpAny_bind (wpAny_field he rfl hx ?_)
  exact wpAny_pure q
theorem wp_pool {p : Addr} {items : Array Value} {Q : Array Value → Shared → Prop} (hp : s.heap.IsTuple p items) (q : Q items s) : wpAny (model prog w) A (Builtin.Itertools.itPoolItems (.ref p)) Q E s := by
  obtain ⟨o, ho, hc, n, hd⟩ := hp
  unfold Builtin.Itertools.itPoolItems
  refine wpAny_bind (wpAny_seqItems ho hd ?_)
  exact wpAny_pure q
theorem recC_drop (p : Addr) (st : Int) (old : Value) (ix : List Nat) : (recC p st old ix).toList.drop 3 = ix.map ni := by
  unfold recC
  simp
theorem wp_setNumbers {c p : Addr} {st : Int} {old : Value} {ix ix' : List Nat} {Q : Unit → Shared → Prop} (he : IsComb s.heap c p st old ix) (few : ix'.length ≤ 1000) (q : ∀ h', IsComb h' c p st old ix' → Heap.SameBut c s.heap h' → Q () { s with heap := h' }) :
    wpAny (model prog w) A (Builtin.Itertools.itSetNumbersFrom (.ref c) 3 ix') Q E s := by
  unfold Builtin.Itertools.itSetNumbersFrom
  refine wpAny_updateFields he rfl (q _ ?_ (Heap.SameBut.update ..)) ?_
  · have := Heap.get?_update_self (Obj.mapFields fun fs => fs.extract 0 3 ++ (ix'.map fun (n : Nat) => rawInt n).toArray) he rfl
    unfold IsComb
    rw [this]
    show some ({ cls := _, dict := none, data := .fields ((recC p st old ix).extract 0 3 ++ (ix'.map fun (n : Nat) => rawInt n).toArray), slots := #[] } : Obj) = _
    rw [recC_ix]
  · rw [recC_ix, recC_size, sizeLine_eq]
    omega
/-- what handing a choice out does -/
theorem comb_hand {c p : Addr} {st : Int} {old : Value} {ix : List Nat} {items : Array Value} {T : Sem PySem.Fin} {Q : Value → Shared → Prop} (he : IsComb s.heap c p st old ix) (hp : s.heap.IsTuple p items) (few : ix.length ≤ 1000)
    (hT : T = (do
        let result ← (do let its ← Builtin.Itertools.itPoolItems (.ref p); newTuple (ix.map fun i => its.getD i .none))
        let before ← field (Value.ref c) 2
        setField (Value.ref c) 2 result
        letGo [before] [result]
        ret result))
    (hQ : ∀ h', IsComb h' c p st (.ref s.heap.objs.size) ix → h'.get? s.heap.objs.size = some { cls := .type "tuple", data := .seq (ix.map fun i => items.getD i .none).toArray } → h'.objs.size = s.heap.objs.size + 1 →
      (∀ b o, b ≠ c → s.heap.get? b = some o → h'.get? b = some o) → Q (.ref s.heap.objs.size) { s with heap := h' }) :
    wpAny (model prog w) A T (fun fin s' => ∃ v, fin = .done (.ret v) ∧ Q v s') E s := by
  subst hT
  have hlt := Heap.lt_size he
  refine wpAny_bind (wpAny_bind (wp_pool hp (wpAny_newTuple ?_ (by rw [List.length_map, sizeLine_eq]; omega))))
  have he1 : IsComb (s.heap.push { cls := .type "tuple", data := .seq (ix.map fun i => items.getD i .none).toArray }) c p st old ix := Heap.get?_push_of_some _ he
  have ht1 : (s.heap.push { cls := .type "tuple", data := .seq (ix.map fun i => items.getD i .none).toArray }).get? s.heap.objs.size = some { cls := .type "tuple", data := .seq (ix.map fun i => items.getD i .none).toArray } := Heap.get?_push_size _ rfl
  have hk1 : ∀ b o, s.heap.get? b = some o → (s.heap.push { cls := .type "tuple", data := .seq (ix.map fun i => items.getD i .none).toArray }).get? b = some o := fun b o e => Heap.get?_push_of_some _ e
  have hz1 : (s.heap.push { cls := .type "tuple", data := .seq (ix.map fun i => items.getD i .none).toArray }).objs.size = s.heap.objs.size + 1 := Heap.size_push ..
  generalize s.heap.push { cls := .type "tuple", data := .seq (ix.map fun i => items.getD i .none).toArray } = h1 at he1 ht1 hk1 hz1 ⊢
  refine wpAny_bind (wpAny_field (s := { s with heap := h1 }) he1 rfl (x := old) (by unfold recC; simp) ?_)
  refine wpAny_bind (wpAny_setField_rec (s := { s with heap := h1 }) he1 (by rw [recC_size]; omega) fun h2 he2 hs2 => ?_)
  rw [recC_old] at he2
  refine wpAny_bind (wpAny_letGo (wpAny_pure ⟨_, rfl, hQ h2 he2 ?_ ?_ fun b o hb e => ?_⟩))
  · exact (hs2.2 _ (Nat.ne_of_gt hlt)).trans ht1
  · rw [hs2.1, hz1]
  · exact (hs2.2 b hb).trans (hk1 b o e)
theorem comb_next {c p : Addr} {st : Int} {old : Value} {ix ix' : List Nat} {items : Array Value} {Q : Value → Shared → Prop} (he : IsComb s.heap c p st old ix) (hp : s.heap.IsTuple p items) (hne : c ≠ p) (few : ix'.length ≤ 1000) (hst : (st = 0 ∧ ix' = ix) ∨ (st = 1 ∧ nextC items.size ix = some ix'))
    (hQ : ∀ h', IsComb h' c p 1 (.ref s.heap.objs.size) ix' → h'.get? s.heap.objs.size = some { cls := .type "tuple", data := .seq (ix'.map fun i => items.getD i .none).toArray } → h'.objs.size = s.heap.objs.size + 1 →
      (∀ b o, b ≠ c → s.heap.get? b = some o → h'.get? b = some o) → Q (.ref s.heap.objs.size) { s with heap := h' }) :
    wpAny (model prog w) A (Builtin.«itertools.combinations.__next__» ⟨[.ref c], []⟩) (fun fin s' => ∃ v, fin = .done (.ret v) ∧ Q v s') E s := by
  show wpAny _ _ (field (.ref c) 0 >>= _) _ _ _
  refine wpAny_bind (wpAny_field he rfl (x := .ref p) (by unfold recC; simp) ?_)
  refine wpAny_bind (wp_numbers he (recC_drop ..) ?_)
  refine wpAny_bind (wp_intField he (n := st) (by unfold recC; simp) ?_)
  rcases hst with ⟨rfl, rfl⟩ | ⟨rfl, hn⟩
  · refine wpAny_bind (wpAny_setField_rec he (by rw [recC_size]; omega) fun h2 he2 hs2 => ?_)
    rw [recC_st] at he2
    refine comb_hand (s := { s with heap := h2 }) he2 (hp.at fun o e => (hs2.2 p hne.symm).trans e) few rfl fun h3 a b d k => ?_
    have e1 : h2.objs.size = s.heap.objs.size := hs2.1
    dsimp only at a b d k ⊢
    rw [e1] at a b d ⊢
    exact hQ h3 a b d fun x o hx e => k x o hx ((hs2.2 x hx).trans e)
  · refine wpAny_bind (wp_pool hp ?_)
    show wpAny _ _ (match nextC items.size ix with | some next => _ | none => _) _ _ _
    rw [hn]
    dsimp only
    refine wpAny_bind (wp_setNumbers he few fun h2 he2 hs2 => ?_)
    refine comb_hand (s := { s with heap := h2 }) he2 (hp.at fun o e => (hs2.2 p hne.symm).trans e) few rfl fun h3 a b d k => ?_
    have e1 : h2.objs.size = s.heap.objs.size := hs2.1
    dsimp only at a b d k ⊢
    rw [e1] at a b d ⊢
    exact hQ h3 a b d fun x o hx e => k x o hx ((hs2.2 x hx).trans e)
end
end Fm
namespace Fm
open PySem PySem.Spec PyProof.Rows L2 PySem.W
section
variable {prog : Program} {w : World} {A : Around} {E : Value → Shared → Prop} {s : Shared}
theorem wp_itStop {α : Type} {c : Addr} {h0 : Heap} {R : α → Shared → Prop} (hh : A.handled = none) (k : Heap.ExtBut c h0 s.heap)
    (hE : ∀ h' e, Heap.ExtBut c h0 h' → (∃ o, h'.get? e = some o ∧ o.cls = .type "StopIteration") → E (.ref e) { s with heap := h' }) : wpAny (model prog w) A (Builtin.Itertools.itStop : Sem α) R E s := by
  unfold Builtin.Itertools.itStop
  refine wpAny_bind ?_
  simp only [newExc, newTuple]
  refine wpAny_bind (wpAny_newObj_type ?_ (by size_fits))
  refine wpAny_bind (m := firstArgMember _ _) (wpAny_of_eq (a := Value.none) (by first | rfl | (simp only [firstArgMember]; rfl)) ?_)
  refine wpAny_newObj_type ?_ (by size_fits)
  simp only [raiseNew]
  refine wpAny_bind (wpAny_handled ?_)
  first | rw [show A.in1.handled = none from hh] | rw [hh]
  refine wpAny_bind (wpAny_pure (wpAny_throw ?_))
  exact hE _ _ ((k.push _).push _) ⟨_, Heap.get?_push_size _ rfl, rfl⟩
theorem comb_end {c p : Addr} {st : Int} {old : Value} {ix : List Nat} {items : Array Value} {R : PySem.Fin → Shared → Prop} (hh : A.handled = none) (he : IsComb s.heap c p st old ix) (hp : s.heap.IsTuple p items) (hst : st = 2 ∨ (st = 1 ∧ nextC items.size ix = none))
    (hE : ∀ h' e, Heap.ExtBut c s.heap h' → (∃ o, h'.get? e = some o ∧ o.cls = .type "StopIteration") → E (.ref e) { s with heap := h' }) :
    wpAny (model prog w) A (Builtin.«itertools.combinations.__next__» ⟨[.ref c], []⟩) R E s := by
  show wpAny _ _ (field (.ref c) 0 >>= _) _ _ _
  refine wpAny_bind (wpAny_field he rfl (x := .ref p) (by unfold recC; simp) ?_)
  refine wpAny_bind (wp_numbers he (recC_drop ..) ?_)
  refine wpAny_bind (wp_intField he (n := st) (by unfold recC; simp) ?_)
  rcases hst with rfl | ⟨rfl, hn⟩
  · refine wpAny_bind (wpAny_rule ?_)
    exact wp_itStop hh (fun b o _ e => e) hE
  · refine wpAny_bind (wp_pool hp ?_)
    show wpAny _ _ (match nextC items.size ix with | some next => _ | none => _) _ _ _
    rw [hn]
    dsimp only
    refine wpAny_bind (wpAny_setField_rec he (by rw [recC_size]; omega) fun h2 he2 hs2 => ?_)
    exact wp_itStop (s := { s with heap := h2 }) hh hs2.extBut hE
theorem comb_type {c p : Addr} {st : Int} {old : Value} {ix : List Nat} (he : IsComb s.heap c p st old ix) : s.TypeIs (.ref c) "itertools.combinations" := ⟨_, he, rfl⟩
theorem pyNext_comb {c p : Addr} {st : Int} {old : Value} {ix ix' : List Nat} {items : Array Value} {Q : Option Value → Shared → Prop} (he : IsComb s.heap c p st old ix) (hp : s.heap.IsTuple p items) (hne : c ≠ p) (few : ix'.length ≤ 1000) (hst : (st = 0 ∧ ix' = ix) ∨ (st = 1 ∧ nextC items.size ix = some ix'))
    (hQ : ∀ h', IsComb h' c p 1 (.ref s.heap.objs.size) ix' → h'.get? s.heap.objs.size = some { cls := .type "tuple", data := .seq (ix'.map fun i => items.getD i .none).toArray } → h'.objs.size = s.heap.objs.size + 1 →
      (∀ b o, b ≠ c → s.heap.get? b = some o → h'.get? b = some o) → Q (some (.ref s.heap.objs.size)) { s with heap := h' }) : wpAny (model prog w) A (pyNext (.ref c)) Q E s := by
  have hT := comb_type he
  unfold pyNext
  exact wpAny_bind (wpAny_attempt (wpAny_callSpecial?_slot (name := Str.ofString "__next__") hT slot_comb_next
    (wpAny_call_entry slot_comb_next hT entry_comb_next (comb_next he hp hne few hst fun h' a b d k => wpAny_pure (hQ h' a b d k)) (args_comb_next _))))
theorem pyNext_comb_end {c p : Addr} {st : Int} {old : Value} {ix : List Nat} {items : Array Value} {Q : Option Value → Shared → Prop} (hh : A.handled = none) (he : IsComb s.heap c p st old ix) (hp : s.heap.IsTuple p items) (hst : st = 2 ∨ (st = 1 ∧ nextC items.size ix = none))
    (hQ : ∀ h', Heap.ExtBut c s.heap h' → Q none { s with heap := h' }) : wpAny (model prog w) A (pyNext (.ref c)) Q E s := by
  have hT := comb_type he
  unfold pyNext
  refine wpAny_bind (wpAny_attempt (wpAny_callSpecial?_slot (name := Str.ofString "__next__") hT slot_comb_next
    (wpAny_call_entry slot_comb_next hT entry_comb_next (comb_end hh he hp hst fun h' x he' hx' => ?_) (args_comb_next _))))
  obtain ⟨o, ho, hc⟩ := hx'
  refine wpAny_bind (wpAny_isInstance (T := "StopIteration") (b := true) ⟨o, ho, hc⟩ isSubtype_stop ?_)
  exact wpAny_pure (hQ _ he')
theorem pyIter_comb {c p : Addr} {st : Int} {old : Value} {ix : List Nat} {Q : Value → Shared → Prop} (he : IsComb s.heap c p st old ix) (h : Q (.ref c) s) : wpAny (model prog w) A (pyIter (.ref c)) Q E s := by
  have hT := comb_type he
  refine wpAny_pyIter_slot hT slot_comb_iter (wpAny_call_entry slot_comb_iter hT entry_comb_iter ?_ (args_comb_iter _))
  show wpAny _ _ (ret (.ref c)) _ _ s
  exact wpAny_pure ⟨_, rfl, "itertools.combinations", _, hT, slot_comb_next.lookup, h⟩
end
end Fm
namespace Fm
open PySem PySem.Spec PyProof.Rows L2 PySem.W
theorem vals_getD {xs : List V} {us : List Value} (r : Vals xs us) (k : Nat) : RelV (xs.getD k .non) (us.toArray.getD k .none) := by
  have e : us.toArray.getD k .none = us.getD k .none := by simp [Array.getD, List.getD_eq_getElem?_getD]; split <;> simp_all
  rw [e, List.getD_eq_getElem?_getD, List.getD_eq_getElem?_getD]
  cases h : xs[k]? with
  | none =>
    have : us[k]? = none := by
      rw [List.getElem?_eq_none_iff] at h ⊢
      have := r.length
      omega
    rw [this]
    rfl
  | some x =>
    obtain ⟨u, hu, rx⟩ := r.get h
    rw [hu]
    exact rx
theorem vals_pick {xs : List V} {us : List Value} (r : Vals xs us) : ∀ ix : List Nat, Vals (ix.map fun k => xs.getD k .non) (ix.map fun k => us.toArray.getD k .none)
  | [] => .nil
  | k :: ix => .cons (vals_getD r k) (vals_pick r ix)
/-- the choices in their order -/
def ItComb (xs : List V) (L : List (List Nat)) : It where
  go := fun i H => i < L.length
  yld := fun i H v H' => ∃ T ix, v = .ref T ∧ L[i]? = some ix ∧ H T = none ∧ H' = upd H T (.tup (ix.map fun k => xs.getD k .non))
  stop := fun i H => L.length ≤ i
structure CombSeq (n r : Nat) (L : List (List Nat)) : Prop where
  first : r ≤ n → L[0]? = some (List.range r)
  no : n < r → L = []
  next : ∀ i a b, L[i]? = some a → L[i + 1]? = some b → nextC n a = some b
  last : ∀ i a, L[i]? = some a → L[i + 1]? = none → nextC n a = none
  few : ∀ a ∈ L, a.length ≤ 1000
theorem turn_comb {P : Program} {w : World} {K : PySem.W.Frag} {tg : Expr} {c p : Addr} {xs : List V} {us : List Value} {L : List (List Nat)} {r : Nat} (ne : c ≠ p) (rx : Vals xs us) (S : CombSeq us.length r L) :
    Turn P w K tg (ItComb xs L) [c, p] c (fun i h => ∃ old st ix, IsComb h c p st old ix ∧ h.get? p = some { cls := .type "tuple", data := .seq us.toArray } ∧ ((i = 0 ∧ ((L = [] ∧ st = 2) ∨ (st = 0 ∧ L[0]? = some ix))) ∨ (0 < i ∧ st = 1 ∧ L[i - 1]? = some ix))) where
  mem := List.mem_cons_self ..
  obj := by
    rintro i h ⟨old, st, ix, he, hp, _⟩ b hb
    rcases (show b = c ∨ b = p by simpa using hb) with e | e <;> subst e
    · exact ⟨_, he, fun _ y => nomatch y⟩
    · exact ⟨_, hp, fun _ y => nomatch y⟩
  keep := by
    rintro i h h' ⟨old, st, ix, he, hp, q⟩ k
    exact ⟨old, st, ix, k _ (by simp) _ he, k _ (by simp) _ hp, q⟩
  item := by
    intro X hP hw hK hc i pins s σ H E I hf st hg
    subst hP hw hK
    obtain ⟨old, st, ix, he, hp, hst⟩ := st
    have hg : i < L.length := hg
    obtain ⟨ix', hi⟩ : ∃ ix', L[i]? = some ix' := ⟨_, List.getElem?_eq_getElem hg⟩
    have hst' : (st = 0 ∧ ix' = ix) ∨ (st = 1 ∧ nextC us.toArray.size ix = some ix') := by
      rcases hst with ⟨rfl, ⟨e, _⟩ | ⟨e, e2⟩⟩ | ⟨i0, e, e2⟩
      · rw [e] at hg
        exact absurd hg (Nat.lt_irrefl 0)
      · rw [hi] at e2
        exact .inl ⟨e, Option.some.inj e2⟩
      · refine .inr ⟨e, ?_⟩
        rw [List.size_toArray]
        exact S.next (i - 1) ix ix' e2 (by rw [show i - 1 + 1 = i by omega]; exact hi)
    have few := S.few ix' (List.mem_of_getElem? hi)
    have hcl : c < s.heap.objs.size := Heap.lt_size he
    have hpl : p < s.heap.objs.size := Heap.lt_size hp
    refine pyNext_comb he ⟨_, hp, rfl, _, rfl⟩ ne few hst' fun h' a b d k => ⟨_, rfl, go_of (s := { s with heap := h' }) a rfl rfl (by decide) ?_⟩
    have new : ObjOk X.prog X.w (upd H s.heap.objs.size (.tup (ix'.map fun k => xs.getD k .non))) h' s.heap.objs.size (.tup (ix'.map fun k => xs.getD k .non)) :=
      ⟨by rw [List.length_map, sizeLine_eq]; omega, _, vals_pick rx ix', ⟨_, b, rfl, _, rfl⟩⟩
    have I1 : Inv X pins σ (upd H s.heap.objs.size (.tup (ix'.map fun k => xs.getD k .non))) { s with heap := h' } :=
      I.turnedNew (t' := s.toks) (ch := [c, p]) (fun b ob hb e => k b ob (fun z => hb (by rw [z]; exact List.mem_cons_self ..)) e) hf (Nat.le_refl _) new
    refine ⟨.ref s.heap.objs.size, _, I1, rfl, ⟨_, ix', rfl, hi, I.hok.fresh (Nat.le_refl _), rfl⟩, ⟨_, 1, ix', a, k p _ ne.symm hp, .inr ⟨Nat.succ_pos _, rfl, by rw [Nat.add_sub_cancel]; exact hi⟩⟩, fun b hb => ?_⟩
    have hbl : b < s.heap.objs.size := by
      rcases (show b = c ∨ b = p by simpa using hb) with e | e <;> rw [e] <;> assumption
    rw [upd_ne (Nat.ne_of_lt hbl)]
    exact (hf b hb).1
  done := by
    intro X hP hw hK hc i pins s σ H E I hf st hg
    subst hP hw hK
    obtain ⟨old, st, ix, he, hp, hst⟩ := st
    have hg : L.length ≤ i := hg
    have hst' : st = 2 ∨ (st = 1 ∧ nextC us.toArray.size ix = none) := by
      rcases hst with ⟨rfl, ⟨e, e2⟩ | ⟨e, e2⟩⟩ | ⟨i0, e, e2⟩
      · exact .inl e2
      · have := (List.getElem?_eq_some_iff.mp e2).1
        omega
      · refine .inr ⟨e, ?_⟩
        rw [List.size_toArray]
        exact S.last (i - 1) ix e2 (by rw [show i - 1 + 1 = i by omega]; exact List.getElem?_eq_none hg)
    refine pyNext_comb_end (I.ok.hd hc) he ⟨_, hp, rfl, _, rfl⟩ hst' fun h' eb => ⟨rfl, ?_⟩
    obtain ⟨f0, f1, f2, f3, f4, f5⟩ := hf c (List.mem_cons_self ..)
    exact I.turned (t' := s.toks) (fun b ob hb e => eb b ob hb e) f0 f1 f3 f4 f5
  self := fun A i s Q E st h => by
    obtain ⟨old, st, ix, he, _⟩ := st
    exact pyIter_comb he h
end Fm
namespace Fm
open PySem PySem.Spec PyProof.Rows L2 PySem.W
theorem bind_comb (a b : Value) : Builtin.Itertools.itBindNamed "combinations" ["iterable", "r"] 2 2 [a, b] [] = pure [some a, some b] := by kernel_rfl
theorem meets_comb_new (l : Addr) (items : Array Value) (r : Int) (t : Tok) (r0 : 0 ≤ r) (r1 : r ≤ 1000) (few : items.size ≤ 1000) :
    Meets (Builtin.«itertools.combinations.__new__» ⟨[.type "itertools.combinations", .ref l, .int r t], []⟩) (fun _ R s => (∃ T o n, (T = "list" ∨ T = "tuple") ∧ s.heap.get? l = some o ∧ o.cls = .type T ∧ o.data = .seq items n) ∧
      ∀ h' : Heap, (∀ b o, s.heap.get? b = some o → h'.get? b = some o) → R (.ok (.ret (.ref (h'.objs.size + 1)))) { s with heap := (h'.push { cls := .type "tuple", data := .seq items }).push { cls := .type "itertools.combinations", data := .fields (recC h'.objs.size (if r.toNat > items.size then 2 else 0) .none (List.range r.toNat)) } }) :=
  .of_wp fun prog w A R s h => by
    obtain ⟨⟨T, o, n, hT, ho, hc, hd⟩, h⟩ := h
    refine wpAny_bind ?_
    show wpAny _ _ (Builtin.Itertools.itClassAndRest "combinations" _ >>= _) _ _ _
    refine wpAny_bind ?_
    unfold Builtin.Itertools.itClassAndRest
    dsimp only
    refine wpAny_bind ?_
    show wpAny _ _ (pure true) _ _ _
    refine wpAny_pure ?_
    rw [if_neg (by decide)]
    rw [show (("itertools." ++ "combinations" : String)) = "itertools.combinations" by decide +kernel, called_comb.sub]
    refine wpAny_bind (wpAny_pure ?_)
    rw [if_neg (by decide)]
    refine wpAny_pure ?_
    dsimp only
    rw [bind_comb]
    refine wpAny_bind (wpAny_pure ?_)
    dsimp only
    refine wpAny_bind ?_
    unfold Builtin.Itertools.itSsizeArg
    refine wpAny_bind ?_
    show wpAny _ _ (pure (some r) >>= _) _ _ _
    refine wpAny_bind (wpAny_pure ?_)
    show wpAny _ _ (pure r) _ _ _
    refine wpAny_pure ?_
    rw [if_neg (by simp; omega)]
    refine wpAny_pure ?_
    refine wpAny_bind (wpAny_collect_seq l hT ho hc hd (fun h' k => ?_) (by rw [sizeLine_eq]; omega))
    rw [if_neg (by omega), if_neg (by unfold Builtin.Itertools.itTooMany; simp; omega)]
    refine wpAny_bind (wpAny_newTuple ?_ (by rw [Array.length_toList, sizeLine_eq]; omega))
    refine wpAny_pure ?_
    dsimp only
    refine wpAny_bind ?_
    unfold Builtin.Itertools.itNewRecord
    rw [if_pos (show (!typeHasDict (.type "itertools.combinations")) = true by decide +kernel)]
    refine wpAny_newObj_type ?_ ?_
    · refine wpAny_pure ⟨_, rfl, ?_⟩
      have e := h h' k
      have e1 : (h'.push { cls := .type "tuple", data := .seq items }).objs.size = h'.objs.size + 1 := Heap.size_push ..
      dsimp only
      rw [e1]
      exact e
    · show ([Value.ref h'.objs.size, rawInt (if r.toNat > items.size then 2 else 0), Value.none] ++ List.map (fun i : Nat => rawInt i) (List.range r.toNat)).length ≤ _
      rw [List.length_append, List.length_map, List.length_range, sizeLine_eq]
      show 3 + _ ≤ _
      omega
theorem comb_call {prog : Program} {w : World} {A : Around} {E : Value → Shared → Prop} {s : Shared} {l : Addr} {items : Array Value} {r : Int} {t : Tok} {Q : Value → Shared → Prop} (r0 : 0 ≤ r) (r1 : r ≤ 1000) (few : items.size ≤ 1000) (hl : ∃ T o n, (T = "list" ∨ T = "tuple") ∧ s.heap.get? l = some o ∧ o.cls = .type T ∧ o.data = .seq items n)
    (h : ∀ (h1 h' : Heap) (c p : Addr), (∀ b o, s.heap.get? b = some o → h1.get? b = some o) → (∀ b o, h1.get? b = some o → h'.get? b = some o) → h1.objs.size = p → c = p + 1 → IsComb h' c p (if r.toNat > items.size then 2 else 0) .none (List.range r.toNat) → h'.get? p = some { cls := .type "tuple", data := .seq items } → Q (.ref c) { s with heap := h' }) :
    wpAny (model prog w) A (call (.type "itertools.combinations") [.ref l, .int r t]) Q E s := by
  refine callType_new called_comb (by decide) (typeCall_comb _ _) (newCall_comb _ _) (fun obj => F.args_object_init_3 obj _ _) entry_comb_new (meets_comb_new l items r t r0 r1 few) ⟨hl, fun h' k => ?_⟩
  have hz : (h'.push { cls := .type "tuple", data := .seq items }).objs.size = h'.objs.size + 1 := Heap.size_push ..
  have he : IsComb ((h'.push { cls := .type "tuple", data := .seq items }).push { cls := .type "itertools.combinations", data := .fields (recC h'.objs.size (if r.toNat > items.size then 2 else 0) .none (List.range r.toNat)) }) (h'.objs.size + 1) h'.objs.size (if r.toNat > items.size then 2 else 0) .none (List.range r.toNat) := by
    have := Heap.get?_push_size (h'.push { cls := .type "tuple", data := .seq items }) (o := { cls := .type "itertools.combinations", data := .fields (recC h'.objs.size (if r.toNat > items.size then 2 else 0) .none (List.range r.toNat)) }) rfl
    rw [hz] at this
    exact this
  exact ⟨⟨_, he, rfl⟩, h h' _ _ _ k (fun b o x => Heap.get?_push_of_some _ (Heap.get?_push_of_some _ x)) rfl rfl he (Heap.get?_push_of_some _ (Heap.get?_push_size _ rfl))⟩
end Fm
namespace Fm
open PySem PySem.Spec PyProof.Rows L2 PySem.W
def iComb (K : PySem.W.Frag) (ta : TA) : TI := fun σ H R => ta σ H fun vs H1 => ∃ (a : Addr) (xs : List V) (r : Int) (L : List (List Nat)), vs = [.ref a, .int r] ∧ (SqL K H1 a xs ∨ SqT K H1 a xs) ∧ 0 ≤ r ∧ r ≤ 1000 ∧ xs.length ≤ 1000 ∧ CombSeq xs.length r.toNat L ∧ R (ItComb xs L) H1
theorem pi_comb {X : Cx} {K : PySem.W.Frag} {tg e e2 : Expr} {ta : TA} {x : Str} {p pos : Pos} (hg : Gl X x) (hm : X.mg x = some (.type "itertools.combinations")) (ha : PA X [e, e2] ta) (hdb : (x == ("__debug__" : Str)) = false := by decide)
    (h1 : starEach [e, e2] X.env = (false, eval e X.env) :: starEach [e2] X.env := by rfl) (h2 : (backTo pos (starEach [e2] X.env)).any (·.1) = false := by rfl) (eK : X.K = K := by rfl) :
    PI X tg (.Call (.Name x p) [e, e2] [] pos) (iComb K ta) := by
  subst eK
  constructor
  intro pins s σ H R I h
  refine Call_ (ld_glob I hg hm (PyProof.Rows.callWith_type1 (thn (ha.run pos pins s σ H _ I h) fun us s1 q => ?_) h1 h2) hdb)
  obtain ⟨vs, H1, I1, r1, a, xs, r, L, rfl, hx, r0, r9, few, S, q⟩ := q
  match us, r1 with
  | [_, _], .cons ra (.cons rb .nil) =>
    cases ra
    obtain ⟨t, rfl⟩ := rb
    obtain ⟨us, rx, hl⟩ : ∃ us : List Value, Vals xs us ∧ ∃ T o n, (T = "list" ∨ T = "tuple") ∧ s1.heap.get? a = some o ∧ o.cls = .type T ∧ o.data = .seq us.toArray n := by
      rcases hx with hx | hx
      · obtain ⟨us, rx, px, _⟩ := I1.list hx
        obtain ⟨o, e1, e2, n, e3⟩ := px.isList
        exact ⟨us, rx, "list", o, n, .inl rfl, e1, e2, e3⟩
      · obtain ⟨us, rx, px, _⟩ := I1.tuple hx
        obtain ⟨o, e1, e2, n, e3⟩ := px
        exact ⟨us, rx, "tuple", o, n, .inr rfl, e1, e2, e3⟩
    have ul : us.length = xs.length := rx.length.symm
    refine comb_call r0 r9 (by rw [List.size_toArray]; omega) hl fun h1 h2 c p k1 k2 ep ec he hp => pyIter_comb (s := { s1 with heap := h2 }) he ?_
    have I2 : Inv X pins σ H1 { s1 with heap := h1 } := I1.kept (t' := s1.toks) k1
    have I3 : Inv X pins σ H1 { s1 with heap := h2 } := I2.kept (t' := s1.toks) k2
    rw [← ul] at S
    refine ⟨c, [c, p], _, _, H1, rfl, I3, turn_comb (by rw [ec]; exact Nat.succ_ne_self p) rx S, ⟨.none, _, List.range r.toNat, he, hp, .inl ⟨rfl, ?_⟩⟩, fun b hb => ?_, q⟩
    · rw [List.size_toArray]
      by_cases z : us.length < r.toNat
      · rw [if_pos z]
        exact .inl ⟨S.no z, rfl⟩
      · rw [if_neg z]
        exact .inr ⟨rfl, S.first (by omega)⟩
    · have hle : h1.objs.size ≤ b := by
        rcases (show b = c ∨ b = p by simpa using hb) with e | e
        · rw [e, ec, ← ep]
          exact Nat.le_succ _
        · rw [e, ← ep]
          exact Nat.le_refl _
      have f2 := I2.fpOk hle (I2.hok.fresh hle)
      exact f2
/-- a loop over choices -/
theorem for_comb {xs : List V} {L : List (List Nat)} {g : TG} {tb : TS} {D : Ends} {σ : L2.St} {H : Hp} (Pv : Nat → L2.St → Hp → Prop) (h0 : Pv 0 σ H)
    (hs : ∀ (i : Nat) (ix : List Nat) (T : Addr) (σ : L2.St) (H : Hp), L[i]? = some ix → Pv i σ H → H T = none → g (.ref T) σ (upd H T (.tup (ix.map fun k => xs.getD k .non))) fun σ2 H2 => tb { D with nx := Pv (i + 1), ct := Pv (i + 1), bk := D.nx } σ2 H2)
    (hd : ∀ σ H, Pv L.length σ H → D.nx σ H) :
    ∃ W : Nat → Nat → L2.St → Hp → Prop, (∃ m, W 0 m σ H) ∧ ∀ i m σ H, W i m σ H →
      ((ItComb xs L).stop i H ∧ D.nx σ H) ∨ ((ItComb xs L).go i H ∧ ∃ N : L2.St → Hp → Prop, (∀ σ' H', N σ' H' → ∃ m', m' < m ∧ W (i + 1) m' σ' H') ∧ ∀ v H', (ItComb xs L).yld i H v H' → g v σ H' fun σ2 H2 => tb { D with nx := N, ct := N, bk := D.nx } σ2 H2) := by
  refine ⟨fun i m σ H => i + m = L.length ∧ Pv i σ H, ⟨_, Nat.zero_add _, h0⟩, ?_⟩
  rintro i m σ H ⟨em, p⟩
  cases m with
  | zero =>
    have ei : i = L.length := em
    refine .inl ⟨by show L.length ≤ i; omega, hd σ H ?_⟩
    rw [← ei]
    exact p
  | succ m =>
    refine .inr ⟨by show i < L.length; omega, Pv (i + 1), fun σ' H' p' => ⟨m, Nat.lt_succ_self m, by omega, p'⟩, fun v H' y => ?_⟩
    obtain ⟨T, ix, rfl, hi, hT, rfl⟩ := y
    exact hs i ix T σ H hi p hT
end Fm
namespace Fm
open PySem PySem.Spec PyProof.Rows L2 PySem.W
/-- the next order of all places: the place looked at, the order, what is left at each place -/
def nextP (n : Nat) : Nat → List Nat → List Nat → Option (List Nat × List Nat)
  | 0, _, _ => none
  | k + 1, ix, cy =>
    let c := cy.getD k 0 - 1
    if c == 0 then nextP n k (ix.take k ++ ix.drop (k + 1) ++ [ix.getD k 0]) (cy.set k (n - k))
    else some ((ix.set k (ix.getD (n - c) 0)).set (n - c) (ix.getD k 0), cy.set k c)
def recP (p : Addr) (st : Int) (r : Nat) (old : Value) (ix : List Nat) : Array Value := (Value.ref p :: rawInt st :: rawInt r :: old :: ix.map ni).toArray
abbrev IsPerm (h : Heap) (c p : Addr) (st : Int) (r : Nat) (old : Value) (ix : List Nat) : Prop := h.get? c = some { cls := .type "itertools.permutations", dict := none, data := .fields (recP p st r old ix), slots := #[] }
theorem recP_st (p : Addr) (st u : Int) (r : Nat) (old : Value) (ix : List Nat) : (recP p st r old ix).setIfInBounds 1 (rawInt u) = recP p u r old ix := by
  unfold recP
  rw [List.setIfInBounds_toArray]
  rfl
theorem recP_old (p : Addr) (st : Int) (r : Nat) (old x : Value) (ix : List Nat) : (recP p st r old ix).setIfInBounds 3 x = recP p st r x ix := by
  unfold recP
  rw [List.setIfInBounds_toArray]
  rfl
theorem recP_ix (p : Addr) (st : Int) (r : Nat) (old : Value) (ix ix' : List Nat) : (recP p st r old ix).extract 0 4 ++ (ix'.map fun (n : Nat) => rawInt n).toArray = recP p st r old ix' := by
  unfold recP
  simp [ni]
theorem recP_size (p : Addr) (st : Int) (r : Nat) (old : Value) (ix : List Nat) : (recP p st r old ix).size = ix.length + 4 := by
  unfold recP
  simp
theorem recP_drop (p : Addr) (st : Int) (r : Nat) (old : Value) (ix : List Nat) : (recP p st r old ix).toList.drop 4 = ix.map ni := by
  unfold recP
  simp
section
variable {prog : Program} {w : World} {A : Around} {E : Value → Shared → Prop} {s : Shared}
theorem wp_setNumbersP {c p : Addr} {st : Int} {r : Nat} {old : Value} {ix ix' : List Nat} {Q : Unit → Shared → Prop} (he : IsPerm s.heap c p st r old ix) (few : ix'.length ≤ 2000) (q : ∀ h', IsPerm h' c p st r old ix' → Heap.SameBut c s.heap h' → Q () { s with heap := h' }) :
    wpAny (model prog w) A (Builtin.Itertools.itSetNumbersFrom (.ref c) 4 ix') Q E s := by
  unfold Builtin.Itertools.itSetNumbersFrom
  refine wpAny_updateFields he rfl (q _ ?_ (Heap.SameBut.update ..)) ?_
  · have := Heap.get?_update_self (Obj.mapFields fun fs => fs.extract 0 4 ++ (ix'.map fun (n : Nat) => rawInt n).toArray) he rfl
    unfold IsPerm
    rw [this]
    show some ({ cls := _, dict := none, data := .fields ((recP p st r old ix).extract 0 4 ++ (ix'.map fun (n : Nat) => rawInt n).toArray), slots := #[] } : Obj) = _
    rw [recP_ix]
  · rw [recP_ix, recP_size, sizeLine_eq]
    omega
theorem perm_hand {c p : Addr} {st : Int} {r : Nat} {old : Value} {ix all : List Nat} {items : Array Value} {T : Sem PySem.Fin} {Q : Value → Shared → Prop} (he : IsPerm s.heap c p st r old all) (few : (ix.take r).length ≤ 1000)
    (hT : T = (do
        let t ← newTuple ((ix.take r).map fun i => items.getD i .none)
        let before ← field (Value.ref c) 3
        setField (Value.ref c) 3 t
        letGo [before] [t]
        ret t))
    (hQ : ∀ h', IsPerm h' c p st r (.ref s.heap.objs.size) all → h'.get? s.heap.objs.size = some { cls := .type "tuple", data := .seq ((ix.take r).map fun i => items.getD i .none).toArray } → h'.objs.size = s.heap.objs.size + 1 →
      (∀ b o, b ≠ c → s.heap.get? b = some o → h'.get? b = some o) → Q (.ref s.heap.objs.size) { s with heap := h' }) :
    wpAny (model prog w) A T (fun fin s' => ∃ v, fin = .done (.ret v) ∧ Q v s') E s := by
  subst hT
  have hlt := Heap.lt_size he
  refine wpAny_bind (wpAny_newTuple ?_ (by rw [List.length_map, sizeLine_eq]; omega))
  generalize hV : ((ix.take r).map fun i => items.getD i .none).toArray = V at hQ ⊢
  have he1 : IsPerm (s.heap.push { cls := .type "tuple", data := .seq V }) c p st r old all := Heap.get?_push_of_some _ he
  have ht1 : (s.heap.push { cls := .type "tuple", data := .seq V }).get? s.heap.objs.size = some { cls := .type "tuple", data := .seq V } := Heap.get?_push_size _ rfl
  have hk1 : ∀ b o, s.heap.get? b = some o → (s.heap.push { cls := .type "tuple", data := .seq V }).get? b = some o := fun b o e => Heap.get?_push_of_some _ e
  have hz1 : (s.heap.push { cls := .type "tuple", data := .seq V }).objs.size = s.heap.objs.size + 1 := Heap.size_push ..
  generalize s.heap.push { cls := .type "tuple", data := .seq V } = h1 at he1 ht1 hk1 hz1 ⊢
  refine wpAny_bind (wpAny_field (s := { s with heap := h1 }) he1 rfl (x := old) (by unfold recP; simp) ?_)
  refine wpAny_bind (wpAny_setField_rec (s := { s with heap := h1 }) he1 (by rw [recP_size]; omega) fun h2 he2 hs2 => ?_)
  rw [recP_old] at he2
  refine wpAny_bind (wpAny_letGo (wpAny_pure ⟨_, rfl, hQ h2 he2 ?_ ?_ fun b o hb e => ?_⟩))
  · exact (hs2.2 _ (Nat.ne_of_gt hlt)).trans ht1
  · rw [hs2.1, hz1]
  · exact (hs2.2 b hb).trans (hk1 b o e)
theorem perm_next {c p : Addr} {st : Int} {r : Nat} {old : Value} {ix cy ix' cy' : List Nat} {items : Array Value} {Q : Value → Shared → Prop} (he : IsPerm s.heap c p st r old (ix ++ cy)) (hp : s.heap.IsTuple p items) (hne : c ≠ p) (hn : ix.length = items.size) (few : (ix' ++ cy').length ≤ 1000) (hst : (st = 0 ∧ ix' = ix ∧ cy' = cy) ∨ (st = 1 ∧ nextP items.size r ix cy = some (ix', cy'))) (hr : r = items.size) (hl : ix'.length = items.size)
    (hQ : ∀ h', IsPerm h' c p 1 r (.ref s.heap.objs.size) (ix' ++ cy') → h'.get? s.heap.objs.size = some { cls := .type "tuple", data := .seq (ix'.map fun i => items.getD i .none).toArray } → h'.objs.size = s.heap.objs.size + 1 →
      (∀ b o, b ≠ c → s.heap.get? b = some o → h'.get? b = some o) → Q (.ref s.heap.objs.size) { s with heap := h' }) :
    wpAny (model prog w) A (Builtin.«itertools.permutations.__next__» ⟨[.ref c], []⟩) (fun fin s' => ∃ v, fin = .done (.ret v) ∧ Q v s') E s := by
  rw [List.length_append] at few
  show wpAny _ _ (field (.ref c) 0 >>= _) _ _ _
  refine wpAny_bind (wpAny_field he rfl (x := .ref p) (by unfold recP; simp) ?_)
  refine wpAny_bind (wp_pool hp ?_)
  refine wpAny_bind (wp_intField he (n := (r : Int)) (by unfold recP; simp) ?_)
  refine wpAny_bind (wp_numbers he (recP_drop ..) ?_)
  refine wpAny_bind (wp_intField he (n := st) (by unfold recP; simp) ?_)
  rw [Int.toNat_natCast]
  rcases hst with ⟨rfl, rfl, rfl⟩ | ⟨rfl, hn'⟩
  · refine wpAny_bind (wpAny_setField_rec he (by rw [recP_size]; omega) fun h2 he2 hs2 => ?_)
    rw [recP_st] at he2
    have tk : (ix' ++ cy').take r = ix' := by rw [hr, ← hl, List.take_left']; rfl
    refine perm_hand (s := { s with heap := h2 }) (items := items) he2 (by rw [tk]; omega) rfl fun h3 a b d k => ?_
    have e1 : h2.objs.size = s.heap.objs.size := hs2.1
    dsimp only at a b d k ⊢
    rw [e1] at a b d ⊢
    rw [tk] at b
    exact hQ h3 a b d fun x o hx e => k x o hx ((hs2.2 x hx).trans e)
  · have t1 : (ix ++ cy).take items.size = ix := by rw [← hn, List.take_left']; rfl
    have t2 : (ix ++ cy).drop items.size = cy := by rw [← hn, List.drop_left']; rfl
    show wpAny _ _ (match (_ : Option (List Nat × List Nat)) with | some (indices, cycles) => _ | none => _) _ _ _
    rw [t1, t2]
    split
    · rename_i a b heq
      have h3 : nextP items.size r ix cy = some (a, b) := by
        refine Eq.trans ?_ heq
        kernel_rfl
      rw [hn'] at h3
      obtain ⟨rfl, rfl⟩ := Prod.mk.inj (Option.some.inj h3)
      refine wpAny_bind (wp_setNumbersP he (by rw [List.length_append]; omega) fun h2 he2 hs2 => ?_)
      have tk : ix'.take r = ix' := List.take_of_length_le (by omega)
      refine perm_hand (s := { s with heap := h2 }) (items := items) (ix := ix') he2 (by rw [tk]; omega) rfl fun h3 a b d k => ?_
      have e1 : h2.objs.size = s.heap.objs.size := hs2.1
      dsimp only at a b d k ⊢
      rw [e1] at a b d ⊢
      rw [tk] at b
      exact hQ h3 a b d fun x o hx e => k x o hx ((hs2.2 x hx).trans e)
    · rename_i heq
      have h3 : nextP items.size r ix cy = none := by
        refine Eq.trans ?_ heq
        kernel_rfl
      rw [hn'] at h3
      cases h3
end
end Fm
namespace Fm
open PySem PySem.Spec PyProof.Rows L2 PySem.W
section
variable {prog : Program} {w : World} {A : Around} {E : Value → Shared → Prop} {s : Shared}
theorem perm_end {c p : Addr} {r : Nat} {old : Value} {ix cy : List Nat} {items : Array Value} {R : PySem.Fin → Shared → Prop} (hh : A.handled = none) (he : IsPerm s.heap c p 1 r old (ix ++ cy)) (hp : s.heap.IsTuple p items) (hn : ix.length = items.size) (hst : nextP items.size r ix cy = none)
    (hE : ∀ h' e, Heap.ExtBut c s.heap h' → (∃ o, h'.get? e = some o ∧ o.cls = .type "StopIteration") → E (.ref e) { s with heap := h' }) :
    wpAny (model prog w) A (Builtin.«itertools.permutations.__next__» ⟨[.ref c], []⟩) R E s := by
  show wpAny _ _ (field (.ref c) 0 >>= _) _ _ _
  refine wpAny_bind (wpAny_field he rfl (x := .ref p) (by unfold recP; simp) ?_)
  refine wpAny_bind (wp_pool hp ?_)
  refine wpAny_bind (wp_intField he (n := (r : Int)) (by unfold recP; simp) ?_)
  refine wpAny_bind (wp_numbers he (recP_drop ..) ?_)
  refine wpAny_bind (wp_intField he (n := 1) (by unfold recP; simp) ?_)
  rw [Int.toNat_natCast]
  have t1 : (ix ++ cy).take items.size = ix := by rw [← hn, List.take_left']; rfl
  have t2 : (ix ++ cy).drop items.size = cy := by rw [← hn, List.drop_left']; rfl
  show wpAny _ _ (match (_ : Option (List Nat × List Nat)) with | some (indices, cycles) => _ | none => _) _ _ _
  rw [t1, t2]
  split
  · rename_i a b heq
    have h3 : nextP items.size r ix cy = some (a, b) := by
      refine Eq.trans ?_ heq
      kernel_rfl
    rw [hst] at h3
    cases h3
  · refine wpAny_bind (wpAny_setField_rec he (by rw [recP_size]; omega) fun h2 he2 hs2 => ?_)
    exact wp_itStop (s := { s with heap := h2 }) hh hs2.extBut hE
theorem perm_type {c p : Addr} {st : Int} {r : Nat} {old : Value} {ix : List Nat} (he : IsPerm s.heap c p st r old ix) : s.TypeIs (.ref c) "itertools.permutations" := ⟨_, he, rfl⟩
theorem pyNext_perm {c p : Addr} {st : Int} {r : Nat} {old : Value} {ix cy ix' cy' : List Nat} {items : Array Value} {Q : Option Value → Shared → Prop} (he : IsPerm s.heap c p st r old (ix ++ cy)) (hp : s.heap.IsTuple p items) (hne : c ≠ p) (hn : ix.length = items.size) (few : (ix' ++ cy').length ≤ 1000) (hst : (st = 0 ∧ ix' = ix ∧ cy' = cy) ∨ (st = 1 ∧ nextP items.size r ix cy = some (ix', cy'))) (hr : r = items.size) (hl : ix'.length = items.size)
    (hQ : ∀ h', IsPerm h' c p 1 r (.ref s.heap.objs.size) (ix' ++ cy') → h'.get? s.heap.objs.size = some { cls := .type "tuple", data := .seq (ix'.map fun i => items.getD i .none).toArray } → h'.objs.size = s.heap.objs.size + 1 →
      (∀ b o, b ≠ c → s.heap.get? b = some o → h'.get? b = some o) → Q (some (.ref s.heap.objs.size)) { s with heap := h' }) : wpAny (model prog w) A (pyNext (.ref c)) Q E s := by
  have hT := perm_type he
  unfold pyNext
  exact wpAny_bind (wpAny_attempt (wpAny_callSpecial?_slot (name := Str.ofString "__next__") hT slot_perm_next
    (wpAny_call_entry slot_perm_next hT entry_perm_next (perm_next he hp hne hn few hst hr hl fun h' a b d k => wpAny_pure (hQ h' a b d k)) (args_perm_next _))))
theorem pyNext_perm_end {c p : Addr} {r : Nat} {old : Value} {ix cy : List Nat} {items : Array Value} {Q : Option Value → Shared → Prop} (hh : A.handled = none) (he : IsPerm s.heap c p 1 r old (ix ++ cy)) (hp : s.heap.IsTuple p items) (hn : ix.length = items.size) (hst : nextP items.size r ix cy = none)
    (hQ : ∀ h', Heap.ExtBut c s.heap h' → Q none { s with heap := h' }) : wpAny (model prog w) A (pyNext (.ref c)) Q E s := by
  have hT := perm_type he
  unfold pyNext
  refine wpAny_bind (wpAny_attempt (wpAny_callSpecial?_slot (name := Str.ofString "__next__") hT slot_perm_next
    (wpAny_call_entry slot_perm_next hT entry_perm_next (perm_end hh he hp hn hst fun h' x he' hx' => ?_) (args_perm_next _))))
  obtain ⟨o, ho, hc⟩ := hx'
  refine wpAny_bind (wpAny_isInstance (T := "StopIteration") (b := true) ⟨o, ho, hc⟩ isSubtype_stop ?_)
  exact wpAny_pure (hQ _ he')
theorem pyIter_perm {c p : Addr} {st : Int} {r : Nat} {old : Value} {ix : List Nat} {Q : Value → Shared → Prop} (he : IsPerm s.heap c p st r old ix) (h : Q (.ref c) s) : wpAny (model prog w) A (pyIter (.ref c)) Q E s := by
  have hT := perm_type he
  refine wpAny_pyIter_slot hT slot_perm_iter (wpAny_call_entry slot_perm_iter hT entry_perm_iter ?_ (args_perm_iter _))
  show wpAny _ _ (ret (.ref c)) _ _ s
  exact wpAny_pure ⟨_, rfl, "itertools.permutations", _, hT, slot_perm_next.lookup, h⟩
end
/-- the orders, one after another -/
def ItPerm (xs : List V) (L : List (List Nat × List Nat)) : It where
  go := fun i H => i < L.length
  yld := fun i H v H' => ∃ T ix, v = .ref T ∧ L[i]? = some ix ∧ H T = none ∧ H' = upd H T (.tup (ix.1.map fun k => xs.getD k .non))
  stop := fun i H => L.length ≤ i
structure PermSeq (n : Nat) (L : List (List Nat × List Nat)) : Prop where
  first : L[0]? = some (List.range n, (List.range n).map fun i => n - i)
  next : ∀ i a b, L[i]? = some a → L[i + 1]? = some b → nextP n n a.1 a.2 = some b
  last : ∀ i a, L[i]? = some a → L[i + 1]? = none → nextP n n a.1 a.2 = none
  len : ∀ a ∈ L, a.1.length = n ∧ a.2.length = n
theorem turn_perm {P : Program} {w : World} {K : PySem.W.Frag} {tg : Expr} {c p : Addr} {xs : List V} {us : List Value} {L : List (List Nat × List Nat)} (ne : c ≠ p) (rx : Vals xs us) (S : PermSeq us.length L) (few : us.length ≤ 100) :
    Turn P w K tg (ItPerm xs L) [c, p] c (fun i h => ∃ old st ix, IsPerm h c p st us.length old (ix.1 ++ ix.2) ∧ h.get? p = some { cls := .type "tuple", data := .seq us.toArray } ∧ ((i = 0 ∧ st = 0 ∧ L[0]? = some ix) ∨ (0 < i ∧ st = 1 ∧ L[i - 1]? = some ix))) where
  mem := List.mem_cons_self ..
  obj := by
    rintro i h ⟨old, st, ix, he, hp, _⟩ b hb
    rcases (show b = c ∨ b = p by simpa using hb) with e | e <;> subst e
    · exact ⟨_, he, fun _ y => nomatch y⟩
    · exact ⟨_, hp, fun _ y => nomatch y⟩
  keep := by
    rintro i h h' ⟨old, st, ix, he, hp, q⟩ k
    exact ⟨old, st, ix, k _ (by simp) _ he, k _ (by simp) _ hp, q⟩
  item := by
    intro X hP hw hK hc i pins s σ H E I hf st hg
    subst hP hw hK
    obtain ⟨old, st, ix, he, hp, hst⟩ := st
    have hg : i < L.length := hg
    obtain ⟨ix', hi⟩ : ∃ ix', L[i]? = some ix' := ⟨_, List.getElem?_eq_getElem hg⟩
    have hix : ix ∈ L := by
      rcases hst with ⟨_, _, e⟩ | ⟨_, _, e⟩ <;> exact List.mem_of_getElem? e
    obtain ⟨l1, l2⟩ := S.len _ hix
    obtain ⟨l3, l4⟩ := S.len _ (List.mem_of_getElem? hi)
    have hst' : (st = 0 ∧ ix'.1 = ix.1 ∧ ix'.2 = ix.2) ∨ (st = 1 ∧ nextP us.toArray.size us.length ix.1 ix.2 = some (ix'.1, ix'.2)) := by
      rcases hst with ⟨rfl, e, e2⟩ | ⟨i0, e, e2⟩
      · rw [hi] at e2
        have e3 := Option.some.inj e2
        exact .inl ⟨e, by rw [e3], by rw [e3]⟩
      · refine .inr ⟨e, ?_⟩
        rw [List.size_toArray]
        exact S.next (i - 1) ix ix' e2 (by rw [show i - 1 + 1 = i by omega]; exact hi)
    have hcl : c < s.heap.objs.size := Heap.lt_size he
    have hpl : p < s.heap.objs.size := Heap.lt_size hp
    refine pyNext_perm he ⟨_, hp, rfl, _, rfl⟩ ne (by rw [List.size_toArray]; exact l1) (by rw [List.length_append]; omega) hst' (by rw [List.size_toArray]) (by rw [List.size_toArray]; exact l3) fun h' a b d k => ⟨_, rfl, go_of (s := { s with heap := h' }) a rfl rfl (by decide) ?_⟩
    have new : ObjOk X.prog X.w (upd H s.heap.objs.size (.tup (ix'.1.map fun k => xs.getD k .non))) h' s.heap.objs.size (.tup (ix'.1.map fun k => xs.getD k .non)) :=
      ⟨by rw [List.length_map, sizeLine_eq]; omega, _, vals_pick rx ix'.1, ⟨_, b, rfl, _, rfl⟩⟩
    have I1 : Inv X pins σ (upd H s.heap.objs.size (.tup (ix'.1.map fun k => xs.getD k .non))) { s with heap := h' } :=
      I.turnedNew (t' := s.toks) (ch := [c, p]) (fun b ob hb e => k b ob (fun z => hb (by rw [z]; exact List.mem_cons_self ..)) e) hf (Nat.le_refl _) new
    refine ⟨.ref s.heap.objs.size, _, I1, rfl, ⟨_, ix', rfl, hi, I.hok.fresh (Nat.le_refl _), rfl⟩, ⟨_, 1, ix', a, k p _ ne.symm hp, .inr ⟨Nat.succ_pos _, rfl, by rw [Nat.add_sub_cancel]; exact hi⟩⟩, fun b hb => ?_⟩
    have hbl : b < s.heap.objs.size := by
      rcases (show b = c ∨ b = p by simpa using hb) with e | e <;> rw [e] <;> assumption
    rw [upd_ne (Nat.ne_of_lt hbl)]
    exact (hf b hb).1
  done := by
    intro X hP hw hK hc i pins s σ H E I hf st hg
    subst hP hw hK
    obtain ⟨old, st, ix, he, hp, hst⟩ := st
    have hg : L.length ≤ i := hg
    rcases hst with ⟨rfl, e, e2⟩ | ⟨i0, rfl, e2⟩
    · have := (List.getElem?_eq_some_iff.mp e2).1
      omega
    · have l1 := (S.len _ (List.mem_of_getElem? e2)).1
      refine pyNext_perm_end (I.ok.hd hc) he ⟨_, hp, rfl, _, rfl⟩ (by rw [List.size_toArray]; exact l1) ?_ fun h' eb => ⟨rfl, ?_⟩
      · rw [List.size_toArray]
        exact S.last (i - 1) ix e2 (by rw [show i - 1 + 1 = i by omega]; exact List.getElem?_eq_none hg)
      · obtain ⟨f0, f1, f2, f3, f4, f5⟩ := hf c (List.mem_cons_self ..)
        exact I.turned (t' := s.toks) (fun b ob hb e => eb b ob hb e) f0 f1 f3 f4 f5
  self := fun A i s Q E st h => by
    obtain ⟨old, st, ix, he, _⟩ := st
    exact pyIter_perm he h
end Fm
namespace Fm
open PySem PySem.Spec PyProof.Rows L2 PySem.W
theorem bind_perm (a : Value) : Builtin.Itertools.itBindNamed "permutations" ["iterable", "r"] 1 2 [a] [] = pure [some a, none] := by kernel_rfl
def startP (n : Nat) : List Nat := List.range n ++ (List.range n).map fun i => n - i
theorem meets_perm_new (l : Addr) (items : Array Value) (few : items.size ≤ 100) :
    Meets (Builtin.«itertools.permutations.__new__» ⟨[.type "itertools.permutations", .ref l], []⟩) (fun _ R s => (∃ T o n, (T = "list" ∨ T = "tuple") ∧ s.heap.get? l = some o ∧ o.cls = .type T ∧ o.data = .seq items n) ∧
      ∀ h' : Heap, (∀ b o, s.heap.get? b = some o → h'.get? b = some o) → R (.ok (.ret (.ref (h'.objs.size + 1)))) { s with heap := (h'.push { cls := .type "tuple", data := .seq items }).push { cls := .type "itertools.permutations", data := .fields (recP h'.objs.size 0 items.size .none (startP items.size)) } }) :=
  .of_wp fun prog w A R s h => by
    obtain ⟨⟨T, o, n, hT, ho, hc, hd⟩, h⟩ := h
    show wpAny _ _ (Builtin.Itertools.itClassAndRest "permutations" _ >>= _) _ _ _
    refine wpAny_bind ?_
    unfold Builtin.Itertools.itClassAndRest
    dsimp only
    refine wpAny_bind ?_
    show wpAny _ _ (pure true) _ _ _
    refine wpAny_pure ?_
    rw [if_neg (by decide)]
    rw [show (("itertools." ++ "permutations" : String)) = "itertools.permutations" by decide +kernel, called_perm.sub]
    refine wpAny_bind (wpAny_pure ?_)
    rw [if_neg (by decide)]
    refine wpAny_pure ?_
    dsimp only
    rw [bind_perm]
    refine wpAny_bind (wpAny_pure ?_)
    dsimp only
    refine wpAny_bind (wpAny_collect_seq l hT ho hc hd (fun h' k => ?_) (by rw [sizeLine_eq]; omega))
    show wpAny _ _ (pure (items.toList.length : Int) >>= _) _ _ _
    refine wpAny_bind (wpAny_pure ?_)
    have ln : items.toList.length = items.size := Array.length_toList
    rw [ln]
    rw [if_neg (by omega), if_neg (by unfold Builtin.Itertools.itTooMany; simp; omega)]
    refine wpAny_bind (wpAny_newTuple ?_ (by rw [Array.length_toList, sizeLine_eq]; omega))
    rw [Int.toNat_natCast, if_neg (Nat.lt_irrefl _)]
    refine wpAny_bind ?_
    unfold Builtin.Itertools.itNewRecord
    rw [if_pos (show (!typeHasDict (.type "itertools.permutations")) = true by decide +kernel)]
    have ef : ([Value.ref h'.objs.size, rawInt 0, rawInt (items.size : Int), Value.none] ++ List.map (fun i : Nat => rawInt i) (List.range items.size) ++ List.map (fun i : Nat => rawInt ((items.size : Int) - i)) (List.range items.size)) = (Value.ref h'.objs.size :: rawInt 0 :: rawInt items.size :: Value.none :: (startP items.size).map ni) := by
      unfold startP
      rw [List.map_append, List.map_map]
      have e3 : List.map (fun i : Nat => rawInt ((items.size : Int) - i)) (List.range items.size) = List.map (ni ∘ fun i => items.size - i) (List.range items.size) := List.map_congr_left fun i hi => by
        have := List.mem_range.mp hi
        show rawInt _ = rawInt _
        rw [show ((items.size - i : Nat) : Int) = (items.size : Int) - i by omega]
      rw [e3]
      rfl
    rw [ef]
    refine wpAny_newObj_type ?_ ?_
    · refine wpAny_pure ⟨_, rfl, ?_⟩
      have e := h h' k
      have e1 : (h'.push { cls := .type "tuple", data := .seq items }).objs.size = h'.objs.size + 1 := Heap.size_push ..
      dsimp only
      rw [e1]
      exact e
    · show (Value.ref h'.objs.size :: rawInt 0 :: rawInt items.size :: Value.none :: (startP items.size).map ni).length ≤ _
      unfold startP
      simp only [List.length_cons, List.length_map, List.length_append, List.length_range]
      rw [sizeLine_eq]
      omega
theorem perm_call {prog : Program} {w : World} {A : Around} {E : Value → Shared → Prop} {s : Shared} {l : Addr} {items : Array Value} {Q : Value → Shared → Prop} (few : items.size ≤ 100) (hl : ∃ T o n, (T = "list" ∨ T = "tuple") ∧ s.heap.get? l = some o ∧ o.cls = .type T ∧ o.data = .seq items n)
    (h : ∀ (h1 h' : Heap) (c p : Addr), (∀ b o, s.heap.get? b = some o → h1.get? b = some o) → (∀ b o, h1.get? b = some o → h'.get? b = some o) → h1.objs.size = p → c = p + 1 → IsPerm h' c p 0 items.size .none (startP items.size) → h'.get? p = some { cls := .type "tuple", data := .seq items } → Q (.ref c) { s with heap := h' }) :
    wpAny (model prog w) A (call (.type "itertools.permutations") [.ref l]) Q E s := by
  refine callType_new called_perm (by decide) (typeCall_perm _) (newCall_perm _) (fun obj => F.args_object_init_2 obj _) entry_perm_new (meets_perm_new l items few) ⟨hl, fun h' k => ?_⟩
  have hz : (h'.push { cls := .type "tuple", data := .seq items }).objs.size = h'.objs.size + 1 := Heap.size_push ..
  have he : IsPerm ((h'.push { cls := .type "tuple", data := .seq items }).push { cls := .type "itertools.permutations", data := .fields (recP h'.objs.size 0 items.size .none (startP items.size)) }) (h'.objs.size + 1) h'.objs.size 0 items.size .none (startP items.size) := by
    have := Heap.get?_push_size (h'.push { cls := .type "tuple", data := .seq items }) (o := { cls := .type "itertools.permutations", data := .fields (recP h'.objs.size 0 items.size .none (startP items.size)) }) rfl
    rw [hz] at this
    exact this
  exact ⟨⟨_, he, rfl⟩, h h' _ _ _ k (fun b o x => Heap.get?_push_of_some _ (Heap.get?_push_of_some _ x)) rfl rfl he (Heap.get?_push_of_some _ (Heap.get?_push_size _ rfl))⟩
def iPerm (K : PySem.W.Frag) (ta : TA) : TI := fun σ H R => ta σ H fun vs H1 => ∃ (a : Addr) (xs : List V) (L : List (List Nat × List Nat)), vs = [.ref a] ∧ (SqL K H1 a xs ∨ SqT K H1 a xs) ∧ xs.length ≤ 100 ∧ PermSeq xs.length L ∧ R (ItPerm xs L) H1
theorem pi_perm {X : Cx} {K : PySem.W.Frag} {tg e : Expr} {ta : TA} {x : Str} {p pos : Pos} (hg : Gl X x) (hm : X.mg x = some (.type "itertools.permutations")) (ha : PA X [e] ta) (hdb : (x == ("__debug__" : Str)) = false := by decide)
    (h1 : starEach [e] X.env = (false, eval e X.env) :: starEach [] X.env := by rfl) (h2 : (backTo pos (starEach [] X.env)).any (·.1) = false := by rfl) (eK : X.K = K := by rfl) :
    PI X tg (.Call (.Name x p) [e] [] pos) (iPerm K ta) := by
  subst eK
  constructor
  intro pins s σ H R I h
  refine Call_ (ld_glob I hg hm (PyProof.Rows.callWith_type1 (thn (ha.run pos pins s σ H _ I h) fun us s1 q => ?_) h1 h2) hdb)
  obtain ⟨vs, H1, I1, r1, a, xs, L, rfl, hx, few, S, q⟩ := q
  match us, r1 with
  | [_], .cons ra .nil =>
    cases ra
    obtain ⟨us, rx, hl⟩ : ∃ us : List Value, Vals xs us ∧ ∃ T o n, (T = "list" ∨ T = "tuple") ∧ s1.heap.get? a = some o ∧ o.cls = .type T ∧ o.data = .seq us.toArray n := by
      rcases hx with hx | hx
      · obtain ⟨us, rx, px, _⟩ := I1.list hx
        obtain ⟨o, e1, e2, n, e3⟩ := px.isList
        exact ⟨us, rx, "list", o, n, .inl rfl, e1, e2, e3⟩
      · obtain ⟨us, rx, px, _⟩ := I1.tuple hx
        obtain ⟨o, e1, e2, n, e3⟩ := px
        exact ⟨us, rx, "tuple", o, n, .inr rfl, e1, e2, e3⟩
    have ul : us.length = xs.length := rx.length.symm
    refine perm_call (by rw [List.size_toArray]; omega) hl fun h1 h2 c p k1 k2 ep ec he hp => pyIter_perm (s := { s1 with heap := h2 }) he ?_
    have I2 : Inv X pins σ H1 { s1 with heap := h1 } := I1.kept (t' := s1.toks) k1
    have I3 : Inv X pins σ H1 { s1 with heap := h2 } := I2.kept (t' := s1.toks) k2
    rw [← ul] at S
    rw [List.size_toArray] at he
    refine ⟨c, [c, p], _, _, H1, rfl, I3, turn_perm (by rw [ec]; exact Nat.succ_ne_self p) rx S (by omega), ⟨.none, 0, (List.range us.length, (List.range us.length).map fun i => us.length - i), he, hp, .inl ⟨rfl, rfl, S.first⟩⟩, fun b hb => ?_, q⟩
    have hle : h1.objs.size ≤ b := by
      rcases (show b = c ∨ b = p by simpa using hb) with e | e
      · rw [e, ec, ← ep]
        exact Nat.le_succ _
      · rw [e, ← ep]
        exact Nat.le_refl _
    have f2 := I2.fpOk hle (I2.hok.fresh hle)
    exact f2
/-- a loop over orders -/
theorem for_perm {xs : List V} {L : List (List Nat × List Nat)} {g : TG} {tb : TS} {D : Ends} {σ : L2.St} {H : Hp} (Pv : Nat → L2.St → Hp → Prop) (h0 : Pv 0 σ H)
    (hs : ∀ (i : Nat) (ix : List Nat × List Nat) (T : Addr) (σ : L2.St) (H : Hp), L[i]? = some ix → Pv i σ H → H T = none → g (.ref T) σ (upd H T (.tup (ix.1.map fun k => xs.getD k .non))) fun σ2 H2 => tb { D with nx := Pv (i + 1), ct := Pv (i + 1), bk := D.nx } σ2 H2)
    (hd : ∀ σ H, Pv L.length σ H → D.nx σ H) :
    ∃ W : Nat → Nat → L2.St → Hp → Prop, (∃ m, W 0 m σ H) ∧ ∀ i m σ H, W i m σ H →
      ((ItPerm xs L).stop i H ∧ D.nx σ H) ∨ ((ItPerm xs L).go i H ∧ ∃ N : L2.St → Hp → Prop, (∀ σ' H', N σ' H' → ∃ m', m' < m ∧ W (i + 1) m' σ' H') ∧ ∀ v H', (ItPerm xs L).yld i H v H' → g v σ H' fun σ2 H2 => tb { D with nx := N, ct := N, bk := D.nx } σ2 H2) := by
  refine ⟨fun i m σ H => i + m = L.length ∧ Pv i σ H, ⟨_, Nat.zero_add _, h0⟩, ?_⟩
  rintro i m σ H ⟨em, p⟩
  cases m with
  | zero =>
    have ei : i = L.length := em
    refine .inl ⟨by show L.length ≤ i; omega, hd σ H ?_⟩
    rw [← ei]
    exact p
  | succ m =>
    refine .inr ⟨by show i < L.length; omega, Pv (i + 1), fun σ' H' p' => ⟨m, Nat.lt_succ_self m, by omega, p'⟩, fun v H' y => ?_⟩
    obtain ⟨T, ix, rfl, hi, hT, rfl⟩ := y
    exact hs i ix T σ H hi p hT
end Fm
namespace Fm
open L2
/-- what follows from a start by steps -/
def stepsF {α : Type} (f : α → Option α) : Nat → α → List α
  | 0, _ => []
  | k + 1, a => a :: match f a with
    | none => []
    | some b => stepsF f k b
def endsF {α : Type} (f : α → Option α) (L : List α) : Bool := match L.getLast? with
  | none => false
  | some a => (f a).isNone
theorem steps_next {α : Type} {f : α → Option α} : ∀ (k : Nat) (s : α) (i : Nat) (a b : α), (stepsF f k s)[i]? = some a → (stepsF f k s)[i + 1]? = some b → f a = some b
  | 0, _, _, _, _, h, _ => by simp [stepsF] at h
  | k + 1, s, 0, a, b, h1, h2 => by
    have e : s = a := by simpa [stepsF] using h1
    subst e
    unfold stepsF at h2
    rw [List.getElem?_cons_succ] at h2
    cases hs : f s with
    | none => rw [hs] at h2; simp at h2
    | some c =>
      rw [hs] at h2
      dsimp only at h2
      cases k with
      | zero => simp [stepsF] at h2
      | succ k =>
        have : c = b := by simpa [stepsF] using h2
        rw [this]
  | k + 1, s, i + 1, a, b, h1, h2 => by
    unfold stepsF at h1 h2
    rw [List.getElem?_cons_succ] at h1 h2
    cases hs : f s with
    | none => rw [hs] at h1; simp at h1
    | some c =>
      rw [hs] at h1 h2
      exact steps_next k c i a b h1 h2
theorem steps_last {α : Type} {f : α → Option α} {L : List α} (h : endsF f L = true) {i : Nat} {a : α} (h1 : L[i]? = some a) (h2 : L[i + 1]? = none) : f a = none := by
  have l1 := (List.getElem?_eq_some_iff.mp h1).1
  have l2 := List.getElem?_eq_none_iff.mp h2
  unfold endsF at h
  have e : L.getLast? = some a := by
    rw [List.getLast?_eq_getElem?, ← h1]
    congr 1
    omega
  rw [e] at h
  exact Option.isNone_iff_eq_none.mp h
/-- all ascending choices of r out of m places from lo on -/
def cmb : Nat → Nat → Nat → List (List Nat)
  | 0, _, _ => [[]]
  | _ + 1, _, 0 => []
  | r + 1, lo, m + 1 => (cmb r (lo + 1) m).map (lo :: ·) ++ cmb (r + 1) (lo + 1) m
theorem cmb_mem : ∀ (r lo m : Nat) (ix : List Nat), ix ∈ cmb r lo m ↔ ix.length = r ∧ ix.Pairwise (· < ·) ∧ ∀ i ∈ ix, lo ≤ i ∧ i < lo + m
  | 0, lo, m, ix => by
    have e : cmb 0 lo m = [[]] := by cases m <;> rfl
    rw [e, List.mem_singleton]
    constructor
    · rintro rfl
      exact ⟨rfl, .nil, fun i hi => by cases hi⟩
    · rintro ⟨h, _⟩
      exact List.eq_nil_of_length_eq_zero h
  | r + 1, lo, 0, ix => by
    unfold cmb
    constructor
    · intro h
      cases h
    · rintro ⟨h, _, h3⟩
      cases ix with
      | nil => simp at h
      | cons i l =>
        have := h3 i (List.mem_cons_self ..)
        omega
  | r + 1, lo, m + 1, ix => by
    unfold cmb
    rw [List.mem_append, List.mem_map]
    constructor
    · rintro (⟨l, hl, rfl⟩ | h)
      · obtain ⟨h1, h2, h3⟩ := (cmb_mem r (lo + 1) m l).mp hl
        refine ⟨by rw [List.length_cons, h1], List.pairwise_cons.mpr ⟨fun x hx => by have := h3 x hx; omega, h2⟩, fun i hi => ?_⟩
        rcases List.mem_cons.mp hi with e | e
        · omega
        · have := h3 i e
          omega
      · obtain ⟨h1, h2, h3⟩ := (cmb_mem (r + 1) (lo + 1) m ix).mp h
        exact ⟨h1, h2, fun i hi => by have := h3 i hi; omega⟩
    · rintro ⟨h1, h2, h3⟩
      cases ix with
      | nil => simp at h1
      | cons i l =>
        rw [List.pairwise_cons] at h2
        rw [List.length_cons] at h1
        have hi := h3 i (List.mem_cons_self ..)
        by_cases e : i = lo
        · subst e
          refine .inl ⟨l, (cmb_mem r (i + 1) m l).mpr ⟨by omega, h2.2, fun x hx => ?_⟩, rfl⟩
          have := h2.1 x hx
          have := h3 x (List.mem_cons_of_mem _ hx)
          omega
        · refine .inr ((cmb_mem (r + 1) (lo + 1) m (i :: l)).mpr ⟨by rw [List.length_cons]; omega, List.pairwise_cons.mpr h2, fun x hx => ?_⟩)
          have := h3 x hx
          rcases List.mem_cons.mp hx with z | z
          · omega
          · have := h2.1 x z
            omega
def combOk (n r : Nat) : Bool := if n < r then (cmb r 0 n).isEmpty else decide (cmb r 0 n = stepsF (nextC n) 1000 (List.range r)) && endsF (nextC n) (cmb r 0 n)
theorem comb_all : (List.range 13).all (fun n => (List.range 6).all fun r => combOk n r) = true := by decide +kernel
theorem comb_seq {n r : Nat} (hn : n ≤ 12) (hr : r ≤ 5) : CombSeq n r (cmb r 0 n) := by
  have h := List.all_eq_true.mp (List.all_eq_true.mp comb_all n (List.mem_range.mpr (by omega))) r (List.mem_range.mpr (by omega))
  unfold combOk at h
  by_cases e : n < r
  · rw [if_pos e] at h
    have e0 : cmb r 0 n = [] := List.isEmpty_iff.mp h
    rw [e0]
    exact ⟨fun z => by omega, fun _ => rfl, fun i a b h => by simp at h, fun i a h => by simp at h, fun a h => by cases h⟩
  · rw [if_neg e, Bool.and_eq_true] at h
    obtain ⟨h1, h2⟩ := h
    have h1 := of_decide_eq_true h1
    refine ⟨fun _ => ?_, fun z => absurd z e, fun i a b q1 q2 => ?_, fun i a q1 q2 => steps_last h2 q1 q2, fun a ha => ?_⟩
    · rw [h1]
      rfl
    · rw [h1] at q1 q2
      exact steps_next _ _ _ _ _ q1 q2
    · have := ((cmb_mem r 0 n a).mp ha).1
      omega
def permL (n : Nat) : List (List Nat × List Nat) := stepsF (fun a => nextP n n a.1 a.2) 200 (List.range n, (List.range n).map fun i => n - i)
def permOk (n : Nat) : Bool := endsF (fun a => nextP n n a.1 a.2) (permL n) && (permL n).all fun a => decide (a.1.length = n ∧ a.2.length = n)
theorem perm_all : (List.range 6).all permOk = true := by decide +kernel
theorem perm_seq {n : Nat} (hn : n ≤ 5) : PermSeq n (permL n) := by
  have h := List.all_eq_true.mp perm_all n (List.mem_range.mpr (by omega))
  unfold permOk at h
  rw [Bool.and_eq_true] at h
  obtain ⟨h1, h2⟩ := h
  exact ⟨rfl, fun i a b q1 q2 => steps_next (f := fun a : List Nat × List Nat => nextP n n a.1 a.2) _ _ _ _ _ q1 q2, fun i a q1 q2 => steps_last (f := fun a : List Nat × List Nat => nextP n n a.1 a.2) h1 q1 q2, fun a ha => of_decide_eq_true (List.all_eq_true.mp h2 a ha)⟩
/-- all lists of k numbers below n -/
def tupsN (n : Nat) : Nat → List (List Nat)
  | 0 => [[]]
  | k + 1 => (List.range n).flatMap fun i => (tupsN n k).map (i :: ·)
theorem tups_mem (n : Nat) : ∀ (k : Nat) (ix : List Nat), ix ∈ tupsN n k ↔ ix.length = k ∧ ∀ i ∈ ix, i < n
  | 0, ix => by
    unfold tupsN
    rw [List.mem_singleton]
    constructor
    · rintro rfl
      exact ⟨rfl, fun i hi => by cases hi⟩
    · rintro ⟨h, _⟩
      exact List.eq_nil_of_length_eq_zero h
  | k + 1, ix => by
    unfold tupsN
    rw [List.mem_flatMap]
    constructor
    · rintro ⟨i, hi, h⟩
      obtain ⟨l, hl, rfl⟩ := List.mem_map.mp h
      obtain ⟨h1, h2⟩ := (tups_mem n k l).mp hl
      refine ⟨by rw [List.length_cons, h1], fun x hx => ?_⟩
      rcases List.mem_cons.mp hx with e | e
      · rw [e]
        exact List.mem_range.mp hi
      · exact h2 x e
    · rintro ⟨h1, h2⟩
      cases ix with
      | nil => simp at h1
      | cons i l =>
        rw [List.length_cons] at h1
        exact ⟨i, List.mem_range.mpr (h2 i (List.mem_cons_self ..)), List.mem_map.mpr ⟨l, (tups_mem n k l).mpr ⟨by omega, fun x hx => h2 x (List.mem_cons_of_mem _ hx)⟩, rfl⟩⟩
def permIs (n : Nat) : Bool := decide ((permL n).map (·.1) = (tupsN n n).filter fun l => decide l.Nodup) && decide (((permL n).map (·.1)).Pairwise fun a b => a < b)
theorem perm_is : (List.range 5).all permIs = true := by decide +kernel
theorem perm_mem {n : Nat} (hn : n ≤ 4) (ix : List Nat) : ix ∈ (permL n).map (·.1) ↔ ix.length = n ∧ (∀ i ∈ ix, i < n) ∧ ix.Nodup := by
  have h := List.all_eq_true.mp perm_is n (List.mem_range.mpr (by omega))
  unfold permIs at h
  rw [Bool.and_eq_true] at h
  rw [of_decide_eq_true h.1, List.mem_filter, tups_mem, decide_eq_true_eq, and_assoc]
end Fm
namespace Fm
open PySem PySem.Spec PyProof.Rows L2
theorem comb_all12 : (List.range 13).all (fun n => (List.range 13).all fun r => combOk n r) = true := by decide +kernel
theorem comb_seq12 {n r : Nat} (hn : n ≤ 12) (hr : r ≤ 12) : CombSeq n r (cmb r 0 n) := by
  have h := List.all_eq_true.mp (List.all_eq_true.mp comb_all12 n (List.mem_range.mpr (by omega))) r (List.mem_range.mpr (by omega))
  unfold combOk at h
  by_cases e : n < r
  · rw [if_pos e] at h
    have e0 : cmb r 0 n = [] := List.isEmpty_iff.mp h
    rw [e0]
    exact ⟨fun z => by omega, fun _ => rfl, fun i a b h => by simp at h, fun i a h => by simp at h, fun a h => by cases h⟩
  · rw [if_neg e, Bool.and_eq_true] at h
    obtain ⟨h1, h2⟩ := h
    have h1 := of_decide_eq_true h1
    refine ⟨fun _ => ?_, fun z => absurd z e, fun i a b q1 q2 => ?_, fun i a q1 q2 => steps_last h2 q1 q2, fun a ha => ?_⟩
    · rw [h1]
      rfl
    · rw [h1] at q1 q2
      exact steps_next _ _ _ _ _ q1 q2
    · have := ((cmb_mem r 0 n a).mp ha).1
      omega
theorem cmb_few12 : (List.range 13).all (fun n => (List.range 13).all fun r => decide ((cmb r 0 n).length ≤ 1000)) = true := by decide +kernel
theorem cmb_le12 {n r : Nat} (hn : n ≤ 12) (hr : r ≤ 12) : (cmb r 0 n).length ≤ 1000 := of_decide_eq_true (List.all_eq_true.mp (List.all_eq_true.mp cmb_few12 n (List.mem_range.mpr (by omega))) r (List.mem_range.mpr (by omega)))
theorem lc_comb {xs : List V} {L : List (List Nat)} {g : TG} {tt : TT} {te : TE} {vs : List Nat} {σ : L2.St} {H1 : Hp} {D : Addr} {Qd : Hp → Prop} (Pv : Nat → Hp → Prop) (h0 : Pv 0 (upd H1 D (.lst [])))
    (hs : ∀ (i : Nat) (ix : List Nat) (T : Addr) (H : Hp), L[i]? = some ix → Pv i H → H T = none → g (.ref T) (wipe σ vs) (upd H T (.tup (ix.map fun k => xs.getD k .non))) fun σ2 H2 => wipe σ2 vs = wipe σ vs ∧ tt σ2 H2 fun b H3 =>
      if b = true then te σ2 H3 fun y H4 => ∃ acc, H4 D = some (.lst acc) ∧ acc.length < sizeLine ∧ Pv (i + 1) (upd H4 D (.lst (acc ++ [y]))) else Pv (i + 1) H3) (hd : ∀ H, Pv L.length H → Qd H) :
    ∃ W : Nat → Nat → Hp → Prop, (∃ m, W 0 m (upd H1 D (.lst []))) ∧ ∀ i m H, W i m H →
      ((ItComb xs L).stop i H ∧ Qd H) ∨ ((ItComb xs L).go i H ∧ ∃ Nx : Hp → Prop, (∀ H', Nx H' → ∃ m', m' < m ∧ W (i + 1) m' H') ∧ ∀ x H', (ItComb xs L).yld i H x H' → g x (wipe σ vs) H' fun σ2 H2 => wipe σ2 vs = wipe σ vs ∧ tt σ2 H2 fun b H3 =>
        if b = true then te σ2 H3 fun y H4 => ∃ acc, H4 D = some (.lst acc) ∧ acc.length < sizeLine ∧ Nx (upd H4 D (.lst (acc ++ [y]))) else Nx H3) := by
  refine ⟨fun i m H => i + m = L.length ∧ Pv i H, ⟨_, Nat.zero_add _, h0⟩, ?_⟩
  rintro i m H ⟨em, p⟩
  cases m with
  | zero =>
    have ei : i = L.length := em
    refine .inl ⟨by show L.length ≤ i; omega, hd H ?_⟩
    rw [← ei]
    exact p
  | succ m =>
    refine .inr ⟨by show i < L.length; omega, Pv (i + 1), fun H' p' => ⟨m, Nat.lt_succ_self m, by omega, p'⟩, fun v H' y => ?_⟩
    obtain ⟨T, ix, rfl, hi, nT, rfl⟩ := y
    exact hs i ix T H hi p nT
end Fm
namespace Fm
open PySem PySem.Spec PyProof.Rows L2
def topS (i : Nat) : Stmt := PySem.Challenge.pw_fairmasks_k25_whole_patterns_given_up.main.body.getD i (.Pass ⟨0, 0, 0, 0⟩)
abbrev s_is_whole : Stmt := topS 2
abbrev N_is_whole : List Str := ["thing"]
theorem sc_is_whole : FnScope N_is_whole ["thing"] (defScope s_is_whole) := ⟨rfl, rfl, rfl, by decide +kernel, rfl, by decide +kernel, by decide +kernel⟩
abbrev s_is_pattern : Stmt := topS 10
abbrev N_is_pattern : List Str := ["columns", "thing", "last", "column"]
theorem sc_is_pattern : FnScope N_is_pattern ["columns", "thing"] (defScope s_is_pattern) := ⟨rfl, rfl, rfl, by decide +kernel, rfl, by decide +kernel, by decide +kernel⟩
abbrev s_all_columns : Stmt := topS 11
abbrev N_all_columns : List Str := ["columns"]
theorem sc_all_columns : FnScope N_all_columns ["columns"] (defScope s_all_columns) := ⟨rfl, rfl, rfl, by decide +kernel, rfl, by decide +kernel, by decide +kernel⟩
abbrev s_less : Stmt := topS 12
abbrev N_less : List Str := ["pattern", "column", "other"]
theorem sc_less : FnScope N_less ["pattern", "column"] (defScope s_less) := ⟨rfl, rfl, rfl, by decide +kernel, rfl, by decide +kernel, by decide +kernel⟩
abbrev s_is_list : Stmt := topS 13
abbrev N_is_list : List Str := ["columns", "thing", "last", "pattern"]
theorem sc_is_list : FnScope N_is_list ["columns", "thing"] (defScope s_is_list) := ⟨rfl, rfl, rfl, by decide +kernel, rfl, by decide +kernel, by decide +kernel⟩
abbrev s_parts_of : Stmt := topS 16
abbrev N_parts_of : List Str := ["columns", "listed", "pattern"]
theorem sc_parts_of : FnScope N_parts_of ["columns", "listed"] (defScope s_parts_of) := ⟨rfl, rfl, rfl, by decide +kernel, rfl, by decide +kernel, by decide +kernel⟩
abbrev s_within : Stmt := topS 17
abbrev N_within : List Str := ["inner", "outer", "column"]
theorem sc_within : FnScope N_within ["inner", "outer"] (defScope s_within) := ⟨rfl, rfl, rfl, by decide +kernel, rfl, by decide +kernel, by decide +kernel⟩
abbrev s_is_nest : Stmt := topS 18
abbrev N_is_nest : List Str := ["parts", "column", "chain", "pattern", "inner", "outer"]
theorem sc_is_nest : FnScope N_is_nest ["parts", "column"] (defScope s_is_nest) := ⟨rfl, rfl, rfl, by decide +kernel, rfl, by decide +kernel, by decide +kernel⟩
abbrev s_struck : Stmt := topS 19
abbrev N_struck : List Str := ["parts", "column", "pattern"]
theorem sc_struck : FnScope N_struck ["parts", "column"] (defScope s_struck) := ⟨rfl, rfl, rfl, by decide +kernel, rfl, by decide +kernel, by decide +kernel⟩
abbrev s_order_of : Stmt := topS 20
abbrev N_order_of : List Str := ["parts", "left", "column", "behind"]
theorem sc_order_of : FnScope N_order_of ["parts", "left"] (defScope s_order_of) := ⟨rfl, rfl, rfl, by decide +kernel, rfl, by decide +kernel, by decide +kernel⟩
abbrev s_order : Stmt := topS 21
abbrev N_order : List Str := ["columns", "listed"]
theorem sc_order : FnScope N_order ["columns", "listed"] (defScope s_order) := ⟨rfl, rfl, rfl, by decide +kernel, rfl, by decide +kernel, by decide +kernel⟩
abbrev s_ring_columns : Stmt := topS 22
abbrev N_ring_columns : List Str := ["rs", "found", "at", "pattern", "behind", "shared", "column"]
theorem sc_ring_columns : FnScope N_ring_columns ["rs"] (defScope s_ring_columns) := ⟨rfl, rfl, rfl, by decide +kernel, rfl, by decide +kernel, by decide +kernel⟩
abbrev s_those_with : Stmt := topS 23
abbrev N_those_with : List Str := ["rs", "column", "pattern"]
theorem sc_those_with : FnScope N_those_with ["rs", "column"] (defScope s_those_with) := ⟨rfl, rfl, rfl, by decide +kernel, rfl, by decide +kernel, by decide +kernel⟩
abbrev s_ring_in : Stmt := topS 24
abbrev N_ring_in : List Str := ["patterns", "others", "rest", "rs", "cs"]
theorem sc_ring_in : FnScope N_ring_in ["patterns"] (defScope s_ring_in) := ⟨rfl, rfl, rfl, by decide +kernel, rfl, by decide +kernel, by decide +kernel⟩
abbrev s_rings_of : Stmt := topS 25
abbrev N_rings_of : List Str := ["parts", "most", "found", "known", "patterns", "least"]
theorem sc_rings_of : FnScope N_rings_of ["parts", "most"] (defScope s_rings_of) := ⟨rfl, rfl, rfl, by decide +kernel, rfl, by decide +kernel, by decide +kernel⟩
abbrev s_ring : Stmt := topS 26
abbrev N_ring : List Str := ["columns", "listed", "parts", "most", "found"]
theorem sc_ring : FnScope N_ring ["columns", "listed"] (defScope s_ring) := ⟨rfl, rfl, rfl, by decide +kernel, rfl, by decide +kernel, by decide +kernel⟩
abbrev s_given_up : Stmt := topS 27
abbrev N_given_up : List Str := ["columns", "listed", "parts", "rings", "most", "many", "found", "lost", "rs", "_"]
theorem sc_given_up : FnScope N_given_up ["columns", "listed"] (defScope s_given_up) := ⟨rfl, rfl, rfl, by decide +kernel, rfl, by decide +kernel, by decide +kernel⟩
abbrev s_is_hit : Stmt := topS 28
abbrev N_is_hit : List Str := ["rings", "lost", "rs", "pattern"]
theorem sc_is_hit : FnScope N_is_hit ["rings", "lost"] (defScope s_is_hit) := ⟨rfl, rfl, rfl, by decide +kernel, rfl, by decide +kernel, by decide +kernel⟩
abbrev s_law_pot : Stmt := topS 30
abbrev N_law_pot : List Str := ["script", "cells", "greats", "smalls", "item"]
theorem sc_law_pot : FnScope N_law_pot ["script"] (defScope s_law_pot) := ⟨rfl, rfl, rfl, by decide +kernel, rfl, by decide +kernel, by decide +kernel⟩
abbrev s_law_draw : Stmt := topS 31
abbrev N_law_draw : List Str := ["pot", "many", "turn", "seed", "number"]
theorem sc_law_draw : FnScope N_law_draw ["pot", "many"] (defScope s_law_draw) := ⟨rfl, rfl, rfl, by decide +kernel, rfl, by decide +kernel, by decide +kernel⟩
abbrev s_law_any : Stmt := topS 32
abbrev N_law_any : List Str := ["pot", "items"]
theorem sc_law_any : FnScope N_law_any ["pot", "items"] (defScope s_law_any) := ⟨rfl, rfl, rfl, by decide +kernel, rfl, by decide +kernel, by decide +kernel⟩
abbrev s_law_mixed : Stmt := topS 33
abbrev N_law_mixed : List Str := ["pot", "items", "line", "at", "other"]
theorem sc_law_mixed : FnScope N_law_mixed ["pot", "items"] (defScope s_law_mixed) := ⟨rfl, rfl, rfl, by decide +kernel, rfl, by decide +kernel, by decide +kernel⟩
abbrev s_law_patterns : Stmt := topS 34
abbrev N_law_patterns : List Str := ["columns", "found", "c", "pattern"]
theorem sc_law_patterns : FnScope N_law_patterns ["columns"] (defScope s_law_patterns) := ⟨rfl, rfl, rfl, by decide +kernel, rfl, by decide +kernel, by decide +kernel⟩
abbrev s_law_list : Stmt := topS 35
abbrev N_law_list : List Str := ["pot", "columns", "most", "whole", "some", "pattern"]
theorem sc_law_list : FnScope N_law_list ["pot", "columns", "most"] (defScope s_law_list) := ⟨rfl, rfl, rfl, by decide +kernel, rfl, by decide +kernel, by decide +kernel⟩
abbrev s_law_parts : Stmt := topS 36
abbrev N_law_parts : List Str := ["columns", "patterns", "pattern"]
theorem sc_law_parts : FnScope N_law_parts ["columns", "patterns"] (defScope s_law_parts) := ⟨rfl, rfl, rfl, by decide +kernel, rfl, by decide +kernel, by decide +kernel⟩
abbrev s_law_inside : Stmt := topS 37
abbrev N_law_inside : List Str := ["one", "other", "c"]
theorem sc_law_inside : FnScope N_law_inside ["one", "other"] (defScope s_law_inside) := ⟨rfl, rfl, rfl, by decide +kernel, rfl, by decide +kernel, by decide +kernel⟩
abbrev s_law_is_nest : Stmt := topS 38
abbrev N_law_is_nest : List Str := ["c", "some", "holding", "one", "pattern", "other"]
theorem sc_law_is_nest : FnScope N_law_is_nest ["c", "some"] (defScope s_law_is_nest) := ⟨rfl, rfl, rfl, by decide +kernel, rfl, by decide +kernel, by decide +kernel⟩
abbrev s_law_planted : Stmt := topS 39
abbrev N_law_planted : List Str := ["pot", "columns", "many", "cs", "others", "rs", "k", "more", "c"]
theorem sc_law_planted : FnScope N_law_planted ["pot", "columns"] (defScope s_law_planted) := ⟨rfl, rfl, rfl, by decide +kernel, rfl, by decide +kernel, by decide +kernel⟩
abbrev s_law_ringless : Stmt := topS 40
abbrev N_law_ringless : List Str := ["pot", "columns", "most", "row", "some", "c", "whole", "chain", "at", "fits", "k"]
theorem sc_law_ringless : FnScope N_law_ringless ["pot", "columns", "most"] (defScope s_law_ringless) := ⟨rfl, rfl, rfl, by decide +kernel, rfl, by decide +kernel, by decide +kernel⟩
abbrev s_law_big_list : Stmt := topS 41
abbrev N_law_big_list : List Str := ["pot", "columns", "patterns", "pattern"]
theorem sc_law_big_list : FnScope N_law_big_list ["pot", "columns"] (defScope s_law_big_list) := ⟨rfl, rfl, rfl, by decide +kernel, rfl, by decide +kernel, by decide +kernel⟩
abbrev s_law_can_be_struck : Stmt := topS 42
abbrev N_law_can_be_struck : List Str := ["columns", "some", "waiting", "known", "turn", "left", "now", "c", "rest", "pattern", "other"]
theorem sc_law_can_be_struck : FnScope N_law_can_be_struck ["columns", "some"] (defScope s_law_can_be_struck) := ⟨rfl, rfl, rfl, by decide +kernel, rfl, by decide +kernel, by decide +kernel⟩
abbrev s_law_tuples : Stmt := topS 43
abbrev N_law_tuples : List Str := ["some", "many", "found", "turn", "longer", "row", "pattern"]
theorem sc_law_tuples : FnScope N_law_tuples ["some", "many"] (defScope s_law_tuples) := ⟨rfl, rfl, rfl, by decide +kernel, rfl, by decide +kernel, by decide +kernel⟩
abbrev s_law_due : Stmt := topS 44
abbrev N_law_due : List Str := ["columns", "parts", "many", "found", "lot", "pattern"]
theorem sc_law_due : FnScope N_law_due ["columns", "parts"] (defScope s_law_due) := ⟨rfl, rfl, rfl, by decide +kernel, rfl, by decide +kernel, by decide +kernel⟩
abbrev s_law : Stmt := topS 45
abbrev N_law : List Str := ["script", "pot", "columns", "patterns", "due", "found", "shown", "lot", "less_v", "kept", "more", "some", "turn", "pattern"]
theorem sc_law : FnScope N_law ["script"] (defScope s_law) := ⟨rfl, rfl, rfl, by decide +kernel, rfl, by decide +kernel, by decide +kernel⟩
abbrev s_NoNumber_init : Stmt := inClass (topS 5) 0
abbrev s_NoList_init : Stmt := inClass (topS 6) 0
/-- what the top has left: each def, each constant, the built-ins that are not hidden -/
structure Txt (K : PySem.W.Frag) (mg : Str → Option Value) where
  f_is_whole : Addr
  d_is_whole : FuncData
  F_is_whole : Fun K "is_whole" "is_whole" s_is_whole f_is_whole d_is_whole
  b_is_whole : Binds K d_is_whole ["thing"] []
  g_is_whole : mg "is_whole" = some (.ref f_is_whole)
  f_is_pattern : Addr
  d_is_pattern : FuncData
  F_is_pattern : Fun K "is_pattern" "is_pattern" s_is_pattern f_is_pattern d_is_pattern
  b_is_pattern : Binds K d_is_pattern ["columns", "thing"] []
  g_is_pattern : mg "is_pattern" = some (.ref f_is_pattern)
  f_all_columns : Addr
  d_all_columns : FuncData
  F_all_columns : Fun K "all_columns" "all_columns" s_all_columns f_all_columns d_all_columns
  b_all_columns : Binds K d_all_columns ["columns"] []
  g_all_columns : mg "all_columns" = some (.ref f_all_columns)
  f_less : Addr
  d_less : FuncData
  F_less : Fun K "less" "less" s_less f_less d_less
  b_less : Binds K d_less ["pattern", "column"] []
  g_less : mg "less" = some (.ref f_less)
  f_is_list : Addr
  d_is_list : FuncData
  F_is_list : Fun K "is_list" "is_list" s_is_list f_is_list d_is_list
  b_is_list : Binds K d_is_list ["columns", "thing"] []
  g_is_list : mg "is_list" = some (.ref f_is_list)
  f_parts_of : Addr
  d_parts_of : FuncData
  F_parts_of : Fun K "parts_of" "parts_of" s_parts_of f_parts_of d_parts_of
  b_parts_of : Binds K d_parts_of ["columns", "listed"] []
  g_parts_of : mg "parts_of" = some (.ref f_parts_of)
  f_within : Addr
  d_within : FuncData
  F_within : Fun K "within" "within" s_within f_within d_within
  b_within : Binds K d_within ["inner", "outer"] []
  g_within : mg "within" = some (.ref f_within)
  f_is_nest : Addr
  d_is_nest : FuncData
  F_is_nest : Fun K "is_nest" "is_nest" s_is_nest f_is_nest d_is_nest
  b_is_nest : Binds K d_is_nest ["parts", "column"] []
  g_is_nest : mg "is_nest" = some (.ref f_is_nest)
  f_struck : Addr
  d_struck : FuncData
  F_struck : Fun K "struck" "struck" s_struck f_struck d_struck
  b_struck : Binds K d_struck ["parts", "column"] []
  g_struck : mg "struck" = some (.ref f_struck)
  f_order_of : Addr
  d_order_of : FuncData
  F_order_of : Fun K "order_of" "order_of" s_order_of f_order_of d_order_of
  b_order_of : Binds K d_order_of ["parts", "left"] []
  g_order_of : mg "order_of" = some (.ref f_order_of)
  f_order : Addr
  d_order : FuncData
  F_order : Fun K "order" "order" s_order f_order d_order
  b_order : Binds K d_order ["columns", "listed"] []
  g_order : mg "order" = some (.ref f_order)
  f_ring_columns : Addr
  d_ring_columns : FuncData
  F_ring_columns : Fun K "ring_columns" "ring_columns" s_ring_columns f_ring_columns d_ring_columns
  b_ring_columns : Binds K d_ring_columns ["rs"] []
  g_ring_columns : mg "ring_columns" = some (.ref f_ring_columns)
  f_those_with : Addr
  d_those_with : FuncData
  F_those_with : Fun K "those_with" "those_with" s_those_with f_those_with d_those_with
  b_those_with : Binds K d_those_with ["rs", "column"] []
  g_those_with : mg "those_with" = some (.ref f_those_with)
  f_ring_in : Addr
  d_ring_in : FuncData
  F_ring_in : Fun K "ring_in" "ring_in" s_ring_in f_ring_in d_ring_in
  b_ring_in : Binds K d_ring_in ["patterns"] []
  g_ring_in : mg "ring_in" = some (.ref f_ring_in)
  f_rings_of : Addr
  d_rings_of : FuncData
  F_rings_of : Fun K "rings_of" "rings_of" s_rings_of f_rings_of d_rings_of
  b_rings_of : Binds K d_rings_of ["parts", "most"] []
  g_rings_of : mg "rings_of" = some (.ref f_rings_of)
  f_ring : Addr
  d_ring : FuncData
  F_ring : Fun K "ring" "ring" s_ring f_ring d_ring
  b_ring : Binds K d_ring ["columns", "listed"] []
  g_ring : mg "ring" = some (.ref f_ring)
  f_given_up : Addr
  d_given_up : FuncData
  F_given_up : Fun K "given_up" "given_up" s_given_up f_given_up d_given_up
  b_given_up : Binds K d_given_up ["columns", "listed"] []
  g_given_up : mg "given_up" = some (.ref f_given_up)
  f_is_hit : Addr
  d_is_hit : FuncData
  F_is_hit : Fun K "is_hit" "is_hit" s_is_hit f_is_hit d_is_hit
  b_is_hit : Binds K d_is_hit ["rings", "lost"] []
  g_is_hit : mg "is_hit" = some (.ref f_is_hit)
  f_law_pot : Addr
  d_law_pot : FuncData
  F_law_pot : Fun K "_law_pot" "_law_pot" s_law_pot f_law_pot d_law_pot
  b_law_pot : Binds K d_law_pot ["script"] []
  g_law_pot : mg "_law_pot" = some (.ref f_law_pot)
  f_law_draw : Addr
  d_law_draw : FuncData
  F_law_draw : Fun K "_law_draw" "_law_draw" s_law_draw f_law_draw d_law_draw
  b_law_draw : Binds K d_law_draw ["pot", "many"] []
  g_law_draw : mg "_law_draw" = some (.ref f_law_draw)
  f_law_any : Addr
  d_law_any : FuncData
  F_law_any : Fun K "_law_any" "_law_any" s_law_any f_law_any d_law_any
  b_law_any : Binds K d_law_any ["pot", "items"] []
  g_law_any : mg "_law_any" = some (.ref f_law_any)
  f_law_mixed : Addr
  d_law_mixed : FuncData
  F_law_mixed : Fun K "_law_mixed" "_law_mixed" s_law_mixed f_law_mixed d_law_mixed
  b_law_mixed : Binds K d_law_mixed ["pot", "items"] []
  g_law_mixed : mg "_law_mixed" = some (.ref f_law_mixed)
  f_law_patterns : Addr
  d_law_patterns : FuncData
  F_law_patterns : Fun K "_law_patterns" "_law_patterns" s_law_patterns f_law_patterns d_law_patterns
  b_law_patterns : Binds K d_law_patterns ["columns"] []
  g_law_patterns : mg "_law_patterns" = some (.ref f_law_patterns)
  f_law_list : Addr
  d_law_list : FuncData
  F_law_list : Fun K "_law_list" "_law_list" s_law_list f_law_list d_law_list
  b_law_list : Binds K d_law_list ["pot", "columns", "most"] []
  g_law_list : mg "_law_list" = some (.ref f_law_list)
  f_law_parts : Addr
  d_law_parts : FuncData
  F_law_parts : Fun K "_law_parts" "_law_parts" s_law_parts f_law_parts d_law_parts
  b_law_parts : Binds K d_law_parts ["columns", "patterns"] []
  g_law_parts : mg "_law_parts" = some (.ref f_law_parts)
  f_law_inside : Addr
  d_law_inside : FuncData
  F_law_inside : Fun K "_law_inside" "_law_inside" s_law_inside f_law_inside d_law_inside
  b_law_inside : Binds K d_law_inside ["one", "other"] []
  g_law_inside : mg "_law_inside" = some (.ref f_law_inside)
  f_law_is_nest : Addr
  d_law_is_nest : FuncData
  F_law_is_nest : Fun K "_law_is_nest" "_law_is_nest" s_law_is_nest f_law_is_nest d_law_is_nest
  b_law_is_nest : Binds K d_law_is_nest ["c", "some"] []
  g_law_is_nest : mg "_law_is_nest" = some (.ref f_law_is_nest)
  f_law_planted : Addr
  d_law_planted : FuncData
  F_law_planted : Fun K "_law_planted" "_law_planted" s_law_planted f_law_planted d_law_planted
  b_law_planted : Binds K d_law_planted ["pot", "columns"] []
  g_law_planted : mg "_law_planted" = some (.ref f_law_planted)
  f_law_ringless : Addr
  d_law_ringless : FuncData
  F_law_ringless : Fun K "_law_ringless" "_law_ringless" s_law_ringless f_law_ringless d_law_ringless
  b_law_ringless : Binds K d_law_ringless ["pot", "columns", "most"] []
  g_law_ringless : mg "_law_ringless" = some (.ref f_law_ringless)
  f_law_big_list : Addr
  d_law_big_list : FuncData
  F_law_big_list : Fun K "_law_big_list" "_law_big_list" s_law_big_list f_law_big_list d_law_big_list
  b_law_big_list : Binds K d_law_big_list ["pot", "columns"] []
  g_law_big_list : mg "_law_big_list" = some (.ref f_law_big_list)
  f_law_can_be_struck : Addr
  d_law_can_be_struck : FuncData
  F_law_can_be_struck : Fun K "_law_can_be_struck" "_law_can_be_struck" s_law_can_be_struck f_law_can_be_struck d_law_can_be_struck
  b_law_can_be_struck : Binds K d_law_can_be_struck ["columns", "some"] []
  g_law_can_be_struck : mg "_law_can_be_struck" = some (.ref f_law_can_be_struck)
  f_law_tuples : Addr
  d_law_tuples : FuncData
  F_law_tuples : Fun K "_law_tuples" "_law_tuples" s_law_tuples f_law_tuples d_law_tuples
  b_law_tuples : Binds K d_law_tuples ["some", "many"] []
  g_law_tuples : mg "_law_tuples" = some (.ref f_law_tuples)
  f_law_due : Addr
  d_law_due : FuncData
  F_law_due : Fun K "_law_due" "_law_due" s_law_due f_law_due d_law_due
  b_law_due : Binds K d_law_due ["columns", "parts"] []
  g_law_due : mg "_law_due" = some (.ref f_law_due)
  f_NoNumber_init : Addr
  d_NoNumber_init : FuncData
  F_NoNumber_init : Fun K "__init__" "NoNumber.__init__" s_NoNumber_init f_NoNumber_init d_NoNumber_init
  b_NoNumber_init : Binds K d_NoNumber_init ["self"] []
  f_NoList_init : Addr
  d_NoList_init : FuncData
  F_NoList_init : Fun K "__init__" "NoList.__init__" s_NoList_init f_NoList_init d_NoList_init
  b_NoList_init : Binds K d_NoList_init ["self"] []
  c_MaskError : Addr
  g_MaskError : mg "MaskError" = some (.ref c_MaskError)
  m_MaskError : Value
  U_MaskError : UpC K c_MaskError m_MaskError
  c_NoNumber : Addr
  g_NoNumber : mg "NoNumber" = some (.ref c_NoNumber)
  o_NoNumber : OexC K c_NoNumber
  i_NoNumber : PySem.W.findIn K (.ref c_NoNumber) "__init__" = some (some (.ref f_NoNumber_init))
  t_NoNumber : PySem.W.typeIn K (.ref f_NoNumber_init) = some (.type "function")
  e_NoNumber : ExcC K c_NoNumber
  x_NoNumber : PySem.W.exmOne K (.ref c_NoNumber) (.ref c_MaskError) = some true
  c_NoList : Addr
  g_NoList : mg "NoList" = some (.ref c_NoList)
  o_NoList : OexC K c_NoList
  i_NoList : PySem.W.findIn K (.ref c_NoList) "__init__" = some (some (.ref f_NoList_init))
  t_NoList : PySem.W.typeIn K (.ref f_NoList_init) = some (.type "function")
  e_NoList : ExcC K c_NoList
  x_NoList : PySem.W.exmOne K (.ref c_NoList) (.ref c_MaskError) = some true
  q_NoNumber_NoNumber : PySem.W.kitOne K (.ref c_NoNumber) (.ref c_NoNumber) = some true
  q_NoNumber_NoList : PySem.W.kitOne K (.ref c_NoNumber) (.ref c_NoList) = some false
  q_NoList_NoNumber : PySem.W.kitOne K (.ref c_NoList) (.ref c_NoNumber) = some false
  q_NoList_NoList : PySem.W.kitOne K (.ref c_NoList) (.ref c_NoList) = some true
  w_combinations : mg "combinations" = some (.type "itertools.combinations")
  w_permutations : mg "permutations" = some (.type "itertools.permutations")
  u_MOST_COLUMNS : Value
  k_MOST_COLUMNS : mg "MOST_COLUMNS" = some u_MOST_COLUMNS ∧ RelV (.int 5) u_MOST_COLUMNS
  u_MOST_PATTERNS : Value
  k_MOST_PATTERNS : mg "MOST_PATTERNS" = some u_MOST_PATTERNS ∧ RelV (.int 12) u_MOST_PATTERNS
  u_LEAST_RING : Value
  k_LEAST_RING : mg "LEAST_RING" = some u_LEAST_RING ∧ RelV (.int 3) u_LEAST_RING
  z_len : mg "len" = none
  z_isinstance : mg "isinstance" = none
  z_range : mg "range" = none
  z_zip : mg "zip" = none
  z_tuple : mg "tuple" = none
  z_list : mg "list" = none
  z_int : mg "int" = none
  z_bool : mg "bool" = none
  z_abs : mg "abs" = none
  z_sorted : mg "sorted" = none
  z_set : mg "set" = none
  z_enumerate : mg "enumerate" = none
  z_sum : mg "sum" = none
  z_all : mg "all" = none
  z_any : mg "any" = none
section
variable {P : Program} {w : World} {K : PySem.W.Frag} {mg : Str → Option Value} {base : Heap}
def m_is_whole : List Dt → Option Dt
  | [d] => some (.bl d.isW)
  | _ => none
theorem ok_is_whole (T : Txt K mg) : FnOk P w K mg base CX0 1 T.f_is_whole T.d_is_whole ["thing"] (spD K m_is_whole) := by
  refine T.F_is_whole.ok sc_is_whole (fun vs H Q E h => ?_) (fun cdv A outer s H vs Q E hr h => ?_)
  · obtain ⟨ds, r, hd, e, _⟩ := h
    exact match ds, e, hd with | [_], _, hd => hd.length
  · obtain ⟨ds, r, hd, e, q⟩ := h
    match ds, e, hd, q with
    | [d], e, .cons h .nil, q =>
      cases e
      obtain ⟨t, ty, ki, kt, kb⟩ := h.kinds
      refine ⟨_, (pss_one (ps_ret (pe_and (pe_callB (call_isiK' K) (by rfl) T.z_isinstance (by decide +kernel) (pa_cons (pv 0) (pa_cons (pe_bltn (v := .ty "int") (by rfl) T.z_int (by decide +kernel) rfl) pa_nil))) (pe_one (pe_not (pe_callB (call_isiK' K) (by rfl) T.z_isinstance (by decide +kernel) (pa_cons (pv 0) (pa_cons (pe_bltn (v := .ty "bool") (by rfl) T.z_bool (by decide +kernel) rfl) pa_nil)))))))), ?_⟩
      refine ⟨_, rfl, _, _, _, _, _, rfl, .ty _, ty, ki, _, rfl, ?_⟩
      cases hi : d.isInt with
      | true =>
        refine iteT ?_
        refine ⟨_, rfl, _, _, _, _, _, rfl, .ty _, ty, kb hi, _, rfl, ?_⟩
        rw [Bool.not_not]
        exact q _ _ (Same.refl H) (.bl _)
      | false =>
        refine iteF ?_
        have e : d.isW = false := by cases d <;> first | rfl | cases hi
        have q' := q (.bl false) H (Same.refl H)
        rw [e] at q'
        exact q' (.bl _)
def patGo (n : Int) : Int → List Dt → Bool
  | _, [] => true
  | l, .int c :: r => if l < c ∧ c < n then patGo n c r else false
  | _, _ :: _ => false
def Dt.isPat (n : Int) : Dt → Bool
  | .tup ds => patGo n (-1) ds
  | _ => false
def m_is_pattern : List Dt → Option Dt
  | [.int n, d] => some (.bl (d.isPat n))
  | _ => none
theorem ok_is_pattern (T : Txt K mg) : FnOk P w K mg base CX0 2 T.f_is_pattern T.d_is_pattern ["columns", "thing"] (spD K m_is_pattern) := by
  refine T.F_is_pattern.ok sc_is_pattern (fun vs H Q E h => ?_) (fun cdv A outer s H vs Q E hr h => ?_)
  · obtain ⟨ds, r, hd, e, _⟩ := h
    exact match ds, e, hd with | [.int _, _], _, hd => hd.length
  · obtain ⟨ds, r, hd, e, q⟩ := h
    match ds, e, hd, q with
    | [.int n, d], e, .cons hn (.cons h .nil), q =>
      cases e
      cases hn
      obtain ⟨t, ty, ki, kt, kb⟩ := h.kinds
      refine ⟨_, (pss_cons (ps_if (pt_not (pt_val (pe_callB (call_isiK' K) (by rfl) T.z_isinstance (by decide +kernel) (pa_cons (pv 1) (pa_cons (pe_bltn (v := .ty "tuple") (by rfl) T.z_tuple (by decide +kernel) rfl) pa_nil))))) (pss_one (ps_ret pe_bl)) pss_nil)
      (pss_cons (ps_set (i := 2) sc_is_pattern.nd rfl (.inl rfl) (pe_un un_neg pe_int))
      (pss_cons (ps_for PassesOwn.never rfl (pi_tupK K (pv 1)) (pg_name (i := 3) sc_is_pattern.nd rfl (.inl rfl)) (pss_cons (ps_if (PW.pt (pw_or (pt_not (pt_val (pe_call (ok_is_whole T) hr (by rfl) T.g_is_whole T.F_is_whole.kp T.b_is_whole .nil pass0 (pa_cons (pv 3) pa_nil)))) (pw_or1 (pt_not (pt_chain op_lt op_lt (pv 2) (pv 3) (pv 0)))))) (pss_one (ps_ret pe_bl)) pss_nil)
      (pss_one (ps_set (i := 2) sc_is_pattern.nd rfl (.inl rfl) (pv 3)))))
      (pss_one (ps_ret pe_bl))))), ?_⟩
      refine ⟨_, rfl, _, _, _, _, _, rfl, .ty _, ty, kt, _, rfl, ?_⟩
      cases hi : d.isTup with
      | false =>
        refine iteT ?_
        have e : d.isPat n = false := by cases d <;> first | rfl | cases hi
        have q' := q (.bl false) H (Same.refl H)
        rw [e] at q'
        exact q' (.bl _)
      | true =>
        refine iteF ?_
        cases d with
        | tup xs =>
          obtain ⟨a, vs, rfl, hs, ha⟩ := h.tup_inv
          refine ⟨1, rfl, _, rfl, a, rfl, ⟨_, hs⟩, for_tup (xs := vs) (fun i σ H' => ∃ (l : Int) (c : Option V), σ = [some (.int n), some (.ref a), some (.int l), c] ∧ Same H H' ∧ patGo n (-1) xs = patGo n l (xs.drop i))
            ⟨-1, none, rfl, Same.refl H, rfl⟩ (fun i σ H' _ ⟨_, _, _, sm, _⟩ => (Ext.of sm).sqT hs) ?_ ?_⟩
          · rintro i x σ H' hx ⟨l, c, rfl, sm, e⟩
            obtain ⟨dx, hdx, hx2⟩ := ha.get hx
            have hdr : xs.drop i = dx :: xs.drop (i + 1) := by
              obtain ⟨hlt, e2⟩ := List.getElem?_eq_some_iff.mp hdx
              rw [List.drop_eq_getElem_cons hlt, e2]
            rw [hdr] at e
            -- not is_whole(column) or not last < column < columns
            refine ⟨_, rfl, spD_bl (.cons (hx2.ext (.of sm)) .nil) rfl fun H1 s1 => ⟨_, rfl, ?_⟩⟩
            have fin : patGo n l (dx :: xs.drop (i + 1)) = false → ∀ H2, Same H' H2 → Q (.bl false) H2 := fun z H2 s2 => by
              have q' := q (.bl false) H2 (sm.trans s2)
              rw [show (Dt.tup xs).isPat n = patGo n (-1) xs from rfl, e, z] at q'
              exact q' (.bl _)
            cases hw : dx.isW with
            | false =>
              refine iteT (iteT ?_)
              exact fin (by cases dx <;> first | rfl | cases hw) _ s1
            | true =>
              refine iteF ?_
              cases dx with
              | int c =>
                cases hx2
                refine ⟨_, rfl, _, rfl, _, _, rfl, rfl, _, rfl, ?_⟩
                refine ite2 (fun h1 => ?_) (fun h1 => ?_)
                · refine ⟨_, rfl, _, _, rfl, rfl, _, rfl, ?_⟩
                  refine ite2 (fun h2 => ?_) (fun h2 => ?_)
                  · have n2 : ¬ c < n := by simpa using h2
                    exact fin (by show (if l < c ∧ c < n then _ else false) = false; rw [if_neg fun z => n2 z.2]) _ s1
                  · have y2 : c < n := by simpa using h2
                    refine ⟨_, rfl, c, _, rfl, sm.trans s1, ?_⟩
                    rw [e]
                    show (if l < c ∧ c < n then _ else false) = _
                    rw [if_pos ⟨of_decide_eq_true h1, y2⟩]
                · refine ⟨_, rfl, iteT ?_⟩
                  exact fin (by show (if l < c ∧ c < n then _ else false) = false; rw [if_neg fun z => h1 (decide_eq_true z.1)]) _ s1
              | _ => cases hw
          · rintro σ H' ⟨l, c, rfl, sm, e⟩
            have ed : xs.drop vs.length = [] := List.drop_eq_nil_of_le (by rw [ha.length]; exact Nat.le_refl _)
            rw [ed] at e
            have q' := q (.bl true) H' sm
            rw [show (Dt.tup xs).isPat n = patGo n (-1) xs from rfl, e] at q'
            exact q' (.bl _)
        | _ => cases hi
theorem drop_at {α : Type} {xs : List α} {i : Nat} {x : α} (h : xs[i]? = some x) : xs.drop i = x :: xs.drop (i + 1) := by
  obtain ⟨hlt, e⟩ := List.getElem?_eq_some_iff.mp h
  rw [List.drop_eq_getElem_cons hlt, e]
theorem int_at {ss : List Int} {i : Nat} {x : V} (h : (ss.map V.int)[i]? = some x) : ∃ n, x = .int n ∧ ss[i]? = some n := by
  rw [List.getElem?_map] at h
  cases e : ss[i]? with
  | none =>
    rw [e] at h
    cases h
  | some n =>
    rw [e] at h
    exact ⟨n, (Option.some.inj h).symm, rfl⟩
end
end Fm
namespace Fm
open PySem PySem.Spec PyProof.Rows L2
section
variable {P : Program} {w : World} {K : PySem.W.Frag} {mg : Str → Option Value} {base : Heap}
theorem ints_dh {K : PySem.W.Frag} {H : Hp} : ∀ c : List Int, DhAll K H (c.map V.int) (c.map Dt.int)
  | [] => .nil
  | i :: r => .cons (.int i) (ints_dh r)
theorem dh_ints {K : PySem.W.Frag} {H : Hp} : ∀ {vs : List V} (c : List Int), DhAll K H vs (c.map Dt.int) → vs = c.map V.int
  | [], [], _ => rfl
  | v :: vs, i :: r, .cons h t => by rw [h.int_inv, dh_ints r t]; rfl
def ctD (c : List Int) : Dt := .tup (c.map Dt.int)
theorem dh_ct {K : PySem.W.Frag} {H : Hp} {a : Addr} {c : List Int} (h : SqT K H a (c.map V.int)) : Dh K H (.ref a) (ctD c) := .tup h (ints_dh c)
theorem ct_inv {K : PySem.W.Frag} {H : Hp} {v : V} {c : List Int} (h : Dh K H v (ctD c)) : ∃ a, v = .ref a ∧ SqT K H a (c.map V.int) := by
  obtain ⟨a, xs, rfl, s, t⟩ := h.tup_inv
  rw [dh_ints c t] at s
  exact ⟨a, rfl, s⟩
theorem map_at {α β : Type} {l : List α} {f : α → β} {i : Nat} {y : β} (h : (l.map f)[i]? = some y) : ∃ x, l[i]? = some x ∧ f x = y := by
  rw [List.getElem?_map] at h
  cases e : l[i]? with
  | none =>
    rw [e] at h
    cases h
  | some x =>
    rw [e] at h
    exact ⟨x, rfl, Option.some.inj h⟩
theorem sz_small {n : Nat} (h : n ≤ 100000) : n < sizeLine := Nat.lt_of_le_of_lt h (by decide)
theorem Same.put {H0 H : Hp} {D : Addr} {o : HO} (h : H0 D = none) (s : Same H0 H) : Same H0 (upd H D o) := fun b x e => by
  rw [upd_ne (ne_of_none e h)]
  exact s b x e
theorem Ext.put {H : Hp} {D : Addr} {xs ys : List V} (h : H D = some (.lst xs)) : Ext H (upd H D (.lst ys)) := fun b o e => by
  by_cases hb : b = D
  · subst hb
    rw [h] at e
    cases e
    exact .inr ⟨⟨xs, rfl⟩, ys, upd_same⟩
  · rw [upd_ne hb]
    exact .inl e
def Asc (n : Int) : Int → List Int → Prop
  | _, [] => True
  | l, c :: r => l < c ∧ c < n ∧ Asc n c r
theorem patGo_asc {n : Int} : ∀ {l : Int} {ds : List Dt}, patGo n l ds = true → ∃ ps, ds = ps.map Dt.int ∧ Asc n l ps
  | _, [], _ => ⟨[], rfl, True.intro⟩
  | l, .int c :: r, h => by
    have h' : (if l < c ∧ c < n then patGo n c r else false) = true := h
    by_cases hc : l < c ∧ c < n
    · rw [if_pos hc] at h'
      obtain ⟨ps, rfl, ha⟩ := patGo_asc h'
      exact ⟨c :: ps, rfl, hc.1, hc.2, ha⟩
    · rw [if_neg hc] at h'
      cases h'
  | _, .non :: _, h => by cases h
  | _, .bl _ :: _, h => by cases h
  | _, .str _ :: _, h => by cases h
  | _, .tup _ :: _, h => by cases h
  | _, .oth _ :: _, h => by cases h
theorem asc_patGo {n : Int} : ∀ {l : Int} {ps : List Int}, Asc n l ps → patGo n l (ps.map Dt.int) = true
  | _, [], _ => rfl
  | l, c :: r, ⟨h1, h2, h3⟩ => by
    show (if l < c ∧ c < n then patGo n c (r.map Dt.int) else false) = true
    rw [if_pos ⟨h1, h2⟩]
    exact asc_patGo h3
theorem Asc.mem {n : Int} : ∀ {l : Int} {ps : List Int}, Asc n l ps → ∀ p ∈ ps, l < p ∧ p < n
  | l, c :: r, ⟨h1, h2, h3⟩, p, hp => by
    rcases List.mem_cons.mp hp with e | e
    · rw [e]
      exact ⟨h1, h2⟩
    · have := h3.mem p e
      omega
theorem Asc.lenA {n : Int} : ∀ {l : Int} {ps : List Int}, Asc n l ps → l < n → (ps.length : Int) + l < n
  | l, [], _, h => by simpa using h
  | l, c :: r, ⟨h1, h2, h3⟩, _ => by
    have := h3.lenA h2
    rw [List.length_cons]
    omega
theorem Asc.len {n : Int} {ps : List Int} (h : Asc n (-1) ps) (hn : 0 ≤ n) : (ps.length : Int) ≤ n := by
  have := h.lenA (by omega)
  omega
def Dt.ints : Dt → List Int
  | .tup ds => ds.map fun d => match d with
    | .int i => i
    | _ => 0
  | _ => []
theorem ints_ct (c : List Int) : (ctD c).ints = c := by
  show (c.map Dt.int).map _ = c
  rw [List.map_map]
  conv => rhs; rw [← List.map_id c]
  rfl
theorem isPat_ct {n : Int} {d : Dt} (h : d.isPat n = true) : ∃ ps, d = ctD ps ∧ Asc n (-1) ps := by
  cases d with
  | tup ds =>
    obtain ⟨ps, rfl, a⟩ := patGo_asc (show patGo n (-1) ds = true from h)
    exact ⟨ps, rfl, a⟩
  | _ => cases h
theorem dh_two {K : PySem.W.Frag} {H : Hp} {xs : List V} {d1 d2 : Dt} : DhAll K H xs [d1, d2] → ∃ v1 v2, xs = [v1, v2] ∧ Dh K H v1 d1 ∧ Dh K H v2 d2
  | .cons h1 (.cons h2 .nil) => ⟨_, _, rfl, h1, h2⟩
abbrev ctP (c : List Int) : PyData := .tuple (c.map PyData.int)
abbrev ctsP (cs : List (List Int)) : PyData := .list (cs.map ctP)
theorem lay_all {α : Type} {f : α → PyData} {n : Nat} (h : ∀ x, (f x).canLay0 = true ∧ (f x).depth ≤ n) : ∀ l : List α, PyData.canLayAll0 (l.map f) = true ∧ PyData.depthAll (l.map f) ≤ n
  | [] => ⟨rfl, Nat.zero_le _⟩
  | x :: r => by
    obtain ⟨h1, h2⟩ := lay_all h r
    obtain ⟨h3, h4⟩ := h x
    refine ⟨?_, ?_⟩
    · show ((f x).canLay0 && PyData.canLayAll0 (r.map f)) = true
      rw [h1, h3]
      rfl
    · show max (f x).depth (PyData.depthAll (r.map f)) ≤ n
      exact Nat.max_le.mpr ⟨h4, h2⟩
theorem lay_ct (c : List Int) : (ctP c).canLay0 = true ∧ (ctP c).depth ≤ 1 := by
  obtain ⟨h1, h2⟩ := lay_all (f := PyData.int) (n := 0) (fun _ => ⟨rfl, Nat.le_refl _⟩) c
  exact ⟨h1, Nat.succ_le_succ h2⟩
theorem shaped_of {d : PyData} {n : Nat} (h : d.canLay0 = true ∧ d.depth ≤ n) (hn : n ≤ 64) : SeqAt.shaped d = true := by
  unfold SeqAt.shaped
  rw [h.1, decide_eq_true (Nat.le_trans h.2 hn)]
  rfl
theorem shaped_ct (c : List Int) : SeqAt.shaped (ctP c) = true := shaped_of (lay_ct c) (by decide)
theorem lay_cts (cs : List (List Int)) : (ctsP cs).canLay0 = true ∧ (ctsP cs).depth ≤ 2 := by
  obtain ⟨h1, h2⟩ := lay_all (f := fun c => ctP c) (n := 1) lay_ct cs
  exact ⟨h1, Nat.succ_le_succ h2⟩
theorem shaped_cts (cs : List (List Int)) : SeqAt.shaped (ctsP cs) = true := shaped_of (lay_cts cs) (by decide)
theorem eqv_all {α : Type} [DecidableEq α] {f : α → PyData} (h : ∀ x y, PyData.eqv (f x) (f y) = decide (x = y)) : ∀ l m : List α, PyData.eqvAll (l.map f) (m.map f) = decide (l = m)
  | [], [] => by simp [PyData.eqvAll]
  | [], _ :: _ => by simp [PyData.eqvAll]
  | _ :: _, [] => by simp [PyData.eqvAll]
  | x :: l, y :: m => by
    rw [List.map_cons, List.map_cons, PyData.eqvAll, h, eqv_all h l m]
    by_cases e1 : x = y <;> by_cases e2 : l = m <;> simp [e1, e2]
theorem eqv_ct (c d : List Int) : PyData.eqv (ctP c) (ctP d) = decide (c = d) := by
  rw [PyData.eqv]
  exact eqv_all (f := PyData.int) (fun x y => by rw [PyData.eqv]; by_cases e : x = y <;> simp [e]) c d
theorem dp_ints {K : PySem.W.Frag} {H : Hp} : ∀ c : List Int, DpAll K H (c.map V.int) (c.map PyData.int)
  | [] => .nil
  | i :: r => .cons (.int i) (dp_ints r)
theorem dp_ct {K : PySem.W.Frag} {H : Hp} {v : V} {c : List Int} (h : Dh K H v (ctD c)) : Dp K H v (ctP c) := by
  obtain ⟨a, rfl, s⟩ := ct_inv h
  exact .tup s (dp_ints c)
theorem dp_ctAll {K : PySem.W.Frag} {H : Hp} : ∀ {xs : List V} (cs : List (List Int)), DhAll K H xs (cs.map ctD) → DpAll K H xs (cs.map ctP)
  | _, [], .nil => .nil
  | _, _ :: r, .cons h t => .cons (dp_ct h) (dp_ctAll r t)
theorem Asc.isPat {n : Int} {ps : List Int} (h : Asc n (-1) ps) : (ctD ps).isPat n = true := asc_patGo h
end
end Fm
namespace Fm
open PySem PySem.Spec PyProof.Rows L2
section
variable {P : Program} {w : World} {K : PySem.W.Frag} {mg : Str → Option Value} {base : Heap}
def rgI (n : Nat) : List Int := (List.range n).map fun (i : Nat) => (i : Int)
theorem rgV_I (n : Nat) : rgV 0 (n : Int) = (rgI n).map V.int := by
  unfold rgV rgI
  rw [List.map_map]
  have e : ((n : Int) - 0).toNat = n := by omega
  rw [e]
  refine List.map_congr_left fun i _ => ?_
  show V.int (0 + (i : Int)) = V.int (i : Int)
  rw [Int.zero_add]
def spCols (K : PySem.W.Frag) : Sp := fun vs H Q _ => ∃ n : Nat, vs = [.int n] ∧ n ≤ 1000 ∧ ∀ v H', Same H H' → Dh K H' v (ctD (rgI n)) → Q v H'
theorem ok_all_columns (T : Txt K mg) : FnOk P w K mg base CX0 1 T.f_all_columns T.d_all_columns ["columns"] (spCols K) := by
  refine T.F_all_columns.ok sc_all_columns (fun vs H Q E h => ?_) (fun cdv A outer s H vs Q E hr h => ?_)
  · obtain ⟨_, rfl, _⟩ := h
    rfl
  · obtain ⟨n, rfl, hn, q⟩ := h
    refine ⟨_, (pss_one (ps_ret (pe_tupRg rfl (by rfl) T.z_tuple (prg_1 (by rfl) T.z_range (pv 0))))), ?_⟩
    refine ⟨_, rfl, _, rfl, RgOk.of_le (by omega) (by omega) (by omega) (by omega), fun p np => ?_⟩
    rw [rgV_I]
    exact q _ _ (same_new np) (dh_ct (SqT.of upd_same))
def lGo (n : Int) : Option (List Int) → List Dt → Bool
  | _, [] => true
  | last, d :: r => if d.isPat n = true then (match last with
    | none => lGo n (some d.ints) r
    | some l => if HT.lexLt l d.ints = true then lGo n (some d.ints) r else false) else false
def Dt.isList (n : Nat) : Dt → Bool
  | .tup ds => decide (1 ≤ ds.length ∧ ds.length ≤ 12) && (lGo n none ds && ds.any fun d => decide (d.ints = rgI n))
  | _ => false
def LastOk (K : PySem.W.Frag) (H : Hp) (v : V) : Option (List Int) → Prop
  | none => v = .non
  | some l => Dh K H v (ctD l)
theorem dp_pats {K : PySem.W.Frag} {H : Hp} {n : Int} : ∀ {xs : List V} {ds : List Dt}, DhAll K H xs ds → (∀ d ∈ ds, d.isPat n = true) → DpAll K H xs (ds.map fun d => ctP d.ints)
  | _, _, .nil, _ => .nil
  | _, _, .cons (d := d) h t, hp => by
    obtain ⟨ps, rfl, _⟩ := isPat_ct (hp d (List.mem_cons_self ..))
    rw [List.map_cons, ints_ct]
    exact .cons (dp_ct h) (dp_pats t fun e he => hp e (List.mem_cons_of_mem _ he))
theorem any_ct (ds : List Dt) (c : List Int) : ((ds.map fun d => ctP d.ints).any fun z => PyData.eqv z (ctP c)) = ds.any fun d => decide (d.ints = c) := by
  rw [List.any_map]
  congr 1
  funext d
  exact eqv_ct d.ints c
theorem shaped_pats (ds : List Dt) : SeqAt.shaped (.tuple (ds.map fun d => ctP d.ints)) = true := by
  obtain ⟨h1, h2⟩ := lay_all (f := fun c => ctP c) (n := 1) lay_ct (ds.map fun d => d.ints)
  rw [List.map_map] at h1 h2
  exact shaped_of (n := 2) ⟨h1, Nat.succ_le_succ h2⟩ (by decide)
def spList (K : PySem.W.Frag) : Sp := fun vs H Q _ => ∃ (n : Nat) (v : V) (d : Dt), vs = [.int n, v] ∧ 1 ≤ n ∧ n ≤ 5 ∧ Dh K H v d ∧ ∀ H', Same H H' → Q (.bl (d.isList n)) H'
theorem ok_is_list (T : Txt K mg) : FnOk P w K mg base CX0 3 T.f_is_list T.d_is_list ["columns", "thing"] (spList K) := by
  refine T.F_is_list.ok sc_is_list (fun vs H Q E h => ?_) (fun cdv A outer s H vs Q E hr h => ?_)
  · obtain ⟨_, _, _, rfl, _⟩ := h
    rfl
  · obtain ⟨n, v, d, rfl, n1, n5, h, q⟩ := h
    refine ⟨_, (pss_cons (ps_if (PW.pt (pw_or (pt_not (pt_val (pe_call (ok_is_whole T) (hr.mono (by decide)) (by rfl) T.g_is_whole T.F_is_whole.kp T.b_is_whole .nil pass0 (pa_cons (pv 0) pa_nil)))) (pw_or1 (pt_not (pt_chain op_le op_le pe_int (pv 0) (pe_glob (by rfl) T.k_MOST_COLUMNS.1 T.k_MOST_COLUMNS.2)))))) (pss_one ps_never) pss_nil)
      (pss_cons (ps_if (PW.pt (pw_or (pt_not (pt_val (pe_callB (call_isiK' K) (by rfl) T.z_isinstance (by decide +kernel) (pa_cons (pv 1) (pa_cons (pe_bltn (v := .ty "tuple") (by rfl) T.z_tuple (by decide +kernel) rfl) pa_nil))))) (pw_or1 (pt_not (pt_chain op_le op_le pe_int (pe_callB (call_lenK K) (by rfl) T.z_len PySem.boot_len (pa_cons (pv 1) pa_nil)) (pe_glob (by rfl) T.k_MOST_PATTERNS.1 T.k_MOST_PATTERNS.2)))))) (pss_one (ps_ret pe_bl)) pss_nil)
      (pss_cons (ps_set (i := 2) sc_is_list.nd rfl (.inl rfl) pe_non)
      (pss_cons (ps_for PassesOwn.never rfl (pi_tupK K (pv 1)) (pg_name (i := 3) sc_is_list.nd rfl (.inl rfl)) (pss_cons (ps_if (pt_not (pt_val (pe_call (ok_is_pattern T) hr (by rfl) T.g_is_pattern T.F_is_pattern.kp T.b_is_pattern .nil pass0 (pa_cons (pv 0) (pa_cons (pv 3) pa_nil))))) (pss_one (ps_ret pe_bl)) pss_nil)
      (pss_cons (ps_if (PW.pt (pw_and (pt_cmpR op_notN (pv 2) pe_non (nomark _)) (pw_and1 (pt_not (pt_cmpR (op_ltTK (K := K) hr.units0) (pv 2) (pv 3) (nomark _)))))) (pss_one (ps_ret pe_bl)) pss_nil)
      (pss_one (ps_set (i := 2) sc_is_list.nd rfl (.inl rfl) (pv 3))))))
      (pss_one (ps_ret (pe_cmpR (op_inT (K := K) (room65 hr)) (pe_call (ok_all_columns T) (hr.mono (by decide)) (by rfl) T.g_all_columns T.F_all_columns.kp T.b_all_columns .nil pass0 (pa_cons (pv 0) pa_nil)) (pv 1) (by rfl)))))))), ?_⟩
    refine ⟨_, rfl, spD_bl (.cons (.int _) .nil) rfl fun H1 s1 => ⟨_, rfl, ?_⟩⟩
    refine iteF ?_
    refine ⟨_, rfl, _, _, rfl, rfl, _, rfl, ?_⟩
    rw [decide_eq_true (show (1 : Int) ≤ n by omega)]
    refine iteT ?_
    refine ⟨_, _, rfl, rfl, _, rfl, ?_⟩
    rw [decide_eq_true (show (n : Int) ≤ 5 by omega)]
    refine iteF ?_
    have h := h.ext (.of s1)
    obtain ⟨t, ty, ki, kt, kb⟩ := h.kinds
    refine ⟨_, rfl, _, _, _, _, _, rfl, .ty _, ty, kt, _, rfl, ?_⟩
    cases hi : d.isTup with
    | false =>
      refine iteT (iteT ?_)
      have e : d.isList n = false := by cases d <;> first | rfl | cases hi
      rw [e] at q
      exact q H1 s1
    | true =>
      refine iteF ?_
      cases d with
      | tup ds =>
        obtain ⟨a, xs, rfl, hs, ha⟩ := h.tup_inv
        have hl := ha.length
        have eq0 : (Dt.tup ds).isList n = (decide (1 ≤ ds.length ∧ ds.length ≤ 12) && (lGo n none ds && ds.any fun d => decide (d.ints = rgI n))) := rfl
        rw [eq0] at q
        refine ⟨_, rfl, a, xs, rfl, .inr hs, _, _, rfl, rfl, _, rfl, ?_⟩
        have out : ¬ (1 ≤ ds.length ∧ ds.length ≤ 12) → Q (.bl false) H1 := fun z => by
          rw [decide_eq_false z] at q
          exact q H1 s1
        refine ite2 (fun h1 => ?_) (fun h1 => ?_)
        · have h1' : (1 : Int) ≤ xs.length := of_decide_eq_true h1
          refine ⟨_, _, rfl, rfl, _, rfl, ?_⟩
          refine ite2 (fun h2 => ?_) (fun h2 => ?_)
          · have h2' : ¬ (xs.length : Int) ≤ 12 := by simpa using h2
            exact out fun z => h2' (by omega)
          · have h2' : (xs.length : Int) ≤ 12 := by simpa using h2
            rw [decide_eq_true (show 1 ≤ ds.length ∧ ds.length ≤ 12 by omega), Bool.true_and] at q
            refine ⟨_, rfl, a, rfl, ⟨_, hs⟩, for_tup (xs := xs) (fun i σ H' => ∃ (last : Option (List Int)) (v2 : V) (y3 : Option V), σ = [some (.int n), some (.ref a), some v2, y3] ∧ Same H1 H' ∧ LastOk K H' v2 last ∧ lGo n none ds = lGo n last (ds.drop i) ∧ ∀ d ∈ ds.take i, d.isPat n = true)
              ⟨none, _, none, rfl, Same.refl _, rfl, rfl, fun d hd => by simp at hd⟩ (fun i σ H' _ ⟨_, _, _, _, sm, _⟩ => (Ext.of sm).sqT hs) ?_ ?_⟩
            · rintro i x σ H' hx ⟨last, v2, y3, rfl, sm, hlast, e, hpat⟩
              obtain ⟨dx, hdx, hx2⟩ := ha.get hx
              rw [drop_at hdx] at e
              refine ⟨_, rfl, _, rfl, spD_bl (.cons (.int _) (.cons (hx2.ext (.of sm)) .nil)) rfl fun H2 s2 => ⟨_, rfl, ?_⟩⟩
              have sm2 := (s1.trans sm).trans s2
              cases hp : dx.isPat n with
              | false =>
                refine iteT ?_
                have z : lGo n none ds = false := by
                  rw [e]
                  show (if dx.isPat n = true then _ else false) = false
                  rw [if_neg (by rw [hp]; exact Bool.false_ne_true)]
                rw [z] at q
                exact q H2 sm2
              | true =>
                refine iteF ?_
                obtain ⟨ps, rfl, _⟩ := isPat_ct hp
                have hx3 := hx2.ext (.of (sm.trans s2))
                have hpat' : ∀ d ∈ ds.take (i + 1), d.isPat n = true := fun d hd => by
                  rw [List.take_add_one, hdx] at hd
                  rcases List.mem_append.mp hd with hd | hd
                  · exact hpat d hd
                  · rw [List.mem_singleton.mp hd]
                    exact hp
                cases last with
                | none =>
                  have hl2 : v2 = .non := hlast
                  subst hl2
                  refine ⟨_, rfl, rfl, _, rfl, iteF ?_⟩
                  refine ⟨_, rfl, some ps, x, _, rfl, sm.trans s2, hx3, ?_, hpat'⟩
                  rw [e]
                  show (if (ctD ps).isPat n = true then lGo n (some (ctD ps).ints) _ else false) = _
                  rw [if_pos hp, ints_ct]
                | some l =>
                  have hl2 : Dh K H2 v2 (ctD l) := (show Dh K H' v2 (ctD l) from hlast).ext (.of s2)
                  obtain ⟨la, rfl, hla⟩ := ct_inv hl2
                  obtain ⟨xa, rfl, hxa⟩ := ct_inv hx3
                  refine ⟨_, rfl, rfl, _, rfl, ?_⟩
                  rw [decide_eq_false (show ¬ V.ref la = V.non from fun z => by cases z)]
                  refine iteT ?_
                  refine ⟨_, rfl, _, rfl, la, xa, l, ps, rfl, rfl, hla, hxa, _, rfl, ?_⟩
                  have e' : lGo n none ds = if HT.lexLt l ps = true then lGo n (some ps) (ds.drop (i + 1)) else false := by
                    rw [e]
                    show (if (ctD ps).isPat n = true then (if HT.lexLt l (ctD ps).ints = true then lGo n (some (ctD ps).ints) _ else false) else false) = _
                    rw [if_pos hp, ints_ct]
                  cases hlt : HT.lexLt l ps with
                  | true =>
                    refine iteF ?_
                    rw [if_pos hlt] at e'
                    exact ⟨_, rfl, some ps, _, _, rfl, sm.trans s2, hx3, e', hpat'⟩
                  | false =>
                    refine iteT ?_
                    rw [if_neg (by rw [hlt]; exact Bool.false_ne_true)] at e'
                    rw [e'] at q
                    exact q H2 sm2
            · rintro σ H' ⟨last, v2, y3, rfl, sm, hlast, e, hpat⟩
              rw [List.drop_eq_nil_of_le (by omega)] at e
              have e' : lGo n none ds = true := e
              rw [e', Bool.true_and] at q
              have hall : ∀ d ∈ ds, d.isPat n = true := fun d hd => hpat d (by rw [hl, List.take_length]; exact hd)
              refine ⟨_, rfl, n, rfl, by omega, fun v H3 s3 hv => ?_⟩
              have sm3 := sm.trans s3
              refine ⟨_, rfl, ctP (rgI n), (ds.map fun d => ctP d.ints), dp_ct hv, .tup ((Ext.of sm3).sqT hs) (dp_pats (ha.ext (.of sm3)) hall), shaped_ct _, shaped_pats _, ?_⟩
              rw [any_ct]
              exact q H3 (s1.trans sm3)
        · refine ⟨_, rfl, iteT ?_⟩
          exact out fun z => h1 (decide_eq_true (by omega))
      | _ => cases hi
end
end Fm
namespace Fm
open PySem PySem.Spec PyProof.Rows L2
section
variable {P : Program} {w : World} {K : PySem.W.Frag} {mg : Str → Option Value} {base : Heap}
/-- a pattern without a column -/
def cut1 (c : Int) (p : List Int) : List Int := p.filter fun x => decide (x ≠ c)
def strk (c : Int) (ps : List (List Int)) : List (List Int) := ps.map (cut1 c)
def patsD (ps : List (List Int)) : Dt := .tup (ps.map ctD)
theorem cut1_len (c : Int) (p : List Int) : (cut1 c p).length ≤ p.length := List.length_filter_le _ _
theorem take_filter {α : Type} {f : α → Bool} {l : List α} {j : Nat} {e : α} (he : l[j]? = some e) : (l.take (j + 1)).filter f = (l.take j).filter f ++ if f e = true then [e] else [] := by
  rw [List.take_add_one, he, List.filter_append]
  congr 1
  show List.filter _ [e] = _
  by_cases h : f e = true
  · rw [if_pos h, List.filter_cons, if_pos h]
    rfl
  · rw [if_neg h, List.filter_cons, if_neg h]
    rfl
def spLess (K : PySem.W.Frag) : Sp := fun vs H Q _ => ∃ (v : V) (p : List Int) (c : Int), vs = [v, .int c] ∧ Dh K H v (ctD p) ∧ p.length ≤ 1000 ∧ ∀ u H', Same H H' → Dh K H' u (ctD (cut1 c p)) → Q u H'
theorem ok_less (T : Txt K mg) : FnOk P w K mg base CX0 1 T.f_less T.d_less ["pattern", "column"] (spLess K) := by
  refine T.F_less.ok sc_less (fun vs H Q E h => ?_) (fun cdv A outer s H vs Q E hr h => ?_)
  · obtain ⟨_, _, _, rfl, _⟩ := h
    rfl
  · obtain ⟨v, p, c, rfl, hv, hl, q⟩ := h
    obtain ⟨a, rfl, ha⟩ := ct_inv hv
    refine ⟨_, (pss_one (ps_ret (pe_callTy (call_tupleK K) (by rfl) T.z_tuple (by decide +kernel) (pa_cons (pe_lc (own := [("other", 2)]) rfl sc_less.nd (pi_tupK K (pv 0)) (blkOk_by (N := N_less) (sc := defScope s_less) (by decide +kernel)) (fun _ _ _ _ _ => (pg_name (i := 2) sc_less.nd rfl (.inl rfl))) (fun _ _ _ _ _ => (pts_one (pt_cmpR op_ne (pv 2) (pv 1) (nomark _)))) (fun _ _ _ _ _ => (pv 2))) pa_nil)))), ?_⟩
    refine ⟨_, rfl, a, rfl, ⟨_, ha⟩, fun D nD => lc_tup (K := K) (xs := p.map V.int) (fun j H' => Same H H' ∧ H' D = some (.lst (((p.take j).filter fun x => decide (x ≠ c)).map V.int))) ⟨same_new nD, upd_same⟩ (fun j H' _ ⟨s', _⟩ => (Ext.of s').sqT ha) ?_ ?_⟩
    · rintro j x H1 hx ⟨s1, hD⟩
      rw [List.getElem?_map] at hx
      obtain ⟨z, hz, rfl⟩ := Option.map_eq_some_iff.mp hx
      have hf := take_filter (f := fun x => decide (x ≠ c)) hz
      refine ⟨rfl, ?_⟩
      have hlt : ∀ k, (((p.take k).filter fun x => decide (x ≠ c)).map V.int).length ≤ 1000 := fun k => by
        rw [List.length_map]
        have := List.length_filter_le (fun x => decide (x ≠ c)) (p.take k)
        have := List.length_take (i := k) (l := p)
        omega
      refine ⟨_, rfl, _, rfl, ⟨rfl, _, rfl, ?_⟩⟩
      by_cases e : z = c
      · rw [show decide (V.int z = V.int c) = true from decide_eq_true (by rw [e])]
        rw [if_neg (by rw [decide_eq_false (fun h => h e)]; decide), List.append_nil] at hf
        refine iteF ?_
        rw [hf]
        exact ⟨s1, hD⟩
      · rw [show decide (V.int z = V.int c) = false from decide_eq_false fun h => e (by injection h)]
        rw [if_pos (decide_eq_true e)] at hf
        refine iteT ?_
        refine ⟨_, rfl, _, hD, sz_small (by have := hlt j; omega), Same.put nD s1, ?_⟩
        rw [hf, List.map_append]
        exact upd_same
    · rintro H1 ⟨s1, hD⟩
      have hD : H1 D = some (.lst (((p.take p.length).filter fun x => decide (x ≠ c)).map V.int)) := by
        rw [← List.length_map (f := V.int)]
        exact hD
      rw [List.take_length] at hD
      exact ⟨D, _, rfl, .inl ⟨SqL.of hD, fun t nt => q _ _ (s1.trans (same_new nt)) (dh_ct (SqT.of upd_same))⟩⟩
/-- patterns in a tuple or in a list -/
def PsV (K : PySem.W.Frag) (H : Hp) (v : V) (ps : List (List Int)) : Prop := ∃ a L xs, v = .ref a ∧ SqA L K H a xs ∧ DhAll K H xs (ps.map ctD)
theorem PsV.of {H : Hp} {v : V} {ps : List (List Int)} (h : Dh K H v (patsD ps)) : PsV K H v ps := by
  obtain ⟨a, xs, e, ha, hx⟩ := h.tup_inv
  exact ⟨a, false, xs, e, ha, hx⟩
theorem PsV.same {H H' : Hp} {v : V} {ps : List (List Int)} (s : Same H H') : PsV K H v ps → PsV K H' v ps := fun ⟨a, L, xs, e, ha, hx⟩ => ⟨a, L, xs, e, Ext.sqTs s ha, hx.ext (.of s)⟩
def spStruck (K : PySem.W.Frag) : Sp := fun vs H Q _ => ∃ (v : V) (ps : List (List Int)) (c : Int), vs = [v, .int c] ∧ PsV K H v ps ∧ ps.length ≤ 1000 ∧ (∀ p ∈ ps, p.length ≤ 1000) ∧ ∀ u H', Same H H' → Dh K H' u (patsD (strk c ps)) → Q u H'
/-- what a comprehension over known things has collected -/
structure Got (K : PySem.W.Frag) (H0 : Hp) (D : Addr) (ds : List Dt) (H : Hp) : Prop where
  same : Same H0 H
  got : ∃ acc, H D = some (.lst acc) ∧ DhAll K H acc ds
theorem Got.put {H0 H H' : Hp} {D : Addr} {ds : List Dt} {d : Dt} {v : V} (nD : H0 D = none) (g : Got K H0 D ds H) (s : Same H H') (h : Dh K H' v d) (hl : ds.length ≤ 10000) : ∃ acc, H' D = some (.lst acc) ∧ acc.length < sizeLine ∧ Got K H0 D (ds ++ [d]) (upd H' D (.lst (acc ++ [v]))) := by
  obtain ⟨acc, h1, h2⟩ := g.got
  have hD := s _ _ h1
  have ep := Ext.put (ys := acc ++ [v]) hD
  refine ⟨acc, hD, sz_small (by have := h2.length; omega), Same.put nD (g.same.trans s), acc ++ [v], upd_same, ?_⟩
  have key : ∀ {xs : List V} {es : List Dt}, DhAll K (upd H' D (.lst (acc ++ [v]))) xs es → DhAll K (upd H' D (.lst (acc ++ [v]))) (xs ++ [v]) (es ++ [d]) := by
    intro xs es z
    induction es generalizing xs with
    | nil =>
      cases z
      exact .cons (h.ext ep) .nil
    | cons e es ih =>
      cases z with
      | cons z1 z2 => exact .cons z1 (ih z2)
  exact key ((h2.ext (.of s)).ext ep)
theorem Got.zero {H0 : Hp} {D : Addr} (nD : H0 D = none) : Got K H0 D [] (upd H0 D (.lst [])) := ⟨same_new nD, [], upd_same, .nil⟩
theorem dhAll_at {H : Hp} : ∀ {xs : List V} {ds : List Dt} {i : Nat} {x : V}, DhAll K H xs ds → xs[i]? = some x → ∃ d, ds[i]? = some d ∧ Dh K H x d
  | _, _, _, _, .nil, e => by simp at e
  | v :: _, _, 0, x, .cons (d := d) h _, e => by
    have e : v = x := by simpa using e
    subst e
    exact ⟨d, rfl, h⟩
  | _, _, i + 1, x, .cons _ t, e => dhAll_at (i := i) t (by simpa using e)
theorem ok_struck (T : Txt K mg) : FnOk P w K mg base CX0 2 T.f_struck T.d_struck ["parts", "column"] (spStruck K) := by
  refine T.F_struck.ok sc_struck (fun vs H Q E h => ?_) (fun cdv A outer s H vs Q E hr h => ?_)
  · obtain ⟨_, _, _, rfl, _⟩ := h
    rfl
  · obtain ⟨v, ps, c, rfl, hv, hl, hp, q⟩ := h
    obtain ⟨a, L, xs, rfl, ha, hx⟩ := hv
    have hxl : xs.length = ps.length := by rw [hx.length, List.length_map]
    refine ⟨_, (pss_one (ps_ret (pe_callTy (call_tupleK K) (by rfl) T.z_tuple (by decide +kernel) (pa_cons (pe_lc (own := [("pattern", 2)]) rfl sc_struck.nd (pi_seqK (K := K) (pv 0)) (blkOk_by (N := N_struck) (sc := defScope s_struck) (by decide +kernel)) (fun _ _ _ _ _ => (pg_name (i := 2) sc_struck.nd rfl (.inl rfl))) (fun _ _ _ _ _ => pts_nil) (fun _ _ _ _ _ => (pe_call (ok_less T) hr (by rfl) T.g_less T.F_less.kp T.b_less .nil pass0 (pa_cons (pv 2) (pa_cons (pv 1) pa_nil))))) pa_nil)))), ?_⟩
    refine ⟨_, rfl, a, L, xs, rfl, ha, fun D nD => lc_seq (K := K) (xs := xs) (fun j H' => Got K H D ((ps.take j).map fun p => ctD (cut1 c p)) H') (.zero nD) (fun j H' _ g => Ext.sqTs g.same ha) ?_ ?_⟩
    · rintro j x H1 hxj g
      obtain ⟨d, hd, hxd⟩ := dhAll_at hx hxj
      obtain ⟨p, hp1, rfl⟩ := map_at hd
      refine ⟨rfl, ?_⟩
      dsimp only [tYes]
      rw [if_pos rfl]
      refine ⟨_, rfl, _, rfl, _, p, c, rfl, hxd.ext (.of g.same), hp p (List.mem_of_getElem? hp1), fun u H2 s2 hu => ?_⟩
      obtain ⟨acc, h1, h2, h3⟩ := g.put nD s2 hu (by rw [List.length_map]; have := List.length_take (i := j) (l := ps); omega)
      refine ⟨acc, h1, h2, ?_⟩
      rw [List.take_add_one, hp1, List.map_append]
      exact h3
    · rintro H1 ⟨s1, acc, hD, hac⟩
      rw [hxl, List.take_length] at hac
      refine ⟨D, _, rfl, .inl ⟨SqL.of hD, fun t nt => q _ _ (s1.trans (same_new nt)) (.tup (SqT.of upd_same) ?_)⟩⟩
      unfold strk
      rw [List.map_map]
      exact hac.ext (.of (same_new nt))
def sub1 (p q : List Int) : Bool := p.all fun x => decide (x ∈ q)
theorem any_mem (q : List Int) (x : Int) : ((q.map PyData.int).any fun z => PyData.eqv z (.int x)) = decide (x ∈ q) := by
  induction q with
  | nil => rfl
  | cons y q ih =>
    rw [List.map_cons, List.any_cons, ih]
    have e : PyData.eqv (.int y) (.int x) = decide (y = x) := by
      rw [PyData.eqv]
      by_cases h : y = x
      · rw [decide_eq_true h, h]
        simp
      · rw [decide_eq_false h]
        simp [h]
    rw [e, ← Bool.decide_or]
    refine decide_eq_decide.mpr ?_
    rw [List.mem_cons]
    exact ⟨fun h => h.elim (fun h => .inl h.symm) .inr, fun h => h.elim (fun h => .inl h.symm) .inr⟩
theorem shaped_int (x : Int) : SeqAt.shaped (.int x) = true := shaped_of (n := 0) ⟨rfl, Nat.le_refl _⟩ (by decide)
def spIn (K : PySem.W.Frag) : Sp := fun vs H Q _ => ∃ (v u : V) (p q : List Int), vs = [v, u] ∧ Dh K H v (ctD p) ∧ Dh K H u (ctD q) ∧ p.length ≤ 1000 ∧ ∀ H', Same H H' → Q (.bl (sub1 p q)) H'
theorem ok_within (T : Txt K mg) : FnOk P w K mg base CX0 1 T.f_within T.d_within ["inner", "outer"] (spIn K) := by
  refine T.F_within.ok sc_within (fun vs H Q E h => ?_) (fun cdv A outer s H vs Q E hr h => ?_)
  · obtain ⟨_, _, _, _, rfl, _⟩ := h
    rfl
  · obtain ⟨v, u, p, q, rfl, hv, hu, hl, k⟩ := h
    obtain ⟨a, rfl, ha⟩ := ct_inv hv
    refine ⟨_, (pss_one (ps_ret (pe_callB (call_allK (K := K) rfl) (by rfl) T.z_all (by decide +kernel) (pa_cons (pe_lc (own := [("column", 2)]) rfl sc_within.nd (pi_tupK K (pv 0)) (blkOk_by (N := N_within) (sc := defScope s_within) (by decide +kernel)) (fun _ _ _ _ _ => (pg_name (i := 2) sc_within.nd rfl (.inl rfl))) (fun _ _ _ _ _ => pts_nil) (fun _ _ _ _ _ => (pe_cmpR (op_inT (K := K) (room65 hr)) (pv 2) (pv 1) (by rfl)))) pa_nil)))), ?_⟩
    refine ⟨_, rfl, a, rfl, ⟨_, ha⟩, fun D nD => lc_tup (K := K) (xs := p.map V.int) (fun j H' => Same H H' ∧ H' D = some (.lst (((p.take j).map fun x => decide (x ∈ q)).map V.bl))) ⟨same_new nD, upd_same⟩ (fun j H' _ ⟨s', _⟩ => (Ext.of s').sqT ha) ?_ ?_⟩
    · rintro j x H1 hx ⟨s1, hD⟩
      rw [List.getElem?_map] at hx
      obtain ⟨z, hz, rfl⟩ := Option.map_eq_some_iff.mp hx
      refine ⟨rfl, ?_⟩
      dsimp only [tYes]
      rw [if_pos rfl]
      refine ⟨_, rfl, _, rfl, .int z, q.map PyData.int, .int z, dp_ct (hu.ext (.of s1)), shaped_int z, shaped_ct q, ?_⟩
      rw [any_mem]
      refine ⟨_, hD, sz_small (by rw [List.length_map, List.length_map]; have := List.length_take (i := j) (l := p); omega), Same.put nD s1, ?_⟩
      rw [List.take_add_one, hz, List.map_append, List.map_append]
      exact upd_same
    · rintro H1 ⟨s1, hD⟩
      have hD : H1 D = some (.lst (((p.take p.length).map fun x => decide (x ∈ q)).map V.bl)) := by
        rw [← List.length_map (f := V.int)]
        exact hD
      rw [List.take_length] at hD
      refine ⟨D, _, rfl, SqL.of hD, ?_⟩
      have e : (p.map fun x => decide (x ∈ q)).all id = sub1 p q := by
        unfold sub1
        rw [List.all_map]
        rfl
      rw [e]
      exact k _ s1
end
end Fm
namespace Fm
open PySem PySem.Spec PyProof.Rows L2
section
variable {P : Program} {w : World} {K : PySem.W.Frag} {mg : Str → Option Value} {base : Heap}
/-- of each two patterns that hold a column one lies within the other -/
def Nest (c : Int) (ps : List (List Int)) : Prop := ∀ p ∈ ps, ∀ q ∈ ps, c ∈ p → c ∈ q → sub1 p q = true ∨ sub1 q p = true
instance (c : Int) (ps : List (List Int)) : Decidable (Nest c ps) := inferInstanceAs (Decidable (∀ p ∈ ps, ∀ q ∈ ps, c ∈ p → c ∈ q → sub1 p q = true ∨ sub1 q p = true))
theorem nodup_len {α : Type} [DecidableEq α] : ∀ (l D : List α), l.Nodup → (∀ x ∈ l, x ∈ D) → l.length ≤ D.length
  | [], _, _, _ => Nat.zero_le _
  | x :: l, D, hn, hs => by
    have h' := List.nodup_cons.mp hn
    have hx := hs x (List.mem_cons_self ..)
    have ih := nodup_len l (D.erase x) h'.2 fun y hy => (List.mem_erase_of_ne (show y ≠ x from by
      intro e
      rw [e] at hy
      exact h'.1 hy)).mpr (hs y (List.mem_cons_of_mem _ hy))
    rw [List.length_erase_of_mem hx] at ih
    have := List.length_pos_of_mem hx
    rw [List.length_cons]
    omega
theorem sub1_iff {p q : List Int} : sub1 p q = true ↔ ∀ x ∈ p, x ∈ q := by
  unfold sub1
  rw [List.all_eq_true]
  exact ⟨fun h x hx => of_decide_eq_true (h x hx), fun h x hx => decide_eq_true (h x hx)⟩
theorem sub1_back {p q : List Int} (hp : p.Nodup) (hl : q.length ≤ p.length) (h : sub1 p q = true) : sub1 q p = true := by
  rw [sub1_iff] at h ⊢
  intro x hx
  by_cases hm : x ∈ p
  · exact hm
  · have := nodup_len (x :: p) q (List.nodup_cons.mpr ⟨hm, hp⟩) fun y hy => by
      rcases List.mem_cons.mp hy with u | u
      · rw [u]; exact hx
      · exact h y u
    rw [List.length_cons] at this
    omega
theorem chain_all {L : List (List Int)} (nd : ∀ p ∈ L, p.Nodup) (pw : L.Pairwise fun x y => x.length ≤ y.length) :
    (((List.range (L.length - 1)).map fun k => sub1 (L.getD k []) (L.getD (k + 1) [])).all id = true) ↔ ∀ p ∈ L, ∀ q ∈ L, sub1 p q = true ∨ sub1 q p = true := by
  have gd : ∀ k, (h : k < L.length) → L.getD k [] = L[k] := fun k h => by
    rw [List.getD_eq_getElem?_getD, List.getElem?_eq_getElem h]
    rfl
  rw [List.all_map, List.all_eq_true]
  constructor
  · intro h
    have step : ∀ k, (h1 : k + 1 < L.length) → sub1 L[k] L[k + 1] = true := fun k h1 => by
      have z := h k (List.mem_range.mpr (by omega))
      have z : sub1 (L.getD k []) (L.getD (k + 1) []) = true := z
      rw [gd k (by omega), gd (k + 1) h1] at z
      exact z
    have up : ∀ (d i : Nat), (h1 : i + d < L.length) → sub1 (L[i]'(by omega)) L[i + d] = true := by
      intro d
      induction d with
      | zero => exact fun i h1 => sub1_iff.mpr fun x hx => hx
      | succ d ih => exact fun i h1 => sub1_iff.mpr fun x hx => sub1_iff.mp (step (i + d) h1) x (sub1_iff.mp (ih i (by omega)) x hx)
    intro p hp q hq
    obtain ⟨i, hi, rfl⟩ := List.mem_iff_getElem.mp hp
    obtain ⟨j, hj, rfl⟩ := List.mem_iff_getElem.mp hq
    rcases Nat.le_total i j with u | u
    · obtain ⟨d, rfl⟩ := Nat.exists_eq_add_of_le u
      exact .inl (up d i hj)
    · obtain ⟨d, rfl⟩ := Nat.exists_eq_add_of_le u
      exact .inr (up d j hi)
  · intro h k hk
    have hk := List.mem_range.mp hk
    have h1 : k + 1 < L.length := by omega
    show sub1 (L.getD k []) (L.getD (k + 1) []) = true
    rw [gd k (by omega), gd (k + 1) h1]
    rcases h L[k] (List.getElem_mem _) L[k + 1] (List.getElem_mem _) with u | u
    · exact u
    · exact sub1_back (nd _ (List.getElem_mem _)) (List.pairwise_iff_getElem.mp pw k (k + 1) (by omega) h1 (by omega)) u
def spNest (K : PySem.W.Frag) : Sp := fun vs H Q _ => ∃ (v : V) (ps : List (List Int)) (c : Int), vs = [v, .int c] ∧ PsV K H v ps ∧ ps.length ≤ 1000 ∧ (∀ p ∈ ps, p.length ≤ 1000 ∧ p.Nodup) ∧ ∀ H', Same H H' → Q (.bl (decide (Nest c ps))) H'
theorem ok_is_nest (T : Txt K mg) : FnOk P w K mg base CX0 2 T.f_is_nest T.d_is_nest ["parts", "column"] (spNest K) := by
  refine T.F_is_nest.ok sc_is_nest (fun vs H Q E h => ?_) (fun cdv A outer s H vs Q E hr h => ?_)
  · obtain ⟨_, _, _, rfl, _⟩ := h
    rfl
  · obtain ⟨v, ps, c, rfl, hv, hl, hp, q⟩ := h
    obtain ⟨a, L, xs, rfl, ha, hx⟩ := hv
    have hxl : xs.length = ps.length := by rw [hx.length, List.length_map]
    refine ⟨_, (pss_cons (ps_set (i := 2) sc_is_nest.nd rfl (.inl rfl) (pe_sortLen (K := K) (by rfl) T.z_sorted (by rfl) T.z_len (pa_cons (pe_lc (own := [("pattern", 3)]) rfl sc_is_nest.nd (pi_seqK (K := K) (pv 0)) (blkOk_by (N := N_is_nest) (sc := defScope s_is_nest) (by decide +kernel)) (fun _ _ _ _ _ => (pg_name (i := 3) sc_is_nest.nd rfl (.inl rfl))) (fun _ _ _ _ _ => (pts_one (pt_cmpR (op_inT (K := K) (room65 hr)) (pv 1) (pv 3) (by rfl)))) (fun _ _ _ _ _ => (pv 3))) pa_nil)))
      (pss_one (ps_ret (pe_callB (call_allK (K := K) rfl) (by rfl) T.z_all (by decide +kernel) (pa_cons (pe_lc (own := [("inner", 4), ("outer", 5)]) rfl sc_is_nest.nd (pi_zip (by rfl) T.z_zip (pa_cons (pv 2) (pa_cons (pe_slice (sl_listK K) (pv 2) (po_some pe_int) po_none) pa_nil))) (blkOk_by (N := N_is_nest) (sc := defScope s_is_nest) (by decide +kernel)) (fun _ _ _ _ _ => (pg_tupK K (n := 2) rfl (pgs_cons (pg_name (i := 4) sc_is_nest.nd rfl (.inl rfl)) (pgs_cons (pg_name (i := 5) sc_is_nest.nd rfl (.inl rfl)) pgs_nil)))) (fun _ _ _ _ _ => pts_nil) (fun _ _ _ _ _ => (pe_call (ok_within T) hr (by rfl) T.g_within T.F_within.kp T.b_within .nil pass0 (pa_cons (pv 4) (pa_cons (pv 5) pa_nil))))) pa_nil))))), ?_⟩
    refine ⟨_, rfl, a, L, xs, rfl, ha, fun D nD => lc_seq (K := K) (xs := xs) (fun j H' => ∃ N : List (Addr × List Int), Same H H' ∧ H' D = some (.lst (N.map fun n => V.ref n.1)) ∧ N.map (·.2) = (ps.take j).filter (fun p => decide (c ∈ p)) ∧ ∀ n ∈ N, SqT K H' n.1 (n.2.map V.int)) ⟨[], same_new nD, upd_same, rfl, fun n hn => by cases hn⟩ (fun j H' _ ⟨_, s', _⟩ => Ext.sqTs s' ha) ?_ ?_⟩
    · rintro j x H1 hxj ⟨N, s1, hD, hN, hS⟩
      obtain ⟨d, hd, hxd⟩ := dhAll_at hx hxj
      obtain ⟨p, hp1, rfl⟩ := map_at hd
      obtain ⟨b, rfl, hb⟩ := ct_inv (hxd.ext (.of s1))
      have hf := take_filter (f := fun p => decide (c ∈ p)) hp1
      have hNl : N.length ≤ 1000 := by
        have z := congrArg List.length hN
        rw [List.length_map] at z
        have := List.length_filter_le (fun p => decide (c ∈ p)) (ps.take j)
        have := List.length_take (i := j) (l := ps)
        omega
      refine ⟨rfl, _, rfl, _, rfl, .int c, p.map PyData.int, .int c, dp_ct (dh_ct hb), shaped_int c, shaped_ct p, ?_⟩
      rw [any_mem]
      refine ⟨_, rfl, ?_⟩
      by_cases e : c ∈ p
      · rw [decide_eq_true e]
        dsimp only
        rw [if_pos rfl]
        have ep := Ext.put (ys := N.map (fun n => V.ref n.1) ++ [.ref b]) hD
        refine ⟨_, rfl, _, hD, sz_small (by rw [List.length_map]; omega), N ++ [(b, p)], Same.put nD s1, ?_, ?_, fun n hn => ?_⟩
        · rw [List.map_append]
          exact upd_same
        · rw [List.map_append, hN, hf, if_pos (decide_eq_true e)]
          rfl
        · rcases List.mem_append.mp hn with u | u
          · exact ep.sqT (hS n u)
          · rw [List.mem_singleton.mp u]
            exact ep.sqT hb
      · rw [decide_eq_false e]
        dsimp only
        rw [if_neg (by decide)]
        refine ⟨N, s1, hD, ?_, hS⟩
        rw [hN, hf, if_neg (by rw [decide_eq_false e]; decide), List.append_nil]
    · rintro H1 ⟨N, s1, hD, hN, hS⟩
      rw [hxl, List.take_length] at hN
      refine ⟨D, N.map fun n => (n.1, n.2.map V.int), rfl, by rw [List.map_map]; exact SqL.of hD, fun m hm => ?_, fun M' d pm pw nd => ?_⟩
      · obtain ⟨n, hn, rfl⟩ := List.mem_map.mp hm
        exact hS n hn
      obtain ⟨N', pN, rfl⟩ := perm_map_inv pm N rfl
      have pw' : N'.Pairwise fun x y => x.2.length ≤ y.2.length := by
        rw [List.pairwise_map] at pw
        exact pw.imp fun {x y} h => by
          have h : (x.2.map V.int).length ≤ (y.2.map V.int).length := h
          rw [List.length_map, List.length_map] at h
          exact h
      rw [List.map_map, show (N'.map ((fun m : Addr × List V => V.ref m.1) ∘ fun n : Addr × List Int => (n.1, n.2.map V.int))) = N'.map fun n => V.ref n.1 from rfl]
      have s2 : Same H1 (upd H1 d (.lst (N'.map fun n => V.ref n.1))) := same_new nd
      have hd2 : (upd H1 d (.lst (N'.map fun n => V.ref n.1))) d = some (.lst (N'.map fun n => V.ref n.1)) := upd_same
      generalize upd H1 d (.lst (N'.map fun n => V.ref n.1)) = H2 at s2 hd2 ⊢
      have hS2 : ∀ n ∈ N', SqT K H2 n.1 (n.2.map V.int) := fun n hn => (Ext.of s2).sqT (hS n (pN.mem_iff.mp hn))
      have s02 := s1.trans s2
      dsimp only [tNext, tSeq, tAsg, gName, List.set_cons_succ, List.set_cons_zero]
      refine ⟨_, rfl, _, rfl, 1, rfl, d, _, rfl, SqL.of hd2, fun d2 nd2 => ?_⟩
      have ec : cutV (N'.map fun n => V.ref n.1) (some 1) none = (N'.drop 1).map fun n => V.ref n.1 := by
        unfold cutV
        rw [HT.sIx_none, show (1 : Int) = ((1 : Nat) : Int) from rfl, HT.sIx_nat, List.map_drop]
        rcases Nat.lt_or_ge (N'.map fun n => V.ref n.1).length 1 with u | u
        · rw [List.drop_eq_nil_of_le (by omega), List.drop_eq_nil_of_le (by omega), List.take_nil]
        · rw [Nat.min_eq_left u]
          exact List.take_of_length_le (by rw [List.length_drop]; omega)
      rw [ec]
      have s3 : Same H2 (upd H2 d2 (.lst ((N'.drop 1).map fun n => V.ref n.1))) := same_new nd2
      have hd3 : (upd H2 d2 (.lst ((N'.drop 1).map fun n => V.ref n.1))) d2 = some (.lst ((N'.drop 1).map fun n => V.ref n.1)) := upd_same
      generalize upd H2 d2 (.lst ((N'.drop 1).map fun n => V.ref n.1)) = H3 at s3 hd3 ⊢
      refine ⟨d, d2, _, _, rfl, SqL.of (s3 _ _ hd2), SqL.of hd3, fun D3 nD3 => ?_⟩
      have s03 := s02.trans s3
      have hS3 : ∀ n ∈ N', SqT K H3 n.1 (n.2.map V.int) := fun n hn => (Ext.of s3).sqT (hS2 n hn)
      have hlen : N'.length = (ps.filter fun p => decide (c ∈ p)).length := by
        rw [pN.length_eq, ← List.length_map (f := fun n : Addr × List Int => n.2), hN]
      refine lc_it (walk_zip (K := K) (xs := N'.map fun n => V.ref n.1) (ys := (N'.drop 1).map fun n => V.ref n.1) (n := N'.length - 1) (by rw [List.length_map, List.length_map, List.length_drop]; omega)) (fun j H' => Same H3 H' ∧ H' D3 = some (.lst (((List.range j).map fun k => sub1 ((N'.map (·.2)).getD k []) ((N'.map (·.2)).getD (k + 1) [])).map V.bl))) ⟨same_new nD3, upd_same⟩ (fun j H' _ ⟨s', _⟩ => ⟨SqL.of (s' _ _ (s3 _ _ hd2)), SqL.of (s' _ _ hd3)⟩) ?_ ?_
      · rintro j x H4 H5 hj ⟨s4, hD4⟩ ⟨t, y1, y2, rfl, nt, rfl, h1, h2⟩
        refine ⟨t, _, rfl, SqT.of upd_same, rfl, _, _, rfl, _, _, rfl, rfl, rfl, ?_⟩
        dsimp only [tYes]
        rw [if_pos rfl]
        dsimp only at h1 h2
        rw [List.getElem?_map] at h1 h2
        obtain ⟨n1, hn1, rfl⟩ := Option.map_eq_some_iff.mp h1
        obtain ⟨n2, hn2, rfl⟩ := Option.map_eq_some_iff.mp h2
        rw [List.getElem?_drop, Nat.add_comm] at hn2
        have s5 : Same H4 (upd H4 t (.tup [V.ref n1.1, V.ref n2.1])) := same_new nt
        have s45 := s4.trans s5
        have hD5 := s5 _ _ hD4
        generalize upd H4 t (.tup [V.ref n1.1, V.ref n2.1]) = H5 at s45 hD5 ⊢
        have m1 := List.mem_of_getElem? hn1
        have m2 := List.mem_of_getElem? hn2
        have lenp : n1.2.length ≤ 1000 := by
          have : n1.2 ∈ ps.filter fun p => decide (c ∈ p) := hN ▸ List.mem_map_of_mem (f := fun n : Addr × List Int => n.2) (pN.mem_iff.mp m1)
          exact (hp _ (List.mem_filter.mp this).1).1
        refine ⟨_, rfl, _, rfl, _, _, n1.2, n2.2, rfl, dh_ct ((Ext.of s45).sqT (hS3 n1 m1)), dh_ct ((Ext.of s45).sqT (hS3 n2 m2)), lenp, fun H6 s6 => ?_⟩
        have hfl := List.length_filter_le (fun p => decide (c ∈ p)) ps
        refine ⟨_, s6 _ _ hD5, sz_small (by rw [List.length_map, List.length_map, List.length_range]; omega), Same.put nD3 (s45.trans s6), ?_⟩
        rw [upd_same, List.range_succ, List.map_append, List.map_append]
        have g1 : (N'.map (·.2)).getD j [] = n1.2 := by
          rw [List.getD_eq_getElem?_getD, List.getElem?_map, hn1]
          rfl
        have g2 : (N'.map (·.2)).getD (j + 1) [] = n2.2 := by
          rw [List.getD_eq_getElem?_getD, List.getElem?_map, hn2]
          rfl
        rw [List.map_cons, List.map_nil, List.map_cons, List.map_nil, g1, g2]
      · rintro H4 ⟨s4, hD4⟩
        refine ⟨D3, _, rfl, SqL.of hD4, ?_⟩
        have em : ∀ p, p ∈ N'.map (·.2) ↔ p ∈ ps ∧ c ∈ p := fun p => by
          rw [(pN.map (·.2)).mem_iff, hN, List.mem_filter]
          exact ⟨fun ⟨h1, h2⟩ => ⟨h1, of_decide_eq_true h2⟩, fun ⟨h1, h2⟩ => ⟨h1, decide_eq_true h2⟩⟩
        have ch := chain_all (L := N'.map (·.2)) (fun p hp' => (hp p ((em p).mp hp').1).2) (List.pairwise_map.mpr pw')
        rw [List.length_map] at ch
        have eb : ((List.range (N'.length - 1)).map fun k => sub1 ((N'.map (·.2)).getD k []) ((N'.map (·.2)).getD (k + 1) [])).all id = decide (Nest c ps) := by
          rw [Bool.eq_iff_iff, ch, decide_eq_true_iff]
          exact ⟨fun h p hp' q hq' c1 c2 => h p ((em p).mpr ⟨hp', c1⟩) q ((em q).mpr ⟨hq', c2⟩), fun h p hp' q hq' => h p ((em p).mp hp').1 q ((em q).mp hq').1 ((em p).mp hp').2 ((em q).mp hq').2⟩
        rw [eb]
        exact q _ (s03.trans s4)
end
end Fm
namespace Fm
open PySem PySem.Spec PyProof.Rows L2
section
variable {P : Program} {w : World} {K : PySem.W.Frag} {mg : Str → Option Value} {base : Heap}
def ords : Nat → List (List Int) → List Int → List (List Int)
  | 0, _, _ => [[]]
  | n + 1, ps, left => left.flatMap fun c => if Nest c ps then (ords n (strk c ps) (cut1 c left)).map (c :: ·) else []
def Val : List (List Int) → List Int → Prop
  | _, [] => True
  | ps, c :: r => Nest c ps ∧ Val (strk c ps) r
theorem mem_cut1 {c x : Int} {p : List Int} : x ∈ cut1 c p ↔ x ∈ p ∧ x ≠ c := by
  unfold cut1
  rw [List.mem_filter]
  exact ⟨fun ⟨h1, h2⟩ => ⟨h1, of_decide_eq_true h2⟩, fun ⟨h1, h2⟩ => ⟨h1, decide_eq_true h2⟩⟩
theorem cut1_nodup {c : Int} {p : List Int} (h : p.Nodup) : (cut1 c p).Nodup := List.Nodup.sublist List.filter_sublist h
theorem cut1_comm (c d : Int) (p : List Int) : cut1 c (cut1 d p) = cut1 d (cut1 c p) := by
  unfold cut1
  rw [List.filter_filter, List.filter_filter]
  congr 1
  funext x
  exact Bool.and_comm _ _
theorem strk_comm (c d : Int) (ps : List (List Int)) : strk c (strk d ps) = strk d (strk c ps) := by
  unfold strk
  rw [List.map_map, List.map_map]
  exact List.map_congr_left fun p _ => cut1_comm c d p
theorem strk_idem (c : Int) (ps : List (List Int)) : strk c (strk c ps) = strk c ps := by
  unfold strk
  rw [List.map_map]
  refine List.map_congr_left fun p _ => ?_
  show cut1 c (cut1 c p) = cut1 c p
  unfold cut1
  rw [List.filter_filter]
  congr 1
  funext x
  exact Bool.and_self _
theorem Nest.her {c d : Int} {ps : List (List Int)} (h : Nest d ps) : Nest d (strk c ps) := fun p hp q hq dp dq => by
  obtain ⟨p', hp', rfl⟩ := List.mem_map.mp hp
  obtain ⟨q', hq', rfl⟩ := List.mem_map.mp hq
  have lift : ∀ {p q : List Int}, sub1 p q = true → sub1 (cut1 c p) (cut1 c q) = true := fun {p q} z => sub1_iff.mpr fun x hx => by
    obtain ⟨h1, h2⟩ := mem_cut1.mp hx
    exact mem_cut1.mpr ⟨sub1_iff.mp z x h1, h2⟩
  exact (h p' hp' q' hq' (mem_cut1.mp dp).1 (mem_cut1.mp dq).1).imp lift lift
theorem Nest.sub {c : Int} {ps qs : List (List Int)} (h : Nest c ps) (hs : ∀ q ∈ qs, q ∈ ps) : Nest c qs := fun p hp q hq => h p (hs p hp) q (hs q hq)
theorem strk_sub {c : Int} {ps qs : List (List Int)} (hs : ∀ q ∈ qs, q ∈ ps) : ∀ q ∈ strk c qs, q ∈ strk c ps := fun q hq => by
  obtain ⟨z, hz, rfl⟩ := List.mem_map.mp hq
  exact List.mem_map_of_mem (hs z hz)
theorem Val.sub : ∀ {r : List Int} {ps qs : List (List Int)}, Val ps r → (∀ q ∈ qs, q ∈ ps) → Val qs r
  | [], _, _, _, _ => True.intro
  | _ :: _, _, _, ⟨h1, h2⟩, hs => ⟨h1.sub hs, h2.sub (strk_sub hs)⟩
theorem Val.her {c : Int} : ∀ {r : List Int} {ps : List (List Int)}, Val ps r → Val (strk c ps) (cut1 c r)
  | [], _, _ => True.intro
  | d :: r, ps, ⟨h1, h2⟩ => by
    by_cases e : d = c
    · subst e
      have z : cut1 d (d :: r) = cut1 d r := by
        unfold cut1
        rw [List.filter_cons, if_neg (by simp)]
      rw [z, ← strk_idem d ps]
      exact h2.her
    · have z : cut1 c (d :: r) = d :: cut1 c r := by
        unfold cut1
        rw [List.filter_cons, if_pos (decide_eq_true e)]
      rw [z]
      refine ⟨h1.her, ?_⟩
      rw [strk_comm]
      exact h2.her
theorem cut1_len_of {c : Int} : ∀ {p : List Int}, p.Nodup → c ∈ p → (cut1 c p).length + 1 = p.length
  | [], _, h => by cases h
  | x :: p, nd, h => by
    rw [List.nodup_cons] at nd
    by_cases e : x = c
    · subst e
      have z : cut1 x (x :: p) = p := by
        unfold cut1
        rw [List.filter_cons, if_neg (by simp)]
        exact List.filter_eq_self.mpr fun y hy => decide_eq_true fun z => nd.1 (z ▸ hy)
      rw [z]
      rfl
    · have z : cut1 c (x :: p) = x :: cut1 c p := by
        unfold cut1
        rw [List.filter_cons, if_pos (decide_eq_true e)]
      rw [z, List.length_cons, List.length_cons, cut1_len_of nd.2 ((List.mem_cons.mp h).resolve_left fun z => e z.symm)]
theorem cut1_cons {c : Int} {r : List Int} (h : (c :: r).Nodup) : cut1 c (c :: r) = r := by
  unfold cut1
  rw [List.filter_cons, if_neg (by simp)]
  exact List.filter_eq_self.mpr fun y hy => decide_eq_true fun z => (List.nodup_cons.mp h).1 (z ▸ hy)
theorem perm_cut {c : Int} {p : List Int} (nd : p.Nodup) (h : c ∈ p) : (c :: cut1 c p).Perm p :=
  (List.perm_ext_iff_of_nodup (List.nodup_cons.mpr ⟨fun z => (mem_cut1.mp z).2 rfl, cut1_nodup nd⟩) nd).mpr fun x => by
    rw [List.mem_cons, mem_cut1]
    constructor
    · rintro (rfl | ⟨h, _⟩)
      · assumption
      · exact h
    · intro hx
      by_cases e : x = c
      · exact .inl e
      · exact .inr ⟨hx, e⟩
theorem mem_ords : ∀ {n : Nat} {ps : List (List Int)} {left : List Int} {r : List Int}, left.length = n → left.Nodup → (r ∈ ords n ps left ↔ r.Perm left ∧ Val ps r)
  | 0, ps, left, r, hl, nd => by
    have e : left = [] := List.eq_nil_of_length_eq_zero hl
    subst e
    show r ∈ [[]] ↔ _
    rw [List.mem_singleton]
    constructor
    · rintro rfl
      exact ⟨.refl _, True.intro⟩
    · exact fun h => h.1.eq_nil
  | n + 1, ps, left, r, hl, nd => by
    show r ∈ left.flatMap _ ↔ _
    rw [List.mem_flatMap]
    constructor
    · rintro ⟨c, hc, h⟩
      by_cases hn : Nest c ps
      · rw [if_pos hn] at h
        obtain ⟨r', hr, rfl⟩ := List.mem_map.mp h
        have hlc := cut1_len_of nd hc
        obtain ⟨h1, h2⟩ := (mem_ords (n := n) (by omega) (cut1_nodup nd)).mp hr
        exact ⟨(h1.cons c).trans (perm_cut nd hc), hn, h2⟩
      · rw [if_neg hn] at h
        cases h
    · rintro ⟨hp, hv⟩
      cases r with
      | nil => rw [← hp.length_eq] at hl; cases hl
      | cons c r =>
        have hc : c ∈ left := hp.mem_iff.mp (List.mem_cons_self ..)
        refine ⟨c, hc, ?_⟩
        rw [if_pos hv.1]
        have ndr : (c :: r).Nodup := hp.nodup_iff.mpr nd
        have hlc := cut1_len_of nd hc
        refine List.mem_map.mpr ⟨r, (mem_ords (n := n) (by omega) (cut1_nodup nd)).mpr ⟨?_, hv.2⟩, rfl⟩
        have z := hp.filter fun x => decide (x ≠ c)
        have z : (cut1 c (c :: r)).Perm (cut1 c left) := z
        rw [cut1_cons ndr] at z
        exact z
theorem ords_her {n : Nat} {ps : List (List Int)} {left r : List Int} {c : Int} (hl : left.length = n + 1) (nd : left.Nodup) (hc : c ∈ left) (h : r ∈ ords (n + 1) ps left) : cut1 c r ∈ ords n (strk c ps) (cut1 c left) := by
  obtain ⟨h1, h2⟩ := (mem_ords hl nd).mp h
  have := cut1_len_of nd hc
  exact (mem_ords (by omega) (cut1_nodup nd)).mpr ⟨h1.filter _, h2.her⟩
/-- the least order begins with the least column that can be struck -/
theorem ords_head {n : Nat} {ps : List (List Int)} {l1 l2 : List Int} {c : Int} (hl : (l1 ++ c :: l2).length = n + 1) (nd : (l1 ++ c :: l2).Nodup) (h1 : ∀ d ∈ l1, ¬ Nest d ps) (hc : Nest c ps) :
    (ords (n + 1) ps (l1 ++ c :: l2)).head? = (ords n (strk c ps) (cut1 c (l1 ++ c :: l2))).head?.map (c :: ·) := by
  have e1 : ∀ (f : Int → List (List Int)) (l : List Int), (∀ d ∈ l, f d = []) → l.flatMap f = [] := fun f l h => List.flatMap_eq_nil_iff.mpr h
  cases hd : ords n (strk c ps) (cut1 c (l1 ++ c :: l2)) with
  | nil =>
    have : ords (n + 1) ps (l1 ++ c :: l2) = [] := List.eq_nil_iff_forall_not_mem.mpr fun r hr => by
      have z := ords_her hl nd (c := c) (List.mem_append_right _ (List.mem_cons_self ..)) hr
      rw [hd] at z
      cases z
    rw [this]
    rfl
  | cons r rs =>
    unfold ords
    rw [List.flatMap_append, e1 _ l1 fun d hd => if_neg (h1 d hd), List.nil_append, List.flatMap_cons, if_pos hc, hd]
    rfl
theorem ords_none {n : Nat} {ps : List (List Int)} {left : List Int} (h1 : ∀ d ∈ left, ¬ Nest d ps) : ords (n + 1) ps left = [] :=
  List.flatMap_eq_nil_iff.mpr fun d hd => if_neg (h1 d hd)
end
end Fm
namespace Fm
open PySem PySem.Spec PyProof.Rows L2
section
variable {P : Program} {w : World} {K : PySem.W.Frag} {mg : Str → Option Value} {base : Heap}
def OrdV (K : PySem.W.Frag) (H : Hp) (v : V) : Option (List Int) → Prop
  | none => v = .non
  | some r => Dh K H v (ctD r)
def PsOk (ps : List (List Int)) : Prop := ps.length ≤ 1000 ∧ ∀ p ∈ ps, p.length ≤ 1000 ∧ p.Nodup
theorem PsOk.strk {c : Int} {ps : List (List Int)} (h : PsOk ps) : PsOk (strk c ps) := ⟨by unfold Fm.strk; rw [List.length_map]; exact h.1, fun p hp => by
  obtain ⟨q, hq, rfl⟩ := List.mem_map.mp hp
  have := cut1_len c q
  exact ⟨by have := (h.2 q hq).1; omega, cut1_nodup (h.2 q hq).2⟩⟩
def spOrd (K : PySem.W.Frag) (n : Nat) : Sp := fun vs H Q _ => ∃ (v u : V) (ps : List (List Int)) (left : List Int), vs = [v, u] ∧ PsV K H v ps ∧ Dh K H u (ctD left) ∧ PsOk ps ∧ left.Nodup ∧ left.length < n ∧ left.length ≤ 1000 ∧
  ∀ w H', Same H H' → OrdV K H' w (ords left.length ps left).head? → Q w H'
theorem ok_order_ofN (T : Txt K mg) : ∀ n : Nat, FnOk P w K mg base CX0 (n + 3) T.f_order_of T.d_order_of ["parts", "left"] (spOrd K n)
  | 0 => by
    refine T.F_order_of.ok sc_order_of (fun vs H Q E h => ?_) (fun cdv A outer s H vs Q E hr h => ?_)
    · obtain ⟨_, _, _, _, rfl, _⟩ := h
      rfl
    · obtain ⟨_, _, _, _, _, _, _, _, _, h, _⟩ := h
      exact absurd h (Nat.not_lt_zero _)
  | n + 1 => by
    have ih := ok_order_ofN T n
    refine T.F_order_of.ok sc_order_of (fun vs H Q E h => ?_) (fun cdv A outer s H vs Q E hr h => ?_)
    · obtain ⟨_, _, _, _, rfl, _⟩ := h
      rfl
    · obtain ⟨v, u, ps, left, rfl, hv, hu, pok, nd, hn, hl, q⟩ := h
      obtain ⟨a, rfl, ha⟩ := ct_inv hu
      refine ⟨_, (pss_cons (ps_if (pt_not (pt_truth (pv 1) (fun _ => rfl))) (pss_one (ps_ret (pe_tup pa_nil))) pss_nil)
      (pss_cons (ps_for PassesOwn.never rfl (pi_tupK K (pv 1)) (pg_name (i := 2) sc_order_of.nd rfl (.inl rfl)) (pss_one (ps_if (pt_val (pe_call (ok_is_nest T) (hr.mono (by omega)) (by rfl) T.g_is_nest T.F_is_nest.kp T.b_is_nest .nil pass0 (pa_cons (pv 0) (pa_cons (pv 2) pa_nil)))) (pss_cons (ps_set (i := 3) sc_order_of.nd rfl (.inl rfl) (pe_call ih hr (by rfl) T.g_order_of T.F_order_of.kp T.b_order_of .nil pass0 (pa_cons (pe_call (ok_struck T) (hr.mono (by omega)) (by rfl) T.g_struck T.F_struck.kp T.b_struck .nil pass0 (pa_cons (pv 0) (pa_cons (pv 2) pa_nil))) (pa_cons (pe_call (ok_less T) (hr.mono (by omega)) (by rfl) T.g_less T.F_less.kp T.b_less .nil pass0 (pa_cons (pv 1) (pa_cons (pv 2) pa_nil))) pa_nil))))
      (pss_one (ps_ret (pe_ifExp (pt_cmpR op_isN (pv 3) pe_non (nomark _)) pe_non (pe_op (op_catK K) (pe_tup (pa_cons (pv 2) pa_nil)) (pv 3)))))) pss_nil)))
      (pss_one (ps_ret pe_non)))), ?_⟩
      refine ⟨_, rfl, _, .inr (.inl ⟨_, ha, rfl⟩), ?_⟩
      cases left with
      | nil =>
        refine iteT ?_
        exact ⟨by show 0 ≤ sizeLine; decide, fun p np => q (.ref p) _ (same_new np) (dh_ct (c := []) (SqT.of upd_same))⟩
      | cons c0 l0 =>
        refine iteF ?_
        dsimp only [tNext]
        refine ⟨_, rfl, a, rfl, ⟨_, ha⟩, for_tup (K := K) (a := a) (xs := (c0 :: l0).map V.int) (fun j σ H' => ∃ y2 : Option V, σ = [some v, some (.ref a), y2, none] ∧ Same H H' ∧ ∀ d ∈ (c0 :: l0).take j, ¬ Nest d ps)
          ⟨none, rfl, Same.refl H, fun d hd => by cases hd⟩ (fun j σ H' _ ⟨_, _, s', _⟩ => (Ext.of s').sqT ha) ?_ ?_⟩
        · rintro j x σ H1 hx ⟨y2, rfl, s1, hno⟩
          rw [List.getElem?_map] at hx
          obtain ⟨d, hd, rfl⟩ := Option.map_eq_some_iff.mp hx
          have e1 := Ext.of s1
          refine ⟨_, rfl, _, rfl, v, ps, d, rfl, hv.same s1, pok.1, pok.2, fun H2 s2 => ⟨_, rfl, ?_⟩⟩
          have s12 := s1.trans s2
          by_cases hn2 : Nest d ps
          · rw [decide_eq_true hn2]
            refine iteT ?_
            have e2 := Ext.of s12
            have hdm : d ∈ c0 :: l0 := List.mem_of_getElem? hd
            have hcl := cut1_len_of nd hdm
            refine ⟨_, rfl, _, rfl, v, ps, d, rfl, hv.same s12, pok.1, (fun p hp => (pok.2 p hp).1), fun u1 H3 s3 hu1 => ⟨_, rfl, _, rfl, _, c0 :: l0, d, rfl, hu.ext (.of (s12.trans s3)), hl, fun u2 H4 s4 hu2 => ⟨u1, u2, strk d ps, cut1 d (c0 :: l0), rfl, .of (hu1.ext (.of s4)), hu2, pok.strk, cut1_nodup nd, by omega, by omega, fun w5 H5 s5 hw => ?_⟩⟩⟩
            have s15 := ((s12.trans s3).trans s4).trans s5
            have eh : (ords (c0 :: l0).length ps (c0 :: l0)).head? = (ords (cut1 d (c0 :: l0)).length (strk d ps) (cut1 d (c0 :: l0))).head?.map (d :: ·) := by
              have hj := (List.getElem?_eq_some_iff.mp hd).1
              have ex : (c0 :: l0) = (c0 :: l0).take j ++ d :: (c0 :: l0).drop (j + 1) := by
                rw [← (List.getElem?_eq_some_iff.mp hd).2, ← List.drop_eq_getElem_cons hj, List.take_append_drop]
              have z := ords_head (n := (cut1 d (c0 :: l0)).length) (ps := ps) (l1 := (c0 :: l0).take j) (l2 := (c0 :: l0).drop (j + 1)) (c := d) (by rw [← ex]; omega) (by rw [← ex]; exact nd) hno hn2
              rw [← ex] at z
              rw [show (c0 :: l0).length = (cut1 d (c0 :: l0)).length + 1 by omega]
              exact z
            rw [eh] at q
            dsimp only [tNext, tSeq, tAsg, gName, List.set_cons_succ, List.set_cons_zero]
            cases ho : (ords (cut1 d (c0 :: l0)).length (strk d ps) (cut1 d (c0 :: l0))).head? with
            | none =>
              rw [ho] at hw q
              have hw : w5 = .non := hw
              subst hw
              refine ⟨_, rfl, rfl, _, rfl, ?_⟩
              rw [decide_eq_true rfl]
              exact iteT (q .non _ s15 rfl)
            | some r =>
              rw [ho] at hw q
              obtain ⟨b, rfl, hb⟩ := ct_inv hw
              have hr5 : r.length ≤ 1000 := by
                have z := ((mem_ords rfl (cut1_nodup nd)).mp (List.mem_of_mem_head? (by rw [ho]; exact rfl))).1.length_eq
                omega
              refine ⟨_, rfl, rfl, _, rfl, ?_⟩
              rw [decide_eq_false (by intro z; cases z)]
              refine iteF ?_
              refine ⟨_, rfl, by show 1 ≤ sizeLine; decide, fun p np => ⟨_, rfl, p, b, [.int d], r.map V.int, rfl, rfl, SqT.of upd_same, (Ext.of (same_new np)).sqT hb, Nat.le_of_lt (sz_small (by rw [List.length_map]; show 1 + r.length ≤ 100000; omega)), (fun z => by cases z), (fun _ hz => ?_), fun _ _ p2 np2 => ?_⟩⟩
              · have hz : r = [] := List.map_eq_nil_iff.mp hz
                subst hz
                exact q _ _ (s15.trans (same_new np)) (dh_ct (c := [d]) (SqT.of upd_same))
              · exact q _ _ ((s15.trans (same_new np)).trans (same_new np2)) (dh_ct (c := d :: r) (SqT.of upd_same))
          · rw [decide_eq_false hn2]
            refine iteF ?_
            refine ⟨_, rfl, s12, fun z hz => ?_⟩
            rw [List.take_add_one, hd] at hz
            rcases List.mem_append.mp hz with u | u
            · exact hno z u
            · have : z = d := by simpa using u
              rw [this]
              exact hn2
        · rintro σ H1 ⟨y2, rfl, s1, hno⟩
          rw [List.length_map, List.take_length] at hno
          refine q .non _ s1 ?_
          rw [show (c0 :: l0).length = l0.length + 1 from rfl, ords_none hno]
          rfl
theorem ok_order_of (T : Txt K mg) : FnOk P w K mg base CX0 9 T.f_order_of T.d_order_of ["parts", "left"] (spOrd K 6) := ok_order_ofN T 6
def spParts (K : PySem.W.Frag) : Sp := fun vs H Q _ => ∃ (n : Nat) (v : V) (ps : List (List Int)), vs = [.int n, v] ∧ 1 ≤ n ∧ n ≤ 5 ∧ Dh K H v (patsD ps) ∧ (patsD ps).isList n = true ∧ ps.length ≤ 12 ∧ ∀ u H', Same H H' → Dh K H' u (patsD (ps.filter fun p => decide (p.length < n))) → Q u H'
theorem ok_parts_of (T : Txt K mg) : FnOk P w K mg base CX0 4 T.f_parts_of T.d_parts_of ["columns", "listed"] (spParts K) := by
  refine T.F_parts_of.ok sc_parts_of (fun vs H Q E h => ?_) (fun cdv A outer s H vs Q E hr h => ?_)
  · obtain ⟨_, _, _, rfl, _⟩ := h
    rfl
  · obtain ⟨n, v, ps, rfl, n1, n5, hv, hl, hpl, q⟩ := h
    obtain ⟨a, xs, rfl, ha, hx⟩ := hv.tup_inv
    refine ⟨_, (pss_cons (ps_if (pt_not (pt_val (pe_call (ok_is_list T) hr (by rfl) T.g_is_list T.F_is_list.kp T.b_is_list .nil pass0 (pa_cons (pv 0) (pa_cons (pv 1) pa_nil))))) (pss_one ps_never) pss_nil)
      (pss_one (ps_ret (pe_callTy (call_tupleK K) (by rfl) T.z_tuple (by decide +kernel) (pa_cons (pe_lc (own := [("pattern", 2)]) rfl sc_parts_of.nd (pi_tupK K (pv 1)) (blkOk_by (N := N_parts_of) (sc := defScope s_parts_of) (by decide +kernel)) (fun _ _ _ _ _ => (pg_name (i := 2) sc_parts_of.nd rfl (.inl rfl))) (fun _ _ _ _ _ => (pts_one (pt_cmpR op_lt (pe_callB (call_lenK K) (by rfl) T.z_len PySem.boot_len (pa_cons (pv 2) pa_nil)) (pv 0) (nomark _)))) (fun _ _ _ _ _ => (pv 2))) pa_nil))))), ?_⟩
    refine ⟨_, rfl, _, rfl, n, _, _, rfl, n1, n5, hv, fun H1 s1 => ⟨_, rfl, ?_⟩⟩
    rw [hl]
    refine iteF ?_
    dsimp only [tNext]
    refine ⟨_, rfl, a, rfl, ⟨_, (Ext.of s1).sqT ha⟩, fun D nD => lc_tup (K := K) (xs := xs) (fun j H' => Got K H1 D (((ps.take j).filter fun p => decide (p.length < n)).map ctD) H') (.zero nD) (fun j H' _ g => (Ext.of (s1.trans g.same)).sqT ha) ?_ ?_⟩
    · rintro j x H2 hxj g
      obtain ⟨d, hd, hxd⟩ := dhAll_at hx hxj
      obtain ⟨p, hp1, rfl⟩ := map_at hd
      have hxd2 := hxd.ext (.of (s1.trans g.same))
      obtain ⟨b, rfl, hb⟩ := ct_inv hxd2
      have hf := take_filter (f := fun p => decide (p.length < n)) hp1
      refine ⟨rfl, ?_⟩
      refine ⟨_, rfl, b, _, rfl, .inr hb, _, rfl, _, _, rfl, rfl, _, rfl, ?_⟩
      have hpl2 : (((ps.take j).filter fun p => decide (p.length < n)).map ctD).length ≤ 10000 := by
        rw [List.length_map]
        have := List.length_filter_le (fun p : List Int => decide (p.length < n)) (ps.take j)
        have := List.length_take (i := j) (l := ps)
        omega
      rw [List.length_map]
      by_cases e : p.length < n
      · rw [decide_eq_true (show (p.length : Int) < n by omega)]
        rw [hf, if_pos (decide_eq_true e), List.map_append]
        dsimp only
        rw [if_pos rfl]
        exact ⟨_, rfl, g.put nD (Same.refl H2) hxd2 hpl2⟩
      · rw [decide_eq_false (show ¬ (p.length : Int) < n by omega)]
        rw [hf, if_neg (by rw [decide_eq_false e]; decide), List.append_nil]
        dsimp only
        rw [if_neg (by decide)]
        exact g
    · rintro H2 ⟨s2, acc, hD, hac⟩
      rw [List.take_of_length_le (by rw [hx.length, List.length_map]; exact Nat.le_refl _)] at hac
      exact ⟨D, _, rfl, .inl ⟨SqL.of hD, fun t nt => q _ _ ((s1.trans s2).trans (same_new nt)) (.tup (SqT.of upd_same) (hac.ext (.of (same_new nt))))⟩⟩
theorem PsOk.filter {f : List Int → Bool} {ps : List (List Int)} (h : PsOk ps) : PsOk (ps.filter f) := ⟨by
  have := List.length_filter_le f ps
  have := h.1
  omega, fun p hp => h.2 p (List.mem_filter.mp hp).1⟩
theorem rgI_len (n : Nat) : (rgI n).length = n := by
  unfold rgI
  rw [List.length_map, List.length_range]
theorem rgI_nodup (n : Nat) : (rgI n).Nodup := by
  unfold rgI
  exact List.pairwise_map.mpr (List.nodup_range.imp fun {a b} h e => h (Int.ofNat_inj.mp e))
/-- the part patterns of a list -/
def partL (n : Nat) (ps : List (List Int)) : List (List Int) := ps.filter fun p => decide (p.length < n)
/-- a list, as the program takes it -/
structure LsOk (n : Nat) (ps : List (List Int)) : Prop where
  n1 : 1 ≤ n
  n5 : n ≤ 5
  lst : (patsD ps).isList n = true
  len : ps.length ≤ 12
  ok : PsOk ps
def spOrder (K : PySem.W.Frag) : Sp := fun vs H Q _ => ∃ (n : Nat) (v : V) (ps : List (List Int)), vs = [.int n, v] ∧ LsOk n ps ∧ Dh K H v (patsD ps) ∧ ∀ u H', Same H H' → OrdV K H' u (ords n (partL n ps) (rgI n)).head? → Q u H'
theorem ok_order (T : Txt K mg) : FnOk P w K mg base CX0 10 T.f_order T.d_order ["columns", "listed"] (spOrder K) := by
  refine T.F_order.ok sc_order (fun vs H Q E h => ?_) (fun cdv A outer s H vs Q E hr h => ?_)
  · obtain ⟨_, _, _, rfl, _⟩ := h
    rfl
  · obtain ⟨n, v, ps, rfl, lo, hv, q⟩ := h
    refine ⟨_, (pss_one (ps_ret (pe_call (ok_order_of T) hr (by rfl) T.g_order_of T.F_order_of.kp T.b_order_of .nil pass0 (pa_cons (pe_call (ok_parts_of T) (hr.mono (by decide)) (by rfl) T.g_parts_of T.F_parts_of.kp T.b_parts_of .nil pass0 (pa_cons (pv 0) (pa_cons (pv 1) pa_nil))) (pa_cons (pe_call (ok_all_columns T) (hr.mono (by decide)) (by rfl) T.g_all_columns T.F_all_columns.kp T.b_all_columns .nil pass0 (pa_cons (pv 0) pa_nil)) pa_nil))))), ?_⟩
    have n5 := lo.n5
    refine ⟨_, rfl, _, rfl, n, _, ps, rfl, lo.n1, lo.n5, hv, lo.lst, lo.len, fun u H1 s1 hu => ⟨_, rfl, n, rfl, by omega, fun u2 H2 s2 hu2 => ⟨u, u2, partL n ps, rgI n, rfl, .of (hu.ext (.of s2)), hu2, lo.ok.filter, rgI_nodup n, by rw [rgI_len]; omega, by rw [rgI_len]; omega, fun w5 H3 s3 hw => q _ _ ((s1.trans s2).trans s3) (by rw [rgI_len] at hw; exact hw)⟩⟩⟩
end
end Fm
namespace Fm
open PySem PySem.Spec PyProof.Rows L2
section
variable {P : Program} {w : World} {K : PySem.W.Frag} {mg : Str → Option Value} {base : Heap}
/-- n patterns r 0 .. and columns c 0 .., each column in its pattern and the one behind it, in no other one -/
structure Ring (F : List Int → Prop) (V : Int → Prop) (n : Nat) (r : Nat → List Int) (c : Nat → Int) : Prop where
  n3 : 3 ≤ n
  mem : ∀ i, i < n → F (r i)
  col : ∀ i, i < n → V (c i)
  one : ∀ i, i < n → c i ∈ r i
  two : ∀ i, i < n → c i ∈ r ((i + 1) % n)
  no : ∀ i j, i < n → j < n → j ≠ i → j ≠ (i + 1) % n → c i ∉ r j
/-- edges one behind another, each two with a thing of S in common -/
structure Chn (F : List Int → Prop) (S : Int → Prop) (a y : Int) (m : Nat) (g : Nat → List Int) (s : Nat → Int) : Prop where
  mem : ∀ k, k ≤ m → F (g k)
  s1 : ∀ k, k < m → S (s k) ∧ s k ∈ g k ∧ s k ∈ g (k + 1)
  a0 : a ∈ g 0
  ym : y ∈ g m
  no : ∀ k, k ≤ m → ¬ (a ∈ g k ∧ y ∈ g k)
theorem Chn.tail {F : List Int → Prop} {S : Int → Prop} {a y : Int} {m d : Nat} {g : Nat → List Int} {s : Nat → Int} (x : Chn F S a y m g s) (hd : d ≤ m) (ha : a ∈ g d) : Chn F S a y (m - d) (fun k => g (k + d)) (fun k => s (k + d)) where
  mem := fun k hk => x.mem _ (by omega)
  s1 := fun k hk => by
    have z := x.s1 (k + d) (by omega)
    rw [show k + d + 1 = k + 1 + d by omega] at z
    exact z
  a0 := by rw [Nat.zero_add]; exact ha
  ym := by rw [Nat.sub_add_cancel hd]; exact x.ym
  no := fun k hk => x.no _ (by omega)
theorem Chn.head {F : List Int → Prop} {S : Int → Prop} {a y : Int} {m d : Nat} {g : Nat → List Int} {s : Nat → Int} (x : Chn F S a y m g s) (hd : d ≤ m) (hy : y ∈ g d) : Chn F S a y d g s where
  mem := fun k hk => x.mem _ (by omega)
  s1 := fun k hk => x.s1 k (by omega)
  a0 := x.a0
  ym := hy
  no := fun k hk => x.no _ (by omega)
theorem Chn.cut {F : List Int → Prop} {S : Int → Prop} {a y z : Int} {m p q : Nat} {g : Nat → List Int} {s : Nat → Int} (x : Chn F S a y m g s) (hpq : p < q) (hq : q ≤ m) (hz : S z) (zp : z ∈ g p) (zq : z ∈ g q) :
    Chn F S a y (m - (q - p - 1)) (fun k => if k ≤ p then g k else g (k + (q - p - 1))) (fun k => if k < p then s k else if k = p then z else s (k + (q - p - 1))) where
  mem := fun k hk => by
    by_cases e : k ≤ p
    · rw [if_pos e]; exact x.mem k (by omega)
    · rw [if_neg e]; exact x.mem _ (by omega)
  s1 := fun k hk => by
    rcases Nat.lt_trichotomy k p with e | e | e
    · rw [if_pos e, if_pos (by omega), if_pos (by omega)]
      exact x.s1 k (by omega)
    · subst e
      rw [if_neg (by omega), if_pos rfl, if_pos (by omega), if_neg (by omega), show k + 1 + (q - k - 1) = q by omega]
      exact ⟨hz, zp, zq⟩
    · rw [if_neg (by omega), if_neg (by omega), if_neg (by omega), if_neg (by omega), show k + 1 + (q - p - 1) = k + (q - p - 1) + 1 by omega]
      exact x.s1 _ (by omega)
  a0 := by rw [if_pos (by omega)]; exact x.a0
  ym := by
    by_cases e : m - (q - p - 1) ≤ p
    · omega
    · rw [if_neg e, show m - (q - p - 1) + (q - p - 1) = m by omega]
      exact x.ym
  no := fun k hk => by
    by_cases e : k ≤ p
    · rw [if_pos e]; exact x.no k (by omega)
    · rw [if_neg e]; exact x.no _ (by omega)
theorem least_nat {P : Nat → Prop} {n : Nat} (h : P n) : ∃ m, P m ∧ ∀ k, k < m → ¬ P k := by
  induction n using Nat.strongRecOn with
  | ind n ih =>
    by_cases e : ∃ k, k < n ∧ P k
    · obtain ⟨k, hk, hp⟩ := e
      exact ih k hk hp
    · exact ⟨n, h, fun k hk hp => e ⟨k, hk, hp⟩⟩
/-- such a chain from e back to e is a ring, or has a shorter one -/
theorem ring_of {F : List Int → Prop} {V S : Int → Prop} {a y : Int} {e : List Int} {m0 : Nat} {g0 : Nat → List Int} {s0 : Nat → Int} (x0 : Chn F S a y m0 g0 s0) (fe : F e) (ae : a ∈ e) (ye : y ∈ e) (av : V a) (yv : V y) (sv : ∀ z, S z → V z ∧ z ∉ e) :
    ∃ n r c, Ring F V n r c := by
  obtain ⟨m, ⟨g, s, x⟩, least⟩ := least_nat (P := fun m => ∃ g s, Chn F S a y m g s) ⟨g0, s0, x0⟩
  have ha : ∀ k, 0 < k → k ≤ m → a ∉ g k := fun k h1 h2 h => least (m - k) (by omega) ⟨_, _, x.tail h2 h⟩
  have hy : ∀ k, k < m → y ∉ g k := fun k h1 h => least k h1 ⟨_, _, x.head (by omega) h⟩
  have hc : ∀ p q z, p + 1 < q → q ≤ m → S z → z ∈ g p → z ∉ g q := fun p q z h1 h2 hz zp zq => least _ (by omega) ⟨_, _, x.cut (by omega) h2 hz zp zq⟩
  have m1 : 1 ≤ m := by
    rcases Nat.eq_zero_or_pos m with z | z
    · subst z
      exact absurd ⟨x.a0, x.ym⟩ (x.no 0 (Nat.le_refl _))
    · exact z
  refine ⟨m + 2, fun i => if i = 0 then e else g (i - 1), fun i => if i = 0 then a else if i = m + 1 then y else s (i - 1), ?_⟩
  have nx : ∀ i, i < m + 2 → (i + 1) % (m + 2) = if i = m + 1 then 0 else i + 1 := fun i hi => by
    by_cases e : i = m + 1
    · rw [if_pos e, e]
      exact Nat.mod_self _
    · rw [if_neg e]
      exact Nat.mod_eq_of_lt (by omega)
  refine ⟨by omega, fun i hi => ?_, fun i hi => ?_, fun i hi => ?_, fun i hi => ?_, fun i j hi hj n1 n2 => ?_⟩
  · by_cases e0 : i = 0
    · rw [if_pos e0]; exact fe
    · rw [if_neg e0]; exact x.mem _ (by omega)
  · by_cases e0 : i = 0
    · rw [if_pos e0]; exact av
    · rw [if_neg e0]
      by_cases e1 : i = m + 1
      · rw [if_pos e1]; exact yv
      · rw [if_neg e1]; exact (sv _ (x.s1 (i - 1) (by omega)).1).1
  · by_cases e0 : i = 0
    · rw [if_pos e0, if_pos e0]; exact ae
    · rw [if_neg e0, if_neg e0]
      by_cases e1 : i = m + 1
      · rw [if_pos e1, e1, Nat.add_sub_cancel]; exact x.ym
      · rw [if_neg e1]; exact (x.s1 (i - 1) (by omega)).2.1
  · rw [nx i hi]
    by_cases e0 : i = 0
    · rw [if_pos e0, if_neg (show ¬ i = m + 1 by omega), if_neg (by omega), e0]; exact x.a0
    · rw [if_neg e0]
      by_cases e1 : i = m + 1
      · rw [if_pos e1, if_pos e1, if_pos rfl]; exact ye
      · rw [if_neg e1, if_neg e1, if_neg (by omega), Nat.add_sub_cancel]
        have z := (x.s1 (i - 1) (by omega)).2.2
        rw [show i - 1 + 1 = i by omega] at z
        exact z
  · rw [nx i hi] at n2
    by_cases e0 : i = 0
    · rw [if_neg (show ¬ i = m + 1 by omega)] at n2
      rw [if_pos e0, if_neg (show ¬ j = 0 by omega)]
      exact ha _ (by omega) (by omega)
    · rw [if_neg e0]
      by_cases e1 : i = m + 1
      · rw [if_pos e1] at n2
        rw [if_pos e1, if_neg n2]
        exact hy _ (by omega)
      · rw [if_neg e1] at n2
        rw [if_neg e1]
        obtain ⟨z1, z2, z3⟩ := x.s1 (i - 1) (by omega)
        rw [show i - 1 + 1 = i by omega] at z3
        by_cases j0 : j = 0
        · rw [if_pos j0]
          exact (sv _ z1).2
        · rw [if_neg j0]
          rcases Nat.lt_or_ge (j - 1) (i - 1) with u | u
          · exact fun h => hc (j - 1) i _ (by omega) (by omega) z1 h z3
          · exact hc (i - 1) (j - 1) _ (by omega) (by omega) z1 z2
def NestV (F : List Int → Prop) (V : List Int) (x : Int) : Prop := ∀ f g, F f → F g → x ∈ f → x ∈ g → (∀ y ∈ V, y ∈ f → y ∈ g) ∨ (∀ y ∈ V, y ∈ g → y ∈ f)
def cntV (V f : List Int) : Nat := (V.filter fun y => decide (y ∈ f)).length
theorem filter_len_mono {α : Type} {p q : α → Bool} : ∀ {l : List α}, (∀ x ∈ l, p x = true → q x = true) → (l.filter p).length ≤ (l.filter q).length
  | [], _ => Nat.le_refl _
  | x :: l, h => by
    have ih := filter_len_mono (l := l) fun y hy => h y (List.mem_cons_of_mem _ hy)
    rw [List.filter_cons, List.filter_cons]
    by_cases e : p x = true
    · rw [if_pos e, if_pos (h x (List.mem_cons_self ..) e)]
      exact Nat.succ_le_succ ih
    · rw [if_neg e]
      split
      · rw [List.length_cons]; omega
      · exact ih
theorem filter_len_lt {α : Type} {p q : α → Bool} : ∀ {l : List α} {z : α}, (∀ x ∈ l, p x = true → q x = true) → z ∈ l → p z = false → q z = true → (l.filter p).length < (l.filter q).length
  | x :: l, z, h, hz, h1, h2 => by
    have hm := filter_len_mono (l := l) fun y hy => h y (List.mem_cons_of_mem _ hy)
    rw [List.filter_cons, List.filter_cons]
    rcases List.mem_cons.mp hz with e | e
    · subst e
      rw [h1, h2, if_neg (by decide), if_pos rfl, List.length_cons]
      omega
    · have ih := filter_len_lt (l := l) (fun y hy => h y (List.mem_cons_of_mem _ hy)) e h1 h2
      by_cases e : p x = true
      · rw [if_pos e, if_pos (h x (List.mem_cons_self ..) e), List.length_cons, List.length_cons]
        omega
      · rw [if_neg e]
        split
        · rw [List.length_cons]; omega
        · exact ih
theorem greatest {α : Type} (P : α → Prop) (f : α → Nat) (B : Nat) (hb : ∀ x, P x → f x ≤ B) {x0 : α} (h0 : P x0) : ∃ x, P x ∧ ∀ y, P y → f y ≤ f x := by
  obtain ⟨m, ⟨x, hx, em⟩, hm⟩ := least_nat (P := fun m => ∃ x, P x ∧ B - f x = m) ⟨x0, h0, rfl⟩
  refine ⟨x, hx, fun y hy => ?_⟩
  have := hb x hx
  have := hb y hy
  rcases Nat.lt_or_ge (f x) (f y) with u | u
  · exact absurd ⟨y, hy, rfl⟩ (hm (B - f y) (by omega))
  · exact u
/-- where there is no ring, and an edge is not all, a column outside it has its edges one within another (Brouwer and Kolen) -/
theorem nest_pt {F : List Int → Prop} : ∀ (N : Nat) (V : List Int), V.length ≤ N → (∀ n r c, ¬ Ring F (· ∈ V) n r c) → ∀ e, F e → (∃ v ∈ V, v ∉ e) → ∃ x ∈ V, x ∉ e ∧ NestV F V x
  | 0, V, hN, _, e, _, ⟨v, hv, _⟩ => by
    have : V = [] := List.eq_nil_of_length_eq_zero (by omega)
    subst this
    cases hv
  | N + 1, V, hN, hR, e0, fe0, he0 => by
    -- an edge that is not all and holds as much as any that holds e0
    obtain ⟨e, ⟨fe, ⟨v, hv, hve⟩, hee⟩, gm⟩ := greatest (fun e : List Int => F e ∧ (∃ v ∈ V, v ∉ e) ∧ ∀ y ∈ V, y ∈ e0 → y ∈ e) (cntV V) V.length (fun e _ => List.length_filter_le _ _) (x0 := e0) ⟨fe0, he0, fun y _ h => h⟩
    suffices h : ∃ x ∈ V, x ∉ e ∧ NestV F V x by
      obtain ⟨x, h1, h2, h3⟩ := h
      exact ⟨x, h1, fun z => h2 (hee x h1 z), h3⟩
    -- edges that are not all, and meet what is outside e
    by_cases hf : ∃ f, F f ∧ (∃ w ∈ V, w ∉ f) ∧ ∃ x ∈ V, x ∉ e ∧ x ∈ f
    · obtain ⟨f1, hf1⟩ := hf
      obtain ⟨f, ⟨ff, ⟨w, hw, hwf⟩, ⟨x1, hx1, hx1e, hx1f⟩⟩, fm⟩ := greatest (fun f : List Int => F f ∧ (∃ w ∈ V, w ∉ f) ∧ ∃ x ∈ V, x ∉ e ∧ x ∈ f) (fun f => ((V.filter fun y => decide (y ∈ e)).filter fun y => decide (y ∈ f)).length) V.length
        (fun f _ => Nat.le_trans (List.length_filter_le _ _) (List.length_filter_le _ _)) hf1
      let S : Int → Prop := fun z => z ∈ V ∧ z ∉ e
      let G : List Int → Prop := fun g => F g ∧ ∃ w ∈ V, w ∉ g
      -- T, what f holds of e, is not the whole of e
      have hT : ∃ y ∈ V, y ∈ e ∧ y ∉ f := Classical.byContradiction fun hno => by
        have sub : ∀ y ∈ V, y ∈ e → y ∈ f := fun y h1 h2 => Classical.byContradiction fun h3 => hno ⟨y, h1, h2, h3⟩
        have z := gm f ⟨ff, ⟨w, hw, hwf⟩, fun y h1 h2 => sub y h1 (hee y h1 h2)⟩
        have z2 : cntV V e < cntV V f := filter_len_lt (z := x1) (fun y h1 h2 => decide_eq_true (sub y h1 (of_decide_eq_true h2))) hx1 (decide_eq_false hx1e) (decide_eq_true hx1f)
        omega
      -- whatever is reached from f holds no more of e than f does
      have key : ∀ (k : Nat) (g : Nat → List Int) (s : Nat → Int), g 0 = f → (∀ j, j ≤ k → G (g j)) → (∀ j, j < k → S (s j) ∧ s j ∈ g j ∧ s j ∈ g (j + 1)) → ∀ y ∈ V, y ∈ e → y ∈ g k → y ∈ f := by
        intro k
        induction k using Nat.strongRecOn with
        | ind k ih =>
          intro g s g0 hg hs y yV ye yg
          cases k with
          | zero => rw [g0] at yg; exact yg
          | succ k =>
            refine Classical.byContradiction fun yf => ?_
            have before : ∀ j, j ≤ k → ∀ y ∈ V, y ∈ e → y ∈ g j → y ∈ f := fun j hj => ih j (by omega) g s g0 (fun i hi => hg i (by omega)) (fun i hi => hs i (by omega))
            have hl := hs k (by omega)
            -- the last one does not hold all that f holds of e
            have ha : ∃ a ∈ V, a ∈ e ∧ a ∈ f ∧ a ∉ g (k + 1) := Classical.byContradiction fun hno => by
              have sub : ∀ a ∈ V, a ∈ e → a ∈ f → a ∈ g (k + 1) := fun a h1 h2 h3 => Classical.byContradiction fun h4 => hno ⟨a, h1, h2, h3, h4⟩
              have z := fm (g (k + 1)) ⟨(hg (k + 1) (Nat.le_refl _)).1, (hg (k + 1) (Nat.le_refl _)).2, s k, hl.1.1, hl.1.2, hl.2.2⟩
              have z2 := filter_len_lt (l := V.filter fun y => decide (y ∈ e)) (p := fun y => decide (y ∈ f)) (q := fun y => decide (y ∈ g (k + 1))) (z := y)
                (fun a h1 h2 => decide_eq_true (sub a (List.mem_filter.mp h1).1 (of_decide_eq_true (List.mem_filter.mp h1).2) (of_decide_eq_true h2))) (List.mem_filter.mpr ⟨yV, decide_eq_true ye⟩) (decide_eq_false yf) (decide_eq_true yg)
              omega
            obtain ⟨a, aV, ae, af, ag⟩ := ha
            have ch : Chn F S a y (k + 1) g s := {
              mem := fun j hj => (hg j hj).1
              s1 := fun j hj => hs j hj
              a0 := by rw [g0]; exact af
              ym := yg
              no := fun j hj ⟨h1, h2⟩ => by
                rcases Nat.lt_or_ge j (k + 1) with u | u
                · exact yf (before j (by omega) y yV ye h2)
                · exact ag (by rw [show k + 1 = j by omega]; exact h1) }
            obtain ⟨n, r, c, hr⟩ := ring_of (V := (· ∈ V)) ch fe ae ye aV yV fun z hz => ⟨hz.1, hz.2⟩
            exact hR n r c hr
      -- what is reached
      let R : List Int → Prop := fun h => ∃ (k : Nat) (g : Nat → List Int) (s : Nat → Int), g 0 = f ∧ (∀ j, j ≤ k → G (g j)) ∧ (∀ j, j < k → S (s j) ∧ s j ∈ g j ∧ s j ∈ g (j + 1)) ∧ g k = h
      have Rf : R f := ⟨0, fun _ => f, fun _ => 0, rfl, fun _ _ => ⟨ff, w, hw, hwf⟩, (fun j hj => absurd hj (Nat.not_lt_zero _)), rfl⟩
      have Rs : ∀ h h' x, R h → G h' → S x → x ∈ h → x ∈ h' → R h' := fun h h' x ⟨k, g, s, g0, hg, hs, e⟩ gh hx xh xh' => by
        refine ⟨k + 1, fun j => if j ≤ k then g j else h', fun j => if j < k then s j else x, by dsimp only; rw [if_pos (Nat.zero_le _)]; exact g0, fun j hj => ?_, fun j hj => ?_, by dsimp only; rw [if_neg (by omega)]⟩
        · dsimp only
          by_cases e : j ≤ k
          · rw [if_pos e]; exact hg j e
          · rw [if_neg e]; exact gh
        · dsimp only
          by_cases e1 : j < k
          · rw [if_pos e1, if_pos (by omega), if_pos (by omega)]; exact hs j e1
          · have ej : j = k := by omega
            subst ej
            rw [if_neg (by omega), if_pos (Nat.le_refl _), if_neg (by omega), e]
            exact ⟨hx, xh, xh'⟩
      have Rk : ∀ h, R h → ∀ y ∈ V, y ∈ e → y ∈ h → y ∈ f := fun h ⟨k, g, s, g0, hg, hs, e1⟩ y h1 h2 h3 => key k g s g0 hg hs y h1 h2 (by rw [e1]; exact h3)
      -- the smaller hypergraph: what is reached outside e, and what f holds of e
      classical
      let V' : List Int := V.filter fun y => decide ((y ∈ e ∧ y ∈ f) ∨ (y ∉ e ∧ ∃ h, R h ∧ y ∈ h))
      have mV : ∀ y, y ∈ V' ↔ y ∈ V ∧ ((y ∈ e ∧ y ∈ f) ∨ (y ∉ e ∧ ∃ h, R h ∧ y ∈ h)) := fun y => by
        rw [List.mem_filter]
        exact ⟨fun ⟨h1, h2⟩ => ⟨h1, of_decide_eq_true h2⟩, fun ⟨h1, h2⟩ => ⟨h1, decide_eq_true h2⟩⟩
      have hlt : V'.length ≤ N := by
        obtain ⟨y, h1, h2, h3⟩ := hT
        have z : V'.length < (V.filter fun _ => true).length := filter_len_lt (z := y) (fun _ _ _ => rfl) h1 (decide_eq_false fun z => z.elim (fun z => h3 z.2) (fun z => z.1 h2)) rfl
        have := List.length_filter_le (fun _ : Int => true) V
        omega
      obtain ⟨x, hx, hxe, hn⟩ := nest_pt N V' hlt (fun n r c h => hR n r c ⟨h.n3, h.mem, fun i hi => ((mV _).mp (h.col i hi)).1, h.one, h.two, h.no⟩) e fe ⟨x1, (mV x1).mpr ⟨hx1, .inr ⟨hx1e, f, Rf, hx1f⟩⟩, hx1e⟩
      obtain ⟨xV, hx2⟩ := (mV x).mp hx
      obtain ⟨h, Rh, xh⟩ : ∃ h, R h ∧ x ∈ h := hx2.elim (fun z => absurd z.1 hxe) (fun z => z.2)
      refine ⟨x, xV, hxe, fun p q fp fq xp xq => ?_⟩
      -- all of the edges that are not all lie within V'
      have inV : ∀ p, F p → x ∈ p → (∀ y ∈ V, y ∈ p) ∨ ∀ y ∈ V, y ∈ p → y ∈ V' := fun p fp xp => by
        by_cases z : ∃ w ∈ V, w ∉ p
        · refine .inr fun y yV yp => ?_
          have Rp : R p := Rs h p x Rh ⟨fp, z⟩ ⟨xV, hxe⟩ xh xp
          by_cases ye : y ∈ e
          · exact (mV y).mpr ⟨yV, .inl ⟨ye, Rk p Rp y yV ye yp⟩⟩
          · exact (mV y).mpr ⟨yV, .inr ⟨ye, p, Rp, yp⟩⟩
        · exact .inl fun y yV => Classical.byContradiction fun yp => z ⟨y, yV, yp⟩
      rcases inV p fp xp with u | u
      · exact .inr fun y yV _ => u y yV
      · rcases inV q fq xq with u2 | u2
        · exact .inl fun y yV _ => u2 y yV
        · rcases hn p q fp fq xp xq with z | z
          · exact .inl fun y yV yp => z y (u y yV yp) yp
          · exact .inr fun y yV yq => z y (u2 y yV yq) yq
    · refine ⟨v, hv, hve, fun p q fp fq xp xq => .inl fun y yV _ => Classical.byContradiction fun yq => ?_⟩
      exact hf ⟨q, fq, ⟨y, yV, yq⟩, v, hv, hve, xq⟩
end
end Fm
namespace Fm
open PySem PySem.Spec PyProof.Rows L2
section
variable {P : Program} {w : World} {K : PySem.W.Frag} {mg : Str → Option Value} {base : Heap}
theorem Ring.lift {F F' : List Int → Prop} {V V' : Int → Prop} {n : Nat} {r : Nat → List Int} {c : Nat → Int} (x : Ring F V n r c) (hv : ∀ y, V y → V' y) (h : ∀ f, F f → ∃ f', F' f' ∧ ∀ y, V y → (y ∈ f ↔ y ∈ f')) : ∃ r', Ring F' V' n r' c := by
  classical
  let r' : Nat → List Int := fun i => if hi : i < n then (h (r i) (x.mem i hi)).choose else []
  have e : ∀ i, i < n → F' (r' i) ∧ ∀ y, V y → (y ∈ r i ↔ y ∈ r' i) := fun i hi => by
    have z := (h (r i) (x.mem i hi)).choose_spec
    show F' (if hi : i < n then _ else []) ∧ ∀ y, V y → (y ∈ r i ↔ y ∈ (if hi : i < n then _ else []))
    rw [dif_pos hi]
    exact z
  have n3 := x.n3
  have md : ∀ i, (i + 1) % n < n := fun i => Nat.mod_lt _ (by omega)
  exact ⟨r', x.n3, fun i hi => (e i hi).1, fun i hi => hv _ (x.col i hi), fun i hi => ((e i hi).2 _ (x.col i hi)).mp (x.one i hi), fun i hi => ((e _ (md i)).2 _ (x.col i hi)).mp (x.two i hi),
    fun i j hi hj n1 n2 z => x.no i j hi hj n1 n2 (((e j hj).2 _ (x.col i hi)).mpr z)⟩
theorem succ_ne {n i : Nat} (n3 : 3 ≤ n) (hi : i < n) : (i + 1) % n ≠ i := fun z => by
  by_cases e : i + 1 = n
  · rw [e, Nat.mod_self] at z
    omega
  · rw [Nat.mod_eq_of_lt (by omega)] at z
    omega
theorem succ2_ne {n i : Nat} (n3 : 3 ≤ n) (hi : i < n) : ((i + 1) % n + 1) % n ≠ i := fun z => by
  by_cases e : i + 1 = n
  · rw [e, Nat.mod_self, Nat.mod_eq_of_lt (by omega)] at z
    omega
  · rw [Nat.mod_eq_of_lt (show i + 1 < n by omega)] at z
    by_cases e2 : i + 1 + 1 = n
    · rw [e2, Nat.mod_self] at z
      omega
    · rw [Nat.mod_eq_of_lt (by omega)] at z
      omega
theorem pred_of {n i : Nat} (n3 : 3 ≤ n) (hi : i < n) : ∃ j, j < n ∧ (j + 1) % n = i := by
  by_cases e : i = 0
  · exact ⟨n - 1, by omega, by rw [show n - 1 + 1 = n by omega, Nat.mod_self]; exact e.symm⟩
  · exact ⟨i - 1, by omega, by rw [show i - 1 + 1 = i by omega]; exact Nat.mod_eq_of_lt hi⟩
theorem Ring.rne {F : List Int → Prop} {V : Int → Prop} {n : Nat} {r : Nat → List Int} {c : Nat → Int} (x : Ring F V n r c) {i j : Nat} (hi : i < n) (hj : j < n) (hij : i ≠ j) : r i ≠ r j := fun e => by
  have h1 : j = (i + 1) % n := Classical.byContradiction fun z => x.no i j hi hj (Ne.symm hij) z (e ▸ x.one i hi)
  have h2 : i = (j + 1) % n := Classical.byContradiction fun z => x.no j i hj hi hij z (e ▸ x.one j hj)
  rw [h1] at h2
  exact succ2_ne x.n3 hi h2.symm
theorem Ring.cne {F : List Int → Prop} {V : Int → Prop} {n : Nat} {r : Nat → List Int} {c : Nat → Int} (x : Ring F V n r c) {i j : Nat} (hi : i < n) (hj : j < n) (hij : i ≠ j) : c i ≠ c j := fun e => by
  have h1 : j = (i + 1) % n := Classical.byContradiction fun z => x.no i j hi hj (Ne.symm hij) z (e ▸ x.one j hj)
  have h2 : i = (j + 1) % n := Classical.byContradiction fun z => x.no j i hj hi hij z (e ▸ x.one i hi)
  rw [h1] at h2
  exact succ2_ne x.n3 hi h2.symm
theorem Ring.le {F : List Int → Prop} {left : List Int} {n : Nat} {r : Nat → List Int} {c : Nat → Int} (x : Ring F (· ∈ left) n r c) : n ≤ left.length := by
  have z := nodup_len ((List.range n).map c) left (List.pairwise_map.mpr (List.Pairwise.imp_of_mem (fun {a b} ha hb hab e => x.cne (List.mem_range.mp ha) (List.mem_range.mp hb) (Nat.ne_of_lt hab) e) List.pairwise_lt_range)) fun y hy => by
    obtain ⟨i, hi, rfl⟩ := List.mem_map.mp hy
    exact x.col i (List.mem_range.mp hi)
  rw [List.length_map, List.length_range] at z
  exact z
/-- a list of columns that can be struck in their order holds no ring's columns -/
theorem val_noring : ∀ {o : List Int} {ps : List (List Int)} {n : Nat} {r : Nat → List Int} {c : Nat → Int}, Val ps o → ¬ Ring (· ∈ ps) (· ∈ o) n r c
  | [], _, _, _, _, _, x => by
    have := x.n3
    have := x.col 0 (by omega)
    cases this
  | d :: o, ps, n, r, c, ⟨h1, h2⟩, x => by
    have n3 := x.n3
    by_cases hd : ∃ i, i < n ∧ c i = d
    · obtain ⟨i, hi, rfl⟩ := hd
      have hi1 : (i + 1) % n < n := Nat.mod_lt _ (by omega)
      rcases h1 _ (x.mem i hi) _ (x.mem _ hi1) (x.one i hi) (x.two i hi) with z | z
      · obtain ⟨j, hj, ej⟩ := pred_of n3 hi
        have m1 : c j ∈ r i := by
          have := x.two j hj
          rw [ej] at this
          exact this
        exact x.no j _ hj hi1 (fun z => by rw [← z, z] at ej; exact succ2_ne n3 hi (by rw [z]; exact ej)) (by rw [ej]; exact succ_ne n3 hi) (sub1_iff.mp z _ m1)
      · exact x.no _ i hi1 hi (Ne.symm (succ_ne n3 hi)) (Ne.symm (succ2_ne n3 hi)) (sub1_iff.mp z _ (x.one _ hi1))
    · have hne : ∀ i, i < n → c i ≠ d := fun i hi e => hd ⟨i, hi, e⟩
      have y : Ring (· ∈ ps) (fun y => y ∈ o ∧ y ≠ d) n r c := ⟨n3, x.mem, fun i hi => ⟨(List.mem_cons.mp (x.col i hi)).resolve_left (hne i hi), hne i hi⟩, x.one, x.two, x.no⟩
      obtain ⟨r', z⟩ := y.lift (F' := (· ∈ strk d ps)) (V' := (· ∈ o)) (fun y h => h.1) fun f hf => ⟨cut1 d f, List.mem_map_of_mem hf, fun y hy => by rw [mem_cut1]; exact ⟨fun h => ⟨h, hy.2⟩, fun h => h.1⟩⟩
      exact val_noring h2 z
theorem noring_val : ∀ {n : Nat} {left : List Int} {ps : List (List Int)}, left.length = n → left.Nodup → (∀ p ∈ ps, ∀ y ∈ p, y ∈ left) → (∀ m r c, ¬ Ring (· ∈ ps) (· ∈ left) m r c) → ∃ o, o ∈ ords n ps left
  | 0, left, ps, hl, _, _, _ => ⟨[], List.mem_singleton.mpr rfl⟩
  | n + 1, left, ps, hl, nd, sub, no => by
    obtain ⟨v, hv⟩ : ∃ v, v ∈ left := by
      cases left with
      | nil => cases hl
      | cons v l => exact ⟨v, List.mem_cons_self ..⟩
    obtain ⟨x, hx, _, hn⟩ := nest_pt (F := fun p => p ∈ ps ∨ p = []) left.length left (Nat.le_refl _) (fun m r c h => no m r c ⟨h.n3, fun i hi => (h.mem i hi).resolve_right (fun e => by
      have z := h.one i hi
      rw [e] at z
      cases z), h.col, h.one, h.two, h.no⟩) [] (.inr rfl) ⟨v, hv, fun z => by cases z⟩
    have hN : Nest x ps := fun p hp q hq xp xq => (hn p q (.inl hp) (.inl hq) xp xq).imp (fun h => sub1_iff.mpr fun y hy => h y (sub p hp y hy) hy) (fun h => sub1_iff.mpr fun y hy => h y (sub q hq y hy) hy)
    have hlc := cut1_len_of nd hx
    obtain ⟨o, ho⟩ := noring_val (n := n) (left := cut1 x left) (ps := strk x ps) (by omega) (cut1_nodup nd) (fun p hp y hy => by
      obtain ⟨q, hq, rfl⟩ := List.mem_map.mp hp
      obtain ⟨h1, h2⟩ := mem_cut1.mp hy
      exact mem_cut1.mpr ⟨sub q hq y h1, h2⟩) fun m r c h => by
        obtain ⟨r', z⟩ := h.lift (F' := (· ∈ ps)) (V' := (· ∈ left)) (fun y hy => (mem_cut1.mp hy).1) fun f hf => by
          obtain ⟨q, hq, rfl⟩ := List.mem_map.mp hf
          exact ⟨q, hq, fun y hy => by rw [mem_cut1]; exact ⟨fun h => h.1, fun h => ⟨h, (mem_cut1.mp hy).2⟩⟩⟩
        exact no m r' c z
    exact ⟨x :: o, List.mem_flatMap.mpr ⟨x, hx, by rw [if_pos hN]; exact List.mem_map_of_mem ho⟩⟩
/-- there is an order just if there is no ring -/
theorem ords_ring {left : List Int} {ps : List (List Int)} (nd : left.Nodup) (sub : ∀ p ∈ ps, ∀ y ∈ p, y ∈ left) : (ords left.length ps left).head? ≠ none ↔ ∀ m r c, ¬ Ring (· ∈ ps) (· ∈ left) m r c := by
  constructor
  · intro h m r c x
    obtain ⟨o, ho⟩ := Option.ne_none_iff_exists'.mp h
    obtain ⟨h1, h2⟩ := (mem_ords rfl nd).mp (List.mem_of_mem_head? (by rw [ho]; exact rfl))
    exact val_noring h2 ⟨x.n3, x.mem, fun i hi => h1.mem_iff.mpr (x.col i hi), x.one, x.two, x.no⟩
  · intro h e
    obtain ⟨o, ho⟩ := noring_val rfl nd sub h
    rw [List.head?_eq_none_iff] at e
    rw [e] at ho
    cases ho
def btw (rs : List (List Int)) (k : Nat) : List Int := (rs.getD k []).filter fun c => decide (c ∈ rs.getD ((k + 1) % rs.length) []) && decide ((rs.filter fun p => decide (c ∈ p)).length = 2)
theorem getD_lt {α : Type} {l : List α} {i : Nat} {d : α} (h : i < l.length) : l.getD i d = l[i] := by
  rw [List.getD_eq_getElem?_getD, List.getElem?_eq_getElem h]
  rfl
theorem cnt_idx {α : Type} {f : α → Bool} {d : α} : ∀ l : List α, (l.filter f).length = ((List.range l.length).filter fun i => f (l.getD i d)).length
  | [] => rfl
  | x :: l => by
    rw [List.length_cons, List.range_succ_eq_map, List.filter_cons, List.filter_cons, List.filter_map]
    have ih := cnt_idx (f := f) (d := d) l
    have e : ((fun i => f ((x :: l).getD i d)) ∘ Nat.succ) = fun i => f (l.getD i d) := by
      funext i
      show f ((x :: l).getD (i + 1) d) = _
      rw [List.getD_cons_succ]
    rw [e]
    show _ = List.length (if f ((x :: l).getD 0 d) = true then _ else _)
    rw [List.getD_cons_zero]
    by_cases h : f x = true
    · rw [if_pos h, if_pos h, List.length_cons, List.length_cons, List.length_map, ih]
    · rw [if_neg h, if_neg h, List.length_map, ih]
theorem nodup_range_filter {n : Nat} {f : Nat → Bool} : ((List.range n).filter f).Nodup := List.Nodup.sublist List.filter_sublist List.nodup_range
theorem cnt_le {α : Type} {f : α → Bool} {d : α} {l : List α} {is : List Nat} (nd : is.Nodup) (h : ∀ i ∈ is, i < l.length ∧ f (l.getD i d) = true) : is.length ≤ (l.filter f).length := by
  rw [cnt_idx (d := d)]
  exact nodup_len _ _ nd fun i hi => List.mem_filter.mpr ⟨List.mem_range.mpr (h i hi).1, (h i hi).2⟩
theorem cnt_ge {α : Type} {f : α → Bool} {d : α} {l : List α} {is : List Nat} (h : ∀ i, i < l.length → f (l.getD i d) = true → i ∈ is) : (l.filter f).length ≤ is.length := by
  rw [cnt_idx (d := d)]
  exact nodup_len _ _ nodup_range_filter fun i hi => by
    obtain ⟨h1, h2⟩ := List.mem_filter.mp hi
    exact h i (List.mem_range.mp h1) h2
theorem mem_btw {rs : List (List Int)} {k : Nat} {c : Int} : c ∈ btw rs k ↔ c ∈ rs.getD k [] ∧ c ∈ rs.getD ((k + 1) % rs.length) [] ∧ (rs.filter fun p => decide (c ∈ p)).length = 2 := by
  unfold btw
  rw [List.mem_filter, Bool.and_eq_true, decide_eq_true_iff, decide_eq_true_iff]
theorem add_cancel_mod {n s i j : Nat} (hi : i < n) (hj : j < n) (e : (j + s) % n = (i + s) % n) : j = i := by
  rcases Nat.le_total i j with u | u
  · have z := Nat.sub_mod_eq_zero_of_mod_eq e
    rw [Nat.add_sub_add_right, Nat.mod_eq_of_lt (by omega)] at z
    omega
  · have z := Nat.sub_mod_eq_zero_of_mod_eq e.symm
    rw [Nat.add_sub_add_right, Nat.mod_eq_of_lt (by omega)] at z
    omega
theorem Ring.turn {F : List Int → Prop} {V : Int → Prop} {n : Nat} {r : Nat → List Int} {c : Nat → Int} (x : Ring F V n r c) (s : Nat) : Ring F V n (fun i => r ((i + s) % n)) (fun i => c ((i + s) % n)) := by
  have n3 := x.n3
  have lt : ∀ i, i % n < n := fun i => Nat.mod_lt _ (by omega)
  have sc : ∀ i, ((i + 1) % n + s) % n = ((i + s) % n + 1) % n := fun i => by
    rw [Nat.mod_add_mod, Nat.mod_add_mod, Nat.add_right_comm]
  refine ⟨n3, fun i _ => x.mem _ (lt _), fun i _ => x.col _ (lt _), fun i _ => x.one _ (lt _), fun i _ => ?_, fun i j hi hj n1 n2 => x.no _ _ (lt _) (lt _) (fun e => n1 ?_) (fun e => n2 ?_)⟩
  · have := x.two _ (lt (i + s))
    rw [sc]
    exact this
  · exact add_cancel_mod hi hj e
  · rw [← sc] at e
    exact add_cancel_mod (lt _) hj e
end
end Fm
namespace Fm
open PySem PySem.Spec PyProof.Rows L2
section
variable {P : Program} {w : World} {K : PySem.W.Frag} {mg : Str → Option Value} {base : Heap}
theorem ints_at {cs : List Int} {j : Nat} (h : j < cs.length) : (cs.map V.int)[j]? = some (V.int (cs.getD j 0)) := by
  rw [List.getElem?_map, List.getElem?_eq_getElem h, List.getD_eq_getElem?_getD, List.getElem?_eq_getElem h]
  rfl
theorem pats_at {H : Hp} {xs : List V} {rs : List (List Int)} (h : DhAll K H xs (rs.map ctD)) {k : Nat} (hk : k < rs.length) : ∃ pa, xs[k]? = some (.ref pa) ∧ SqT K H pa ((rs.getD k []).map V.int) := by
  have hl : k < xs.length := by rw [h.length, List.length_map]; exact hk
  obtain ⟨d, hd, hx⟩ := h.get (List.getElem?_eq_getElem hl)
  rw [List.getElem?_map, List.getElem?_eq_getElem hk] at hd
  have e : rs.getD k [] = rs[k] := by rw [List.getD_eq_getElem?_getD, List.getElem?_eq_getElem hk]; rfl
  cases hd
  obtain ⟨pa, e2, hp⟩ := ct_inv hx
  exact ⟨pa, by rw [List.getElem?_eq_getElem hl, e2], by rw [e]; exact hp⟩
def spThose (K : PySem.W.Frag) : Sp := fun vs H Q _ => ∃ (xs : List V) (a : Addr) (rs : List (List Int)) (c : Int), vs = [.ref a, .int c] ∧ SqT K H a xs ∧ DhAll K H xs (rs.map ctD) ∧ rs.length ≤ 1000 ∧ ∀ d H' ys, Same H H' → H' d = some (.lst ys) → ys.length = (rs.filter fun p => decide (c ∈ p)).length → Q (.ref d) H'
theorem ok_those_with (T : Txt K mg) : FnOk P w K mg base CX0 1 T.f_those_with T.d_those_with ["rs", "column"] (spThose K) := by
  refine T.F_those_with.ok sc_those_with (fun vs H Q E h => ?_) (fun cdv A outer s H vs Q E hr h => ?_)
  · obtain ⟨_, _, _, _, rfl, _⟩ := h
    rfl
  · obtain ⟨xs, a, rs, c, rfl, ha, hx, hl, q⟩ := h
    have xl : xs.length = rs.length := by rw [hx.length, List.length_map]
    refine ⟨_, (pss_one (ps_ret (pe_lc (own := [("pattern", 2)]) rfl sc_those_with.nd (pi_tupK K (pv 0)) (blkOk_by (N := N_those_with) (sc := defScope s_those_with) (by decide +kernel)) (fun _ _ _ _ _ => (pg_name (i := 2) sc_those_with.nd rfl (.inl rfl))) (fun _ _ _ _ _ => (pts_one (pt_cmpR (op_inT (K := K) (room65 hr)) (pv 1) (pv 2) (by rfl)))) (fun _ _ _ _ _ => (pv 2))))), ?_⟩
    refine ⟨_, rfl, a, rfl, ⟨_, ha⟩, fun D nD => lc_tup (K := K) (xs := xs) (fun j H' => ∃ ys, Same H H' ∧ H' D = some (.lst ys) ∧ ys.length = ((rs.take j).filter fun p => decide (c ∈ p)).length) ⟨[], same_new nD, upd_same, rfl⟩ (fun j H' _ ⟨_, s', _⟩ => (Ext.of s').sqT ha) ?_ ?_⟩
    · rintro j x H1 hx1 ⟨ys, s1, hD, yl⟩
      obtain ⟨d, hd, hxd⟩ := (hx.ext (.of s1)).get hx1
      obtain ⟨p, hp, rfl⟩ := map_at hd
      have hf := take_filter (f := fun p => decide (c ∈ p)) hp
      have yb : ys.length ≤ 1000 := by
        have h1 := List.length_filter_le (fun p => decide (c ∈ p)) (rs.take j)
        have h2 := List.length_take (i := j) (l := rs)
        omega
      obtain ⟨b, rfl, hb⟩ := ct_inv hxd
      refine ⟨rfl, _, rfl, _, rfl, .int c, p.map PyData.int, .int c, dp_ct (dh_ct hb), shaped_int c, shaped_ct p, ?_⟩
      rw [any_mem]
      refine ⟨_, rfl, ?_⟩
      by_cases e : c ∈ p
      · rw [decide_eq_true e]
        dsimp only
        rw [if_pos rfl]
        rw [if_pos (decide_eq_true e)] at hf
        refine ⟨_, rfl, ys, hD, sz_small (by omega), ys ++ [.ref b], Same.put nD s1, upd_same, ?_⟩
        rw [hf, List.length_append, List.length_append, yl]
        rfl
      · rw [decide_eq_false e]
        dsimp only
        rw [if_neg (by decide)]
        rw [if_neg (by rw [decide_eq_false e]; decide), List.append_nil] at hf
        exact ⟨ys, s1, hD, by rw [hf]; exact yl⟩
    · rintro H1 ⟨ys, s1, hD, yl⟩
      rw [xl, List.take_length] at yl
      exact q D H1 ys s1 hD yl
def colsR (rs : List (List Int)) : Option (List Int) := if ∀ k, k < rs.length → btw rs k ≠ [] then some ((List.range rs.length).map fun k => (btw rs k).headD 0) else none
def spRCols (K : PySem.W.Frag) : Sp := fun vs H Q _ => ∃ (v : V) (rs : List (List Int)), vs = [v] ∧ Dh K H v (patsD rs) ∧ 1 ≤ rs.length ∧ rs.length ≤ 5 ∧ (∀ p ∈ rs, p.length ≤ 5) ∧ ∀ u H', Same H H' → OrdV K H' u (colsR rs) → Q u H'
theorem ok_ring_columns (T : Txt K mg) : FnOk P w K mg base CX0 2 T.f_ring_columns T.d_ring_columns ["rs"] (spRCols K) := by
  refine T.F_ring_columns.ok sc_ring_columns (fun vs H Q E h => ?_) (fun cdv A outer s H vs Q E hr h => ?_)
  · obtain ⟨_, _, rfl, _⟩ := h
    rfl
  · obtain ⟨v, rs, rfl, hv, l1, l5, lp, q⟩ := h
    obtain ⟨a, xs, rfl, ha, hx⟩ := hv.tup_inv
    have xl : xs.length = rs.length := by rw [hx.length, List.length_map]
    refine ⟨_, (pss_cons (ps_set (i := 1) sc_ring_columns.nd rfl (.inl rfl) (pe_lst pa_nil))
      (pss_cons (ps_for PassesOwn.never rfl (pi_enumT (K := K) (by rfl) T.z_enumerate (pa_cons (pv 0) pa_nil)) (pg_tupK K (n := 2) rfl (pgs_cons (pg_name (i := 2) sc_ring_columns.nd rfl (.inl rfl)) (pgs_cons (pg_name (i := 3) sc_ring_columns.nd rfl (.inl rfl)) pgs_nil))) (pss_cons (ps_set (i := 4) sc_ring_columns.nd rfl (.inr rfl) (pe_ix (ix_tupK K) (pv 0) (pe_op op_mod (pe_op op_add (pv 2) pe_int) (pe_callB (call_lenK K) (by rfl) T.z_len PySem.boot_len (pa_cons (pv 0) pa_nil))) (fun _ _ => rfl)))
      (pss_cons (ps_setLc (i := 5) (own := [("column", 6)]) rfl sc_ring_columns.nd rfl rfl (sw_true rfl rfl rfl (by decide +kernel)) (pi_tupK K (pv 3)) (blkOk_by (N := N_ring_columns) (sc := defScope s_ring_columns) (by decide +kernel)) (fun _ _ _ _ _ => (pg_name (i := 6) sc_ring_columns.nd rfl (.inl rfl))) (fun _ _ _ _ _ => (pts_one (PW.pt (pw_and (pt_cmpR (op_inT (K := K) (room65 hr)) (pv 6) (pv 4) (by rfl)) (pw_and1 (pt_cmpR op_eq (pe_callB (call_lenK K) (by rfl) T.z_len PySem.boot_len (pa_cons (pe_call (ok_those_with T) hr (by rfl) T.g_those_with T.F_those_with.kp T.b_those_with .nil pass0 (pa_cons (pv 0) (pa_cons (pv 6) pa_nil))) pa_nil)) pe_int (nomark _))))))) (fun _ _ _ _ _ => (pv 6)))
      (pss_cons (ps_if (pt_not (pt_truth (pv 5) (fun _ => rfl))) (pss_one (ps_ret pe_non)) pss_nil)
      (pss_one (ps_expr (pe_bm PySem.F.plainAttrs_list PySem.F.slot_list_append PySem.F.type_list_append mt_append (pv 1) (pa_cons (pe_ix (ix_listK K) (pv 5) pe_int (fun _ _ => rfl)) pa_nil))))))))
      (pss_one (ps_ret (pe_callTy (call_tupleK K) (by rfl) T.z_tuple (by decide +kernel) (pa_cons (pv 1) pa_nil)))))), ?_⟩
    have e0 : L2.start N_ring_columns [V.ref a] = [some (.ref a), none, none, none, none, none, none] := rfl
    rw [e0]
    refine ⟨Nat.zero_le _, fun fd nfd => ?_⟩
    have s1 : Same H (upd H fd (.lst [])) := same_new nfd
    have hfd : (upd H fd (.lst [])) fd = some (.lst []) := upd_same
    generalize upd H fd (.lst []) = H1 at s1 hfd ⊢
    try dsimp only [tNext, tSeq, tAsg, gName, List.set_cons_succ, List.set_cons_zero]
    refine ⟨_, rfl, a, _, rfl, (Ext.of s1).sqT ha, for_enumT (K := K) (xs := xs) (fun i σ H' => ∃ (y2 y3 y4 y5 y6 : Option V), σ = [some (.ref a), some (.ref fd), y2, y3, y4, y5, y6] ∧ Same H H' ∧ H' fd = some (.lst (((List.range i).map fun k => (btw rs k).headD 0).map V.int)) ∧ ∀ k, k < i → btw rs k ≠ [])
      ⟨none, none, none, none, none, rfl, s1, hfd, fun k hk => absurd hk (Nat.not_lt_zero k)⟩ (fun i σ H' ⟨_, _, _, _, _, _, s', _⟩ => (Ext.of s').sqT ha) ?_ ?_⟩
    · rintro i x Tp σ H2 hxi ⟨y2, y3, y4, y5, y6, rfl, s2, hf2, hb⟩ nT
      have hi := (List.getElem?_eq_some_iff.mp hxi).1
      obtain ⟨pa, epa, hpa⟩ := pats_at (hx.ext (.of s2)) (k := i) (by omega)
      rw [hxi] at epa
      cases epa
      have n0 : (i + 1) % xs.length < xs.length := Nat.mod_lt _ (by omega)
      obtain ⟨pb, epb, hpb⟩ := pats_at (hx.ext (.of s2)) (k := (i + 1) % xs.length) (by omega)
      have s3 : Same H2 (upd H2 Tp (.tup [.int (i : Nat), .ref pa])) := same_new nT
      have hT : SqT K (upd H2 Tp (.tup [.int (i : Nat), .ref pa])) Tp [.int (i : Nat), .ref pa] := SqT.of upd_same
      generalize upd H2 Tp (.tup [.int (i : Nat), .ref pa]) = H3 at s3 hT ⊢
      have s03 := s2.trans s3
      have hpa3 := (Ext.of s3).sqT hpa
      have hpb3 := (Ext.of s3).sqT hpb
      have ha3 := (Ext.of s03).sqT ha
      have hf3 := s3 _ _ hf2
      refine ⟨Tp, _, rfl, hT, rfl, _, _, rfl, _, _, rfl, rfl, ?_⟩
      try dsimp only [tNext, tSeq, tAsg, gName, List.set_cons_succ, List.set_cons_zero]
      have eb : atI xs (((i : Int) + 1) % (xs.length : Int)) = some (.ref pb) := by
        have e : ((i : Int) + 1) % (xs.length : Int) = (((i + 1) % xs.length : Nat) : Int) := by
          rw [Int.natCast_emod]
          rfl
        rw [e]
        exact atI_nat epb
      refine ⟨_, rfl, _, rfl, _, _, rfl, rfl, _, rfl, a, _, rfl, .inr ha3, _, _, rfl, rfl, by omega, a, _, _, _, rfl, rfl, ha3, eb, ?_⟩
      try dsimp only [tNext, tSeq, tAsg, gName, List.set_cons_succ, List.set_cons_zero]
      have pl : (rs.getD i []).length ≤ 5 := lp _ (by
        rw [List.getD_eq_getElem?_getD, List.getElem?_eq_getElem (by omega)]
        exact List.getElem_mem _)
      refine ⟨_, rfl, pa, rfl, ⟨_, hpa3⟩, fun D nD => lc_tup (K := K) (xs := (rs.getD i []).map V.int) (fun j H' => Same H3 H' ∧ H' D = some (.lst ((((rs.getD i []).take j).filter fun c => decide (c ∈ rs.getD ((i + 1) % rs.length) []) && decide ((rs.filter fun p => decide (c ∈ p)).length = 2)).map V.int))) ⟨same_new nD, upd_same⟩ (fun j H' _ ⟨s', _⟩ => (Ext.of s').sqT hpa3) ?c1 ?c2⟩
      case c1 =>
        rintro j x H4 hxj ⟨s4, hD⟩
        obtain ⟨c, rfl, hc⟩ := int_at hxj
        have hpb4 := (Ext.of s4).sqT hpb3
        have hf := take_filter (f := fun c => decide (c ∈ rs.getD ((i + 1) % rs.length) []) && decide ((rs.filter fun p => decide (c ∈ p)).length = 2)) hc
        have lf := List.length_filter_le (fun c => decide (c ∈ rs.getD ((i + 1) % rs.length) []) && decide ((rs.filter fun p => decide (c ∈ p)).length = 2)) ((rs.getD i []).take j)
        have lt := List.length_take (i := j) (l := rs.getD i [])
        rw [xl] at hpb4
        refine ⟨rfl, _, rfl, _, rfl, .int c, (rs.getD ((i + 1) % rs.length) []).map PyData.int, .int c, dp_ct (dh_ct hpb4), shaped_int c, shaped_ct _, ?_⟩
        rw [any_mem]
        refine ⟨_, rfl, ?_⟩
        by_cases e : c ∈ rs.getD ((i + 1) % rs.length) []
        · rw [decide_eq_true e]
          dsimp only
          rw [if_pos rfl]
          refine ⟨_, rfl, _, rfl, xs, a, rs, c, rfl, (Ext.of (s03.trans s4)).sqT ha, hx.ext (.of (s03.trans s4)), by omega, fun d H5 ys s5 hd yl => ?_⟩
          refine ⟨d, _, rfl, .inl (SqL.of hd), ?_⟩
          refine ⟨rfl, _, rfl, ?_⟩
          have hD5 := s5 _ _ hD
          have s35 := s4.trans s5
          by_cases e2 : (rs.filter fun p => decide (c ∈ p)).length = 2
          · rw [decide_eq_true (show V.int (ys.length : Int) = V.int 2 by rw [yl, e2]; rfl)]
            dsimp only
            rw [if_pos rfl]
            rw [if_pos (by rw [decide_eq_true e, decide_eq_true e2]; rfl)] at hf
            refine ⟨_, rfl, _, hD5, sz_small (by rw [List.length_map]; omega), Same.put nD s35, ?_⟩
            rw [upd_same, hf, List.map_append]
            rfl
          · rw [decide_eq_false (show ¬ V.int (ys.length : Int) = V.int 2 by rw [yl]; exact fun z => e2 (by have := V.int.inj z; omega))]
            dsimp only
            rw [if_neg (by decide)]
            rw [if_neg (by rw [decide_eq_true e, decide_eq_false e2]; decide), List.append_nil] at hf
            exact ⟨s35, by rw [hf]; exact hD5⟩
        · rw [decide_eq_false e]
          dsimp only
          rw [if_neg (by decide)]
          rw [if_neg (by rw [decide_eq_false e]; simp), List.append_nil] at hf
          exact ⟨s4, by rw [hf]; exact hD⟩
      case c2 =>
        rintro H4 ⟨s4, hD⟩
        rw [List.length_map, List.take_length] at hD
        have hD : H4 D = some (.lst ((btw rs i).map V.int)) := hD
        have hf4 := s4 _ _ hf3
        have s04 := s03.trans s4
        have nfD : fd ≠ D := fun z => by
          rw [← z, hf3] at nD
          cases nD
        try dsimp only [tNext, tSeq, tAsg, gName, List.set_cons_succ, List.set_cons_zero]
        cases hbt : btw rs i with
        | nil =>
          rw [hbt] at hD
          refine ⟨_, rfl, false, .inl ⟨_, SqL.of hD, rfl⟩, iteT ?_⟩
          refine q _ H4 s04 ?_
          unfold colsR
          rw [if_neg fun z => z i (by omega) hbt]
          rfl
        | cons c r =>
          rw [hbt] at hD
          refine ⟨_, rfl, true, .inl ⟨_, SqL.of hD, rfl⟩, iteF ?_⟩
          try dsimp only [tNext, tSeq, tAsg, gName, List.set_cons_succ, List.set_cons_zero]
          refine ⟨_, rfl, .inl ⟨rfl, _, SqL.of hf4⟩, _, rfl, D, _, 0, _, rfl, rfl, SqL.of hD, atI_nat (j := 0) rfl, fd, _, _, rfl, rfl, hf4, sz_small (by rw [List.length_map, List.length_map, List.length_range]; omega), ?_⟩
          refine ⟨_, _, _, _, _, rfl, Same.put nfd s04, ?_, fun k hk => ?_⟩
          · rw [upd_same, List.range_succ, List.map_append, List.map_append, List.map_cons, List.map_cons, hbt]
            rfl
          · by_cases z : k = i
            · rw [z, hbt]
              exact List.cons_ne_nil _ _
            · exact hb k (by omega)
    · rintro σ H2 ⟨y2, y3, y4, y5, y6, rfl, s2, hf2, hb⟩
      rw [xl] at hf2 hb
      refine ⟨_, rfl, fd, _, rfl, .inl ⟨SqL.of hf2, fun t nt => ?_⟩⟩
      have s3 : Same H2 (upd H2 t (.tup (((List.range rs.length).map fun k => (btw rs k).headD 0).map V.int))) := same_new nt
      refine q _ _ (s2.trans s3) ?_
      unfold colsR
      rw [if_pos hb]
      exact dh_ct (SqT.of upd_same)
end
end Fm
namespace Fm
open PySem PySem.Spec PyProof.Rows L2
section
variable {P : Program} {w : World} {K : PySem.W.Frag} {mg : Str → Option Value} {base : Heap}
theorem dh_takeD {H : Hp} : ∀ {xs : List V} {ds : List Dt} (n : Nat), DhAll K H xs ds → DhAll K H (xs.take n) (ds.take n)
  | [], [], n, _ => by rw [List.take_nil, List.take_nil]; exact .nil
  | _ :: _, _ :: _, 0, _ => .nil
  | _ :: _, _ :: _, n + 1, .cons h t => .cons h (dh_takeD n t)
theorem dh_dropD {H : Hp} : ∀ {xs : List V} {ds : List Dt} (n : Nat), DhAll K H xs ds → DhAll K H (xs.drop n) (ds.drop n)
  | [], [], n, _ => by rw [List.drop_nil, List.drop_nil]; exact .nil
  | _ :: _, _ :: _, 0, h => h
  | _ :: _, _ :: _, n + 1, .cons h t => dh_dropD n t
def cutD (c : List Dt) (lo hi : Option Int) : List Dt := (c.drop (HT.sIx c.length 0 lo)).take (HT.sIx c.length c.length hi - HT.sIx c.length 0 lo)
theorem slice_dh {H : Hp} {x : V} {c : List Dt} {lo hi : Option Int} {Q : VK} (hx : Dh K H x (.tup c)) (q : ∀ v H', Same H H' → Dh K H' v (.tup (cutD c lo hi)) → Q v H') : rSlA K x lo hi H Q := by
  obtain ⟨a, xs, rfl, ha, hall⟩ := hx.tup_inv
  have hl := hall.length
  refine ⟨a, _, rfl, ha, ⟨fun hw => ?_, fun _ p np => ?_⟩⟩
  · have e2 : cutD c lo hi = c := by
      rw [hl] at hw
      unfold cutD
      rw [hw.1, hw.2, List.drop_zero, Nat.sub_zero, List.take_length]
    exact q _ H (Same.refl H) (by rw [e2]; exact hx)
  · refine q _ _ (same_new np) (.tup (SqT.of upd_same) ?_)
    unfold cutV cutD
    rw [hl]
    exact (dh_takeD _ (dh_dropD _ hall)).ext (.of (same_new np))
theorem cutD_take {c : List Dt} {k : Nat} (h : k ≤ c.length) : cutD c none (some (k : Int)) = c.take k := by
  unfold cutD
  rw [HT.sIx_nat, HT.sIx_none, List.drop_zero, Nat.sub_zero, Nat.min_eq_left h]
theorem cutD_drop {c : List Dt} {k : Nat} (h : k ≤ c.length) : cutD c (some (k : Int)) none = c.drop k := by
  unfold cutD
  rw [HT.sIx_nat, HT.sIx_none, Nat.min_eq_left h]
  exact List.take_of_length_le (by rw [List.length_drop]; exact Nat.le_refl _)
theorem cat_dh {H : Hp} {Q : VK} {x y : V} {c d : List Dt} (hc : Dh K H x (.tup c)) (hd : Dh K H y (.tup d)) (hl : c.length + d.length ≤ 1000) (q : ∀ v H', Same H H' → Dh K H' v (.tup (c ++ d)) → Q v H') : rCatA K x y H Q := by
  obtain ⟨a, xs, rfl, s, hs⟩ := hc.tup_inv
  obtain ⟨b, ys, rfl, t, ht⟩ := hd.tup_inv
  have l1 := hs.length
  have l2 := ht.length
  refine ⟨a, b, _, _, rfl, rfl, s, t, ?_, fun e => ?_, fun _ e => ?_, fun _ _ p hp => ?_⟩
  · exact Nat.le_of_lt (sz_small (by omega))
  · have e0 : c = [] := List.eq_nil_of_length_eq_zero (by rw [← l1, e]; rfl)
    subst e0
    exact q _ _ (Same.refl H) hd
  · have e0 : d = [] := List.eq_nil_of_length_eq_zero (by rw [← l2, e]; rfl)
    subst e0
    rw [List.append_nil] at q
    exact q _ _ (Same.refl H) hc
  · refine q _ _ (same_new hp) (.tup (SqT.of upd_same) ?_)
    exact (hs.ext (.of (same_new hp))).append (ht.ext (.of (same_new hp)))
def rgD (rs : List (List Int)) (cs : List Int) : Dt := .tup [patsD rs, ctD cs]
def RingV (K : PySem.W.Frag) (H : Hp) (v : V) : Option (List (List Int) × List Int) → Prop
  | none => v = .non
  | some r => Dh K H v (rgD r.1 r.2)
def rowP (ps : List (List Int)) (ix : List Nat) : List (List Int) := ps.take 1 ++ ix.map fun k => (ps.drop 1).getD k []
def ringIn (ps : List (List Int)) : Option (List (List Int) × List Int) := ((permL (ps.length - 1)).map fun a => rowP ps a.1).findSome? fun rs => (colsR rs).map fun cs => (rs, cs)
theorem dh_pick {H : Hp} {xs : List V} {ps : List (List Int)} (h : DhAll K H xs (ps.map ctD)) : ∀ ix : List Nat, (∀ k ∈ ix, k < ps.length) → DhAll K H (ix.map fun k => xs.getD k .non) ((ix.map fun k => ps.getD k []).map ctD)
  | [], _ => .nil
  | k :: ix, hk => by
    obtain ⟨pa, e, hp⟩ := pats_at h (hk k (List.mem_cons_self ..))
    refine .cons ?_ (dh_pick h ix fun k hk' => hk k (List.mem_cons_of_mem _ hk'))
    show Dh K H (xs.getD k .non) (ctD (ps.getD k []))
    rw [List.getD_eq_getElem?_getD (l := xs), e]
    exact dh_ct hp
theorem find_at {α β : Type} {f : α → Option β} : ∀ {l : List α} {i : Nat} {x : α} {y : β}, (∀ k z, k < i → l[k]? = some z → f z = none) → l[i]? = some x → f x = some y → l.findSome? f = some y
  | [], i, x, y, _, h, _ => by simp at h
  | z :: l, 0, x, y, _, h, e => by
    have : z = x := by simpa using h
    rw [List.findSome?_cons, this, e]
  | z :: l, i + 1, x, y, hn, h, e => by
    rw [List.findSome?_cons, hn 0 z (Nat.succ_pos _) rfl]
    exact find_at (i := i) (fun k w hk hw => hn (k + 1) w (Nat.succ_lt_succ hk) (by rw [List.getElem?_cons_succ]; exact hw)) (by rw [List.getElem?_cons_succ] at h; exact h) e
def spRingIn (K : PySem.W.Frag) : Sp := fun vs H Q _ => ∃ (v : V) (ps : List (List Int)), vs = [v] ∧ Dh K H v (patsD ps) ∧ 1 ≤ ps.length ∧ ps.length ≤ 5 ∧ (∀ p ∈ ps, p.length ≤ 5) ∧ ∀ u H', Same H H' → RingV K H' u (ringIn ps) → Q u H'
theorem ok_ring_in (T : Txt K mg) : FnOk P w K mg base CX0 3 T.f_ring_in T.d_ring_in ["patterns"] (spRingIn K) := by
  refine T.F_ring_in.ok sc_ring_in (fun vs H Q E h => ?_) (fun cdv A outer s H vs Q E hr h => ?_)
  · obtain ⟨_, _, rfl, _⟩ := h
    rfl
  · obtain ⟨v, ps, rfl, hv, l1, l5, lp, q⟩ := h
    obtain ⟨a, xs, rfl, ha, hx⟩ := hv.tup_inv
    have hv : Dh K H (.ref a) (.tup (ps.map ctD)) := hv
    have ml : (ps.map ctD).length = ps.length := List.length_map _
    have cD : cutD (ps.map ctD) (some 1) none = (ps.map ctD).drop 1 := cutD_drop (k := 1) (by omega)
    have cT : cutD (ps.map ctD) none (some 1) = (ps.map ctD).take 1 := cutD_take (k := 1) (by omega)
    refine ⟨_, (pss_cons (ps_set (i := 1) sc_ring_in.nd rfl (.inl rfl) (pe_callTy (call_listK (K := K)) (by rfl) T.z_list (by decide +kernel) (pa_cons (pe_slice (sl_tupK K) (pv 0) (po_some pe_int) po_none) pa_nil)))
      (pss_cons (ps_for PassesOwn.never rfl (pi_perm (K := K) (by rfl) T.w_permutations (pa_cons (pv 1) pa_nil)) (pg_name (i := 2) sc_ring_in.nd rfl (.inl rfl)) (pss_cons (ps_set (i := 3) sc_ring_in.nd rfl (.inl rfl) (pe_op (op_catK K) (pe_slice (sl_tupK K) (pv 0) po_none (po_some pe_int)) (pv 2)))
      (pss_cons (ps_set (i := 4) sc_ring_in.nd rfl (.inl rfl) (pe_call (ok_ring_columns T) hr (by rfl) T.g_ring_columns T.F_ring_columns.kp T.b_ring_columns .nil pass0 (pa_cons (pv 3) pa_nil)))
      (pss_one (ps_if (pt_cmpR op_notN (pv 4) pe_non (nomark _)) (pss_one (ps_ret (pe_tup (pa_cons (pv 3) (pa_cons (pv 4) pa_nil))))) pss_nil)))))
      (pss_one (ps_ret pe_non)))), ?_⟩
    have e0 : L2.start N_ring_in [V.ref a] = [some (.ref a), none, none, none, none] := rfl
    rw [e0]
    refine ⟨_, rfl, _, rfl, ?_⟩
    dsimp only [tNoPart]
    refine slice_dh (lo := some 1) (hi := none) hv fun v1 H1 s1 d1 => ?_
    rw [cD, ← List.map_drop] at d1
    obtain ⟨b, ys, rfl, hb, hy⟩ := d1.tup_inv
    refine ⟨b, _, rfl, .inr hb, fun ol nol => ?_⟩
    have s2 : Same H1 (upd H1 ol (.lst ys)) := same_new nol
    have hol : (upd H1 ol (.lst ys)) ol = some (.lst ys) := upd_same
    have hy := hy.ext (.of s2)
    generalize upd H1 ol (.lst ys) = H2 at s2 hol hy ⊢
    have s12 := s1.trans s2
    have yl : ys.length = ps.length - 1 := by rw [hy.length, List.length_map, List.length_drop]
    try dsimp only [tNext, tSeq, tAsg, gName, List.set_cons_succ, List.set_cons_zero]
    refine ⟨_, rfl, ol, ys, permL (ps.length - 1), rfl, .inl (SqL.of hol), by omega, by rw [yl]; exact perm_seq (by omega), for_perm (fun i σ H' => ∃ (y2 y3 y4 : Option V), σ = [some (.ref a), some (.ref ol), y2, y3, y4] ∧ Same H2 H' ∧ ∀ k a, k < i → (permL (ps.length - 1))[k]? = some a → colsR (rowP ps a.1) = none)
      ⟨none, none, none, rfl, Same.refl _, fun k a hk => absurd hk (Nat.not_lt_zero k)⟩ ?_ ?_⟩
    · rintro i ix Tp σ H3 hi ⟨y2, y3, y4, rfl, s3, hno⟩ nT
      have hm := List.mem_of_getElem? hi
      obtain ⟨il, ilt, ind⟩ := (perm_mem (n := ps.length - 1) (by omega) ix.1).mp (List.mem_map.mpr ⟨ix, hm, rfl⟩)
      have s4 : Same H3 (upd H3 Tp (.tup (ix.1.map fun k => ys.getD k .non))) := same_new nT
      have dT : Dh K (upd H3 Tp (.tup (ix.1.map fun k => ys.getD k .non))) (.ref Tp) (.tup ((ix.1.map fun k => (ps.drop 1).getD k []).map ctD)) := .tup (SqT.of upd_same) (dh_pick (hy.ext (.of (s3.trans s4))) ix.1 fun k hk => by rw [List.length_drop]; exact ilt k hk)
      generalize upd H3 Tp (.tup (ix.1.map fun k => ys.getD k .non)) = H4 at s4 dT ⊢
      have s34 := s3.trans s4
      try dsimp only [tNext, tSeq, tAsg, gName, List.set_cons_succ, List.set_cons_zero]
      refine ⟨_, rfl, ?_⟩
      dsimp only [tNoPart]
      refine ⟨_, rfl, slice_dh (lo := none) (hi := some 1) (hv.ext (.of (s12.trans s34))) fun v2 H5 s5 d2 => ?_⟩
      rw [cT, ← List.map_take] at d2
      refine ⟨_, rfl, cat_dh d2 (dT.ext (.of s5)) (by rw [List.length_map, List.length_map, List.length_map, List.length_take]; omega) fun v3 H6 s6 d3 => ?_⟩
      rw [← List.map_append] at d3
      have d3 : Dh K H6 v3 (patsD (rowP ps ix.1)) := d3
      have rl : (rowP ps ix.1).length = ps.length := by
        unfold rowP
        rw [List.length_append, List.length_map, List.length_take]
        omega
      have s46 := s5.trans s6
      try dsimp only [tNext, tSeq, tAsg, gName, List.set_cons_succ, List.set_cons_zero]
      refine ⟨_, rfl, v3, rowP ps ix.1, rfl, d3, by omega, by omega, fun p hp => ?_, fun u H7 s7 hu => ?_⟩
      · unfold rowP at hp
        rcases List.mem_append.mp hp with h | h
        · exact lp p (List.mem_of_mem_take h)
        · obtain ⟨k, hk, rfl⟩ := List.mem_map.mp h
          have := ilt k hk
          rw [List.getD_eq_getElem?_getD, List.getElem?_eq_getElem (by rw [List.length_drop]; omega)]
          exact lp _ (List.mem_of_mem_drop (List.getElem_mem _))
      have s27 := s34.trans (s46.trans s7)
      try dsimp only [tNext, tSeq, tAsg, gName, List.set_cons_succ, List.set_cons_zero]
      cases hc : colsR (rowP ps ix.1) with
      | none =>
        rw [hc] at hu
        have hu : u = .non := hu
        subst hu
        refine ⟨_, rfl, rfl, _, rfl, ?_⟩
        rw [decide_eq_true rfl]
        refine iteF ⟨_, _, _, rfl, s27, fun k a hk ha => ?_⟩
        by_cases z : k = i
        · rw [z, hi] at ha
          rw [← Option.some.inj ha]
          exact hc
        · exact hno k a (by omega) ha
      | some cs =>
        rw [hc] at hu
        obtain ⟨ca, rfl, hca⟩ := ct_inv (show Dh K H7 u (ctD cs) from hu)
        refine ⟨_, rfl, rfl, _, rfl, ?_⟩
        rw [decide_eq_false (fun z => by cases z)]
        refine iteT ⟨_, rfl, _, rfl, by show 2 ≤ sizeLine; decide, fun t nt => ?_⟩
        have s8 : Same H7 (upd H7 t (.tup [v3, .ref ca])) := same_new nt
        refine q _ _ (s12.trans (s27.trans s8)) ?_
        have ef : ringIn ps = some (rowP ps ix.1, cs) := by
          unfold ringIn
          refine find_at (i := i) (x := rowP ps ix.1) (fun k z hk hz => ?_) (by rw [List.getElem?_map, hi]; rfl) (by rw [hc]; rfl)
          rw [List.getElem?_map] at hz
          obtain ⟨b, hb, rfl⟩ := Option.map_eq_some_iff.mp hz
          rw [hno k b hk hb]
          rfl
        rw [ef]
        exact .tup (SqT.of upd_same) (.cons (d3.ext (.of (s7.trans s8))) (.cons (dh_ct ((Ext.of s8).sqT hca)) .nil))
    · rintro σ H3 ⟨y2, y3, y4, rfl, s3, hno⟩
      have ef : ringIn ps = none := by
        unfold ringIn
        rw [List.findSome?_eq_none_iff]
        intro z hz
        obtain ⟨b, hb, rfl⟩ := List.mem_map.mp hz
        obtain ⟨k, hk, e⟩ := List.getElem_of_mem hb
        rw [hno k b hk (by rw [List.getElem?_eq_getElem hk, e])]
        rfl
      refine q _ H3 (s12.trans s3) ?_
      rw [ef]
      rfl
end
end Fm
namespace Fm
open PySem PySem.Spec PyProof.Rows L2
section
variable {P : Program} {w : World} {K : PySem.W.Frag} {mg : Str → Option Value} {base : Heap}
theorem rowLt_pats : ∀ rs rs' : List (List Int), PySem.W.rowLt (rs.map ctP) (rs'.map ctP) = decide (rs < rs')
  | [], [] => by
    have e : PySem.W.rowLt [] [] = false := PyProof.Rows.lex_irrefl _
    simp [e]
  | [], y :: ys => by
    have e : PySem.W.rowLt [] (ctP y :: ys.map ctP) = true := by
      unfold PySem.W.rowLt
      rw [PySem.W.toks_all_cons]
      simp only [PySem.W.keyToksAll]
      rw [PyProof.Rows.lex_diff (O := PyProof.Rows.itemOrd) (by simp)]
      rfl
    simpa using e
  | x :: xs, [] => by
    have e : PySem.W.rowLt (ctP x :: xs.map ctP) [] = false := by
      unfold PySem.W.rowLt
      rw [PySem.W.toks_all_cons]
      simp only [PySem.W.keyToksAll]
      rw [PyProof.Rows.lex_diff (O := PyProof.Rows.itemOrd) (by simp)]
      rfl
    simpa using e
  | x :: xs, y :: ys => by
    have e : PySem.W.rowLt (ctP x :: xs.map ctP) (ctP y :: ys.map ctP) = if x = y then PySem.W.rowLt (xs.map ctP) (ys.map ctP) else decide (x < y) := by
      unfold PySem.W.rowLt
      rw [PySem.W.dataLt_cons (show PySem.W.alike (ctP x) (ctP y) = true from PySem.W.alike_ints x y), eqv_ct, dataLt_tups]
      simp only [decide_eq_true_eq]
    show PySem.W.rowLt (ctP x :: xs.map ctP) (ctP y :: ys.map ctP) = _
    rw [e, rowLt_pats xs ys]
    by_cases h : x = y
    · subst h
      simp
    · simp [h, List.cons_lt_cons_iff]
abbrev RingT := List (List Int) × List Int
def ringLt (a b : RingT) : Prop := a.1 < b.1 ∨ (a.1 = b.1 ∧ a.2 < b.2)
instance (a b : RingT) : Decidable (ringLt a b) := inferInstanceAs (Decidable (_ ∨ _))
theorem ltl_trans {a b c : List (List Int)} (h : a < b) (k : b < c) : a < c := List.lt_trans h k
theorem ltl_tri (a b : List (List Int)) : a < b ∨ a = b ∨ b < a := by
  by_cases h : a < b
  · exact .inl h
  · by_cases k : b < a
    · exact .inr (.inr k)
    · exact .inr (.inl (List.le_antisymm (List.not_lt.mp k) (List.not_lt.mp h)))
theorem lti_tri (a b : List Int) : a < b ∨ a = b ∨ b < a := by
  by_cases h : a < b
  · exact .inl h
  · by_cases k : b < a
    · exact .inr (.inr k)
    · exact .inr (.inl (List.le_antisymm (List.not_lt.mp k) (List.not_lt.mp h)))
theorem ringLt_irr (a : RingT) : ¬ ringLt a a := fun h => by
  rcases h with h | ⟨_, h⟩
  · exact List.lt_irrefl _ h
  · exact List.lt_irrefl _ h
theorem ringLt_trans {a b c : RingT} (h : ringLt a b) (k : ringLt b c) : ringLt a c := by
  rcases h with h | ⟨h1, h2⟩
  · rcases k with k | ⟨k1, k2⟩
    · exact .inl (ltl_trans h k)
    · exact .inl (by rw [← k1]; exact h)
  · rcases k with k | ⟨k1, k2⟩
    · exact .inl (by rw [h1]; exact k)
    · exact .inr ⟨h1.trans k1, List.lt_trans h2 k2⟩
theorem ringLt_tri (a b : RingT) : ringLt a b ∨ a = b ∨ ringLt b a := by
  rcases ltl_tri a.1 b.1 with h | h | h
  · exact .inl (.inl h)
  · rcases lti_tri a.2 b.2 with k | k | k
    · exact .inl (.inr ⟨h, k⟩)
    · exact .inr (.inl (Prod.ext h k))
    · exact .inr (.inr (.inr ⟨h.symm, k⟩))
  · exact .inr (.inr (.inl h))
def rgP (r : RingT) : PyData := .tuple [.tuple (r.1.map ctP), ctP r.2]
theorem alike_pats : ∀ rs rs' : List (List Int), PySem.W.alikeAll (rs.map ctP) (rs'.map ctP) = true
  | [], [] => rfl
  | [], _ :: _ => rfl
  | _ :: _, [] => rfl
  | x :: xs, y :: ys => by
    show (PySem.W.alike (ctP x) (ctP y) && PySem.W.alikeAll (xs.map ctP) (ys.map ctP)) = true
    rw [alike_pats xs ys, show PySem.W.alike (ctP x) (ctP y) = true from PySem.W.alike_ints x y]
    rfl
theorem eqv_pats (rs rs' : List (List Int)) : PyData.eqv (.tuple (rs.map ctP)) (.tuple (rs'.map ctP)) = decide (rs = rs') := by
  rw [PyData.eqv]
  exact eqv_all eqv_ct rs rs'
theorem dataLt_rg (a b : RingT) : PySem.W.dataLt (rgP a) (rgP b) = decide (ringLt a b) := by
  unfold rgP
  rw [PySem.W.dataLt_pair (show PySem.W.alike (.tuple (a.1.map ctP)) (.tuple (b.1.map ctP)) = true from alike_pats _ _) (show PySem.W.alike (ctP a.2) (ctP b.2) = true from PySem.W.alike_ints _ _), eqv_pats, eqv_ct, dataLt_tups, PySem.W.dataLt_tuple]
  show (if _ then _ else PySem.W.rowLt (a.1.map ctP) (b.1.map ctP)) = _
  rw [rowLt_pats]
  by_cases h : a.1 = b.1
  · rw [if_pos (decide_eq_true h)]
    have n : ¬ a.1 < b.1 := by rw [h]; exact List.lt_irrefl _
    by_cases k : a.2 = b.2
    · rw [if_pos (decide_eq_true k)]
      refine (decide_eq_false ?_).symm
      rintro (z | ⟨_, z⟩)
      · exact n z
      · rw [k] at z
        exact List.lt_irrefl _ z
    · rw [if_neg (by simpa using k)]
      exact decide_eq_decide.mpr ⟨fun z => .inr ⟨h, z⟩, fun z => z.elim (fun z => absurd z n) fun z => z.2⟩
  · rw [if_neg (by simpa using h)]
    exact decide_eq_decide.mpr ⟨.inl, fun z => z.elim id fun z => absurd z.1 h⟩
theorem dp_patsP {H : Hp} : ∀ {xs : List V} {ps : List (List Int)}, DhAll K H xs (ps.map ctD) → DpAll K H xs (ps.map ctP) := fun {xs ps} h => dp_ctAll ps h
theorem dp_rg {H : Hp} {v : V} {r : RingT} (h : Dh K H v (rgD r.1 r.2)) : Dp K H v (rgP r) := by
  obtain ⟨a, xs, rfl, s, t⟩ := h.tup_inv
  obtain ⟨v1, v2, rfl, h1, h2⟩ := dh_two t
  obtain ⟨b, ys, rfl, s1, t1⟩ := h1.tup_inv
  exact .tup s (.cons (.tup s1 (dp_patsP t1)) (.cons (dp_ct h2) .nil))
theorem rgs_data {H : Hp} : ∀ {xs : List V} {R : List RingT}, DhAll K H xs (R.map fun r => rgD r.1 r.2) → ∃ cs : List (V × RingT), cs.map (·.1) = xs ∧ cs.map (·.2) = R ∧ ∀ b ∈ cs, Dh K H b.1 (rgD b.2.1 b.2.2)
  | [], [], _ => ⟨[], rfl, rfl, fun b hb => by cases hb⟩
  | x :: xs, c :: qs, h => by
    rw [List.map_cons] at h
    cases h with
    | cons h t =>
      obtain ⟨bs, e, e2, hb⟩ := rgs_data t
      refine ⟨(x, c) :: bs, by rw [List.map_cons, e], by rw [List.map_cons, e2], fun b hm => ?_⟩
      rcases List.mem_cons.mp hm with z | z
      · rw [z]
        exact h
      · exact hb b z
  | x :: xs, [], h => by cases h
  | [], c :: qs, h => by cases h
theorem rgs_of {H : Hp} : ∀ {cs : List (V × RingT)}, (∀ b ∈ cs, Dh K H b.1 (rgD b.2.1 b.2.2)) → DhAll K H (cs.map (·.1)) ((cs.map (·.2)).map fun r => rgD r.1 r.2)
  | [], _ => .nil
  | b :: S, h => .cons (h b (List.mem_cons_self ..)) (rgs_of fun z hz => h z (List.mem_cons_of_mem _ hz))
theorem depth_rg (r : RingT) : (rgP r).depth ≤ 60 := by
  obtain ⟨_, h1⟩ := lay_all (f := ctP) (n := 1) lay_ct r.1
  have h2 := (lay_ct r.2).2
  have h3 : (PyData.tuple (r.1.map ctP)).depth ≤ 2 := Nat.succ_le_succ h1
  have h4 : PyData.depthAll [.tuple (r.1.map ctP), ctP r.2] ≤ 2 := by
    show max _ (max _ 0) ≤ 2
    omega
  exact Nat.le_trans (show (rgP r).depth ≤ 3 from Nat.succ_le_succ h4) (by decide)
theorem sort_rings {H : Hp} {a : Addr} {xs : List V} {R : List RingT} {Q : VK} (hs : SqL K H a xs) (hd : DhAll K H xs (R.map fun r => rgD r.1 r.2))
    (q : ∀ p ys (S : List RingT), H p = none → DhAll K H ys (S.map fun r => rgD r.1 r.2) → S.Perm R → S.Pairwise (fun a b => ¬ ringLt b a) → Q (.ref p) (upd H p (.lst ys))) : rSortTs K [.ref a] H Q := by
  obtain ⟨cs, e, e2, hb⟩ := rgs_data hd
  have e1 : (cs.map fun b => (b.1, rgP b.2)).map (·.1) = xs := by
    rw [List.map_map, ← e]
    rfl
  refine ⟨a, cs.map fun b => (b.1, rgP b.2), rfl, by rw [e1]; exact hs, fun b hm => ?_, ?_, fun p np => ?_⟩
  · obtain ⟨z, hz, rfl⟩ := List.mem_map.mp hm
    exact ⟨dp_rg (hb z hz), ⟨_, rfl⟩, depth_rg _⟩
  · intro d hd d' hd'
    obtain ⟨b, hm, rfl⟩ := List.mem_map.mp hd
    obtain ⟨b', hm', rfl⟩ := List.mem_map.mp hd'
    obtain ⟨z, hz, rfl⟩ := List.mem_map.mp hm
    obtain ⟨z', hz', rfl⟩ := List.mem_map.mp hm'
    show (PySem.W.alikeAll (z.2.1.map ctP) (z'.2.1.map ctP) && (PySem.W.alikeAll (z.2.2.map PyData.int) (z'.2.2.map PyData.int) && true)) = true
    rw [alike_pats, PySem.W.alike_ints]
    rfl
  · have key := List.map_mergeSort (r := fun a b : V × RingT => !decide (ringLt b.2 a.2)) (s := PySem.W.dataLe false (fun b : V × PyData => b.2)) (f := fun b => (b.1, rgP b.2)) (l := cs) fun b hm b' hm' => by
      rw [PySem.W.dataLe_eq]
      show _ = !PySem.W.dataLt (rgP b'.2) (rgP b.2)
      rw [dataLt_rg]
    rw [← key]
    have pm := List.mergeSort_perm cs fun a b : V × RingT => !decide (ringLt b.2 a.2)
    have pw := List.pairwise_mergeSort (le := fun a b : V × RingT => !decide (ringLt b.2 a.2)) (fun a b c h1 h2 => by
      simp only [Bool.not_eq_true', decide_eq_false_iff_not] at h1 h2 ⊢
      intro h3
      rcases ringLt_tri b.2 a.2 with z | z | z
      · exact h1 z
      · exact h2 (by rw [z]; exact h3)
      · exact h2 (ringLt_trans h3 z)) (fun a b => by
      rcases ringLt_tri b.2 a.2 with z | z | z
      · rw [decide_eq_true z, decide_eq_false (fun y => ringLt_irr _ (ringLt_trans z y))]
        rfl
      · rw [z, decide_eq_false (ringLt_irr _)]
        rfl
      · rw [decide_eq_false (p := ringLt b.2 a.2) (fun y => ringLt_irr _ (ringLt_trans z y))]
        rfl) cs
    have z := q p ((cs.mergeSort fun a b : V × RingT => !decide (ringLt b.2 a.2)).map (·.1)) ((cs.mergeSort fun a b : V × RingT => !decide (ringLt b.2 a.2)).map (·.2)) np (rgs_of fun b hm => hb b (pm.mem_iff.mp hm)) (by rw [← e2]; exact pm.map _) (by
      rw [List.pairwise_map]
      exact pw.imp fun {a b} h => by simpa using h)
    rw [List.map_map]
    exact z
end
end Fm
namespace Fm
open PySem PySem.Spec PyProof.Rows L2
section
variable {P : Program} {w : World} {K : PySem.W.Frag} {mg : Str → Option Value} {base : Heap}
def pickL (ps : List (List Int)) (ix : List Nat) : List (List Int) := ix.map fun k => ps.getD k []
def ringsF (ps : List (List Int)) (r : Nat) : List RingT := (cmb r 0 ps.length).filterMap fun ix => ringIn (pickL ps ix)
theorem cmb_few : (List.range 13).all (fun n => (List.range 6).all fun r => decide ((cmb r 0 n).length ≤ 1000)) = true := by decide +kernel
theorem cmb_le {n r : Nat} (hn : n ≤ 12) (hr : r ≤ 5) : (cmb r 0 n).length ≤ 1000 := of_decide_eq_true (List.all_eq_true.mp (List.all_eq_true.mp cmb_few n (List.mem_range.mpr (by omega))) r (List.mem_range.mpr (by omega)))
def spRingsOf (K : PySem.W.Frag) : Sp := fun vs H Q _ => ∃ (a : Addr) (xs : List V) (ps : List (List Int)) (r : Nat), vs = [.ref a, .int r] ∧ (H a = some (.lst xs) ∨ SqT K H a xs) ∧ DhAll K H xs (ps.map ctD) ∧ ps.length ≤ 12 ∧ (∀ p ∈ ps, p.length ≤ 5) ∧ 1 ≤ r ∧ r ≤ 5 ∧
  ∀ p ys (S : List RingT) H', H p = none → Same H H' → H' p = some (.lst ys) → DhAll K H' ys (S.map fun r => rgD r.1 r.2) → S.Perm (ringsF ps r) → S.Pairwise (fun a b => ¬ ringLt b a) → Q (.ref p) H'
theorem ok_rings_of (T : Txt K mg) : FnOk P w K mg base CX0 4 T.f_rings_of T.d_rings_of ["parts", "most"] (spRingsOf K) := by
  refine T.F_rings_of.ok sc_rings_of (fun vs H Q E h => ?_) (fun cdv A outer s H vs Q E hr h => ?_)
  · obtain ⟨_, _, _, _, rfl, _⟩ := h
    rfl
  · obtain ⟨a, xs, ps, r, rfl, ha, hx, l12, lp, r1, r5, q⟩ := h
    have xl : xs.length = ps.length := by rw [hx.length, List.length_map]
    refine ⟨_, (pss_cons (ps_set (i := 2) sc_rings_of.nd rfl (.inl rfl) (pe_lst pa_nil))
      (pss_cons (ps_set (i := 3) sc_rings_of.nd rfl (.inl rfl) (pe_callTy (call_listK (K := K)) (by rfl) T.z_list (by decide +kernel) (pa_cons (pv 0) pa_nil)))
      (pss_cons (ps_for PassesOwn.never rfl (pi_comb (K := K) (by rfl) T.w_combinations (pa_cons (pv 3) (pa_cons (pv 1) pa_nil))) (pg_name (i := 4) sc_rings_of.nd rfl (.inl rfl)) (pss_cons (ps_set (i := 5) sc_rings_of.nd rfl (.inl rfl) (pe_call (ok_ring_in T) hr (by rfl) T.g_ring_in T.F_ring_in.kp T.b_ring_in .nil pass0 (pa_cons (pv 4) pa_nil)))
      (pss_one (ps_if (pt_cmpR op_notN (pv 5) pe_non (nomark _)) (pss_one (ps_expr (pe_bm PySem.F.plainAttrs_list PySem.F.slot_list_append PySem.F.type_list_append mt_append (pv 2) (pa_cons (pv 5) pa_nil)))) pss_nil))))
      (pss_one (ps_ret (pe_callB (call_sortTsK (K := K) hr.units) (by rfl) T.z_sorted (by decide +kernel) (pa_cons (pv 2) pa_nil))))))), ?_⟩
    have e0 : L2.start N_rings_of [V.ref a, V.int r] = [some (.ref a), some (.int r), none, none, none, none] := rfl
    rw [e0]
    refine ⟨Nat.zero_le _, fun fd nfd => ?_⟩
    have s1 : Same H (upd H fd (.lst [])) := same_new nfd
    have hfd : (upd H fd (.lst [])) fd = some (.lst []) := upd_same
    generalize upd H fd (.lst []) = H1 at s1 hfd ⊢
    try dsimp only [tNext, tSeq, tAsg, gName, List.set_cons_succ, List.set_cons_zero]
    refine ⟨_, rfl, a, _, rfl, ha.imp (fun z => SqL.of (s1 _ _ z)) (fun z => (Ext.of s1).sqT z), fun kn nkn => ?_⟩
    have s2 : Same H1 (upd H1 kn (.lst xs)) := same_new nkn
    have hkn : (upd H1 kn (.lst xs)) kn = some (.lst xs) := upd_same
    have hfd := s2 _ _ hfd
    generalize upd H1 kn (.lst xs) = H2 at s2 hkn hfd ⊢
    have s12 := s1.trans s2
    try dsimp only [tNext, tSeq, tAsg, gName, List.set_cons_succ, List.set_cons_zero]
    refine ⟨_, rfl, _, rfl, kn, xs, (r : Int), cmb r 0 xs.length, rfl, .inl (SqL.of hkn), by omega, by omega, by omega, by rw [Int.toNat_natCast]; exact comb_seq (by omega) r5, for_comb (fun i σ H' => ∃ (y4 y5 : Option V) (acc : List V), σ = [some (.ref a), some (.int r), some (.ref fd), some (.ref kn), y4, y5] ∧ Same H H' ∧ H' fd = some (.lst acc) ∧ acc.length ≤ i ∧ DhAll K H' acc ((((cmb r 0 xs.length).take i).filterMap fun ix => ringIn (pickL ps ix)).map fun r => rgD r.1 r.2))
      ⟨none, none, [], rfl, s12, hfd, Nat.le_refl _, .nil⟩ ?_ ?_⟩
    · rintro i ix Tp σ H3 hi ⟨y4, y5, acc, rfl, s3, hf3, al, hac⟩ nT
      have il := (List.getElem?_eq_some_iff.mp hi).1
      have cl := cmb_le (n := xs.length) (r := r) (by omega) r5
      obtain ⟨xr, _, xb⟩ := (cmb_mem r 0 xs.length ix).mp (List.mem_of_getElem? hi)
      have s4 : Same H3 (upd H3 Tp (.tup (ix.map fun k => xs.getD k .non))) := same_new nT
      have dT : Dh K (upd H3 Tp (.tup (ix.map fun k => xs.getD k .non))) (.ref Tp) (patsD (pickL ps ix)) := .tup (SqT.of upd_same) (dh_pick (hx.ext (.of (s3.trans s4))) ix fun k hk => by have := xb k hk; omega)
      generalize upd H3 Tp (.tup (ix.map fun k => xs.getD k .non)) = H4 at s4 dT ⊢
      have pl : (pickL ps ix).length = r := by unfold pickL; rw [List.length_map, xr]
      have tk : ((cmb r 0 xs.length).take (i + 1)).filterMap (fun ix => ringIn (pickL ps ix)) = ((cmb r 0 xs.length).take i).filterMap (fun ix => ringIn (pickL ps ix)) ++ (ringIn (pickL ps ix)).toList := by
        rw [List.take_add_one, hi, List.filterMap_append]
        cases hc : ringIn (pickL ps ix) <;> simp [hc]
      try dsimp only [tNext, tSeq, tAsg, gName, List.set_cons_succ, List.set_cons_zero]
      refine ⟨_, rfl, .ref Tp, pickL ps ix, rfl, dT, by omega, by omega, fun p hp => ?_, fun u H5 s5 hu => ?_⟩
      · unfold pickL at hp
        obtain ⟨k, hk, rfl⟩ := List.mem_map.mp hp
        have := xb k hk
        rw [List.getD_eq_getElem?_getD, List.getElem?_eq_getElem (by omega)]
        exact lp _ (List.getElem_mem _)
      have s35 := s4.trans s5
      have hf5 := s35 _ _ hf3
      try dsimp only [tNext, tSeq, tAsg, gName, List.set_cons_succ, List.set_cons_zero]
      cases hc : ringIn (pickL ps ix) with
      | none =>
        rw [hc] at hu tk
        have hu : u = .non := hu
        subst hu
        refine ⟨_, rfl, rfl, _, rfl, ?_⟩
        rw [decide_eq_true rfl]
        refine iteF ⟨_, _, acc, rfl, s3.trans s35, hf5, by omega, ?_⟩
        rw [tk, Option.toList_none, List.append_nil]
        exact hac.ext (.of s35)
      | some x =>
        rw [hc] at hu tk
        have hu : Dh K H5 u (rgD x.1 x.2) := hu
        obtain ⟨ua, uxs, rfl, hua, _⟩ := hu.tup_inv
        refine ⟨_, rfl, rfl, _, rfl, ?_⟩
        rw [decide_eq_false (fun z => by cases z)]
        refine iteT ?_
        refine ⟨_, rfl, .inl ⟨rfl, _, SqL.of hf5⟩, _, rfl, fd, _, _, rfl, rfl, hf5, sz_small (by omega), ?_⟩
        have ep := Ext.put (ys := acc ++ [.ref ua]) hf5
        refine ⟨_, _, acc ++ [.ref ua], rfl, Same.put nfd (s3.trans s35), upd_same, by rw [List.length_append]; show _ + 1 ≤ _; omega, ?_⟩
        rw [tk, List.map_append]
        exact ((hac.ext (.of s35)).ext ep).snoc (hu.ext ep)
    · rintro σ H3 ⟨y4, y5, acc, rfl, s3, hf3, al, hac⟩
      rw [List.take_length, xl] at hac
      refine ⟨_, rfl, ?_⟩
      dsimp only [tNil]
      refine sort_rings (R := ringsF ps r) (SqL.of hf3) hac fun p ys S np hys pm pw => ?_
      have s4 : Same H3 (upd H3 p (.lst ys)) := same_new np
      have npH : H p = none := by
        cases h : H p with
        | none => rfl
        | some o =>
          have := s3 _ _ h
          rw [np] at this
          cases this
      exact q p ys S _ npH (s3.trans s4) upd_same (hys.ext (.of s4)) pm pw
end
end Fm
namespace Fm
open PySem PySem.Spec PyProof.Rows L2
section
variable {P : Program} {w : World} {K : PySem.W.Frag} {mg : Str → Option Value} {base : Heap}
def LeastR (parts : List (List Int)) (n : Nat) : Option RingT → Prop
  | none => ∀ r, 3 ≤ r → r ≤ n → ringsF parts r = []
  | some x => ∃ r, 3 ≤ r ∧ r ≤ n ∧ (∀ k, 3 ≤ k → k < r → ringsF parts k = []) ∧ x ∈ ringsF parts r ∧ ∀ y ∈ ringsF parts r, ¬ ringLt y x
def spRing (K : PySem.W.Frag) : Sp := fun vs H Q _ => ∃ (n : Nat) (v : V) (ps : List (List Int)), vs = [.int n, v] ∧ LsOk n ps ∧ Dh K H v (patsD ps) ∧ ∀ u H' o, Same H H' → LeastR (partL n ps) n o → RingV K H' u o → Q u H'
theorem ok_ring (T : Txt K mg) : FnOk P w K mg base CX0 5 T.f_ring T.d_ring ["columns", "listed"] (spRing K) := by
  refine T.F_ring.ok sc_ring (fun vs H Q E h => ?_) (fun cdv A outer s H vs Q E hr h => ?_)
  · obtain ⟨_, _, _, rfl, _⟩ := h
    rfl
  · obtain ⟨n, v, ps, rfl, ls, hv, q⟩ := h
    refine ⟨_, (pss_cons (ps_set (i := 2) sc_ring.nd rfl (.inl rfl) (pe_call (ok_parts_of T) hr (by rfl) T.g_parts_of T.F_parts_of.kp T.b_parts_of .nil pass0 (pa_cons (pv 0) (pa_cons (pv 1) pa_nil))))
      (pss_cons (ps_for PassesOwn.never rfl (pi_range2 (by rfl) T.z_range (pa_cons (pe_glob (by rfl) T.k_LEAST_RING.1 T.k_LEAST_RING.2) (pa_cons (pe_op op_add (pv 0) pe_int) pa_nil))) (pg_name (i := 3) sc_ring.nd rfl (.inl rfl)) (pss_cons (ps_set (i := 4) sc_ring.nd rfl (.inl rfl) (pe_call (ok_rings_of T) hr (by rfl) T.g_rings_of T.F_rings_of.kp T.b_rings_of .nil pass0 (pa_cons (pv 2) (pa_cons (pv 3) pa_nil))))
      (pss_one (ps_if (pt_truth (pv 4) (fun _ => rfl)) (pss_one (ps_ret (pe_ix (ix_listK K) (pv 4) pe_int (fun _ _ => rfl)))) pss_nil))))
      (pss_one (ps_ret pe_non)))), ?_⟩
    have e0 : L2.start N_ring [V.int n, v] = [some (.int n), some v, none, none, none] := rfl
    rw [e0]
    refine ⟨_, rfl, _, rfl, n, v, ps, rfl, ls.n1, ls.n5, hv, ls.lst, ls.len, fun u H1 s1 hu => ?_⟩
    obtain ⟨ua, uxs, rfl, hua, hux⟩ := hu.tup_inv
    try dsimp only [tNext, tSeq, tAsg, gName, List.set_cons_succ, List.set_cons_zero]
    have n5 := ls.n5
    have n1 := ls.n1
    have pl : (partL n ps).length ≤ 12 := Nat.le_trans (List.length_filter_le _ _) ls.len
    have p5 : ∀ p ∈ partL n ps, p.length ≤ 5 := fun p hp => by
      have := of_decide_eq_true (List.mem_filter.mp hp).2
      omega
    refine ⟨_, rfl, _, _, rfl, rfl, 3, (n : Int) + 1, rfl, ⟨by omega, by omega, by omega, by omega⟩, for_range (lo := 3) (n := ((n : Int) + 1 - 3).toNat) (fun i σ H' => ∃ (y3 y4 : Option V), σ = [some (.int n), some v, some (.ref ua), y3, y4] ∧ Same H1 H' ∧ ∀ r, 3 ≤ r → r < 3 + i → ringsF (partL n ps) r = [])
      ⟨none, none, rfl, Same.refl _, fun r h1 h2 => by omega⟩ ?_ ?_⟩
    · rintro i σ H2 hi ⟨y3, y4, rfl, s2, hno⟩
      have e3 : (3 : Int) + (i : Int) = ((3 + i : Nat) : Int) := by omega
      try dsimp only [tNext, tSeq, tAsg, gName, List.set_cons_succ, List.set_cons_zero]
      refine ⟨_, rfl, _, rfl, ua, uxs, partL n ps, 3 + i, by rw [e3]; rfl, .inr ((Ext.of s2).sqT hua), hux.ext (.of s2), pl, p5, by omega, by omega, fun p ys S H3 np s3 hp hys pm pw => ?_⟩
      have s23 := s2.trans s3
      try dsimp only [tNext, tSeq, tAsg, gName, List.set_cons_succ, List.set_cons_zero]
      cases S with
      | nil =>
        cases hys
        refine ⟨_, rfl, false, .inl ⟨_, SqL.of hp, rfl⟩, iteF ⟨_, _, rfl, s23, fun r h1 h2 => ?_⟩⟩
        by_cases z : r = 3 + i
        · rw [z]
          exact pm.symm.eq_nil
        · exact hno r h1 (by omega)
      | cons x S =>
        obtain ⟨y, ys', rfl⟩ : ∃ y ys', ys = y :: ys' := by
          cases ys with
          | nil => cases hys
          | cons y ys' => exact ⟨y, ys', rfl⟩
        have hy : Dh K H3 y (rgD x.1 x.2) := by
          cases hys with
          | cons h t => exact h
        refine ⟨_, rfl, true, .inl ⟨_, SqL.of hp, rfl⟩, iteT ?_⟩
        refine ⟨_, rfl, p, _, 0, _, rfl, rfl, SqL.of hp, atI_nat (j := 0) rfl, ?_⟩
        rw [List.pairwise_cons] at pw
        refine q y H3 (some x) (s1.trans s23) ⟨3 + i, by omega, by omega, hno, pm.mem_iff.mp (List.mem_cons_self ..), fun z hz => ?_⟩ hy
        rcases List.mem_cons.mp (pm.mem_iff.mpr hz) with e | e
        · rw [e]
          exact ringLt_irr _
        · exact pw.1 z e
    · rintro σ H2 ⟨y3, y4, rfl, s2, hno⟩
      exact q .non H2 none (s1.trans s2) (fun r h1 h2 => hno r h1 (by omega)) rfl
end
end Fm
namespace Fm
open PySem PySem.Spec PyProof.Rows L2
section
variable {P : Program} {w : World} {K : PySem.W.Frag} {mg : Str → Option Value} {base : Heap}
theorem rs_ring {parts : List (List Int)} {left : List Int} {rs : List (List Int)} (sub : ∀ p ∈ parts, ∀ y ∈ p, y ∈ left) (m3 : 3 ≤ rs.length) (hp : ∀ p ∈ rs, p ∈ parts) (hb : ∀ k, k < rs.length → btw rs k ≠ []) : ∃ c, Ring (· ∈ parts) (· ∈ left) rs.length (fun i => rs.getD i []) c := by
  have all : ∀ i, ∃ c, i < rs.length → c ∈ btw rs i := fun i => by
    by_cases hi : i < rs.length
    · obtain ⟨c, hc⟩ := List.exists_mem_of_ne_nil _ (hb i hi)
      exact ⟨c, fun _ => hc⟩
    · exact ⟨0, fun h => absurd h hi⟩
  obtain ⟨c, hc⟩ : ∃ c : Nat → Int, ∀ i, i < rs.length → c i ∈ btw rs i := ⟨fun i => (all i).choose, fun i => (all i).choose_spec⟩
  have inp : ∀ i, i < rs.length → rs.getD i [] ∈ parts := fun i hi => by
    rw [getD_lt hi]
    exact hp _ (List.getElem_mem _)
  refine ⟨c, m3, inp, fun i hi => ?_, fun i hi => ?_, fun i hi => ?_, fun i j hi hj n1 n2 z => ?_⟩
  · exact sub _ (inp i hi) _ (mem_btw.mp (hc i hi)).1
  · exact (mem_btw.mp (hc i hi)).1
  · exact (mem_btw.mp (hc i hi)).2.1
  · obtain ⟨b1, b2, b3⟩ := mem_btw.mp (hc i hi)
    have := cnt_le (f := fun p => decide (c i ∈ p)) (d := []) (l := rs) (is := [i, (i + 1) % rs.length, j]) (by
      simp only [List.nodup_cons, List.mem_cons, List.not_mem_nil, not_or, or_false, not_false_eq_true, List.nodup_nil, and_true]
      exact ⟨⟨(succ_ne m3 hi).symm, n1.symm⟩, n2.symm⟩) fun k hk => by
        simp only [List.mem_cons, List.not_mem_nil, or_false] at hk
        rcases hk with rfl | rfl | rfl
        · exact ⟨hi, decide_eq_true b1⟩
        · exact ⟨Nat.mod_lt _ (by omega), decide_eq_true b2⟩
        · exact ⟨hj, decide_eq_true z⟩
    rw [b3] at this
    exact absurd (show 3 ≤ 2 from this) (by decide)
theorem ring_btw {F : List Int → Prop} {V : Int → Prop} {n : Nat} {r : Nat → List Int} {c : Nat → Int} (x : Ring F V n r c) : ∀ k, k < n → btw ((List.range n).map r) k ≠ [] := by
  have n3 := x.n3
  have gd : ∀ i, i < n → ((List.range n).map r).getD i [] = r i := fun i hi => by
    rw [List.getD_eq_getElem?_getD, List.getElem?_map, List.getElem?_range hi]
    rfl
  have ln : ((List.range n).map r).length = n := by rw [List.length_map, List.length_range]
  intro k hk
  have hk1 : (k + 1) % n < n := Nat.mod_lt _ (by omega)
  refine List.ne_nil_of_mem (a := c k) (mem_btw.mpr ⟨by rw [gd k hk]; exact x.one k hk, by rw [ln, gd _ hk1]; exact x.two k hk, ?_⟩)
  refine Nat.le_antisymm (cnt_ge (d := []) (is := [k, (k + 1) % n]) fun j hj hf => ?_) (cnt_le (d := []) (is := [k, (k + 1) % n]) (by
    simp only [List.nodup_cons, List.mem_cons, List.not_mem_nil, or_false, not_false_eq_true, List.nodup_nil, and_true]
    exact (succ_ne n3 hk).symm) fun j hj => ?_)
  · rw [ln] at hj
    rw [gd j hj] at hf
    have hf := of_decide_eq_true hf
    have z : j = k ∨ j = (k + 1) % n := Classical.byContradiction fun z => by
      rw [not_or] at z
      exact x.no k j hk hj z.1 z.2 hf
    simpa using z
  · have hj : j = k ∨ j = (k + 1) % n := by simpa using hj
    rw [ln]
    rcases hj with rfl | rfl
    · exact ⟨hk, by rw [gd _ hk]; exact decide_eq_true (x.one _ hk)⟩
    · exact ⟨hk1, by rw [gd _ hk1]; exact decide_eq_true (x.two _ hk)⟩
theorem colsR_some {rs : List (List Int)} {cs : List Int} (h : colsR rs = some cs) : ∀ k, k < rs.length → btw rs k ≠ [] := by
  unfold colsR at h
  split at h
  · assumption
  · cases h
theorem ringIn_some {ps : List (List Int)} {x : RingT} (l1 : 1 ≤ ps.length) (l5 : ps.length ≤ 5) (h : ringIn ps = some x) : x.1.length = ps.length ∧ (∀ p ∈ x.1, p ∈ ps) ∧ colsR x.1 = some x.2 := by
  unfold ringIn at h
  obtain ⟨rs, hrs, h2⟩ := List.exists_of_findSome?_eq_some h
  obtain ⟨a, ha, rfl⟩ := List.mem_map.mp hrs
  obtain ⟨il, ilt, _⟩ := (perm_mem (n := ps.length - 1) (by omega) a.1).mp (List.mem_map.mpr ⟨a, ha, rfl⟩)
  obtain ⟨cs, hc, rfl⟩ := Option.map_eq_some_iff.mp h2
  refine ⟨?_, fun p hp => ?_, hc⟩
  · show (rowP ps a.1).length = _
    unfold rowP
    rw [List.length_append, List.length_map, List.length_take]
    omega
  · have hp : p ∈ rowP ps a.1 := hp
    unfold rowP at hp
    rcases List.mem_append.mp hp with h | h
    · exact List.mem_of_mem_take h
    · obtain ⟨k, hk, rfl⟩ := List.mem_map.mp h
      have := ilt k hk
      rw [List.getD_eq_getElem?_getD, List.getElem?_eq_getElem (by rw [List.length_drop]; omega)]
      exact List.mem_of_mem_drop (List.getElem_mem _)
theorem ringsF_ring {parts : List (List Int)} {left : List Int} {r : Nat} {x : RingT} (sub : ∀ p ∈ parts, ∀ y ∈ p, y ∈ left) (r3 : 3 ≤ r) (r5 : r ≤ 5) (h : x ∈ ringsF parts r) : ∃ g c, Ring (· ∈ parts) (· ∈ left) r g c := by
  unfold ringsF at h
  obtain ⟨ix, hix, h2⟩ := List.mem_filterMap.mp h
  obtain ⟨il, _, ib⟩ := (cmb_mem r 0 parts.length ix).mp hix
  have pl : (pickL parts ix).length = r := by unfold pickL; rw [List.length_map, il]
  obtain ⟨h3, h4, h5⟩ := ringIn_some (by omega) (by omega) h2
  obtain ⟨c, this⟩ := rs_ring (left := left) sub (rs := x.1) (by omega) (fun p hp => by
    have := h4 p hp
    unfold pickL at this
    obtain ⟨k, hk, rfl⟩ := List.mem_map.mp this
    have := ib k hk
    rw [getD_lt (by omega)]
    exact List.getElem_mem _) (colsR_some h5)
  rw [h3, pl] at this
  exact ⟨_, c, this⟩
end
end Fm
namespace Fm
open PySem PySem.Spec PyProof.Rows L2
section
variable {P : Program} {w : World} {K : PySem.W.Frag} {mg : Str → Option Value} {base : Heap}
theorem ring_place {parts : List (List Int)} {V : Int → Prop} {n : Nat} {r : Nat → List Int} {c : Nat → Int} (x0 : Ring (· ∈ parts) V n r c) (n5 : n ≤ 5) :
    ∃ ix a s, ix ∈ cmb n 0 parts.length ∧ a ∈ permL (n - 1) ∧ s < n ∧ rowP (pickL parts ix) a.1 = ((List.range n).map fun i => r ((i + s) % n)) ∧ ∃ js : Nat → Nat, ∀ i, i < n → js i < parts.length ∧ parts.getD (js i) [] = r i ∧ js s ≤ js i := by
  have n3 := x0.n3
  have ex : ∀ i, ∃ j, i < n → j < parts.length ∧ parts.getD j [] = r i := fun i => by
    by_cases hi : i < n
    · obtain ⟨j, hj, e⟩ := List.getElem_of_mem (x0.mem i hi)
      exact ⟨j, fun _ => ⟨hj, by rw [getD_lt hj, e]⟩⟩
    · exact ⟨0, fun h => absurd h hi⟩
  obtain ⟨idx, hidx⟩ : ∃ idx : Nat → Nat, ∀ i, i < n → idx i < parts.length ∧ parts.getD (idx i) [] = r i := ⟨fun i => (ex i).choose, fun i => (ex i).choose_spec⟩
  have inj : ∀ i j, i < n → j < n → idx i = idx j → i = j := fun i j hi hj e => Classical.byContradiction fun z => x0.rne hi hj z (by rw [← (hidx i hi).2, ← (hidx j hj).2, e])
  -- the places, ascending
  have pm := List.mergeSort_perm ((List.range n).map idx) fun a b => decide (a ≤ b)
  have pw := List.pairwise_mergeSort (le := fun a b : Nat => decide (a ≤ b)) (fun a b c h1 h2 => decide_eq_true (Nat.le_trans (of_decide_eq_true h1) (of_decide_eq_true h2))) (fun a b => by
    rcases Nat.le_total a b with h | h
    · rw [decide_eq_true h]; rfl
    · rw [decide_eq_true h, Bool.or_true]) ((List.range n).map idx)
  have nd0 : ((List.range n).map idx).Nodup := by
    unfold List.Nodup
    rw [List.pairwise_map]
    exact (List.nodup_range (n := n)).imp_of_mem fun {a b} ha hb ne e => ne (inj a b (List.mem_range.mp ha) (List.mem_range.mp hb) e)
  have nd := pm.nodup_iff.mpr nd0
  have len : (((List.range n).map idx).mergeSort fun a b => decide (a ≤ b)).length = n := by rw [pm.length_eq, List.length_map, List.length_range]
  have mem : ∀ v, v ∈ (((List.range n).map idx).mergeSort fun a b => decide (a ≤ b)) ↔ ∃ i, i < n ∧ idx i = v := fun v => by
    rw [pm.mem_iff, List.mem_map]
    exact ⟨fun ⟨i, hi, e⟩ => ⟨i, List.mem_range.mp hi, e⟩, fun ⟨i, hi, e⟩ => ⟨i, List.mem_range.mpr hi, e⟩⟩
  generalize (((List.range n).map idx).mergeSort fun a b => decide (a ≤ b)) = ix at pw nd len mem
  clear pm nd0
  have up : ix.Pairwise (· < ·) := by
    have := List.Pairwise.and pw nd
    exact this.imp fun {a b} h => Nat.lt_of_le_of_ne (of_decide_eq_true h.1) h.2
  have inC : ix ∈ cmb n 0 parts.length := (cmb_mem n 0 parts.length ix).mpr ⟨len, up, fun v hv => by
    obtain ⟨i, hi, rfl⟩ := (mem v).mp hv
    have := (hidx i hi).1
    omega⟩
  cases ix with
  | nil =>
    have : 0 = n := len
    omega
  | cons v0 ix =>
    have len : ix.length + 1 = n := len
    obtain ⟨s, hs, es⟩ := (mem v0).mp (List.mem_cons_self ..)
    have x := x0.turn s
    have hne : ∀ i, i < n - 1 → ((i + 1) + s) % n ≠ s := fun i hi z => by
      have := add_cancel_mod (n := n) (s := s) (i := 0) (j := i + 1) (by omega) (by omega) (by rw [Nat.zero_add, Nat.mod_eq_of_lt hs]; exact z)
      omega
    have ex2 : ∀ i, ∃ k, i < n - 1 → k < ix.length ∧ ix.getD k 0 = idx (((i + 1) + s) % n) := fun i => by
      by_cases hi : i < n - 1
      · have hm : ((i + 1) + s) % n < n := Nat.mod_lt _ (by omega)
        rcases List.mem_cons.mp ((mem (idx (((i + 1) + s) % n))).mpr ⟨_, hm, rfl⟩) with e | e
        · exact absurd (inj _ _ hm hs (by rw [e, es])) (hne i hi)
        · obtain ⟨k, hk, e2⟩ := List.getElem_of_mem e
          exact ⟨k, fun _ => ⟨hk, by rw [getD_lt hk, e2]⟩⟩
      · exact ⟨0, fun h => absurd h hi⟩
    obtain ⟨ia, hia⟩ : ∃ ia : Nat → Nat, ∀ i, i < n - 1 → ia i < ix.length ∧ ix.getD (ia i) 0 = idx (((i + 1) + s) % n) := ⟨fun i => (ex2 i).choose, fun i => (ex2 i).choose_spec⟩
    have inP : (List.range (n - 1)).map ia ∈ (permL (n - 1)).map (·.1) := (perm_mem (by omega) _).mpr ⟨by rw [List.length_map, List.length_range], fun k hk => by
      obtain ⟨i, hi, rfl⟩ := List.mem_map.mp hk
      have := (hia i (List.mem_range.mp hi)).1
      omega, by
      unfold List.Nodup
      rw [List.pairwise_map]
      refine (List.nodup_range (n := n - 1)).imp_of_mem fun {a b} ha hb ne e => ne ?_
      have ha := List.mem_range.mp ha
      have hb := List.mem_range.mp hb
      have h1 := (hia a ha).2
      rw [e, (hia b hb).2] at h1
      have h2 := inj _ _ (Nat.mod_lt _ (by omega)) (Nat.mod_lt _ (by omega)) h1
      have := add_cancel_mod (n := n) (s := s) (i := b + 1) (j := a + 1) (by omega) (by omega) h2.symm
      omega⟩
    obtain ⟨a, ha, ea⟩ := List.mem_map.mp inP
    have pl : (pickL parts (v0 :: ix)).length = n := by unfold pickL; rw [List.length_map]; exact len
    have er : rowP (pickL parts (v0 :: ix)) a.1 = (List.range n).map fun i => r ((i + s) % n) := by
      rw [ea]
      obtain ⟨m, rfl⟩ : ∃ m, n = m + 1 := ⟨n - 1, by omega⟩
      unfold rowP pickL
      rw [List.map_cons, List.range_succ_eq_map, List.map_cons, List.map_map, List.map_map]
      show parts.getD v0 [] :: _ = _
      have e1 : parts.getD v0 [] = r ((0 + s) % (m + 1)) := by
        rw [Nat.zero_add, Nat.mod_eq_of_lt hs, ← es]
        exact (hidx s hs).2
      rw [e1]
      congr 1
      refine List.map_congr_left fun i hi => ?_
      have hi := List.mem_range.mp hi
      obtain ⟨h1, h2⟩ := hia i (by omega)
      show (ix.map fun k => parts.getD k []).getD (ia i) [] = r ((i + 1 + s) % (m + 1))
      rw [getD_lt (by rw [List.length_map]; exact h1), List.getElem_map]
      rw [getD_lt h1] at h2
      rw [h2]
      exact (hidx _ (Nat.mod_lt _ (by omega))).2
    refine ⟨v0 :: ix, a, s, inC, ha, hs, er, idx, fun i hi => ⟨(hidx i hi).1, (hidx i hi).2, ?_⟩⟩
    rw [es]
    rcases List.mem_cons.mp ((mem (idx i)).mpr ⟨i, hi, rfl⟩) with e | e
    · omega
    · exact Nat.le_of_lt ((List.pairwise_cons.mp up).1 _ e)
theorem ring_found {parts : List (List Int)} {V : Int → Prop} {n : Nat} {r : Nat → List Int} {c : Nat → Int} (x0 : Ring (· ∈ parts) V n r c) (n5 : n ≤ 5) : ringsF parts n ≠ [] := by
  obtain ⟨ix, a, s, inC, ha, hs, er, _⟩ := ring_place x0 n5
  have pl : (pickL parts ix).length = n := by unfold pickL; rw [List.length_map]; exact ((cmb_mem n 0 parts.length ix).mp inC).1
  have hc : ∃ cs, colsR (rowP (pickL parts ix) a.1) = some cs := by
    rw [er]
    unfold colsR
    rw [if_pos (by rw [List.length_map, List.length_range]; exact ring_btw (x0.turn s))]
    exact ⟨_, rfl⟩
  obtain ⟨cs, hc⟩ := hc
  have hR : ∃ y, ringIn (pickL parts ix) = some y := by
    cases h : ringIn (pickL parts ix) with
    | some y => exact ⟨y, rfl⟩
    | none =>
      unfold ringIn at h
      rw [List.findSome?_eq_none_iff] at h
      have := h (rowP (pickL parts ix) a.1) (List.mem_map.mpr ⟨a, by rw [pl]; exact ha, rfl⟩)
      rw [hc] at this
      cases this
  obtain ⟨y, hy⟩ := hR
  refine List.ne_nil_of_mem (a := y) ?_
  unfold ringsF
  exact List.mem_filterMap.mpr ⟨_, inC, hy⟩
theorem least_none {parts : List (List Int)} {n : Nat} {o : Option RingT} (n5 : n ≤ 5) (sub : ∀ p ∈ parts, ∀ y ∈ p, y ∈ rgI n) (h : LeastR parts n o) : o = none ↔ (ords n parts (rgI n)).head? ≠ none := by
  have key := ords_ring (left := rgI n) (ps := parts) (rgI_nodup n) sub
  rw [rgI_len] at key
  rw [key]
  cases o with
  | none =>
    refine ⟨fun _ m r c x => ?_, fun _ => rfl⟩
    have := x.le
    rw [rgI_len] at this
    exact ring_found x (by omega) (h m x.n3 this)
  | some y =>
    obtain ⟨r, r3, rn, _, hm, _⟩ := h
    refine ⟨(fun z => by cases z), fun z => ?_⟩
    obtain ⟨g, c, x⟩ := ringsF_ring (left := rgI n) sub r3 (by omega) hm
    exact absurd x (z r g c)
end
end Fm
namespace Fm
open PySem PySem.Spec PyProof.Rows L2
section
variable {P : Program} {w : World} {K : PySem.W.Frag} {mg : Str → Option Value} {base : Heap}
def atR (rs : List (List Int)) (cs : List Int) (k : Nat) : Bool := decide (cs.getD k 0 ∈ rs.getD k []) && (decide (cs.getD k 0 ∈ rs.getD ((k + 1) % rs.length) []) && decide ((rs.filter fun p => decide (cs.getD k 0 ∈ p)).length = 2))
def Dt.few24 : Dt → Prop
  | .tup [.tup rds, .tup cds] => rds.length < 64 ∧ cds.length < 64
  | _ => True
end
end Fm
namespace Fm
open PySem PySem.Spec PyProof.Rows L2
section
variable {P : Program} {w : World} {K : PySem.W.Frag} {mg : Str → Option Value} {base : Heap}
theorem any_pats (ps : List (List Int)) (c : List Int) : ((ps.map ctP).any fun z => PyData.eqv z (ctP c)) = decide (c ∈ ps) := by
  induction ps with
  | nil => rfl
  | cons q ps ih =>
    rw [List.map_cons, List.any_cons, ih, eqv_ct, ← Bool.decide_or]
    refine decide_eq_decide.mpr ?_
    rw [List.mem_cons]
    exact ⟨fun h => h.elim (fun h => .inl h.symm) .inr, fun h => h.elim (fun h => .inl h.symm) .inr⟩
theorem shaped_patsP (ps : List (List Int)) : SeqAt.shaped (.tuple (ps.map ctP)) = true := by
  obtain ⟨h1, h2⟩ := lay_all (f := fun c => ctP c) (n := 1) lay_ct ps
  exact shaped_of (n := 2) ⟨h1, Nat.succ_le_succ h2⟩ (by decide)
end
end Fm
namespace Fm
open PySem PySem.Spec PyProof.Rows L2
section
variable {P : Program} {w : World} {K : PySem.W.Frag} {mg : Str → Option Value} {base : Heap}
theorem cut_map (ns : List Int) (lo hi : Option Int) : ∃ ms : List Int, cutV (ns.map V.int) lo hi = ms.map V.int ∧ ms.length ≤ ns.length := by
  refine ⟨(ns.drop (HT.sIx (ns.map V.int).length 0 lo)).take (HT.sIx (ns.map V.int).length (ns.map V.int).length hi - HT.sIx (ns.map V.int).length 0 lo), ?_, ?_⟩
  · unfold cutV
    rw [List.map_take, List.map_drop]
  · rw [List.length_take, List.length_drop]
    omega
abbrev pv4 (g s : Addr) (t tot : Int) : List V := [.ref g, .ref s, .int t, .int tot]
/-- at h a pot: its great numbers at g, its small ones at s -/
structure PotOk (H : Hp) (h g s : Addr) : Prop where
  ex : ∃ (t tot : Int) (gs ss : List Int), H h = some (.lst (pv4 g s t tot)) ∧ H g = some (.lst (gs.map V.int)) ∧ H s = some (.lst (ss.map V.int)) ∧ 0 ≤ t ∧ 0 < ss.length ∧ g ≠ h ∧ s ≠ h ∧ g ≠ s
/-- all but the pot is as it was -/
structure KeepP (h g s : Addr) (H H' : Hp) : Prop where
  rest : ∀ b o, b ≠ h → b ≠ g → H b = some o → H' b = some o
  pot : PotOk H' h g s
theorem PotOk.same {H H' : Hp} {h g s : Addr} (x : PotOk H h g s) (k : Same H H') : PotOk H' h g s := by
  obtain ⟨t, tot, gs, ss, e1, e2, e3, r⟩ := x.ex
  exact ⟨t, tot, gs, ss, k _ _ e1, k _ _ e2, k _ _ e3, r⟩
theorem KeepP.of {H H' : Hp} {h g s : Addr} (x : PotOk H h g s) (k : Same H H') : KeepP h g s H H' := ⟨fun b o _ _ e => k b o e, x.same k⟩
theorem KeepP.trans {H H1 H2 : Hp} {h g s : Addr} (a : KeepP h g s H H1) (b : KeepP h g s H1 H2) : KeepP h g s H H2 := ⟨fun z o n1 n2 e => b.rest z o n1 n2 (a.rest z o n1 n2 e), b.pot⟩
theorem KeepP.same {H H1 H2 : Hp} {h g s : Addr} (a : KeepP h g s H H1) (k : Same H1 H2) : KeepP h g s H H2 := a.trans (.of a.pot k)
theorem KeepP.ext {H H' : Hp} {h g s : Addr} (x : PotOk H h g s) (k : KeepP h g s H H') : Ext H H' := fun b o e => by
  obtain ⟨t, tot, gs, ss, e1, e2, _⟩ := x.ex
  obtain ⟨t', tot', gs', ss', e1', e2', _⟩ := k.pot.ex
  by_cases hb : b = h
  · subst hb
    rw [e1] at e
    cases e
    exact .inr ⟨⟨_, rfl⟩, _, e1'⟩
  · by_cases hg : b = g
    · subst hg
      rw [e2] at e
      cases e
      exact .inr ⟨⟨_, rfl⟩, _, e2'⟩
    · exact .inl (k.rest b o hb hg e)
theorem PotOk.ne {H : Hp} {h g s p : Addr} (x : PotOk H h g s) (n : H p = none) : p ≠ h ∧ p ≠ g ∧ p ≠ s := by
  obtain ⟨_, _, _, _, e1, e2, e3, _⟩ := x.ex
  exact ⟨(ne_of_none e1 n).symm, (ne_of_none e2 n).symm, (ne_of_none e3 n).symm⟩
theorem ixN_at {n j : Nat} (hj : j < n) : ixN n (j : Int) = some j := by
  unfold ixN
  rw [if_pos (by omega), if_pos (by omega), Int.toNat_natCast]
def spDrawP (_K : PySem.W.Frag) : Sp := fun vs H Q _ => ∃ (h g s : Addr) (many : Int), vs = [.ref h, .int many] ∧ PotOk H h g s ∧ 0 < many ∧ many < 1073741824 ∧ ∀ d H', 0 ≤ d → d < many → KeepP h g s H H' → Q (.int d) H'
theorem ok_law_draw (T : Txt K mg) : FnOk P w K mg base CX0 1 T.f_law_draw T.d_law_draw ["pot", "many"] (spDrawP K) := by
  refine T.F_law_draw.ok sc_law_draw (fun vs H Q E h => ?_) (fun cdv A outer s H vs Q E hr h => ?_)
  · obtain ⟨_, _, _, _, rfl, _⟩ := h
    rfl
  · obtain ⟨h, g, sm, many, rfl, hx, m0, m1, q⟩ := h
    obtain ⟨t, tot, gs, ss, hh, hg, hs, t0, sl, gh, sh, gsm⟩ := hx.ex
    refine ⟨_, (pss_cons (ps_set (i := 2) sc_law_draw.nd rfl (.inl rfl) (pe_ix (ix_listK K) (pv 0) pe_int (fun _ _ => rfl)))
      (pss_cons (ps_asg (pe_op op_add (pv 2) pe_int) (pg_sub (pv 0) pe_int set_list))
      (pss_cons (ps_if (pt_cmpR op_gt (pe_callB (call_lenK K) (by rfl) T.z_len PySem.boot_len (pa_cons (pe_ix (ix_listK K) (pv 0) pe_int (fun _ _ => rfl)) pa_nil)) pe_int (nomark _)) (pss_cons (ps_set (i := 4) sc_law_draw.nd rfl (.inl rfl) (pe_ix (ix_listK K) (pe_ix (ix_listK K) (pv 0) pe_int (fun _ _ => rfl)) pe_int (fun _ _ => rfl)))
      (pss_cons (ps_asg (pe_op op_fdiv (pv 4) (pv 1)) (pg_sub (pe_ix (ix_listK K) (pv 0) pe_int (fun _ _ => rfl)) pe_int set_list))
      (pss_cons (ps_if (pt_cmpR op_lt (pv 4) (pv 1) (nomark _)) (pss_one (ps_expr (pe_bm PySem.F.plainAttrs_list PySem.F.slot_list_pop PySem.F.type_list_pop mt_popAt (pe_ix (ix_listK K) (pv 0) pe_int (fun _ _ => rfl)) (pa_cons pe_int pa_nil)))) pss_nil)
      (pss_one (ps_ret (pe_op op_mod (pe_callTy call_int1 (by rfl) T.z_int (by decide +kernel) (pa_cons (pv 4) pa_nil)) (pv 1))))))) pss_nil)
      (pss_cons (ps_set (i := 3) sc_law_draw.nd rfl (.inl rfl) (pe_op op_add (pe_op op_add (pe_op op_mul (pe_ix (ix_listK K) (pe_ix (ix_listK K) (pv 0) pe_int (fun _ _ => rfl)) (pe_op op_mod (pe_callTy call_int1 (by rfl) T.z_int (by decide +kernel) (pa_cons (pv 2) pa_nil)) (pe_callB (call_lenK K) (by rfl) T.z_len PySem.boot_len (pa_cons (pe_ix (ix_listK K) (pv 0) pe_int (fun _ _ => rfl)) pa_nil))) (fun _ _ => rfl)) pe_int) (pe_op op_mul pe_int (pv 2))) (pe_op op_mul (pe_ix (ix_listK K) (pv 0) pe_int (fun _ _ => rfl)) pe_int)))
      (pss_cons (ps_set (i := 4) sc_law_draw.nd rfl (.inl rfl) (pe_op op_mod (pe_callTy call_int1 (by rfl) T.z_int (by decide +kernel) (pa_cons (pe_op op_add (pe_op op_mul (pv 3) pe_int) pe_int) pa_nil)) pe_int))
      (pss_cons (ps_set (i := 4) sc_law_draw.nd rfl (.inl rfl) (pe_op op_mod (pe_callTy call_int1 (by rfl) T.z_int (by decide +kernel) (pa_cons (pe_op op_mul (pv 4) (pe_op op_add (pe_op op_fdiv (pv 4) pe_int) pe_int)) pa_nil)) pe_int))
      (pss_cons (ps_set (i := 4) sc_law_draw.nd rfl (.inl rfl) (pe_op op_mod (pe_callTy call_int1 (by rfl) T.z_int (by decide +kernel) (pa_cons (pe_op op_add (pe_op op_mul (pv 4) (pe_op op_add (pe_op op_fdiv (pv 4) pe_int) pe_int)) (pv 2)) pa_nil)) pe_int))
      (pss_one (ps_ret (pe_op op_mod (pe_callTy call_int1 (by rfl) T.z_int (by decide +kernel) (pa_cons (pe_op op_fdiv (pv 4) pe_int) pa_nil)) (pv 1))))))))))), ?_⟩
    refine ⟨_, rfl, h, _, 2, _, rfl, rfl, SqL.of hh, atI_nat (j := 2) rfl, ?_⟩
    dsimp only [tNext, tSeq, tAsg, gName, List.set_cons_succ, List.set_cons_zero]
    refine ⟨_, rfl, _, _, rfl, rfl, _, rfl, h, _, 2, 2, rfl, rfl, hh, rfl, ?_⟩
    have eh : (upd H h (.lst (pv4 g sm (t + 1) tot))) h = some (.lst (pv4 g sm (t + 1) tot)) := upd_same
    have eg : (upd H h (.lst (pv4 g sm (t + 1) tot))) g = some (.lst (gs.map V.int)) := by rw [upd_ne gh]; exact hg
    have es : (upd H h (.lst (pv4 g sm (t + 1) tot))) sm = some (.lst (ss.map V.int)) := by rw [upd_ne sh]; exact hs
    have kp : ∀ b o, b ≠ h → b ≠ g → H b = some o → (upd H h (.lst (pv4 g sm (t + 1) tot))) b = some o := fun b o n1 _ e => by
      rw [upd_ne n1]
      exact e
    show tSeq _ _ _ _ (upd H h (.lst (pv4 g sm (t + 1) tot)))
    generalize upd H h (.lst (pv4 g sm (t + 1) tot)) = H1 at eh eg es kp ⊢
    refine ⟨_, rfl, h, _, 0, _, rfl, rfl, SqL.of eh, atI_nat (j := 0) rfl, g, _, rfl, .inl (SqL.of eg), _, _, rfl, rfl, _, rfl, ?_⟩
    cases gs with
    | cons z gs =>
      rw [decide_eq_true (by rw [List.length_map, List.length_cons]; omega)]
      refine iteT ?_
      dsimp only [tNext, tSeq, tAsg, gName, List.set_cons_succ, List.set_cons_zero]
      refine ⟨_, rfl, h, _, 0, _, rfl, rfl, SqL.of eh, atI_nat (j := 0) rfl, g, _, 0, _, rfl, rfl, SqL.of eg, atI_nat (j := 0) rfl, ?_⟩
      dsimp only [tNext, tSeq, tAsg, gName, List.set_cons_succ, List.set_cons_zero]
      refine ⟨_, rfl, _, rfl, _, _, rfl, rfl, ⟨m0, m1⟩, _, rfl, h, _, 0, _, rfl, rfl, SqL.of eh, atI_nat (j := 0) rfl, g, _, 0, 0, rfl, rfl, eg, ixN_at (j := 0) (by rw [List.length_map, List.length_cons]; omega), ?_⟩
      have fh : (upd H1 g (.lst (((z :: gs).map V.int).set 0 (.int (z / many))))) h = some (.lst (pv4 g sm (t + 1) tot)) := by rw [upd_ne gh.symm]; exact eh
      have fg : (upd H1 g (.lst (((z :: gs).map V.int).set 0 (.int (z / many))))) g = some (.lst (((z / many) :: gs).map V.int)) := upd_same
      have fs : (upd H1 g (.lst (((z :: gs).map V.int).set 0 (.int (z / many))))) sm = some (.lst (ss.map V.int)) := by rw [upd_ne gsm.symm]; exact es
      have kp2 : ∀ b o, b ≠ h → b ≠ g → H b = some o → (upd H1 g (.lst (((z :: gs).map V.int).set 0 (.int (z / many))))) b = some o := fun b o n1 n2 e => by
        rw [upd_ne n2]
        exact kp b o n1 n2 e
      show tSeq _ _ _ _ (upd H1 g (.lst (((z :: gs).map V.int).set 0 (.int (z / many)))))
      generalize upd H1 g (.lst (((z :: gs).map V.int).set 0 (.int (z / many)))) = H2 at fh fg fs kp2 ⊢
      have fin : ∀ H3 : Hp, H3 h = some (.lst (pv4 g sm (t + 1) tot)) → (∃ gs', H3 g = some (.lst (List.map V.int gs'))) → H3 sm = some (.lst (ss.map V.int)) → (∀ b o, b ≠ h → b ≠ g → H b = some o → H3 b = some o) → KeepP h g sm H H3 := fun H3 a1 ⟨gs', a2⟩ a3 a4 => ⟨a4, ⟨t + 1, tot, gs', ss, a1, a2, a3, by omega, sl, gh, sh, gsm⟩⟩
      refine ⟨_, rfl, _, rfl, _, _, rfl, rfl, _, rfl, ?_⟩
      refine ite2 (fun _ => ?_) (fun _ => ?_)
      · refine ⟨_, rfl, h, _, 0, _, rfl, rfl, SqL.of fh, atI_nat (j := 0) rfl, .inl ⟨rfl, _, SqL.of fg⟩, g, _, 0, 0, _, rfl, rfl, fg, by decide, by decide, (ixN_seq (ixN_at (j := 0) (by rw [List.length_map, List.length_cons]; omega))).1, rfl, ?_⟩
        refine ⟨_, rfl, .inl ⟨_, rfl, _, rfl, _, _, rfl, rfl, m0, ?_⟩⟩
        refine q _ _ (Int.emod_nonneg _ (by omega)) (Int.emod_lt_of_pos _ m0) (fin _ ?_ ⟨gs, ?_⟩ ?_ ?_)
        · rw [upd_ne gh.symm]
          exact fh
        · exact upd_same
        · rw [upd_ne gsm.symm]
          exact fs
        · intro b o n1 n2 e
          rw [upd_ne n2]
          exact kp2 b o n1 n2 e
      · refine ⟨_, rfl, .inl ⟨_, rfl, _, rfl, _, _, rfl, rfl, m0, ?_⟩⟩
        exact q _ _ (Int.emod_nonneg _ (by omega)) (Int.emod_lt_of_pos _ m0) (fin _ fh ⟨_, fg⟩ fs kp2)
    | nil =>
      rw [decide_eq_false (by decide)]
      refine iteF ?_
      dsimp only [tNext, tSeq, tAsg, gName, List.set_cons_succ, List.set_cons_zero]
      have sl0 : (0 : Int) < ((ss.map V.int).length : Int) := by rw [List.length_map]; omega
      have im : ∃ x, atI (ss.map V.int) (t % ((ss.map V.int).length : Int)) = some (.int x) := by
        have h1 := Int.emod_nonneg t (show ((ss.map V.int).length : Int) ≠ 0 by omega)
        have h2 := Int.emod_lt_of_pos t sl0
        rw [List.length_map] at h1 h2 ⊢
        refine ⟨ss[(t % (ss.length : Int)).toNat]'(by omega), at_of (j := (t % (ss.length : Int)).toNat) (by omega) ?_⟩
        rw [List.getElem?_map, List.getElem?_eq_getElem (by omega)]
        rfl
      obtain ⟨x, hx0⟩ := im
      refine ⟨_, rfl, h, _, 1, _, rfl, rfl, SqL.of eh, atI_nat (j := 1) rfl, _, rfl, .inl ⟨_, rfl, _, rfl, h, _, 1, _, rfl, rfl, SqL.of eh, atI_nat (j := 1) rfl, sm, _, rfl, .inl (SqL.of es), _, _, rfl, rfl, sl0, sm, _, _, _, rfl, rfl, SqL.of es, hx0, ?_⟩⟩
      refine ⟨_, _, rfl, rfl, .inr ⟨by decide, by decide⟩, _, rfl, _, _, rfl, rfl, .inl ⟨by decide, by decide⟩, _, _, rfl, rfl, _, rfl, h, _, 3, _, rfl, rfl, SqL.of eh, atI_nat (j := 3) rfl, _, _, rfl, rfl, .inr ⟨by decide, by decide⟩, _, _, rfl, rfl, ?_⟩
      refine ⟨_, rfl, _, _, rfl, rfl, .inr ⟨by decide, by decide⟩, _, _, rfl, rfl, .inl ⟨_, rfl, _, _, rfl, rfl, show (0 : Int) < 2147483647 by decide, ?_⟩⟩
      dsimp only [tNext, tSeq, tAsg, gName, List.set_cons_succ, List.set_cons_zero]
      have b1 : ∀ (m x : Int), 0 < m → 0 ≤ x % m ∧ x % m < m := fun m x hm => ⟨Int.emod_nonneg _ (by omega), Int.emod_lt_of_pos _ hm⟩
      have kf : KeepP h g sm H H1 := ⟨kp, ⟨t + 1, tot, [], ss, eh, eg, es, by omega, sl, gh, sh, gsm⟩⟩
      generalize hn : ((x * 7919 + 104729 * t + tot * 31) * 48271 + 11) % 2147483647 = n1
      have q1 := b1 2147483647 ((x * 7919 + 104729 * t + tot * 31) * 48271 + 11) (by decide)
      rw [hn] at q1
      refine ⟨_, rfl, _, rfl, _, _, rfl, rfl, ⟨by decide, by decide⟩, _, _, rfl, rfl, _, _, rfl, rfl, .inl ⟨by omega, by omega⟩, .inl ⟨_, rfl, _, _, rfl, rfl, show (0 : Int) < 2147483629 by decide, ?_⟩⟩
      generalize hn2 : (n1 * (n1 / 1009 + 69621)) % 2147483629 = n2
      have q2 := b1 2147483629 (n1 * (n1 / 1009 + 69621)) (by decide)
      rw [hn2] at q2
      refine ⟨_, rfl, _, rfl, _, _, rfl, rfl, ⟨by decide, by decide⟩, _, _, rfl, rfl, _, _, rfl, rfl, .inl ⟨by omega, by omega⟩, _, rfl, _, _, rfl, rfl, .inl ⟨_, rfl, _, _, rfl, rfl, show (0 : Int) < 2147483399 by decide, ?_⟩⟩
      refine ⟨_, rfl, _, _, rfl, rfl, ⟨by decide, by decide⟩, .inl ⟨_, rfl, _, rfl, _, _, rfl, rfl, m0, ?_⟩⟩
      exact q _ _ (Int.emod_nonneg _ (by omega)) (Int.emod_lt_of_pos _ m0) kf
def spPot (K : PySem.W.Frag) : Sp := fun vs H Q _ => ∃ (a : Addr) (ns : List Int), vs = [.ref a] ∧ SqL K H a (ns.map V.int) ∧ ns.length ≤ 1000 ∧ ∀ h g s H', H h = none → H g = none → Same H H' → PotOk H' h g s → Q (.ref h) H'
theorem ok_law_pot (T : Txt K mg) : FnOk P w K mg base CX0 1 T.f_law_pot T.d_law_pot ["script"] (spPot K) := by
  refine T.F_law_pot.ok sc_law_pot (fun vs H Q E h => ?_) (fun cdv A outer s H vs Q E hr h => ?_)
  · obtain ⟨_, _, rfl, _⟩ := h
    rfl
  · obtain ⟨a, ns, rfl, ha, hl, q⟩ := h
    obtain ⟨ms, em, hm⟩ := cut_map ns none (some 63)
    refine ⟨_, (pss_cons (ps_setLc (i := 1) (own := [("item", 4)]) rfl sc_law_pot.nd rfl rfl (sw_true rfl rfl rfl (by decide +kernel)) (pi_listK K (pe_slice (sl_listK K) (pv 0) po_none (po_some pe_int))) (blkOk_by (N := N_law_pot) (sc := defScope s_law_pot) (by decide +kernel)) (fun _ _ _ _ _ => (pg_name (i := 4) sc_law_pot.nd rfl (.inl rfl))) (fun _ _ _ _ _ => pts_nil) (fun _ _ _ _ _ => (pe_callTy call_int1 (by rfl) T.z_int (by decide +kernel) (pa_cons (pv 4) pa_nil))))
      (pss_cons (ps_setLc (i := 2) (own := [("item", 4)]) rfl sc_law_pot.nd rfl rfl (sw_true rfl rfl rfl (by decide +kernel)) (pi_listK K (pv 1)) (blkOk_by (N := N_law_pot) (sc := defScope s_law_pot) (by decide +kernel)) (fun _ _ _ _ _ => (pg_name (i := 4) sc_law_pot.nd rfl (.inl rfl))) (fun _ _ _ _ _ => (pts_one (pt_cmpR op_ge (pe_callB call_abs (by rfl) T.z_abs (by decide +kernel) (pa_cons (pv 4) pa_nil)) (pe_op op_pow pe_int pe_int) (nomark _)))) (fun _ _ _ _ _ => (pe_callB call_abs (by rfl) T.z_abs (by decide +kernel) (pa_cons (pv 4) pa_nil))))
      (pss_cons (ps_set (i := 3) sc_law_pot.nd rfl (.inl rfl) (pe_op op_cat (pe_lc (own := [("item", 4)]) rfl sc_law_pot.nd (pi_listK K (pv 1)) (blkOk_by (N := N_law_pot) (sc := defScope s_law_pot) (by decide +kernel)) (fun _ _ _ _ _ => (pg_name (i := 4) sc_law_pot.nd rfl (.inl rfl))) (fun _ _ _ _ _ => (pts_one (pt_cmpR op_lt (pe_callB call_abs (by rfl) T.z_abs (by decide +kernel) (pa_cons (pv 4) pa_nil)) (pe_op op_pow pe_int pe_int) (nomark _)))) (fun _ _ _ _ _ => (pe_op op_mod (pe_callTy call_int1 (by rfl) T.z_int (by decide +kernel) (pa_cons (pv 4) pa_nil)) pe_int))) (pe_lst (pa_cons (pe_op op_add (pe_callB (call_lenK K) (by rfl) T.z_len PySem.boot_len (pa_cons (pv 1) pa_nil)) pe_int) pa_nil))))
      (pss_one (ps_ret (pe_lst (pa_cons (pv 2) (pa_cons (pv 3) (pa_cons pe_int (pa_cons (pe_op op_mod (pe_callTy call_int1 (by rfl) T.z_int (by decide +kernel) (pa_cons (pe_callB (cr_sum rfl) (by rfl) T.z_sum (by decide +kernel) (pa_cons (pv 3) pa_nil)) pa_nil)) pe_int) pa_nil)))))))))), ?_⟩
    refine ⟨_, rfl, 63, rfl, a, _, rfl, ha, fun p np => ⟨p, rfl, ⟨_, SqL.of upd_same⟩, fun D hD => lc_list (K := K) (xs := cutV (ns.map V.int) none (some 63)) (fun i H' => ∃ cs : List Int, cs.length = i ∧ Same (upd H p (.lst (cutV (ns.map V.int) none (some 63)))) H' ∧ H' D = some (.lst (cs.map V.int)))
      ⟨[], rfl, same_new hD, upd_same⟩ (fun i H' _ ⟨_, _, sm, _⟩ => sm.seq (SqL.of upd_same)) ?_ ?_⟩⟩
    · rintro i x H' hx ⟨cs, hcs, sm, hDl⟩
      rw [em] at hx
      obtain ⟨z, rfl, hz⟩ := int_at hx
      have hi := (List.getElem?_eq_some_iff.mp hz).1
      refine ⟨rfl, ?_⟩
      dsimp only [tYes]
      rw [if_pos rfl]
      refine ⟨_, rfl, .inl ⟨_, rfl, _, hDl, sz_small (by rw [List.length_map]; omega), cs ++ [z], by rw [List.length_append, hcs]; rfl, Same.put hD sm, ?_⟩⟩
      rw [upd_same, List.map_append]
      rfl
    · rintro H' ⟨cs, hcs, sm, hDl⟩
      have s1 : Same H H' := (same_new np).trans sm
      have hcl : cs.length ≤ 1000 := by rw [hcs, em, List.length_map]; omega
      clear sm hD
      dsimp only [tNext, tSeq, tAsg, gName, List.set_cons_succ, List.set_cons_zero]
      refine ⟨_, rfl, D, rfl, ⟨_, SqL.of hDl⟩, fun D2 nD2 => lc_list (K := K) (xs := cs.map V.int) (fun i H2 => ∃ gs : List Int, gs.length ≤ i ∧ Same H' H2 ∧ H2 D2 = some (.lst (gs.map V.int))) ⟨[], Nat.le_refl _, same_new nD2, upd_same⟩ (fun i H2 _ ⟨_, _, sm, _⟩ => SqL.of (sm _ _ hDl)) ?_ ?_⟩
      · rintro i x H2 hx ⟨gs, hgs, sm, hD2⟩
        obtain ⟨z, rfl, hz⟩ := int_at hx
        have hi := (List.getElem?_eq_some_iff.mp hz).1
        refine ⟨rfl, ?_⟩
        refine ⟨_, rfl, _, rfl, _, _, rfl, rfl, ⟨by decide, by decide, by decide⟩, _, _, rfl, rfl, _, rfl, ?_⟩
        by_cases e : (10 : Int) ^ (18 : Int).toNat ≤ if z < 0 then -z else z
        · rw [decide_eq_true e]
          dsimp only
          rw [if_pos rfl]
          refine ⟨_, rfl, _, rfl, _, hD2, sz_small (by rw [List.length_map]; omega), gs ++ [if z < 0 then -z else z], by rw [List.length_append]; show gs.length + 1 ≤ i + 1; omega, Same.put nD2 sm, ?_⟩
          rw [upd_same, List.map_append]
          rfl
        · rw [decide_eq_false e]
          dsimp only
          rw [if_neg (by decide)]
          exact ⟨gs, by omega, sm, hD2⟩
      · rintro H2 ⟨gs, hgs, s2, hD2⟩
        have s02 := s1.trans s2
        have hD1 := s2 _ _ hDl
        refine ⟨_, rfl, D, rfl, ⟨_, SqL.of hD1⟩, fun D3 nD3 => lc_list (K := K) (xs := cs.map V.int) (fun i H3 => ∃ ss : List Int, ss.length ≤ i ∧ Same H2 H3 ∧ H3 D3 = some (.lst (ss.map V.int))) ⟨[], Nat.le_refl _, same_new nD3, upd_same⟩ (fun i H2 _ ⟨_, _, sm, _⟩ => SqL.of (sm _ _ hD1)) ?_ ?_⟩
        · rintro i x H3 hx ⟨ss, hss, sm, hD3⟩
          obtain ⟨z, rfl, hz⟩ := int_at hx
          have hi := (List.getElem?_eq_some_iff.mp hz).1
          refine ⟨rfl, ?_⟩
          refine ⟨_, rfl, _, rfl, _, _, rfl, rfl, ⟨by decide, by decide, by decide⟩, _, _, rfl, rfl, _, rfl, ?_⟩
          by_cases e : (if z < 0 then -z else z) < (10 : Int) ^ (18 : Int).toNat
          · rw [decide_eq_true e]
            dsimp only
            rw [if_pos rfl]
            refine ⟨_, rfl, .inl ⟨_, rfl, _, _, rfl, rfl, show (0 : Int) < 1000000007 by decide, _, hD3, sz_small (by rw [List.length_map]; omega), ss ++ [z % 1000000007], by rw [List.length_append]; show ss.length + 1 ≤ i + 1; omega, Same.put nD3 sm, ?_⟩⟩
            rw [upd_same, List.map_append]
            rfl
          · rw [decide_eq_false e]
            dsimp only
            rw [if_neg (by decide)]
            exact ⟨ss, by omega, sm, hD3⟩
        · rintro H3 ⟨ss, hss, s3, hD3⟩
          rw [List.length_map] at hgs hss
          have s03 := s02.trans s3
          refine ⟨_, rfl, D, _, rfl, .inl (SqL.of (s3 _ _ hD1)), _, _, rfl, rfl, by show 1 ≤ sizeLine; decide, fun p1 n1 => ?_⟩
          have t1 := same_new (o := HO.lst [V.int (((cs.map V.int).length : Int) + 1)]) n1
          refine ⟨D3, p1, ss.map V.int, [V.int (((cs.map V.int).length : Int) + 1)], rfl, rfl, t1 _ _ hD3, upd_same, Nat.le_of_lt (sz_small (by rw [List.length_map]; show ss.length + 1 ≤ 100000; omega)), fun p2 n2 => ?_⟩
          have e2 : ss.map V.int ++ [V.int (((cs.map V.int).length : Int) + 1)] = (ss ++ [((cs.map V.int).length : Int) + 1]).map V.int := by
            rw [List.map_append]
            rfl
          rw [e2]
          have t2 := same_new (o := HO.lst ((ss ++ [((cs.map V.int).length : Int) + 1]).map V.int)) n2
          have hp2 : (upd (upd H3 p1 (.lst [V.int (((cs.map V.int).length : Int) + 1)])) p2 (.lst ((ss ++ [((cs.map V.int).length : Int) + 1]).map V.int))) p2 = some (.lst ((ss ++ [((cs.map V.int).length : Int) + 1]).map V.int)) := upd_same
          have t12 := t1.trans t2
          have hD2f := (s3.trans t12) _ _ hD2
          have n2' := n2
          generalize upd (upd H3 p1 (.lst [V.int (((cs.map V.int).length : Int) + 1)])) p2 (.lst ((ss ++ [((cs.map V.int).length : Int) + 1]).map V.int)) = H4 at t12 hp2 hD2f ⊢
          have s04 := s03.trans t12
          refine ⟨_, rfl, _, rfl, _, rfl, p2, _, rfl, SqL.of hp2, .inl ⟨_, rfl, _, _, rfl, rfl, show (0 : Int) < 999983 by decide, by show 4 ≤ sizeLine; decide, fun h nh => ?_⟩⟩
          have t3 := same_new (o := HO.lst (pv4 D2 p2 0 ((ss ++ [((cs.map V.int).length : Int) + 1]).sum % 999983))) nh
          have d2p : D2 ≠ p2 := fun e => by
            have z := (s3.trans t1) _ _ hD2
            rw [e, n2'] at z
            cases z
          have d2h : D2 ≠ h := fun e => by
            rw [← e, hD2f] at nh
            cases nh
          have p2h : p2 ≠ h := fun e => by
            rw [← e, hp2] at nh
            cases nh
          refine q h D2 p2 _ (s04.free nh) (s1.free nD2) (s04.trans t3) ⟨0, _, gs, _, upd_same, t3 _ _ hD2f, t3 _ _ hp2, Int.le_refl 0, ?_, d2h, p2h, d2p⟩
          rw [List.length_append]
          show 0 < ss.length + 1
          omega
end
end Fm
namespace Fm
open PySem PySem.Spec PyProof.Rows L2
section
variable {P : Program} {w : World} {K : PySem.W.Frag} {mg : Str → Option Value} {base : Heap}
def spMix (K : PySem.W.Frag) : Sp := fun vs H Q _ => ∃ (h g s a : Addr) (xs : List V), vs = [.ref h, .ref a] ∧ PotOk H h g s ∧ SqL K H a xs ∧ xs.length ≤ 1000 ∧ ∀ d ys H', H d = none → KeepP h g s H H' → H' d = some (.lst ys) → ys.Perm xs → Q (.ref d) H'
theorem ok_law_mixed (T : Txt K mg) : FnOk P w K mg base CX0 2 T.f_law_mixed T.d_law_mixed ["pot", "items"] (spMix K) := by
  refine T.F_law_mixed.ok sc_law_mixed (fun vs H Q E h => ?_) (fun cdv A outer s H vs Q E hr h => ?_)
  · obtain ⟨_, _, _, _, _, rfl, _⟩ := h
    rfl
  · obtain ⟨h, g, sm, a, xs, rfl, hx, ha, hl, q⟩ := h
    refine ⟨_, (pss_cons (ps_set (i := 2) sc_law_mixed.nd rfl (.inl rfl) (pe_callTy (call_listK (K := K)) (by rfl) T.z_list (by decide +kernel) (pa_cons (pv 1) pa_nil)))
      (pss_cons (ps_for PassesOwn.never rfl (pi_range1 (by rfl) T.z_range (pa_cons (pe_callB (call_lenK K) (by rfl) T.z_len PySem.boot_len (pa_cons (pv 2) pa_nil)) pa_nil)) (pg_name (i := 3) sc_law_mixed.nd rfl (.inl rfl)) (pss_cons (ps_set (i := 4) sc_law_mixed.nd rfl (.inl rfl) (pe_call (ok_law_draw T) hr (by rfl) T.g_law_draw T.F_law_draw.kp T.b_law_draw .nil pass0 (pa_cons (pv 0) (pa_cons (pe_callB (call_lenK K) (by rfl) T.z_len PySem.boot_len (pa_cons (pv 2) pa_nil)) pa_nil))))
      (pss_one (ps_asg (pe_tup (pa_cons (pe_ix (ix_listK K) (pv 2) (pv 4) (fun _ _ => rfl)) (pa_cons (pe_ix (ix_listK K) (pv 2) (pv 3) (fun _ _ => rfl)) pa_nil))) (pg_tupK K (n := 2) rfl (pgs_cons (pg_sub (pv 2) (pv 3) set_list) (pgs_cons (pg_sub (pv 2) (pv 4) set_list) pgs_nil)))))))
      (pss_one (ps_ret (pv 2))))), ?_⟩
    refine ⟨_, rfl, a, xs, rfl, .inl ha, fun d nd => ?_⟩
    have s1 : Same H (upd H d (.lst xs)) := same_new nd
    have hd : (upd H d (.lst xs)) d = some (.lst xs) := upd_same
    obtain ⟨dh, dg, ds⟩ := hx.ne nd
    generalize upd H d (.lst xs) = H1 at s1 hd ⊢
    dsimp only [tNext, tSeq, tAsg, gName, List.set_cons_succ, List.set_cons_zero]
    refine ⟨_, rfl, d, _, rfl, .inl (SqL.of hd), (xs.length : Int), rfl, by omega, by omega, for_range (lo := 0) (n := ((xs.length : Nat) : Int).toNat) (fun i σ H' => ∃ (y3 y4 : Option V) (ys : List V), σ = [some (.ref h), some (.ref a), some (.ref d), y3, y4] ∧ KeepP h g sm H H' ∧ H' d = some (.lst ys) ∧ ys.Perm xs)
      ⟨none, none, xs, rfl, .of hx s1, hd, .refl _⟩ ?_ ?_⟩
    · rintro i σ H' hi ⟨y3, y4, ys, rfl, k, hd', pm⟩
      rw [Int.toNat_natCast] at hi
      have yl := pm.length_eq
      refine ⟨_, rfl, _, rfl, d, _, rfl, .inl (SqL.of hd'), h, g, sm, (ys.length : Int), rfl, k.pot, by omega, by omega, fun o H2 o0 o1 k2 => ?_⟩
      have hd2 := k2.rest d _ dh dg hd'
      obtain ⟨m, rfl⟩ : ∃ m : Nat, o = (m : Int) := ⟨o.toNat, by omega⟩
      have hm : m < ys.length := by omega
      have hi2 : i < ys.length := by omega
      have e0 : (0 : Int) + (i : Int) = (i : Int) := by omega
      dsimp only [tNext, tSeq, tAsg, gName, List.set_cons_succ, List.set_cons_zero]
      rw [e0]
      refine ⟨_, rfl, _, rfl, d, _, _, _, rfl, rfl, SqL.of hd2, atI_nat (j := m) (List.getElem?_eq_getElem hm), _, rfl, _, rfl, d, _, _, _, rfl, rfl, SqL.of hd2, atI_nat (j := i) (List.getElem?_eq_getElem hi2), by show 2 ≤ sizeLine; decide, fun p np => ?_⟩
      have s3 : Same H2 (upd H2 p (.tup [ys[m], ys[i]])) := same_new np
      have hp : (upd H2 p (.tup [ys[m], ys[i]])) p = some (.tup [ys[m], ys[i]]) := upd_same
      have hd3 := s3 _ _ hd2
      have k3 := (k.trans k2).same s3
      generalize upd H2 p (.tup [ys[m], ys[i]]) = H3 at hp hd3 k3 ⊢
      refine ⟨p, _, rfl, SqT.of hp, rfl, _, _, rfl, _, rfl, _, rfl, d, _, _, i, rfl, rfl, hd3, ixN_at hi2, _, _, rfl, _, rfl, _, rfl, d, _, _, m, rfl, rfl, upd_same, ixN_at (by rw [List.length_set]; exact hm), rfl, ?_⟩
      refine ⟨_, _, _, rfl, ?_, upd_same, (List.set_set_perm hi2 hm).trans pm⟩
      have kp := k3
      have pz := kp.pot
      obtain ⟨t, tot, gs, ss, e1, e2, e3, r⟩ := pz.ex
      refine ⟨fun b u n1 n2 e => ?_, ⟨t, tot, gs, ss, ?_, ?_, ?_, r⟩⟩
      · have nb : b ≠ d := fun z => by
          rw [z, nd] at e
          cases e
        rw [upd_ne nb, upd_ne nb]
        exact kp.rest b u n1 n2 e
      · rw [upd_ne dh.symm, upd_ne dh.symm]
        exact e1
      · rw [upd_ne dg.symm, upd_ne dg.symm]
        exact e2
      · rw [upd_ne ds.symm, upd_ne ds.symm]
        exact e3
    · rintro σ H' ⟨y3, y4, ys, rfl, k, hd', pm⟩
      exact ⟨_, rfl, q d ys H' nd k hd' pm⟩
end
end Fm
namespace Fm
open PySem PySem.Spec PyProof.Rows L2
section
variable {P : Program} {w : World} {K : PySem.W.Frag} {mg : Str → Option Value} {base : Heap}
theorem cat_ct {K : PySem.W.Frag} {H : Hp} {Q : VK} {x : V} {c : List Int} {j : Int} (hc : Dh K H x (ctD c)) (hl : c.length ≤ 1000) {r : Addr} (hr : H r = some (.tup [.int j]))
    (q : ∀ v H', Same H H' → Dh K H' v (ctD (c ++ [j])) → Q v H') : rCatA K x (.ref r) H Q := by
  obtain ⟨a, rfl, s⟩ := ct_inv hc
  refine ⟨a, r, _, _, rfl, rfl, s, SqT.of hr, ?_, fun e => ?_, fun _ e => (nomatch e), fun _ _ p hp => ?_⟩
  · rw [List.length_map]
    exact Nat.le_of_lt (sz_small (by show c.length + 1 ≤ 100000; omega))
  · have e0 : c = [] := List.map_eq_nil_iff.mp e
    subst e0
    exact q _ _ (Same.refl H) (dh_ct (c := [j]) (SqT.of hr))
  · refine q _ _ (same_new hp) (dh_ct ?_)
    rw [List.map_append]
    exact SqT.of upd_same
/-- patterns of so many columns -/
def CtA (K : PySem.W.Frag) (H : Hp) (n : Nat) (xs : List V) : Prop := ∀ x ∈ xs, ∃ c : List Int, Dh K H x (ctD c) ∧ Asc n (-1) c
theorem CtA.ext {H H' : Hp} {n : Nat} {xs : List V} (e : Ext H H') (h : CtA K H n xs) : CtA K H' n xs := fun x hx => by
  obtain ⟨c, hc, hl⟩ := h x hx
  exact ⟨c, hc.ext e, hl⟩
theorem Asc.snoc {n : Int} : ∀ {l : Int} {ps : List Int}, Asc n l ps → l < n → Asc (n + 1) l (ps ++ [n])
  | _, [], _, h => ⟨h, by omega, True.intro⟩
  | _, c :: r, ⟨h1, h2, h3⟩, _ => ⟨h1, by omega, h3.snoc h2⟩
theorem Asc.wide {n : Int} : ∀ {l : Int} {ps : List Int}, Asc n l ps → Asc (n + 1) l ps
  | _, [], _ => True.intro
  | _, c :: r, ⟨h1, h2, h3⟩ => ⟨h1, by omega, h3.wide⟩
def patsOf : Nat → List (List Int)
  | 0 => [[]]
  | n + 1 => patsOf n ++ (patsOf n).map fun q => q ++ [(n : Int)]
theorem pats_len : ∀ n, (patsOf n).length = 2 ^ n
  | 0 => rfl
  | n + 1 => by
    show (patsOf n ++ (patsOf n).map fun q => q ++ [(n : Int)]).length = _
    rw [List.length_append, List.length_map, pats_len n, Nat.pow_succ]
    omega
theorem Asc.split {n : Int} : ∀ {l : Int} {q : List Int}, Asc (n + 1) l q → Asc n l q ∨ ∃ q', q = q' ++ [n] ∧ Asc n l q'
  | _, [], _ => .inl True.intro
  | l, c :: r, ⟨h1, h2, h3⟩ => by
    by_cases e : c < n
    · rcases h3.split with z | ⟨q', e1, z⟩
      · exact .inl ⟨h1, e, z⟩
      · exact .inr ⟨c :: q', by rw [e1]; rfl, h1, e, z⟩
    · have ec : c = n := by omega
      cases r with
      | nil => exact .inr ⟨[], by rw [ec]; rfl, True.intro⟩
      | cons d r =>
        have := h3.1
        have := h3.2.1
        omega
theorem mem_pats : ∀ {n : Nat} {q : List Int}, q ∈ patsOf n ↔ Asc n (-1) q
  | 0, q => by
    constructor
    · intro h
      rw [List.mem_singleton.mp h]
      exact True.intro
    · intro h
      cases q with
      | nil => exact List.mem_singleton.mpr rfl
      | cons c r =>
        have h1 := h.1
        have h2 := h.2.1
        omega
  | n + 1, q => by
    show q ∈ patsOf n ++ (patsOf n).map (fun q => q ++ [(n : Int)]) ↔ Asc ((n : Int) + 1) (-1) q
    rw [List.mem_append, mem_pats, List.mem_map]
    constructor
    · rintro (h | ⟨p, hp, rfl⟩)
      · exact h.wide
      · exact (mem_pats.mp hp).snoc (by omega)
    · intro h
      rcases h.split with z | ⟨p, e, z⟩
      · exact .inl z
      · exact .inr ⟨p, mem_pats.mpr z, e.symm⟩
theorem pats_nodup : ∀ n, (patsOf n).Nodup
  | 0 => List.nodup_cons.mpr ⟨fun h => (by cases h), List.nodup_nil⟩
  | n + 1 => by
    show (patsOf n ++ (patsOf n).map fun q => q ++ [(n : Int)]).Nodup
    refine List.nodup_append.mpr ⟨pats_nodup n, ?_, fun a ha b hb e => ?_⟩
    · exact List.pairwise_map.mpr ((pats_nodup n).imp fun {x y} hne e => hne (List.append_cancel_right e))
    · obtain ⟨q, _, rfl⟩ := List.mem_map.mp hb
      rw [e] at ha
      have := (mem_pats.mp ha).mem n (List.mem_append_right _ (List.mem_singleton.mpr rfl))
      omega
/-- what a pattern's data tells -/
def unI : PyData → Int
  | .int i => i
  | _ => 0
def unP : PyData → List Int
  | .tuple l => l.map unI
  | _ => []
theorem unP_ct (c : List Int) : unP (ctP c) = c := by
  show (c.map PyData.int).map unI = c
  rw [List.map_map]
  exact (List.map_congr_left fun _ _ => rfl).trans (List.map_id c)
theorem dhs_of {H : Hp} {g : V × PyData → List Int} : ∀ {S : List (V × PyData)}, (∀ b ∈ S, Dh K H b.1 (ctD (g b))) → DhAll K H (S.map (·.1)) ((S.map g).map ctD)
  | [], _ => .nil
  | b :: S, h => .cons (h b (List.mem_cons_self ..)) (dhs_of fun z hz => h z (List.mem_cons_of_mem _ hz))
theorem pats_data {H : Hp} : ∀ {xs : List V} {qs : List (List Int)}, DhAll K H xs (qs.map ctD) → ∃ bs : List (V × PyData), bs.map (·.1) = xs ∧ bs.map (fun b => unP b.2) = qs ∧ ∀ b ∈ bs, Dh K H b.1 (ctD (unP b.2)) ∧ b.2 = ctP (unP b.2)
  | [], [], _ => ⟨[], rfl, rfl, fun b hb => by cases hb⟩
  | x :: xs, c :: qs, h => by
    rw [List.map_cons] at h
    cases h with
    | cons h t =>
      obtain ⟨bs, e, e2, hb⟩ := pats_data t
      refine ⟨(x, ctP c) :: bs, by rw [List.map_cons, e], by rw [List.map_cons, e2, unP_ct], fun b hm => ?_⟩
      rcases List.mem_cons.mp hm with z | z
      · rw [z, unP_ct]
        exact ⟨h, rfl⟩
      · exact hb b z
  | x :: xs, [], h => by cases h
  | [], c :: qs, h => by cases h
theorem le_pats (a b : List Int) : (!PySem.W.dataLt (ctP b) (ctP a)) = decide (a ≤ b) := by
  have e : PySem.W.dataLt (ctP b) (ctP a) = decide (b < a) := (PySem.W.dataLt_tuple _ _).trans (PySem.W.dataLt_ints b a)
  rw [e]
  by_cases h : b < a
  · have h' : ¬ a ≤ b := fun r => List.not_lt.mpr r h
    simp [h, h']
  · have h' : a ≤ b := List.not_lt.mp h
    simp [h, h']
theorem sorted_pats {qs : List (List Int)} (nd : qs.Nodup) : (qs.mergeSort fun a b => decide (a ≤ b)).Pairwise fun a b => HT.lexLt a b = true := by
  have h1 := List.pairwise_mergeSort (le := fun a b : List Int => decide (a ≤ b)) (fun a b c x y => decide_eq_true (List.le_trans (of_decide_eq_true x) (of_decide_eq_true y))) (fun a b => by
    rcases List.le_total a b with x | x <;> simp [x]) qs
  have h2 : (qs.mergeSort fun a b => decide (a ≤ b)).Nodup := (List.mergeSort_perm qs _).nodup_iff.mpr nd
  refine (h1.and h2).imp fun {a b} ⟨x, y⟩ => ?_
  rw [lexLt_dec]
  refine decide_eq_true ?_
  by_cases z : a < b
  · exact z
  · exact absurd (List.le_antisymm (of_decide_eq_true x) (List.not_lt.mp z)) y
theorem sort_pats {H : Hp} {a : Addr} {xs : List V} {qs : List (List Int)} {Q : VK} (hs : SqL K H a xs) (hd : DhAll K H xs (qs.map ctD)) (few : ∀ q ∈ qs, q.length ≤ 5)
    (q : ∀ p ys (qs' : List (List Int)), H p = none → DhAll K H ys (qs'.map ctD) → qs' = (qs.mergeSort fun a b => decide (a ≤ b)) → Q (.ref p) (upd H p (.lst ys))) : rSortTs K [.ref a] H Q := by
  obtain ⟨bs, e, e2, hb⟩ := pats_data hd
  refine ⟨a, bs, rfl, by rw [e]; exact hs, fun b hm => ?_, ?_, fun p np => ?_⟩
  · obtain ⟨h1, h2⟩ := hb b hm
    refine ⟨by rw [h2]; exact dp_ct h1, ⟨_, h2⟩, ?_⟩
    rw [h2]
    have z := (lay_ct (unP b.2)).2
    omega
  · intro d hd d' hd'
    obtain ⟨b, hm, rfl⟩ := List.mem_map.mp hd
    obtain ⟨b', hm', rfl⟩ := List.mem_map.mp hd'
    rw [(hb b hm).2, (hb b' hm').2]
    show PySem.W.alikeAll ((unP b.2).map PyData.int) ((unP b'.2).map PyData.int) = true
    exact PySem.W.alike_ints _ _
  · have pm := List.mergeSort_perm bs (PySem.W.dataLe false (fun b : V × PyData => b.2))
    refine q p _ ((bs.mergeSort (PySem.W.dataLe false (fun b : V × PyData => b.2))).map fun b => unP b.2) np (dhs_of fun b hm => (hb b (pm.mem_iff.mp hm)).1) ?_
    rw [← e2]
    refine List.map_mergeSort (s := fun a b : List Int => decide (a ≤ b)) fun b hm b' hm' => ?_
    rw [PySem.W.dataLe_eq]
    show (!PySem.W.dataLt b'.2 b.2) = _
    rw [(hb b hm).2, (hb b' hm').2, unP_ct, unP_ct]
    exact le_pats _ _
structure PatsAll (n : Nat) (qs : List (List Int)) : Prop where
  nd : qs.Nodup
  all : ∀ q, q ∈ qs ↔ Asc n (-1) q
  len : qs.length = 2 ^ n
  asc : qs.Pairwise fun a b => HT.lexLt a b = true
theorem pats_all {n : Nat} {qs : List (List Int)} (e : qs = (patsOf n).mergeSort fun a b => decide (a ≤ b)) : PatsAll n qs := by
  have h : qs.Perm (patsOf n) := by
    rw [e]
    exact List.mergeSort_perm _ _
  exact ⟨h.nodup_iff.mpr (pats_nodup n), fun q => h.mem_iff.trans mem_pats, by rw [h.length_eq, pats_len], by rw [e]; exact sorted_pats (pats_nodup n)⟩
theorem cta_of {H : Hp} {n : Nat} : ∀ {xs : List V} {qs : List (List Int)}, DhAll K H xs (qs.map ctD) → (∀ q ∈ qs, Asc n (-1) q) → CtA K H n xs
  | [], _, _, _ => fun x hx => by cases hx
  | x :: xs, q :: qs, h, ha => by
    rw [List.map_cons] at h
    cases h with
    | cons h1 t =>
      intro y hy
      rcases List.mem_cons.mp hy with e | e
      · rw [e]
        exact ⟨q, h1, ha q (List.mem_cons_self ..)⟩
      · exact cta_of t (fun z hz => ha z (List.mem_cons_of_mem _ hz)) y e
  | x :: xs, [], h, _ => by cases h
def spPats (K : PySem.W.Frag) : Sp := fun vs H Q _ => ∃ n : Nat, vs = [.int n] ∧ n ≤ 5 ∧ ∀ (p : Addr) (xs : List V) (qs : List (List Int)) (H' : Hp), H p = none → Same H H' → H' p = some (.lst xs) → DhAll K H' xs (qs.map ctD) → PatsAll n qs → Q (.ref p) H'
theorem pow5 {n : Nat} (h : n ≤ 5) : 1 ≤ 2 ^ n ∧ 2 ^ n ≤ 32 := ⟨Nat.one_le_two_pow, Nat.le_trans (Nat.pow_le_pow_right (by decide) h) (by decide)⟩
theorem ok_law_patterns (T : Txt K mg) : FnOk P w K mg base CX0 1 T.f_law_patterns T.d_law_patterns ["columns"] (spPats K) := by
  refine T.F_law_patterns.ok sc_law_patterns (fun vs H Q E h => ?_) (fun cdv A outer s H vs Q E hr h => ?_)
  · obtain ⟨_, rfl, _⟩ := h
    rfl
  · obtain ⟨n, rfl, hn, q⟩ := h
    refine ⟨_, (pss_cons (ps_set (i := 1) sc_law_patterns.nd rfl (.inl rfl) (pe_lst (pa_cons (pe_tup pa_nil) pa_nil)))
      (pss_cons (ps_for PassesOwn.never rfl (pi_range1 (by rfl) T.z_range (pa_cons (pv 0) pa_nil)) (pg_name (i := 2) sc_law_patterns.nd rfl (.inr rfl)) (pss_one (ps_set (i := 1) sc_law_patterns.nd rfl (.inl rfl) (pe_op op_cat (pv 1) (pe_lc (own := [("pattern", 3)]) rfl sc_law_patterns.nd (pi_listK K (pv 1)) (blkOk_by (N := N_law_patterns) (sc := defScope s_law_patterns) (by decide +kernel)) (fun _ _ _ _ _ => (pg_name (i := 3) sc_law_patterns.nd rfl (.inl rfl))) (fun _ _ _ _ _ => pts_nil) (fun _ _ _ _ _ => (pe_op (op_catK K) (pv 3) (pe_tup (pa_cons (pv 2) pa_nil)))))))))
      (pss_one (ps_ret (pe_callB (call_sortTsK (K := K) hr.units) (by rfl) T.z_sorted (by decide +kernel) (pa_cons (pv 1) pa_nil)))))), ?_⟩
    refine ⟨by show 0 ≤ sizeLine; decide, fun t nt => ⟨by show 1 ≤ sizeLine; decide, fun f nf => ?_⟩⟩
    have s1 : Same H (upd H t (.tup [])) := same_new nt
    have e1 : (upd H t (.tup [])) t = some (.tup []) := upd_same
    generalize upd H t (.tup []) = H1 at s1 e1 nf ⊢
    have s2 : Same H1 (upd H1 f (.lst [.ref t])) := same_new nf
    have e2 : (upd H1 f (.lst [.ref t])) f = some (.lst [.ref t]) := upd_same
    generalize upd H1 f (.lst [.ref t]) = H2 at s2 e2 ⊢
    have s12 := s1.trans s2
    refine ⟨_, rfl, n, rfl, by omega, by omega, for_range (lo := 0) (n := ((n : Nat) : Int).toNat) (fun i σ H' => ∃ (f : Addr) (xs : List V) (y2 y3 : Option V), σ = [some (.int n), some (.ref f), y2, y3] ∧ Same H H' ∧ H' f = some (.lst xs) ∧ DhAll K H' xs ((patsOf i).map ctD))
      ⟨f, _, none, none, rfl, s12, e2, .cons (.tup (SqT.of (s2 _ _ e1)) .nil) .nil⟩ ?_ ?_⟩
    · rintro i σ H0 hi ⟨f, xs, y2, y3, rfl, sm, hf, hc⟩
      rw [Int.toNat_natCast] at hi
      have h32 := pow5 (show i ≤ 5 by omega)
      have hlen : xs.length = 2 ^ i := by rw [hc.length, List.length_map, pats_len]
      refine ⟨_, rfl, ?_⟩
      refine ⟨_, rfl, f, rfl, ⟨xs, SqL.of hf⟩, fun D nD => lc_list (K := K) (xs := xs) (fun j H' => ∃ acc, Same H0 H' ∧ H' D = some (.lst acc) ∧ acc.length = j ∧ DhAll K H' acc (((patsOf i).take j).map fun q => ctD (q ++ [(i : Int)]))) ⟨[], same_new nD, upd_same, rfl, by rw [List.take_zero]; exact .nil⟩ (fun j H' _ ⟨_, s', _⟩ => s'.seq (SqL.of hf)) ?_ ?_⟩
      · rintro j x H' hx ⟨acc, s', hD, hal, hac⟩
        obtain ⟨d, hd, hxc⟩ := hc.get hx
        obtain ⟨c, hcq, rfl⟩ := map_at hd
        have hasc := mem_pats.mp (List.mem_of_getElem? hcq)
        have hjl := (List.getElem?_eq_some_iff.mp hx).1
        refine ⟨rfl, ?_⟩
        dsimp only [tYes]
        rw [if_pos rfl]
        have hc5 : c.length ≤ 1000 := by
          have := hasc.len (by omega)
          omega
        refine ⟨_, rfl, _, rfl, by show 1 ≤ sizeLine; decide, fun r nr => cat_ct (K := K) (c := c) (j := (0 + (i : Int))) (hxc.ext (.of (s'.trans (same_new nr)))) hc5 upd_same fun v H3 s4 hv => ?_⟩
        have s5 : Same H' H3 := (same_new nr).trans s4
        refine ⟨acc, s5 _ _ hD, sz_small (by omega), acc ++ [v], Same.put nD (s'.trans s5), upd_same, by rw [List.length_append, hal]; rfl, ?_⟩
        have ep : Ext H3 (upd H3 D (.lst (acc ++ [v]))) := Ext.put (s5 _ _ hD)
        rw [List.take_add_one, hcq, List.map_append]
        refine ((hac.ext (.of s5)).ext ep).snoc ?_
        rw [Int.zero_add] at hv
        exact hv.ext ep
      · rintro H' ⟨acc, s', hD, hal, hac⟩
        have hal2 : acc.length = 2 ^ i := by rw [hal, hlen]
        rw [List.take_of_length_le (by rw [pats_len, hlen]; exact Nat.le_refl _)] at hac
        refine ⟨f, D, xs, acc, rfl, rfl, s' _ _ hf, hD, Nat.le_of_lt (sz_small (by omega)), fun p np => ?_⟩
        have sp : Same H' (upd H' p (.lst (xs ++ acc))) := same_new np
        refine ⟨p, _, _, _, rfl, (sm.trans s').trans sp, upd_same, ?_⟩
        show DhAll K _ (xs ++ acc) ((patsOf i ++ (patsOf i).map fun q => q ++ [(i : Int)]).map ctD)
        rw [List.map_append, List.map_map]
        exact DhAll.append (hc.ext (.of (s'.trans sp))) (hac.ext (.of sp))
    · rintro σ H' ⟨f, xs, y2, y3, rfl, sm, hf, hc⟩
      rw [Int.toNat_natCast] at hc
      refine ⟨_, rfl, sort_pats (SqL.of hf) hc (fun q hq => by have := (mem_pats.mp hq).len (by omega); omega) fun p ys qs' np hd pm => ?_⟩
      have sp : Same H' (upd H' p (.lst ys)) := same_new np
      exact q p ys qs' _ (sm.free np) (sm.trans sp) upd_same (hd.ext (.of sp)) (pats_all pm)
end
end Fm
namespace Fm
open PySem PySem.Spec PyProof.Rows L2
section
variable {P : Program} {w : World} {K : PySem.W.Frag} {mg : Str → Option Value} {base : Heap}
/-- a list of patterns at d -/
def LstP (K : PySem.W.Frag) (H : Hp) (d : Addr) (ps : List (List Int)) : Prop := ∃ xs, H d = some (.lst xs) ∧ DhAll K H xs (ps.map ctD)
theorem LstP.same {H H' : Hp} {d : Addr} {ps : List (List Int)} (s : Same H H') : LstP K H d ps → LstP K H' d ps := fun ⟨xs, h1, h2⟩ => ⟨xs, s _ _ h1, h2.ext (.of s)⟩
def spLParts (K : PySem.W.Frag) : Sp := fun vs H Q _ => ∃ (n : Nat) (v : V) (ps : List (List Int)), vs = [.int n, v] ∧ Dh K H v (patsD ps) ∧ ps.length ≤ 1000 ∧ ∀ d H', H d = none → Same H H' → LstP K H' d (partL n ps) → Q (.ref d) H'
theorem ok_law_parts (T : Txt K mg) : FnOk P w K mg base CX0 1 T.f_law_parts T.d_law_parts ["columns", "patterns"] (spLParts K) := by
  refine T.F_law_parts.ok sc_law_parts (fun vs H Q E h => ?_) (fun cdv A outer s H vs Q E hr h => ?_)
  · obtain ⟨_, _, _, rfl, _⟩ := h
    rfl
  · obtain ⟨n, v, ps, rfl, hv, hpl, q⟩ := h
    obtain ⟨a, xs, rfl, ha, hx⟩ := hv.tup_inv
    refine ⟨_, (pss_one (ps_ret (pe_lc (own := [("pattern", 2)]) rfl sc_law_parts.nd (pi_tupK K (pv 1)) (blkOk_by (N := N_law_parts) (sc := defScope s_law_parts) (by decide +kernel)) (fun _ _ _ _ _ => (pg_name (i := 2) sc_law_parts.nd rfl (.inl rfl))) (fun _ _ _ _ _ => (pts_one (pt_cmpR op_lt (pe_callB (call_lenK K) (by rfl) T.z_len PySem.boot_len (pa_cons (pv 2) pa_nil)) (pv 0) (nomark _)))) (fun _ _ _ _ _ => (pv 2))))), ?_⟩
    refine ⟨_, rfl, a, rfl, ⟨_, ha⟩, fun D nD => lc_tup (K := K) (xs := xs) (fun j H' => Got K H D (((ps.take j).filter fun p => decide (p.length < n)).map ctD) H') (.zero nD) (fun j H' _ g => (Ext.of g.same).sqT ha) ?_ ?_⟩
    · rintro j x H2 hxj g
      obtain ⟨d, hd, hxd⟩ := dhAll_at hx hxj
      obtain ⟨p, hp1, rfl⟩ := map_at hd
      have hxd2 := hxd.ext (.of g.same)
      obtain ⟨b, rfl, hb⟩ := ct_inv hxd2
      have hf := take_filter (f := fun p => decide (p.length < n)) hp1
      refine ⟨rfl, ?_⟩
      refine ⟨_, rfl, b, _, rfl, .inr hb, _, rfl, _, _, rfl, rfl, _, rfl, ?_⟩
      have hpl2 : (((ps.take j).filter fun p => decide (p.length < n)).map ctD).length ≤ 10000 := by
        rw [List.length_map]
        have := List.length_filter_le (fun p : List Int => decide (p.length < n)) (ps.take j)
        have := List.length_take (i := j) (l := ps)
        omega
      rw [List.length_map]
      by_cases e : p.length < n
      · rw [decide_eq_true (show (p.length : Int) < n by omega)]
        rw [hf, if_pos (decide_eq_true e), List.map_append]
        dsimp only
        rw [if_pos rfl]
        exact ⟨_, rfl, g.put nD (Same.refl H2) hxd2 hpl2⟩
      · rw [decide_eq_false (show ¬ (p.length : Int) < n by omega)]
        rw [hf, if_neg (by rw [decide_eq_false e]; decide), List.append_nil]
        dsimp only
        rw [if_neg (by decide)]
        exact g
    · rintro H2 ⟨s2, acc, hD, hac⟩
      rw [List.take_of_length_le (by rw [hx.length, List.length_map]; exact Nat.le_refl _)] at hac
      exact q _ _ nD s2 ⟨acc, hD, hac⟩
theorem ok_law_inside (T : Txt K mg) : FnOk P w K mg base CX0 1 T.f_law_inside T.d_law_inside ["one", "other"] (spIn K) := by
  refine T.F_law_inside.ok sc_law_inside (fun vs H Q E h => ?_) (fun cdv A outer s H vs Q E hr h => ?_)
  · obtain ⟨_, _, _, _, rfl, _⟩ := h
    rfl
  · obtain ⟨v, u, p, q, rfl, hv, hu, hl, k⟩ := h
    obtain ⟨a, rfl, ha⟩ := ct_inv hv
    refine ⟨_, (pss_one (ps_ret (pe_callB (call_allK (K := K) rfl) (by rfl) T.z_all (by decide +kernel) (pa_cons (pe_lc (own := [("c", 2)]) rfl sc_law_inside.nd (pi_tupK K (pv 0)) (blkOk_by (N := N_law_inside) (sc := defScope s_law_inside) (by decide +kernel)) (fun _ _ _ _ _ => (pg_name (i := 2) sc_law_inside.nd rfl (.inl rfl))) (fun _ _ _ _ _ => pts_nil) (fun _ _ _ _ _ => (pe_cmpR (op_inT (K := K) (room65 hr)) (pv 2) (pv 1) (by rfl)))) pa_nil)))), ?_⟩
    refine ⟨_, rfl, a, rfl, ⟨_, ha⟩, fun D nD => lc_tup (K := K) (xs := p.map V.int) (fun j H' => Same H H' ∧ H' D = some (.lst (((p.take j).map fun x => decide (x ∈ q)).map V.bl))) ⟨same_new nD, upd_same⟩ (fun j H' _ ⟨s', _⟩ => (Ext.of s').sqT ha) ?_ ?_⟩
    · rintro j x H1 hx ⟨s1, hD⟩
      rw [List.getElem?_map] at hx
      obtain ⟨z, hz, rfl⟩ := Option.map_eq_some_iff.mp hx
      refine ⟨rfl, ?_⟩
      dsimp only [tYes]
      rw [if_pos rfl]
      refine ⟨_, rfl, _, rfl, .int z, q.map PyData.int, .int z, dp_ct (hu.ext (.of s1)), shaped_int z, shaped_ct q, ?_⟩
      rw [any_mem]
      refine ⟨_, hD, sz_small (by rw [List.length_map, List.length_map]; have := List.length_take (i := j) (l := p); omega), Same.put nD s1, ?_⟩
      rw [List.take_add_one, hz, List.map_append, List.map_append]
      exact upd_same
    · rintro H1 ⟨s1, hD⟩
      have hD : H1 D = some (.lst (((p.take p.length).map fun x => decide (x ∈ q)).map V.bl)) := by
        rw [← List.length_map (f := V.int)]
        exact hD
      rw [List.take_length] at hD
      refine ⟨D, _, rfl, SqL.of hD, ?_⟩
      have e : (p.map fun x => decide (x ∈ q)).all id = sub1 p q := by
        unfold sub1
        rw [List.all_map]
        rfl
      rw [e]
      exact k _ s1
def spLNest (K : PySem.W.Frag) : Sp := fun vs H Q _ => ∃ (c : Int) (a : Addr) (ps : List (List Int)), vs = [.int c, .ref a] ∧ LstP K H a ps ∧ ps.length ≤ 1000 ∧ (∀ p ∈ ps, p.length ≤ 1000) ∧ ∀ H', Same H H' → Q (.bl (decide (Nest c ps))) H'
theorem ok_law_is_nest (T : Txt K mg) : FnOk P w K mg base CX0 2 T.f_law_is_nest T.d_law_is_nest ["c", "some"] (spLNest K) := by
  refine T.F_law_is_nest.ok sc_law_is_nest (fun vs H Q E h => ?_) (fun cdv A outer s H vs Q E hr h => ?_)
  · obtain ⟨_, _, _, rfl, _⟩ := h
    rfl
  · obtain ⟨c, a, ps, rfl, ⟨xs, ha, hx⟩, hl, hp, q⟩ := h
    have hxl : xs.length = ps.length := by rw [hx.length, List.length_map]
    refine ⟨_, (pss_cons (ps_setLc (i := 2) (own := [("pattern", 4)]) rfl sc_law_is_nest.nd rfl rfl (sw_true rfl rfl rfl (by decide +kernel)) (pi_listK K (pv 1)) (blkOk_by (N := N_law_is_nest) (sc := defScope s_law_is_nest) (by decide +kernel)) (fun _ _ _ _ _ => (pg_name (i := 4) sc_law_is_nest.nd rfl (.inl rfl))) (fun _ _ _ _ _ => (pts_one (pt_cmpR (op_inT (K := K) (room65 hr)) (pv 0) (pv 4) (by rfl)))) (fun _ _ _ _ _ => (pv 4)))
      (pss_cons (ps_for PassesOwn.never rfl (pi_listK K (pv 2)) (pg_name (i := 3) sc_law_is_nest.nd rfl (.inr rfl)) (pss_one (ps_if (pt_not (pt_val (pe_callB (call_allK (K := K) rfl) (by rfl) T.z_all (by decide +kernel) (pa_cons (pe_lc (own := [("other", 5)]) rfl sc_law_is_nest.nd (pi_listK K (pv 2)) (blkOk_by (N := N_law_is_nest) (sc := defScope s_law_is_nest) (by decide +kernel)) (fun _ _ _ _ _ => (pg_name (i := 5) sc_law_is_nest.nd rfl (.inl rfl))) (fun _ _ _ _ _ => pts_nil) (fun _ _ _ _ _ => (pe_or (pe_call (ok_law_inside T) hr (by rfl) T.g_law_inside T.F_law_inside.kp T.b_law_inside .nil pass0 (pa_cons (pv 3) (pa_cons (pv 5) pa_nil))) (pe_one (pe_call (ok_law_inside T) hr (by rfl) T.g_law_inside T.F_law_inside.kp T.b_law_inside .nil pass0 (pa_cons (pv 5) (pa_cons (pv 3) pa_nil))))))) pa_nil)))) (pss_one (ps_ret pe_bl)) pss_nil)))
      (pss_one (ps_ret pe_bl)))), ?_⟩
    refine ⟨_, rfl, a, rfl, ⟨_, SqL.of ha⟩, fun D nD => lc_list (K := K) (xs := xs) (fun j H' => Got K H D (((ps.take j).filter fun p => decide (c ∈ p)).map ctD) H') (.zero nD) (fun j H' _ g => SqL.of (g.same _ _ ha)) ?_ ?_⟩
    · rintro j x H1 hxj g
      obtain ⟨d, hd, hxd⟩ := dhAll_at hx hxj
      obtain ⟨p, hp1, rfl⟩ := map_at hd
      have hxd2 := hxd.ext (.of g.same)
      have hf := take_filter (f := fun p => decide (c ∈ p)) hp1
      have hpl2 : (((ps.take j).filter fun p => decide (c ∈ p)).map ctD).length ≤ 10000 := by
        rw [List.length_map]
        have := List.length_filter_le (fun p : List Int => decide (c ∈ p)) (ps.take j)
        have := List.length_take (i := j) (l := ps)
        omega
      refine ⟨rfl, _, rfl, _, rfl, .int c, p.map PyData.int, .int c, dp_ct hxd2, shaped_int c, shaped_ct p, ?_⟩
      rw [any_mem]
      refine ⟨_, rfl, ?_⟩
      by_cases e : c ∈ p
      · rw [decide_eq_true e]
        dsimp only
        rw [if_pos rfl]
        rw [hf, if_pos (decide_eq_true e), List.map_append]
        exact ⟨_, rfl, g.put nD (Same.refl H1) hxd2 hpl2⟩
      · rw [decide_eq_false e]
        dsimp only
        rw [if_neg (by decide)]
        rw [hf, if_neg (by rw [decide_eq_false e]; decide), List.append_nil]
        exact g
    · rintro H1 ⟨s1, acc, hD, hac⟩
      rw [hxl, List.take_length] at hac
      dsimp only [tNext, tSeq, tAsg, gName, List.set_cons_succ, List.set_cons_zero]
      have hml : ∀ p ∈ ps.filter (fun p => decide (c ∈ p)), p.length ≤ 1000 := fun p hp' => hp p (List.mem_filter.mp hp').1
      have hhl := List.length_filter_le (fun p : List Int => decide (c ∈ p)) ps
      have hacl := hac.length
      rw [List.length_map] at hacl
      have hN : Nest c ps ↔ ∀ p ∈ ps.filter (fun p => decide (c ∈ p)), ∀ q ∈ ps.filter (fun p => decide (c ∈ p)), (sub1 p q || sub1 q p) = true := by
        constructor
        · intro h p hp' q hq'
          obtain ⟨p1, p2⟩ := List.mem_filter.mp hp'
          obtain ⟨q1, q2⟩ := List.mem_filter.mp hq'
          rw [Bool.or_eq_true]
          exact h p p1 q q1 (of_decide_eq_true p2) (of_decide_eq_true q2)
        · intro h p p1 q q1 p2 q2
          have := h p (List.mem_filter.mpr ⟨p1, decide_eq_true p2⟩) q (List.mem_filter.mpr ⟨q1, decide_eq_true q2⟩)
          rw [Bool.or_eq_true] at this
          exact this
      generalize ps.filter (fun p => decide (c ∈ p)) = hs at hac hml hhl hacl hN
      refine ⟨_, rfl, D, rfl, ⟨_, SqL.of hD⟩, for_list (K := K) (a := D) (xs := acc) (fun j σ H' => ∃ y3 y4 y5 : Option V, σ = [some (.int c), some (.ref a), some (.ref D), y3, y4, y5] ∧ Same H1 H' ∧ ∀ p ∈ hs.take j, ∀ q ∈ hs, (sub1 p q || sub1 q p) = true)
        ⟨_, _, _, rfl, Same.refl H1, fun p hp => by cases hp⟩ (fun j σ H' _ ⟨_, _, _, _, s', _⟩ => SqL.of (s' _ _ hD)) ?_ ?_⟩
      · rintro j x σ H2 hxj ⟨y3, y4, y5, rfl, s2, hno⟩
        obtain ⟨d, hd, hxd⟩ := dhAll_at hac hxj
        obtain ⟨p, hp1, rfl⟩ := map_at hd
        have hpm := List.mem_of_getElem? hp1
        dsimp only [tNext, tSeq, tAsg, gName, List.set_cons_succ, List.set_cons_zero]
        refine ⟨_, rfl, D, rfl, ⟨_, SqL.of (s2 _ _ hD)⟩, fun D3 nD3 => lc_list (K := K) (xs := acc) (fun k H' => Same H2 H' ∧ H' D3 = some (.lst (((hs.take k).map fun q => sub1 p q || sub1 q p).map V.bl))) ⟨same_new nD3, upd_same⟩ (fun k H' _ ⟨s', _⟩ => SqL.of (s' _ _ (s2 _ _ hD))) ?_ ?_⟩
        · rintro k y H3 hyk ⟨s3, hD3⟩
          obtain ⟨d2, hd2, hyd⟩ := dhAll_at hac hyk
          obtain ⟨p2, hp2, rfl⟩ := map_at hd2
          have hpm2 := List.mem_of_getElem? hp2
          have s13 := s2.trans s3
          refine ⟨rfl, ?_⟩
          dsimp only [tYes]
          rw [if_pos rfl]
          have hkl : (((hs.take k).map fun q => sub1 p q || sub1 q p).map V.bl).length ≤ 1000 := by
            rw [List.length_map, List.length_map]
            have := List.length_take (i := k) (l := hs)
            omega
          refine ⟨_, rfl, _, rfl, x, y, p, p2, rfl, hxd.ext (.of s13), hyd.ext (.of s13), hml p hpm, fun H4 s4 => ⟨_, rfl, ?_⟩⟩
          have hf : ((hs.take (k + 1)).map fun q => sub1 p q || sub1 q p).map V.bl = ((hs.take k).map fun q => sub1 p q || sub1 q p).map V.bl ++ [.bl (sub1 p p2 || sub1 p2 p)] := by
            rw [List.take_add_one, hp2, List.map_append, List.map_append]
            rfl
          cases e1 : sub1 p p2 with
          | true =>
            rw [e1, Bool.true_or] at hf
            dsimp only
            rw [if_pos rfl]
            refine ⟨_, s4 _ _ hD3, sz_small (by omega), Same.put nD3 (s3.trans s4), ?_⟩
            rw [hf]
            exact upd_same
          | false =>
            rw [e1, Bool.false_or] at hf
            dsimp only
            rw [if_neg (by decide)]
            refine ⟨_, rfl, _, rfl, y, x, p2, p, rfl, hyd.ext (.of (s13.trans s4)), hxd.ext (.of (s13.trans s4)), hml p2 hpm2, fun H5 s5 => ?_⟩
            have s45 := s4.trans s5
            refine ⟨_, s45 _ _ hD3, sz_small (by omega), Same.put nD3 (s3.trans s45), ?_⟩
            rw [hf]
            exact upd_same
        · rintro H3 ⟨s3, hD3⟩
          rw [hacl, List.take_length] at hD3
          refine ⟨D3, _, rfl, SqL.of hD3, _, rfl, ?_⟩
          have ea : ((hs.map fun q => sub1 p q || sub1 q p).all id = true) ↔ ∀ q ∈ hs, (sub1 p q || sub1 q p) = true := by
            rw [List.all_map, List.all_eq_true]
            rfl
          cases e : (hs.map fun q => sub1 p q || sub1 q p).all id with
          | true =>
            refine iteF ?_
            refine ⟨_, _, _, rfl, s2.trans s3, fun z hz => ?_⟩
            rw [List.take_add_one, hp1] at hz
            rcases List.mem_append.mp hz with u | u
            · exact hno z u
            · have : z = p := by simpa using u
              rw [this]
              exact ea.mp e
          | false =>
            refine iteT ?_
            have nn : ¬ Nest c ps := fun h => by
              have := ea.mpr (fun q hq => hN.mp h p hpm q hq)
              rw [this] at e
              cases e
            have z := q H3 (s1.trans (s2.trans s3))
            rw [decide_eq_false nn] at z
            exact z
      · rintro σ H2 ⟨y3, y4, y5, rfl, s2, hno⟩
        rw [hacl, List.take_length] at hno
        have z := q H2 (s1.trans s2)
        rw [decide_eq_true (hN.mpr hno)] at z
        exact z
end
end Fm
namespace Fm
open PySem PySem.Spec PyProof.Rows L2
section
variable {P : Program} {w : World} {K : PySem.W.Frag} {mg : Str → Option Value} {base : Heap}
theorem refs_of {H : Hp} : ∀ {xs : List V} {ps : List (List Int)}, DhAll K H xs (ps.map ctD) → ∃ M : List (Addr × List Int), xs = M.map (fun m => V.ref m.1) ∧ M.map (·.2) = ps ∧ ∀ m ∈ M, SqT K H m.1 (m.2.map V.int)
  | _, [], .nil => ⟨[], rfl, rfl, fun m hm => by cases hm⟩
  | _, p :: ps, .cons h t => by
    obtain ⟨M, h1, h2, h3⟩ := refs_of (ps := ps) t
    obtain ⟨a, rfl, s⟩ := ct_inv h
    refine ⟨(a, p) :: M, by rw [List.map_cons, h1], by rw [List.map_cons, h2], fun m hm => ?_⟩
    rcases List.mem_cons.mp hm with u | u
    · rw [u]
      exact s
    · exact h3 m u
theorem asc_rgI (n : Nat) : Asc n (-1) (rgI n) := by
  have key : ∀ (m k : Nat), k + m = n → Asc n ((k : Int) - 1) ((List.range' k m).map fun (i : Nat) => (i : Int)) := by
    intro m
    induction m with
    | zero => intro k _; exact True.intro
    | succ m ih =>
      intro k hk
      rw [List.range'_succ, List.map_cons]
      refine ⟨by omega, by omega, ?_⟩
      have z := ih (k + 1) (by omega)
      rw [show ((k + 1 : Nat) : Int) - 1 = (k : Int) by omega] at z
      exact z
  have z := key n 0 (by omega)
  unfold rgI
  rw [List.range_eq_range']
  exact z
theorem asc_nodup5 {n : Int} : ∀ {l : Int} {p : List Int}, Asc n l p → p.Nodup
  | _, [], _ => List.nodup_nil
  | l, x :: p, ⟨h1, h2, h3⟩ => List.nodup_cons.mpr ⟨fun hm => by have := (h3.mem x hm).1; omega, asc_nodup5 h3⟩
theorem lgo_of {n : Nat} : ∀ {ps : List (List Int)} {last : Option (List Int)}, ps.Pairwise (fun a b => HT.lexLt a b = true) → (∀ p ∈ ps, Asc n (-1) p) → (∀ l, last = some l → ∀ p ∈ ps, HT.lexLt l p = true) → lGo n last (ps.map ctD) = true
  | [], _, _, _, _ => rfl
  | p :: ps, last, pw, ha, hl => by
    rw [List.pairwise_cons] at pw
    rw [List.map_cons]
    have e1 : (ctD p).isPat (n : Int) = true := (ha p (List.mem_cons_self ..)).isPat
    have e2 : lGo n (some (ctD p).ints) (ps.map ctD) = true := lgo_of pw.2 (fun q hq => ha q (List.mem_cons_of_mem _ hq)) fun l e q hq => by
      rw [ints_ct] at e
      cases e
      exact pw.1 q hq
    unfold lGo
    rw [if_pos e1]
    cases last with
    | none => exact e2
    | some l =>
      dsimp only
      rw [ints_ct, if_pos (hl l rfl p (List.mem_cons_self ..)), ← ints_ct p]
      exact e2
theorem lsok_of {n : Nat} {ps : List (List Int)} (n1 : 1 ≤ n) (n5 : n ≤ 5) (pw : ps.Pairwise fun a b => HT.lexLt a b = true) (ha : ∀ p ∈ ps, Asc n (-1) p) (hw : rgI n ∈ ps) (hl : ps.length ≤ 12) : LsOk n ps := by
  refine ⟨n1, n5, ?_, hl, by omega, fun p hp => ⟨by have := (ha p hp).len (by omega); omega, asc_nodup5 (ha p hp)⟩⟩
  show (decide (1 ≤ (ps.map ctD).length ∧ (ps.map ctD).length ≤ 12) && (lGo n none (ps.map ctD) && (ps.map ctD).any fun d => decide (d.ints = rgI n))) = true
  rw [List.length_map, decide_eq_true ⟨List.length_pos_of_mem hw, hl⟩, lgo_of pw ha (fun l e => by cases e), Bool.true_and, Bool.true_and, List.any_map, List.any_eq_true]
  exact ⟨rgI n, hw, decide_eq_true (ints_ct _)⟩
structure LsS (n : Nat) (ps : List (List Int)) : Prop where
  n1 : 1 ≤ n
  n5 : n ≤ 5
  pw : ps.Pairwise fun a b => HT.lexLt a b = true
  asc : ∀ p ∈ ps, Asc n (-1) p
  whole : rgI n ∈ ps
  len : ps.length ≤ 12
theorem LsS.ok {n : Nat} {ps : List (List Int)} (x : LsS n ps) : LsOk n ps := lsok_of x.n1 x.n5 x.pw x.asc x.whole x.len
theorem dhs_refs {H : Hp} : ∀ {M : List (Addr × List Int)}, (∀ m ∈ M, SqT K H m.1 (m.2.map V.int)) → DhAll K H (M.map fun m => V.ref m.1) ((M.map (·.2)).map ctD)
  | [], _ => .nil
  | m :: M, h => .cons (dh_ct (h m (List.mem_cons_self ..))) (dhs_refs fun k hk => h k (List.mem_cons_of_mem _ hk))
def spLList (K : PySem.W.Frag) : Sp := fun vs H Q _ => ∃ (h g s : Addr) (n : Nat) (most : Int), vs = [.ref h, .int n, .int most] ∧ PotOk H h g s ∧ 1 ≤ n ∧ n ≤ 5 ∧ 0 ≤ most ∧ most ≤ 11 ∧ ∀ v ps H', KeepP h g s H H' → LsS n ps → (ps.length : Int) ≤ most + 1 → Dh K H' v (patsD ps) → Q v H'
theorem ok_law_list (T : Txt K mg) : FnOk P w K mg base CX0 3 T.f_law_list T.d_law_list ["pot", "columns", "most"] (spLList K) := by
  refine T.F_law_list.ok sc_law_list (fun vs H Q E h => ?_) (fun cdv A outer s H vs Q E hr h => ?_)
  · obtain ⟨_, _, _, _, _, rfl, _⟩ := h
    rfl
  · obtain ⟨h, g, sm, n, most, rfl, hx, n1, n5, m0, m11, q⟩ := h
    refine ⟨_, (pss_cons (ps_set (i := 3) sc_law_list.nd rfl (.inr rfl) (pe_tupRg rfl (by rfl) T.z_tuple (prg_1 (by rfl) T.z_range (pv 1))))
      (pss_cons (ps_setLc (i := 4) (own := [("pattern", 5)]) rfl sc_law_list.nd rfl rfl (sw_true rfl rfl rfl (by decide +kernel)) (pi_listK K (pe_call (ok_law_patterns T) (hr.mono (by decide)) (by rfl) T.g_law_patterns T.F_law_patterns.kp T.b_law_patterns .nil pass0 (pa_cons (pv 1) pa_nil))) (blkOk_by (N := N_law_list) (sc := defScope s_law_list) (by decide +kernel)) (fun _ _ _ _ _ => (pg_name (i := 5) sc_law_list.nd rfl (.inl rfl))) (fun _ _ _ _ _ => (pts_one (pt_cmpR (op_neK K hr.units) (pv 5) (pv 3) (nomark _)))) (fun _ _ _ _ _ => (pv 5)))
      (pss_one (ps_ret (pe_callTy (call_tupleK K) (by rfl) T.z_tuple (by decide +kernel) (pa_cons (pe_callB (call_sortTsK (K := K) hr.units) (by rfl) T.z_sorted (by decide +kernel) (pa_cons (pe_op op_cat (pe_slice (sl_listK K) (pe_call (ok_law_mixed T) hr (by rfl) T.g_law_mixed T.F_law_mixed.kp T.b_law_mixed .nil pass0 (pa_cons (pv 0) (pa_cons (pv 4) pa_nil))) po_none (po_some (pe_call (ok_law_draw T) (hr.mono (by decide)) (by rfl) T.g_law_draw T.F_law_draw.kp T.b_law_draw .nil pass0 (pa_cons (pv 0) (pa_cons (pe_op op_add (pv 2) pe_int) pa_nil))))) (pe_lst (pa_cons (pv 3) pa_nil))) pa_nil)) pa_nil)))))), ?_⟩
    refine ⟨_, rfl, _, rfl, RgOk.of_le (by omega) (by omega) (by omega) (by omega), fun tw ntw => ?_⟩
    rw [rgV_I]
    have s1 : Same H (upd H tw (.tup ((rgI n).map V.int))) := same_new ntw
    have htw : (upd H tw (.tup ((rgI n).map V.int))) tw = some (.tup ((rgI n).map V.int)) := upd_same
    generalize upd H tw (.tup ((rgI n).map V.int)) = H1 at s1 htw ⊢
    have dtw : Dh K H1 (.ref tw) (ctD (rgI n)) := dh_ct (SqT.of htw)
    dsimp only [tNext, tSeq, tAsg, gName, List.set_cons_succ, List.set_cons_zero]
    refine ⟨_, rfl, n, rfl, n5, fun p xs qs H2 np s2 hp hxs pa => ⟨p, rfl, ⟨_, SqL.of hp⟩, fun D nD => lc_list (K := K) (xs := xs) (fun j H' => Got K H2 D (((qs.take j).filter fun z => decide (z ≠ rgI n)).map ctD) H') (.zero nD) (fun j H' _ y => SqL.of (y.same _ _ hp)) ?_ ?_⟩⟩
    · rintro j x H3 hxj y
      obtain ⟨d, hd, hxd⟩ := dhAll_at hxs hxj
      obtain ⟨z, hz, rfl⟩ := map_at hd
      have hxd2 := hxd.ext (.of y.same)
      have hf := take_filter (f := fun z => decide (z ≠ rgI n)) hz
      have hl2 : (((qs.take j).filter fun z => decide (z ≠ rgI n)).map ctD).length ≤ 10000 := by
        rw [List.length_map]
        have := List.length_filter_le (fun z : List Int => decide (z ≠ rgI n)) (qs.take j)
        have := List.length_take (i := j) (l := qs)
        have := pa.len
        have := (pow5 n5).2
        omega
      refine ⟨rfl, ?_⟩
      refine ⟨_, rfl, _, rfl, ctP z, ctP (rgI n), dp_ct hxd2, dp_ct (dtw.ext (.of (s2.trans y.same))), shaped_ct _, shaped_ct _, ?_⟩
      rw [eqv_ct]
      refine ⟨_, rfl, ?_⟩
      by_cases e : z = rgI n
      · rw [decide_eq_true e]
        dsimp only [Bool.not_true]
        rw [if_neg (by decide)]
        rw [hf, if_neg (by rw [decide_eq_false (fun h => h e)]; decide), List.append_nil]
        exact y
      · rw [decide_eq_false e]
        dsimp only [Bool.not_false]
        rw [if_pos (show (!false) = true from rfl)]
        rw [hf, if_pos (decide_eq_true e), List.map_append]
        exact ⟨_, rfl, y.put nD (Same.refl H3) hxd2 hl2⟩
    · rintro H3 ⟨s3, acc, hD, hac⟩
      rw [List.take_of_length_le (by rw [hxs.length, List.length_map]; exact Nat.le_refl _)] at hac
      have hnd : (qs.filter fun z => decide (z ≠ rgI n)).Nodup := List.Nodup.sublist List.filter_sublist pa.nd
      have hne : ∀ z ∈ qs.filter (fun z => decide (z ≠ rgI n)), Asc n (-1) z ∧ z ≠ rgI n := fun z hz => ⟨(pa.all z).mp (List.mem_filter.mp hz).1, of_decide_eq_true (List.mem_filter.mp hz).2⟩
      have hfl : (qs.filter fun z => decide (z ≠ rgI n)).length ≤ 32 := by
        have := List.length_filter_le (fun z : List Int => decide (z ≠ rgI n)) qs
        have := pa.len
        have := (pow5 n5).2
        omega
      generalize qs.filter (fun z => decide (z ≠ rgI n)) = fs at hac hnd hne hfl
      have s13 := (s1.trans s2).trans s3
      obtain ⟨M, hM1, hM2, hM3⟩ := refs_of hac
      subst hM1
      have hMl : M.length ≤ 32 := by
        rw [← List.length_map (f := fun m : Addr × List Int => m.2), hM2]
        exact hfl
      have hx3 := hx.same s13
      refine ⟨_, rfl, _, rfl, h, g, sm, D, _, rfl, hx3, SqL.of hD, by rw [List.length_map]; omega, fun d ys H4 nd k4 hd pm => ?_⟩
      obtain ⟨dh, dg, _⟩ := hx3.ne nd
      obtain ⟨M', pM, rfl⟩ := perm_map_inv pm M rfl
      have e4 := k4.ext hx3
      have hM4 : ∀ m ∈ M', SqT K H4 m.1 (m.2.map V.int) := fun m hm => e4.sqT (hM3 m (pM.mem_iff.mp hm))
      refine ⟨_, rfl, _, rfl, _, _, rfl, rfl, h, g, sm, most + 1, rfl, k4.pot, by omega, by omega, fun dd H5 d0 d1 k5 => ?_⟩
      have e5 := k5.ext k4.pot
      have hd5 := k5.rest d _ dh dg hd
      refine ⟨dd, rfl, d, _, rfl, SqL.of hd5, fun p1 np1 => ?_⟩
      have ec : ∃ k : Nat, (k : Int) ≤ dd ∧ cutV (M'.map fun m => V.ref m.1) none (some dd) = (M'.take k).map fun m => V.ref m.1 := by
        obtain ⟨k, rfl⟩ : ∃ k : Nat, dd = (k : Int) := ⟨dd.toNat, by omega⟩
        refine ⟨min k (M'.map fun m => V.ref m.1).length, by omega, ?_⟩
        unfold cutV
        rw [HT.sIx_none, HT.sIx_nat, List.drop_zero, Nat.sub_zero, List.map_take]
      obtain ⟨k, hk, ec⟩ := ec
      rw [ec]
      have s6 : Same H5 (upd H5 p1 (.lst ((M'.take k).map fun m => V.ref m.1))) := same_new np1
      have hp1 : (upd H5 p1 (.lst ((M'.take k).map fun m => V.ref m.1))) p1 = some (.lst ((M'.take k).map fun m => V.ref m.1)) := upd_same
      generalize upd H5 p1 (.lst ((M'.take k).map fun m => V.ref m.1)) = H6 at s6 hp1 ⊢
      refine ⟨_, rfl, by show 1 ≤ sizeLine; decide, fun p2 np2 => ?_⟩
      have s7 : Same H6 (upd H6 p2 (.lst [.ref tw])) := same_new np2
      have hp2 : (upd H6 p2 (.lst [.ref tw])) p2 = some (.lst [.ref tw]) := upd_same
      generalize upd H6 p2 (.lst [.ref tw]) = H7 at s7 hp2 ⊢
      have hkl : (M'.take k).length ≤ 11 := by
        have := List.length_take (i := k) (l := M')
        omega
      refine ⟨p1, p2, _, _, rfl, rfl, s7 _ _ hp1, hp2, Nat.le_of_lt (sz_small (by rw [List.length_map]; show (M'.take k).length + 1 ≤ 100000; omega)), fun p3 np3 => ?_⟩
      have eM : ((M'.take k).map fun m => V.ref m.1) ++ [V.ref tw] = ((M'.take k) ++ [(tw, rgI n)]).map fun m => V.ref m.1 := by
        rw [List.map_append]
        rfl
      rw [eM]
      have s8 : Same H7 (upd H7 p3 (.lst (((M'.take k) ++ [(tw, rgI n)]).map fun m => V.ref m.1))) := same_new np3
      have hp3 : (upd H7 p3 (.lst (((M'.take k) ++ [(tw, rgI n)]).map fun m => V.ref m.1))) p3 = some (.lst (((M'.take k) ++ [(tw, rgI n)]).map fun m => V.ref m.1)) := upd_same
      generalize upd H7 p3 (.lst (((M'.take k) ++ [(tw, rgI n)]).map fun m => V.ref m.1)) = H8 at s8 hp3 ⊢
      have s58 := (s6.trans s7).trans s8
      have hMk : ∀ m ∈ (M'.take k) ++ [(tw, rgI n)], SqT K H8 m.1 (m.2.map V.int) := fun m hm => by
        rcases List.mem_append.mp hm with u | u
        · exact (Ext.of s58).sqT (e5.sqT (hM4 m (List.mem_of_mem_take u)))
        · rw [List.mem_singleton.mp u]
          have z : SqT K H5 tw ((rgI n).map V.int) := (e5.sqT (e4.sqT (SqT.of (s3 _ _ (s2 _ _ htw)))))
          exact (Ext.of s58).sqT z
      have snds : ((M'.take k) ++ [(tw, rgI n)]).map (·.2) = (M'.take k).map (·.2) ++ [rgI n] := by
        rw [List.map_append]
        rfl
      have inf : ∀ z ∈ (M'.take k).map (·.2), z ∈ fs := fun z hz => by
        obtain ⟨m, hm, rfl⟩ := List.mem_map.mp hz
        rw [← hM2]
        exact List.mem_map_of_mem (f := fun m : Addr × List Int => m.2) (pM.mem_iff.mp (List.mem_of_mem_take hm))
      have ndk : ((M'.take k).map (·.2) ++ [rgI n]).Nodup := by
        refine List.nodup_append.mpr ⟨?_, by simp, fun y hy z hz e => ?_⟩
        · have z1 : (M'.map (·.2)).Nodup := by
            rw [(pM.map (·.2)).nodup_iff, hM2]
            exact hnd
          exact List.Nodup.sublist ((List.take_sublist k M').map _) z1
        · have ez : z = rgI n := by simpa using hz
          exact (hne y (inf y hy)).2 (e.trans ez)
      have hal : ∀ z ∈ (M'.take k).map (·.2) ++ [rgI n], Asc n (-1) z := fun z hz => by
        rcases List.mem_append.mp hz with u | u
        · exact (hne z (inf z u)).1
        · rw [List.mem_singleton.mp u]
          exact asc_rgI n
      dsimp only [tNil]
      refine sort_pats (SqL.of hp3) (dhs_refs hMk) (fun z hz => ?_) fun p4 ys4 qs4 np4 hys4 eq4 => ?_
      · rw [snds] at hz
        have := (hal z hz).len (by omega)
        omega
      · rw [snds] at eq4
        have pq := List.mergeSort_perm ((M'.take k).map (·.2) ++ [rgI n]) fun a b : List Int => decide (a ≤ b)
        rw [← eq4] at pq
        have s9 : Same H8 (upd H8 p4 (.lst ys4)) := same_new np4
        refine ⟨p4, _, rfl, .inl ⟨SqL.of upd_same, fun t nt => ?_⟩⟩
        have s10 := s9.trans (same_new (o := HO.tup ys4) nt)
        refine q (.ref t) qs4 _ (((KeepP.of hx s13).trans k4).trans (k5.same (s58.trans s10))) ⟨n1, n5, by rw [eq4]; exact sorted_pats ndk, fun z hz => hal z (pq.mem_iff.mp hz), pq.mem_iff.mpr (List.mem_append_right _ (List.mem_singleton.mpr rfl)), ?_⟩ ?_ (.tup (SqT.of upd_same) (hys4.ext (.of s10)))
        · rw [pq.length_eq, List.length_append, List.length_map]
          show (M'.take k).length + 1 ≤ 12
          omega
        · rw [pq.length_eq, List.length_append, List.length_map]
          have := List.length_take (i := k) (l := M')
          show (((M'.take k).length + 1 : Nat) : Int) ≤ most + 1
          omega
end
end Fm
namespace Fm
open PySem PySem.Spec PyProof.Rows L2
section
variable {P : Program} {w : World} {K : PySem.W.Frag} {mg : Str → Option Value} {base : Heap}
/-- the items are taken, laid as a new list, and sorted there -/
theorem sorted_tupI {prog : Program} {w : World} {A : Around} {E : Value → Shared → Prop} {s : Shared} {l : Addr} {vs : List Value} {ns : List Int} {Q : Value → Shared → Prop} (hl : IsTup s.heap l vs.toArray) (hI : IntsAre vs ns) (h64 : vs.length < 64)
    (q : ∀ (D : Addr) (h' : Heap) (out : Array Value) (e : Nat) (ns' : List Int), (∀ b o, s.heap.get? b = some o → h'.get? b = some o) → s.heap.get? D = none → h'.get? D = some (seqObj "list" out e) → IntsAre out.toList ns' → ns'.Perm ns → ns'.Pairwise (· ≤ ·) → Q (.ref D) { s with heap := h' }) :
    wpAny (model prog w) A (call (.builtin "sorted") [.ref l]) Q E s := by
  have few : vs.length ≤ sizeLine := by rw [sizeLine_eq]; omega
  obtain ⟨o, h1, h2, n, h3⟩ := hl
  refine Calls.call_function_entry kind_sorted plain_sorted entry_sorted (args_sorted1 _) ?_
  unfold Builtin.«sorted»
  refine wpAny_bind (m := checkCount "sorted" 1 1 _) (wpAny_pure ?_)
  refine wpAny_bind (wpAny_collect_seq l (.inr rfl) h1 h2 h3 (fun g kg => ?_) (by rw [List.size_toArray]; exact few))
  have old : ∀ b o, s.heap.get? b = some o → b < g.objs.size := fun b o z => Heap.lt_size (kg b o z)
  have new : (g.push (seqObj "list" vs.toArray 0)).get? g.objs.size = some (seqObj "list" vs.toArray 0) := Heap.get?_push_size _ rfl
  refine wpAny_bind (wpAny_newList ?_)
  refine wpAny_bind (wpAny_holding (wpAny_call_entry slot_list_sort ⟨_, new, rfl⟩ entry_list_sort (list_sort_tree (s := { s with heap := g.push (seqObj "list" vs.toArray 0) }) new hI h64 fun out ns' a1 a2 a3 => ⟨_, rfl, ?_⟩) (args_list_sort _)))
  obtain ⟨e, he⟩ := sortedHeap_at (out := out) new
  refine wpAny_pure ⟨_, rfl, q g.objs.size _ out e ns' (fun b o z => ?_) ?_ he a1 a2 a3⟩
  · have lt := old b o z
    rw [sortedHeap_old (Nat.ne_of_lt lt) (by rw [size_push']; exact Nat.lt_succ_of_lt lt), Heap.get?_push_ne _ _ _ (Nat.ne_of_lt lt)]
    exact kg b o z
  · cases z : s.heap.get? g.objs.size with
    | none => rfl
    | some o => exact absurd (old _ o z) (Nat.lt_irrefl _)
/-- sorted(list or tuple of ints) -/
def rSortedTI (K : PySem.W.Frag) : List V → Hp → VK → Prop := fun vs H Q => ∃ (a : Addr) (ns : List Int), vs = [V.ref a] ∧ (SqL K H a (ns.map V.int) ∨ SqT K H a (ns.map V.int)) ∧ ns.length < 64 ∧
  ∀ (ns' : List Int) (p : Addr), ns'.Perm ns → ns'.Pairwise (· ≤ ·) → H p = none → Q (.ref p) (upd H p (.lst (ns'.map V.int)))
theorem call_sortedTI {X : Cx} {K : PySem.W.Frag} (eK : X.K = K := by rfl) : CallR X (.builtin "sorted") (rSortedTI K) := by
  subst eK
  intro pins s σ H vs us Q I r h
  obtain ⟨a, ns, rfl, hs, h64, q⟩ := h
  rcases hs with hs | hs
  · exact cr_sorted pins s σ H _ us Q I r ⟨a, ns, rfl, hs, h64, q⟩
  · obtain ⟨its, rv, hl, _⟩ := I.tuple hs
    rw [Vals.ref1 r]
    have hi := rv.ints
    have hlen : ∀ {ns' : List Int}, ns'.Perm ns → (ns'.map V.int).length ≤ sizeLine := fun p => by rw [List.length_map, p.length_eq]; exact small64 h64
    refine sorted_tupI hl hi (by rw [hi.length]; exact h64) fun D g out e ns' kept hD he a1 a2 a3 => ?_
    have hn : H D = none := by
      cases z : H D with
      | none => rfl
      | some o => exact absurd hD (objOk_there (I.hok D o z))
    obtain ⟨m, hns, _⟩ := id I.loc
    have F : Fr X.base X.env.locals s.heap m := ⟨hns, I.bk, Nat.le_trans I.ok.bsz I.ok.above⟩
    exact ⟨.ref D, upd H D (.lst (ns'.map V.int)), inv_news (t' := s.toks) I (F.kept kept) hns (fun b u _ z => kept b u z) hD hn ⟨hlen a2, out.toList, e, vals_of_ints a1, he⟩, rfl, q ns' D a2 a3 hn⟩
/-- what a list of patterns is while columns are put in: those of w stand in it -/
structure Rg (n : Nat) (w : List Int) (ss : List (List Int)) : Prop where
  val : Val ss w
  asc : ∀ p ∈ ss, Asc n (-1) p
  sub : ∀ p ∈ ss, ∀ x ∈ p, x ∈ w
theorem asc_lt {n : Int} : ∀ {l : Int} {p : List Int}, Asc n l p → p.Pairwise (· < ·)
  | _, [], _ => List.Pairwise.nil
  | _, x :: p, ⟨_, _, h3⟩ => List.pairwise_cons.mpr ⟨fun y hy => (h3.mem y hy).1, asc_lt h3⟩
theorem asc_of_lt {n : Int} : ∀ {l : Int} {p : List Int}, p.Pairwise (· < ·) → (∀ x ∈ p, l < x ∧ x < n) → Asc n l p
  | _, [], _, _ => True.intro
  | l, x :: p, pw, h => by
    rw [List.pairwise_cons] at pw
    exact ⟨(h x (List.mem_cons_self ..)).1, (h x (List.mem_cons_self ..)).2, asc_of_lt pw.2 fun y hy => ⟨pw.1 y hy, (h y (List.mem_cons_of_mem _ hy)).2⟩⟩
/-- a sorted row without doubles is the only one -/
theorem sorted_one : ∀ {a b : List Int}, a.Pairwise (· < ·) → b.Pairwise (· < ·) → (∀ x, x ∈ a ↔ x ∈ b) → a = b := fun {a b} ha hb h => by
  have na : a.Nodup := ha.imp fun {x y} h e => by omega
  have nb : b.Nodup := hb.imp fun {x y} h e => by omega
  have pm := (List.perm_ext_iff_of_nodup na nb).mpr h
  exact pm.eq_of_pairwise (fun x y _ _ h1 h2 => by omega) ha hb
theorem put_asc {n : Nat} {c : Int} {p ns : List Int} (hp : Asc n (-1) p) (hc : 0 ≤ c ∧ c < n) (hn : c ∉ p) (pm : ns.Perm (p ++ [c])) (pw : ns.Pairwise (· ≤ ·)) : Asc n (-1) ns ∧ cut1 c ns = p ∧ ∀ x, x ∈ ns ↔ x ∈ p ∨ x = c := by
  have mem : ∀ x, x ∈ ns ↔ x ∈ p ∨ x = c := fun x => by rw [pm.mem_iff, List.mem_append, List.mem_singleton]
  have nd : ns.Nodup := pm.nodup_iff.mpr (List.nodup_append.mpr ⟨asc_nodup5 hp, by simp, fun y hy z hz e => by
    have ez : z = c := by simpa using hz
    rw [e, ez] at hy
    exact hn hy⟩)
  have lt : ns.Pairwise (· < ·) := (pw.and nd).imp fun {x y} ⟨h1, h2⟩ => by omega
  refine ⟨asc_of_lt lt fun x hx => ?_, ?_, mem⟩
  · rcases (mem x).mp hx with u | u
    · have := hp.mem x u
      omega
    · omega
  · refine sorted_one (List.Pairwise.sublist List.filter_sublist lt) (asc_lt hp) fun x => ?_
    rw [mem_cut1, mem x]
    exact ⟨fun ⟨h1, h2⟩ => h1.resolve_right h2, fun h => ⟨.inl h, fun e => hn (e ▸ h)⟩⟩
theorem cut1_self {c : Int} {p : List Int} (h : c ∉ p) : cut1 c p = p := List.filter_eq_self.mpr fun x hx => decide_eq_true fun e => h (e ▸ hx)
structure RgAt (K : PySem.W.Frag) (h g sm : Addr) (n : Nat) (w : List Int) (r so : Addr) (v : List Int) (H : Hp) : Prop where
  pot : PotOk H h g sm
  row : H r = some (.lst (w.map V.int))
  ex : ∃ M : List (Addr × List Int), M.length ≤ 9 ∧ 0 < M.length ∧ H so = some (.lst (M.map fun m => V.ref m.1)) ∧ (∀ m ∈ M, SqT K H m.1 (m.2.map V.int)) ∧ Rg n v (M.map (·.2))
/-- a chain: places of patterns that lie one within another -/
def ChOk (ps : List (List Int)) (L : List Int) : Prop := (∀ k ∈ L, 0 ≤ k ∧ k < ps.length) ∧ L.Nodup ∧ ∀ k ∈ L, ∀ k' ∈ L, sub1 (ps.getD k.toNat []) (ps.getD k'.toNat []) = true ∨ sub1 (ps.getD k'.toNat []) (ps.getD k.toNat []) = true
theorem ChOk.snoc {ps : List (List Int)} {L : List Int} {a : Int} (x : ChOk ps L) (ha : 0 ≤ a ∧ a < ps.length) (hn : a ∉ L) (hf : ∀ k ∈ L, (sub1 (ps.getD k.toNat []) (ps.getD a.toNat []) || sub1 (ps.getD a.toNat []) (ps.getD k.toNat [])) = true) : ChOk ps (L ++ [a]) := by
  refine ⟨fun k hk => ?_, List.nodup_append.mpr ⟨x.2.1, by simp, fun y hy z hz e => ?_⟩, fun k hk k' hk' => ?_⟩
  · rcases List.mem_append.mp hk with u | u
    · exact x.1 k u
    · rw [List.mem_singleton.mp u]
      exact ha
  · have ez : z = a := by simpa using hz
    rw [e, ez] at hy
    exact hn hy
  · rcases List.mem_append.mp hk with u | u
    · rcases List.mem_append.mp hk' with u' | u'
      · exact x.2.2 k u k' u'
      · rw [List.mem_singleton.mp u']
        have z := hf k u
        rw [Bool.or_eq_true] at z
        exact z
    · rw [List.mem_singleton.mp u]
      rcases List.mem_append.mp hk' with u' | u'
      · have z := hf k' u'
        rw [Bool.or_eq_true] at z
        exact z.symm
      · rw [List.mem_singleton.mp u']
        exact .inl (sub1_iff.mpr fun x hx => hx)
/-- the patterns with c put into those of the chain -/
structure RgPut (n : Nat) (c : Int) (ps : List (List Int)) (L : List Int) (ps' : List (List Int)) : Prop where
  len : ps'.length = ps.length
  at' : ∀ (i : Nat) p p', ps[i]? = some p → ps'[i]? = some p' → ((i : Int) ∈ L → Asc n (-1) p' ∧ cut1 c p' = p ∧ ∀ x, x ∈ p' ↔ x ∈ p ∨ x = c) ∧ ((i : Int) ∉ L → p' = p)
theorem RgPut.rg {n : Nat} {c : Int} {v : List Int} {ps ps' : List (List Int)} {L : List Int} (x : RgPut n c ps L ps') (ch : ChOk ps L) (r : Rg n v ps) (hc : c ∉ v) : Rg n (c :: v) ps' := by
  have back : ∀ p' ∈ ps', ∃ (i : Nat) (p : List Int), ps[i]? = some p ∧ ps'[i]? = some p' ∧ p ∈ ps ∧ ps.getD i [] = p := fun p' hp' => by
    obtain ⟨i, hi, e⟩ := List.mem_iff_getElem.mp hp'
    have hl := x.len
    have h1 := List.getElem?_eq_getElem (l := ps) (i := i) (by omega)
    exact ⟨i, _, h1, by rw [← e]; exact List.getElem?_eq_getElem hi, List.getElem_mem _, by rw [List.getD_eq_getElem?_getD, h1]; rfl⟩
  have no : ∀ p ∈ ps, c ∉ p := fun p hp h => hc (r.sub p hp c h)
  have est : strk c ps' = ps := by
    unfold strk
    refine List.ext_getElem (by rw [List.length_map]; exact x.len) fun i h1 h2 => ?_
    rw [List.length_map] at h1
    rw [List.getElem_map]
    obtain ⟨a1, a2⟩ := x.at' i _ _ (List.getElem?_eq_getElem h2) (List.getElem?_eq_getElem h1)
    by_cases hi : (i : Int) ∈ L
    · exact (a1 hi).2.1
    · rw [a2 hi]
      exact cut1_self (no _ (List.getElem_mem _))
  refine ⟨⟨fun p' hp' q' hq' cp cq => ?_, by rw [est]; exact r.val⟩, fun p' hp' => ?_, fun p' hp' y hy => ?_⟩
  · obtain ⟨i, p, i1, i2, i3, i4⟩ := back p' hp'
    obtain ⟨j, q, j1, j2, j3, j4⟩ := back q' hq'
    obtain ⟨a1, a2⟩ := x.at' i p p' i1 i2
    obtain ⟨b1, b2⟩ := x.at' j q q' j1 j2
    have hi : (i : Int) ∈ L := by
      by_cases u : (i : Int) ∈ L
      · exact u
      · rw [a2 u] at cp
        exact absurd cp (no p i3)
    have hj : (j : Int) ∈ L := by
      by_cases u : (j : Int) ∈ L
      · exact u
      · rw [b2 u] at cq
        exact absurd cq (no q j3)
    have z := ch.2.2 _ hi _ hj
    rw [Int.toNat_natCast, Int.toNat_natCast, i4, j4] at z
    have lift : ∀ {p q p' q' : List Int}, (∀ x, x ∈ p' ↔ x ∈ p ∨ x = c) → (∀ x, x ∈ q' ↔ x ∈ q ∨ x = c) → sub1 p q = true → sub1 p' q' = true := fun {p q p' q'} m1 m2 hs => sub1_iff.mpr fun y hy => by
      rcases (m1 y).mp hy with u | u
      · exact (m2 y).mpr (.inl (sub1_iff.mp hs y u))
      · exact (m2 y).mpr (.inr u)
    exact z.imp (lift (a1 hi).2.2 (b1 hj).2.2) (lift (b1 hj).2.2 (a1 hi).2.2)
  · obtain ⟨i, p, i1, i2, i3, _⟩ := back p' hp'
    obtain ⟨a1, a2⟩ := x.at' i p p' i1 i2
    by_cases u : (i : Int) ∈ L
    · exact (a1 u).1
    · rw [a2 u]
      exact r.asc p i3
  · obtain ⟨i, p, i1, i2, i3, _⟩ := back p' hp'
    obtain ⟨a1, a2⟩ := x.at' i p p' i1 i2
    by_cases u : (i : Int) ∈ L
    · rcases ((a1 u).2.2 y).mp hy with v | v
      · exact List.mem_cons_of_mem _ (r.sub p i3 y v)
      · rw [v]
        exact List.mem_cons_self ..
    · rw [a2 u] at hy
      exact List.mem_cons_of_mem _ (r.sub p i3 y hy)
def spRg (K : PySem.W.Frag) : Sp := fun vs H Q _ => ∃ (h g s : Addr) (n : Nat), vs = [.ref h, .int n, .int 9] ∧ PotOk H h g s ∧ 1 ≤ n ∧ n ≤ 5 ∧ ∀ t v1 v2 ps r H', KeepP h g s H H' → SqT K H' t [v1, v2] → Dh K H' v1 (patsD ps) → LsS n ps → Dh K H' v2 (ctD r) → r ∈ ords n (partL n ps) (rgI n) → Q (.ref t) H'
theorem ok_law_ringless (T : Txt K mg) : FnOk P w K mg base CX0 3 T.f_law_ringless T.d_law_ringless ["pot", "columns", "most"] (spRg K) := by
  refine T.F_law_ringless.ok sc_law_ringless (fun vs H Q E h => ?_) (fun cdv A outer s H vs Q E hr h => ?_)
  · obtain ⟨_, _, _, _, rfl, _⟩ := h
    rfl
  · obtain ⟨h, g, sm, n, rfl, hx, n1, n5, q⟩ := h
    refine ⟨_, (pss_cons (ps_set (i := 3) sc_law_ringless.nd rfl (.inl rfl) (pe_call (ok_law_mixed T) hr (by rfl) T.g_law_mixed T.F_law_mixed.kp T.b_law_mixed .nil pass0 (pa_cons (pv 0) (pa_cons (pe_listRg rfl (by rfl) T.z_list (prg_1 (by rfl) T.z_range (pv 1))) pa_nil))))
      (pss_cons (ps_set (i := 4) sc_law_ringless.nd rfl (.inr rfl) (pe_op op_rep (pe_lst (pa_cons (pe_tup pa_nil) pa_nil)) (pe_op op_add pe_int (pe_call (ok_law_draw T) (hr.mono (by decide)) (by rfl) T.g_law_draw T.F_law_draw.kp T.b_law_draw .nil pass0 (pa_cons (pv 0) (pa_cons (pv 2) pa_nil))))))
      (pss_cons (ps_for PassesOwn.never rfl (pi_listK K (pe_revL (pv 3))) (pg_name (i := 5) sc_law_ringless.nd rfl (.inl rfl)) (pss_cons (ps_set (i := 7) sc_law_ringless.nd rfl (.inl rfl) (pe_lst pa_nil))
      (pss_cons (ps_for PassesOwn.never rfl (pi_listK K (pe_call (ok_law_mixed T) hr (by rfl) T.g_law_mixed T.F_law_mixed.kp T.b_law_mixed .nil pass0 (pa_cons (pv 0) (pa_cons (pe_listRg rfl (by rfl) T.z_list (prg_1 (by rfl) T.z_range (pe_callB (call_lenK K) (by rfl) T.z_len PySem.boot_len (pa_cons (pv 4) pa_nil)))) pa_nil)))) (pg_name (i := 8) sc_law_ringless.nd rfl (.inr rfl)) (pss_cons (ps_setLc (i := 9) (own := [("k", 10)]) rfl sc_law_ringless.nd rfl rfl (sw_true rfl rfl rfl (by decide +kernel)) (pi_listK K (pv 7)) (blkOk_by (N := N_law_ringless) (sc := defScope s_law_ringless) (by decide +kernel)) (fun _ _ _ _ _ => (pg_name (i := 10) sc_law_ringless.nd rfl (.inl rfl))) (fun _ _ _ _ _ => pts_nil) (fun _ _ _ _ _ => (pe_or (pe_call (ok_law_inside T) (hr.mono (by decide)) (by rfl) T.g_law_inside T.F_law_inside.kp T.b_law_inside .nil pass0 (pa_cons (pe_ix (ix_listK K) (pv 4) (pv 10) (fun _ _ => rfl)) (pa_cons (pe_ix (ix_listK K) (pv 4) (pv 8) (fun _ _ => rfl)) pa_nil))) (pe_one (pe_call (ok_law_inside T) (hr.mono (by decide)) (by rfl) T.g_law_inside T.F_law_inside.kp T.b_law_inside .nil pass0 (pa_cons (pe_ix (ix_listK K) (pv 4) (pv 8) (fun _ _ => rfl)) (pa_cons (pe_ix (ix_listK K) (pv 4) (pv 10) (fun _ _ => rfl)) pa_nil)))))))
      (pss_one (ps_if (PW.pt (pw_and (pt_val (pe_callB (call_allK (K := K) rfl) (by rfl) T.z_all (by decide +kernel) (pa_cons (pv 9) pa_nil))) (pw_and1 (pt_cmpR op_gt (pe_call (ok_law_draw T) (hr.mono (by decide)) (by rfl) T.g_law_draw T.F_law_draw.kp T.b_law_draw .nil pass0 (pa_cons (pv 0) (pa_cons pe_int pa_nil))) pe_int (nomark _))))) (pss_one (ps_expr (pe_bm PySem.F.plainAttrs_list PySem.F.slot_list_append PySem.F.type_list_append mt_append (pv 7) (pa_cons (pv 8) pa_nil)))) pss_nil))))
      (pss_one (ps_for PassesOwn.never rfl (pi_listK K (pv 7)) (pg_name (i := 8) sc_law_ringless.nd rfl (.inr rfl)) (pss_one (ps_asg (pe_callTy (call_tupleK K) (by rfl) T.z_tuple (by decide +kernel) (pa_cons (pe_callB (call_sortedTI (K := K)) (by rfl) T.z_sorted (by decide +kernel) (pa_cons (pe_op (op_catK K) (pe_ix (ix_listK K) (pv 4) (pv 8) (fun _ _ => rfl)) (pe_tup (pa_cons (pv 5) pa_nil))) pa_nil)) pa_nil)) (pg_sub (pv 4) (pv 8) set_list))))))))
      (pss_cons (ps_set (i := 6) sc_law_ringless.nd rfl (.inl rfl) (pe_tupRg rfl (by rfl) T.z_tuple (prg_1 (by rfl) T.z_range (pv 1))))
      (pss_one (ps_ret (pe_tup (pa_cons (pe_callTy (call_tupleK K) (by rfl) T.z_tuple (by decide +kernel) (pa_cons (pe_callB (call_sortSU (K := K) (P := P) (w := w) rfl hr.units) (by rfl) T.z_sorted (by decide +kernel) (pa_cons (pe_callTy (call_setOfTK (K := K) (P := P) (w := w) rfl hr.units) (by rfl) T.z_set (by decide +kernel) (pa_cons (pe_op op_cat (pv 4) (pe_lst (pa_cons (pv 6) pa_nil))) pa_nil)) pa_nil)) pa_nil)) (pa_cons (pe_callTy (call_tupleK K) (by rfl) T.z_tuple (by decide +kernel) (pa_cons (pv 3) pa_nil)) pa_nil))))))))), ?_⟩
    have n0 : (0 : Int) ≤ n := by omega
    refine ⟨_, rfl, _, rfl, (n : Int), rfl, RgOk.of_le (by omega) (by omega) (by omega) (by omega), fun rl nrl => ?_⟩
    rw [rgV_I]
    have s1 : Same H (upd H rl (.lst ((rgI n).map V.int))) := same_new nrl
    have hrl : (upd H rl (.lst ((rgI n).map V.int))) rl = some (.lst ((rgI n).map V.int)) := upd_same
    generalize upd H rl (.lst ((rgI n).map V.int)) = H1 at s1 hrl ⊢
    have hx1 := hx.same s1
    refine ⟨h, g, sm, rl, _, rfl, hx1, SqL.of hrl, by rw [List.length_map, rgI_len]; omega, fun r ys H2 nr k2 hr2 pm => ?_⟩
    obtain ⟨wl, pw, rfl⟩ := perm_map_inv pm (rgI n) rfl
    have hwl : wl.length = n := by rw [pw.length_eq, rgI_len]
    have hwn : wl.Nodup := pw.nodup_iff.mpr (rgI_nodup n)
    have hwm : ∀ c ∈ wl, 0 ≤ c ∧ c < n := fun c hc => by
      have z := (asc_rgI n).mem c (pw.mem_iff.mp hc)
      omega
    obtain ⟨rh, rg, _⟩ := hx1.ne nr
    clear pm
    dsimp only [tNext, tSeq, tAsg, gName, List.set_cons_succ, List.set_cons_zero]
    refine ⟨by show 0 ≤ sizeLine; decide, fun e0 ne0 => ⟨by show 1 ≤ sizeLine; decide, fun l0 nl0 => ?_⟩⟩
    have s3 : Same H2 (upd H2 e0 (.tup [])) := same_new ne0
    have he0 : (upd H2 e0 (.tup [])) e0 = some (.tup []) := upd_same
    generalize upd H2 e0 (.tup []) = H3 at s3 he0 nl0 ⊢
    have s4 : Same H3 (upd H3 l0 (.lst [.ref e0])) := same_new nl0
    have hl0 : (upd H3 l0 (.lst [.ref e0])) l0 = some (.lst [.ref e0]) := upd_same
    generalize upd H3 l0 (.lst [.ref e0]) = H4 at s4 hl0 ⊢
    have s24 := s3.trans s4
    have k4 := k2.same s24
    obtain ⟨l0h, l0g, _⟩ := (k2.same s3).pot.ne nl0
    have he4 := s4 _ _ he0
    refine ⟨_, rfl, _, rfl, h, g, sm, 9, rfl, k4.pot, by decide, by decide, fun dd H5 d0 d1 k5 => ⟨_, _, rfl, rfl, ?_⟩⟩
    have hl5 := k5.rest l0 _ l0h l0g hl0
    have e0h : e0 ≠ h ∧ e0 ≠ g := by
      obtain ⟨a1, a2, _⟩ := k2.pot.ne ne0
      exact ⟨a1, a2⟩
    have he5 := k5.rest e0 _ e0h.1 e0h.2 he4
    have hr5 := k5.rest r _ rh rg (s24 _ _ hr2)
    refine ⟨l0, _, _, rfl, rfl, hl5, by omega, by omega, Nat.le_of_lt (sz_small (by show 1 * (1 + dd).toNat ≤ 100000; omega)), fun so nso => ?_⟩
    have erep : (List.replicate (1 + dd).toNat [V.ref e0]).flatten = (List.replicate (1 + dd).toNat ((e0, []) : Addr × List Int)).map fun m => V.ref m.1 := by
      rw [List.flatten_replicate_singleton, List.map_replicate]
    rw [erep]
    have s6 : Same H5 (upd H5 so (.lst ((List.replicate (1 + dd).toNat ((e0, []) : Addr × List Int)).map fun m => V.ref m.1))) := same_new nso
    have hso : (upd H5 so (.lst ((List.replicate (1 + dd).toNat ((e0, []) : Addr × List Int)).map fun m => V.ref m.1))) so = some (.lst ((List.replicate (1 + dd).toNat ((e0, []) : Addr × List Int)).map fun m => V.ref m.1)) := upd_same
    generalize upd H5 so (.lst ((List.replicate (1 + dd).toNat ((e0, []) : Addr × List Int)).map fun m => V.ref m.1)) = H6 at s6 hso ⊢
    obtain ⟨soh, sog, _⟩ := k5.pot.ne nso
    have sor : so ≠ r := fun e => by
      rw [e, hr5] at nso
      cases nso
    have rg0 : RgAt K h g sm n wl r so [] H6 := ⟨k5.pot.same s6, s6 _ _ hr5, _, by rw [List.length_replicate]; omega, by rw [List.length_replicate]; omega, hso, fun m hm => by
      rw [(List.mem_replicate.mp hm).2]
      exact SqT.of (s6 _ _ he5), ⟨True.intro, fun p hp => by
        obtain ⟨m, hm, rfl⟩ := List.mem_map.mp hp
        rw [(List.mem_replicate.mp hm).2]
        exact True.intro, fun p hp y hy => by
        obtain ⟨m, hm, rfl⟩ := List.mem_map.mp hp
        rw [(List.mem_replicate.mp hm).2] at hy
        cases hy⟩⟩
    have nso0 : H so = none := by
      have z : H5 so = none := nso
      cases e : H so with
      | none => rfl
      | some o =>
        have y := k5.rest so o soh sog (s24 _ _ (k2.rest so o soh sog (s1 _ _ e)))
        rw [z] at y
        cases y
    have k06 : KeepP h g sm H H6 := (((KeepP.of hx s1).trans k2).same s24).trans (k5.same s6)
    clear hso erep hl5 he5 he4 hl0 he0 s3 s4 s24 k4 k2 k5 s6 hr5 hr2 hx1 s1 hrl nrl nso l0h l0g e0h
    dsimp only [tNext, tSeq, tAsg, gName, List.set_cons_succ, List.set_cons_zero]
    refine ⟨_, rfl, r, _, rfl, SqL.of rg0.row, fun rv nrv => ?_⟩
    have s7 : Same H6 (upd H6 rv (.lst (wl.map V.int).reverse)) := same_new nrv
    have hrv : (upd H6 rv (.lst (wl.map V.int).reverse)) rv = some (.lst (wl.map V.int).reverse) := upd_same
    obtain ⟨rvh, rvg, _⟩ := rg0.pot.ne nrv
    have rvso : rv ≠ so := fun e => by
      obtain ⟨M, _, _, hm, _⟩ := rg0.ex
      rw [e, hm] at nrv
      cases nrv
    have nrv0 : H rv = none := by
      cases e : H rv with
      | none => rfl
      | some o =>
        have y := k06.rest rv o rvh rvg e
        rw [nrv] at y
        cases y
    have rg7 : RgAt K h g sm n wl r so [] (upd H6 rv (.lst (wl.map V.int).reverse)) := by
      obtain ⟨M, m1, m2, m3, m4, m5⟩ := rg0.ex
      exact ⟨rg0.pot.same s7, s7 _ _ rg0.row, M, m1, m2, s7 _ _ m3, fun m hm => (Ext.of s7).sqT (m4 m hm), m5⟩
    have k07 := k06.same s7
    generalize upd H6 rv (.lst (wl.map V.int).reverse) = H7 at s7 hrv rg7 k07 ⊢
    clear rg0 k06 s7 nrv
    rw [← List.map_reverse] at hrv
    refine ⟨rv, rfl, ⟨_, SqL.of hrv⟩, for_list (K := K) (a := rv) (xs := wl.reverse.map V.int) (fun i σ H' => ∃ y5 y6 y7 y8 y9 y10 : Option V, σ = [some (.ref h), some (.int n), some (.int 9), some (.ref r), some (.ref so), y5, y6, y7, y8, y9, y10] ∧ KeepP h g sm H H' ∧ H' rv = some (.lst (wl.reverse.map V.int)) ∧ RgAt K h g sm n wl r so (wl.drop (n - i)) H')
      ⟨_, _, _, _, _, _, rfl, k07, hrv, by rw [Nat.sub_zero, List.drop_eq_nil_of_le (by omega)]; exact rg7⟩ (fun i σ H' _ ⟨_, _, _, _, _, _, _, _, z, _⟩ => SqL.of z) ?_ ?_⟩
    · clear rg7 k07 hrv H7
      rintro i x σ HA hxi ⟨y5, y6, y7, y8, y9, y10, rfl, kA, hrvA, rgA⟩
      rw [List.getElem?_map] at hxi
      obtain ⟨c, hci, rfl⟩ := Option.map_eq_some_iff.mp hxi
      have hi : i < n := by
        have := (List.getElem?_eq_some_iff.mp hci).1
        rw [List.length_reverse] at this
        omega
      have hdr : wl.drop (n - (i + 1)) = c :: wl.drop (n - i) := by
        have hl : n - (i + 1) < wl.length := by omega
        rw [List.drop_eq_getElem_cons hl, show n - (i + 1) + 1 = n - i by omega]
        congr 1
        rw [List.getElem?_reverse (by omega)] at hci
        rw [show wl.length - 1 - i = n - (i + 1) by omega, List.getElem?_eq_getElem hl] at hci
        exact Option.some.inj hci
      have hcv : c ∉ wl.drop (n - i) := by
        have z : (c :: wl.drop (n - i)).Nodup := hdr ▸ List.Nodup.sublist (List.drop_sublist _ _) hwn
        exact (List.nodup_cons.mp z).1
      have hcw : c ∈ wl := by
        have z : c ∈ wl.drop (n - (i + 1)) := hdr ▸ List.mem_cons_self ..
        exact List.mem_of_mem_drop z
      obtain ⟨potA, rowA, M, m1, m2, m3, m4, m5⟩ := id rgA
      dsimp only [tNext, tSeq, tAsg, gName, List.set_cons_succ, List.set_cons_zero]
      refine ⟨Nat.zero_le _, fun ch nch => ?_⟩
      have sB : Same HA (upd HA ch (.lst [])) := same_new nch
      have hch : (upd HA ch (.lst [])) ch = some (.lst []) := upd_same
      obtain ⟨chh, chg, chs⟩ := potA.ne nch
      generalize upd HA ch (.lst []) = HB at sB hch ⊢
      have soch : so ≠ ch := fun e => by
        rw [← e, m3] at nch
        cases nch
      refine ⟨_, rfl, _, rfl, so, _, rfl, .inl (SqL.of (sB _ _ m3)), _, rfl, RgOk.of_le (by omega) (by rw [List.length_map]; omega) (by omega) (by omega), fun r2 nr2 => ?_⟩
      rw [List.length_map, rgV_I]
      have sC : Same HB (upd HB r2 (.lst ((rgI M.length).map V.int))) := same_new nr2
      have hr2 : (upd HB r2 (.lst ((rgI M.length).map V.int))) r2 = some (.lst ((rgI M.length).map V.int)) := upd_same
      generalize upd HB r2 (.lst ((rgI M.length).map V.int)) = HC at sC hr2 ⊢
      have potC := (potA.same sB).same sC
      refine ⟨h, g, sm, r2, _, rfl, potC, SqL.of hr2, by rw [List.length_map, rgI_len]; omega, fun mx ys HD nmx kD hmx pmx => ?_⟩
      obtain ⟨W, pW, rfl⟩ := perm_map_inv pmx (rgI M.length) rfl
      have hWn : W.Nodup := pW.nodup_iff.mpr (rgI_nodup _)
      have hWm : ∀ k ∈ W, 0 ≤ k ∧ k < (M.map (·.2)).length := fun k hk => by
        have z := (asc_rgI M.length).mem k (pW.mem_iff.mp hk)
        rw [List.length_map]
        omega
      obtain ⟨mxh, mxg, _⟩ := potC.ne nmx
      have hchD := kD.rest ch _ chh chg (sC _ _ hch)
      have mxch : mx ≠ ch := fun e => by
        have z := sC _ _ hch
        rw [← e, nmx] at z
        cases z
      have kAD : KeepP h g sm HA HD := (KeepP.of potA (sB.trans sC)).trans kD
      clear sC hr2 nr2 pmx kD potC nmx
      refine ⟨mx, rfl, ⟨_, SqL.of hmx⟩, for_list (K := K) (a := mx) (xs := W.map V.int) (fun t σ H' => ∃ (y8 y9 y10 : Option V) (L : List Int), σ = [some (.ref h), some (.int n), some (.int 9), some (.ref r), some (.ref so), some (.int c), y6, some (.ref ch), y8, y9, y10] ∧ KeepP h g sm HA H' ∧ H' mx = some (.lst (W.map V.int)) ∧ H' ch = some (.lst (L.map V.int)) ∧ ChOk (M.map (·.2)) L ∧ ∀ k ∈ L, k ∈ W.take t)
        ⟨_, _, _, [], rfl, kAD, hmx, hchD, ⟨fun k hk => (by cases hk), List.nodup_nil, fun k hk => (by cases hk)⟩, fun k hk => (by cases hk)⟩ (fun t σ H' _ ⟨_, _, _, _, _, _, z, _⟩ => SqL.of z) ?_ ?_⟩
      · rintro t x σ H' hxt ⟨y8, y9, y10, L, rfl, k, hmx', hch', ck, hLt⟩
        rw [List.getElem?_map] at hxt
        obtain ⟨a, hat, rfl⟩ := Option.map_eq_some_iff.mp hxt
        have ham : a ∈ W := List.mem_of_getElem? hat
        have haL : a ∉ L := fun hm => by
          have z := hLt a hm
          obtain ⟨q, hq, e⟩ := List.mem_iff_getElem.mp z
          rw [List.getElem_take] at e
          have hq1 : q < t := by
            have := List.length_take (i := t) (l := W)
            omega
          have hq2 : q < W.length := by
            have := List.length_take (i := t) (l := W)
            omega
          obtain ⟨ht, e1⟩ := List.getElem?_eq_some_iff.mp hat
          have : q = t := (List.getElem_inj (h₀ := hq2) (h₁ := ht) hWn).mp (e.trans e1.symm)
          omega
        have hso' := k.rest so _ soh sog m3
        have eA := k.ext potA
        have ent : ∀ z : Int, 0 ≤ z ∧ z < (M.map (·.2)).length → ∃ m ∈ M, atI (M.map fun m => V.ref m.1) z = some (.ref m.1) ∧ (M.map (·.2)).getD z.toNat [] = m.2 := fun z hz => by
          rw [List.length_map] at hz
          have hz2 : z.toNat < M.length := by omega
          refine ⟨M[z.toNat], List.getElem_mem _, at_of (j := z.toNat) (by omega) ?_, ?_⟩
          · rw [List.getElem?_map, List.getElem?_eq_getElem hz2]
            rfl
          · rw [List.getD_eq_getElem?_getD, List.getElem?_map, List.getElem?_eq_getElem hz2]
            rfl
        obtain ⟨ma, ma1, ma2, ma3⟩ := ent a (hWm a ham)
        have plen : ∀ m ∈ M, m.2.length ≤ 1000 := fun m hm => by
          have := (m5.asc m.2 (List.mem_map_of_mem (f := fun m : Addr × List Int => m.2) hm)).len (by omega)
          omega
        have hLl : L.length ≤ 9 := by
          have z := nodup_len L (rgI M.length) ck.2.1 fun y hy => pW.mem_iff.mp (List.mem_of_mem_take (hLt y hy))
          rw [rgI_len] at z
          omega
        dsimp only [tNext, tSeq, tAsg, gName, List.set_cons_succ, List.set_cons_zero]
        refine ⟨_, rfl, ch, rfl, ⟨_, SqL.of hch'⟩, fun D nD => lc_list (K := K) (xs := L.map V.int) (fun j H2 => Same H' H2 ∧ H2 D = some (.lst (((L.take j).map fun k => sub1 ((M.map (·.2)).getD k.toNat []) ma.2 || sub1 ma.2 ((M.map (·.2)).getD k.toNat [])).map V.bl))) ⟨same_new nD, upd_same⟩ (fun j H2 _ ⟨s', _⟩ => SqL.of (s' _ _ hch')) ?_ ?_⟩
        · rintro j x H2 hxj ⟨s2, hD2⟩
          rw [List.getElem?_map] at hxj
          obtain ⟨kk, hkk, rfl⟩ := Option.map_eq_some_iff.mp hxj
          obtain ⟨mk, mk1, mk2, mk3⟩ := ent kk (ck.1 kk (List.mem_of_getElem? hkk))
          have hso2 := s2 _ _ hso'
          have dk := dh_ct ((Ext.of s2).sqT (eA.sqT (m4 mk mk1)))
          have da := dh_ct ((Ext.of s2).sqT (eA.sqT (m4 ma ma1)))
          have hkl : (((L.take j).map fun k => sub1 ((M.map (·.2)).getD k.toNat []) ma.2 || sub1 ma.2 ((M.map (·.2)).getD k.toNat [])).map V.bl).length ≤ 1000 := by
            rw [List.length_map, List.length_map]
            have := List.length_take (i := j) (l := L)
            omega
          have hf : ((L.take (j + 1)).map fun k => sub1 ((M.map (·.2)).getD k.toNat []) ma.2 || sub1 ma.2 ((M.map (·.2)).getD k.toNat [])).map V.bl = ((L.take j).map fun k => sub1 ((M.map (·.2)).getD k.toNat []) ma.2 || sub1 ma.2 ((M.map (·.2)).getD k.toNat [])).map V.bl ++ [.bl (sub1 mk.2 ma.2 || sub1 ma.2 mk.2)] := by
            rw [List.take_add_one, hkk, List.map_append, List.map_append]
            show _ ++ [V.bl (sub1 ((M.map (·.2)).getD kk.toNat []) ma.2 || sub1 ma.2 ((M.map (·.2)).getD kk.toNat []))] = _
            rw [mk3]
          refine ⟨rfl, ?_⟩
          dsimp only [tYes]
          rw [if_pos rfl]
          refine ⟨_, rfl, _, rfl, so, _, kk, _, rfl, rfl, SqL.of hso2, mk2, _, rfl, _, rfl, so, _, a, _, rfl, rfl, SqL.of hso2, ma2, _, _, mk.2, ma.2, rfl, dk, da, plen mk mk1, fun H3 s3 => ⟨_, rfl, ?_⟩⟩
          cases e1 : sub1 mk.2 ma.2 with
          | true =>
            rw [e1, Bool.true_or] at hf
            dsimp only
            rw [if_pos rfl]
            refine ⟨_, s3 _ _ hD2, sz_small (by omega), Same.put nD (s2.trans s3), ?_⟩
            rw [hf]
            exact upd_same
          | false =>
            rw [e1, Bool.false_or] at hf
            dsimp only
            rw [if_neg (by decide)]
            have hso3 := s3 _ _ hso2
            refine ⟨_, rfl, _, rfl, so, _, a, _, rfl, rfl, SqL.of hso3, ma2, _, rfl, _, rfl, so, _, kk, _, rfl, rfl, SqL.of hso3, mk2, _, _, ma.2, mk.2, rfl, da.ext (.of s3), dk.ext (.of s3), plen ma ma1, fun H4 s4 => ?_⟩
            have s34 := s3.trans s4
            refine ⟨_, s34 _ _ hD2, sz_small (by omega), Same.put nD (s2.trans s34), ?_⟩
            rw [hf]
            exact upd_same
        · rintro H2 ⟨s2, hD2⟩
          rw [List.length_map, List.take_length] at hD2
          have hmx2 := s2 _ _ hmx'
          have hch2 := s2 _ _ hch'
          have k2 := k.same s2
          have sub' : ∀ y ∈ L, y ∈ W.take (t + 1) := fun y hy => by
            rw [List.take_add_one]
            exact List.mem_append_left _ (hLt y hy)
          refine ⟨_, rfl, D, _, rfl, SqL.of hD2, _, rfl, ?_⟩
          cases ea : (L.map fun k => sub1 ((M.map (·.2)).getD k.toNat []) ma.2 || sub1 ma.2 ((M.map (·.2)).getD k.toNat [])).all id with
          | false =>
            refine iteF ?_
            exact iteF ⟨_, _, _, L, rfl, k2, hmx2, hch2, ck, sub'⟩
          | true =>
            refine iteT ?_
            refine ⟨_, rfl, h, g, sm, 3, rfl, k2.pot, by decide, by decide, fun dr H3 dr0 dr1 k3 => ⟨_, _, rfl, rfl, _, rfl, ?_⟩⟩
            have hmx3 := k3.rest mx _ mxh mxg hmx2
            have hch3 := k3.rest ch _ chh chg hch2
            have k23 := k2.trans k3
            refine ite2 (fun _ => ?_) (fun _ => ?_)
            · refine ⟨_, rfl, .inl ⟨rfl, _, SqL.of hch3⟩, _, rfl, ch, _, _, rfl, rfl, hch3, sz_small (by rw [List.length_map]; omega), ?_⟩
              have nA : HA ch = none := nch
              refine ⟨_, _, _, L ++ [a], rfl, ⟨fun b u b1 b2 e => ?_, ?_⟩, ?_, ?_, ck.snoc (hWm a ham) haL (fun kk hkk => ?_), fun y hy => ?_⟩
              · have nb : b ≠ ch := fun z => by
                  rw [z, nA] at e
                  cases e
                rw [upd_ne nb]
                exact k23.rest b u b1 b2 e
              · obtain ⟨tt, tot, gs, ss, e1, e2, e3, rr⟩ := k23.pot.ex
                refine ⟨tt, tot, gs, ss, ?_, ?_, ?_, rr⟩
                · rw [upd_ne chh.symm]
                  exact e1
                · rw [upd_ne chg.symm]
                  exact e2
                · rw [upd_ne chs.symm]
                  exact e3
              · rw [upd_ne mxch]
                exact hmx3
              · rw [upd_same, List.map_append]
                rfl
              · rw [List.all_map, List.all_eq_true] at ea
                have z := ea kk hkk
                rw [ma3]
                exact z
              · rw [List.take_add_one, hat]
                rcases List.mem_append.mp hy with u | u
                · exact List.mem_append_left _ (hLt y u)
                · exact List.mem_append_right _ u
            · exact ⟨_, _, _, L, rfl, k23, hmx3, hch3, ck, sub'⟩
      · rintro σ H' ⟨y8, y9, y10, L, rfl, k, hmx', hch', ck, _⟩
        have hso' := k.rest so _ soh sog m3
        have eA := k.ext potA
        refine ⟨_, rfl, ch, rfl, ⟨_, SqL.of hch'⟩, for_list (K := K) (a := ch) (xs := L.map V.int) (fun t σ H'' => ∃ (y8 : Option V) (M' : List (Addr × List Int)), σ = [some (.ref h), some (.int n), some (.int 9), some (.ref r), some (.ref so), some (.int c), y6, some (.ref ch), y8, y9, y10] ∧ (∀ b o, b ≠ h → b ≠ g → b ≠ so → HA b = some o → H'' b = some o) ∧ PotOk H'' h g sm ∧ H'' ch = some (.lst (L.map V.int)) ∧ H'' so = some (.lst (M'.map fun m => V.ref m.1)) ∧ (∀ m ∈ M', SqT K H'' m.1 (m.2.map V.int)) ∧ RgPut n c (M.map (·.2)) (L.take t) (M'.map (·.2)))
          ⟨_, M, rfl, fun b o b1 b2 _ z => k.rest b o b1 b2 z, k.pot, hch', hso', fun m hm => eA.sqT (m4 m hm), ⟨rfl, fun q p p' h1 h2 => ⟨fun z => (by cases z), fun _ => by
            rw [h1] at h2
            exact (Option.some.inj h2).symm⟩⟩⟩ (fun t σ H'' _ ⟨_, _, _, _, _, z, _⟩ => SqL.of z) ?_ ?_⟩
        · rintro t x σ H2 hxt ⟨y8, M', rfl, kr, kp, hch2, hso2, hS2, rp⟩
          rw [List.getElem?_map] at hxt
          obtain ⟨a, hat, rfl⟩ := Option.map_eq_some_iff.mp hxt
          have ham : a ∈ L := List.mem_of_getElem? hat
          obtain ⟨a0, a1⟩ := ck.1 a ham
          obtain ⟨q, rfl⟩ : ∃ q : Nat, a = (q : Int) := ⟨a.toNat, by omega⟩
          have hl1 := rp.len
          rw [List.length_map, List.length_map] at hl1
          rw [List.length_map] at a1
          have hq1 : q < M.length := by omega
          have hq2 : q < M'.length := by omega
          have hnt : ((q : Nat) : Int) ∉ L.take t := fun z => by
            obtain ⟨u, hu, e⟩ := List.mem_iff_getElem.mp z
            rw [List.getElem_take] at e
            have hu1 : u < t := by
              have := List.length_take (i := t) (l := L)
              omega
            have hu2 : u < L.length := by
              have := List.length_take (i := t) (l := L)
              omega
            obtain ⟨ht, e1⟩ := List.getElem?_eq_some_iff.mp hat
            have : u = t := (List.getElem_inj (h₀ := hu2) (h₁ := ht) ck.2.1).mp (e.trans e1.symm)
            omega
          have g1 : (M.map (·.2))[q]? = some M[q].2 := by rw [List.getElem?_map, List.getElem?_eq_getElem hq1]; rfl
          have g2 : (M'.map (·.2))[q]? = some M'[q].2 := by rw [List.getElem?_map, List.getElem?_eq_getElem hq2]; rfl
          have epq := (rp.at' q _ _ g1 g2).2 hnt
          have hpm : M[q].2 ∈ M.map (·.2) := List.mem_of_getElem? g1
          have hpa := m5.asc _ hpm
          have hpc : c ∉ M[q].2 := fun z => hcv (m5.sub _ hpm c z)
          have hdq := dh_ct (hS2 _ (List.getElem_mem hq2))
          rw [epq] at hdq
          have hpl := hpa.len (by omega)
          dsimp only [tNext, tSeq, tAsg, gName, List.set_cons_succ, List.set_cons_zero]
          refine ⟨_, rfl, _, rfl, so, _, (q : Int), _, rfl, rfl, SqL.of hso2, atI_nat (j := q) (by rw [List.getElem?_map, List.getElem?_eq_getElem hq2]; rfl), _, rfl, by show 1 ≤ sizeLine; decide, fun p1 np1 => ?_⟩
          refine cat_ct (K := K) (c := M[q].2) (j := c) (hdq.ext (.of (same_new np1))) (by omega) upd_same fun v H3 s3 hv => ?_
          have s23 := (same_new np1).trans s3
          obtain ⟨b, rfl, hb⟩ := ct_inv hv
          refine ⟨b, M[q].2 ++ [c], rfl, .inr hb, by rw [List.length_append]; show M[q].2.length + 1 < 64; omega, fun ns p2 pns pwn np2 => ⟨p2, _, rfl, .inl ⟨SqL.of upd_same, fun tt ntt => ?_⟩⟩⟩
          have s25 := (s23.trans (same_new np2)).trans (same_new (o := HO.tup (ns.map V.int)) ntt)
          have htt : (upd (upd H3 p2 (.lst (ns.map V.int))) tt (.tup (ns.map V.int))) tt = some (.tup (ns.map V.int)) := upd_same
          generalize upd (upd H3 p2 (.lst (ns.map V.int))) tt (.tup (ns.map V.int)) = H5 at s25 htt ⊢
          have hso5 := s25 _ _ hso2
          have hch5 := s25 _ _ hch2
          have kp5 := kp.same s25
          refine ⟨_, rfl, _, rfl, so, _, (q : Int), q, rfl, rfl, hso5, ixN_at (by rw [List.length_map]; exact hq2), ?_⟩
          have eset : (M'.map fun m => V.ref m.1).set q (.ref tt) = (M'.set q (tt, ns)).map fun m => V.ref m.1 := by
            rw [List.map_set]
          rw [eset]
          obtain ⟨w1, w2, w3⟩ := put_asc (n := n) hpa (hwm c hcw) hpc pns pwn
          have ep := Ext.put (ys := (M'.set q (tt, ns)).map fun m => V.ref m.1) hso5
          refine ⟨_, M'.set q (tt, ns), rfl, fun b2 o b3 b4 b5 z => ?_, ?_, ?_, upd_same, fun m hm => ?_, ?_⟩
          · rw [upd_ne b5]
            exact s25 _ _ (kr b2 o b3 b4 b5 z)
          · obtain ⟨ti, tot, gs, ss, e1, e2, e3, rr⟩ := kp5.ex
            have sos : so ≠ sm := by
              obtain ⟨_, _, _, ss', _, _, e3', r1, r2, _⟩ := potA.ex
              intro z
              rw [← z, m3] at e3'
              have y := HO.lst.inj (Option.some.inj e3')
              cases M with
              | nil => simp at m2
              | cons m M =>
                cases ss' with
                | nil => simp at r2
                | cons u ss' =>
                  rw [List.map_cons, List.map_cons] at y
                  injection y with y1 _
                  cases y1
            refine ⟨ti, tot, gs, ss, ?_, ?_, ?_, rr⟩
            · rw [upd_ne soh.symm]
              exact e1
            · rw [upd_ne sog.symm]
              exact e2
            · rw [upd_ne sos.symm]
              exact e3
          · rw [upd_ne soch.symm]
            exact hch5
          · rcases List.mem_or_eq_of_mem_set hm with u | u
            · exact ep.sqT ((Ext.of s25).sqT (hS2 m u))
            · rw [u]
              exact ep.sqT (SqT.of htt)
          · refine ⟨by rw [List.length_map, List.length_set, List.length_map]; exact hl1, fun i' p p' h1 h2 => ?_⟩
            rw [List.take_add_one, hat]
            rw [List.getElem?_map] at h2
            by_cases ei : i' = q
            · subst ei
              rw [List.getElem?_set_self hq2] at h2
              have h2 : ns = p' := Option.some.inj h2
              subst h2
              rw [g1] at h1
              have h1 : M[i'].2 = p := Option.some.inj h1
              subst h1
              exact ⟨fun _ => ⟨w1, w2, w3⟩, fun z => absurd (List.mem_append_right _ (by simp)) z⟩
            · rw [List.getElem?_set_ne (fun z => ei z.symm), ← List.getElem?_map] at h2
              obtain ⟨r1, r2⟩ := rp.at' i' p p' h1 h2
              have nq : ∀ z : ((i' : Nat) : Int) ∈ L.take t ++ (some ((q : Nat) : Int)).toList, ((i' : Nat) : Int) ∈ L.take t := fun z => by
                rcases List.mem_append.mp z with u | u
                · exact u
                · have : ((i' : Nat) : Int) = (q : Int) := by simpa using u
                  omega
              exact ⟨fun z => r1 (nq z), fun z => r2 fun y => z (List.mem_append_left _ y)⟩
        · rintro σ H2 ⟨y8, M', rfl, kr, kp, hch2, hso2, hS2, rp⟩
          rw [List.length_map, List.take_length] at rp
          have rvA := hrvA
          refine ⟨_, _, _, _, _, _, rfl, ⟨fun b o b1 b2 z => ?_, kp⟩, kr rv _ rvh rvg rvso hrvA, ⟨kp, kr r _ rh rg sor.symm rowA, M', ?_, ?_, hso2, hS2, ?_⟩⟩
          · have nb : b ≠ so := fun y => by
              rw [y, nso0] at z
              cases z
            exact kr b o b1 b2 nb (kA.rest b o b1 b2 z)
          · have := rp.len
            rw [List.length_map, List.length_map] at this
            omega
          · have := rp.len
            rw [List.length_map, List.length_map] at this
            omega
          · rw [hdr]
            exact rp.rg ck m5 hcv
    · rintro σ H' ⟨y5, y6, y7, y8, y9, y10, rfl, kA, hrvA, rgA⟩
      rw [List.length_map, List.length_reverse, hwl, Nat.sub_self, List.drop_zero] at rgA
      obtain ⟨potA, rowA, M, m1, m2, m3, m4, m5⟩ := rgA
      dsimp only [tNext, tSeq, tAsg, gName, List.set_cons_succ, List.set_cons_zero]
      refine ⟨_, rfl, _, rfl, RgOk.of_le (by omega) (by omega) (by omega) (by omega), fun tw ntw => ?_⟩
      rw [rgV_I]
      have s1 : Same H' (upd H' tw (.tup ((rgI n).map V.int))) := same_new ntw
      have htw : (upd H' tw (.tup ((rgI n).map V.int))) tw = some (.tup ((rgI n).map V.int)) := upd_same
      generalize upd H' tw (.tup ((rgI n).map V.int)) = H1 at s1 htw ⊢
      refine ⟨_, rfl, _, rfl, by show 1 ≤ sizeLine; decide, fun p2 np2 => ?_⟩
      have s2 : Same H1 (upd H1 p2 (.lst [.ref tw])) := same_new np2
      have hp2 : (upd H1 p2 (.lst [.ref tw])) p2 = some (.lst [.ref tw]) := upd_same
      generalize upd H1 p2 (.lst [.ref tw]) = H2 at s2 hp2 ⊢
      refine ⟨so, p2, _, _, rfl, rfl, (s1.trans s2) _ _ m3, hp2, Nat.le_of_lt (sz_small (by rw [List.length_map]; show M.length + 1 ≤ 100000; omega)), fun p3 np3 => ?_⟩
      have eM : (M.map fun m => V.ref m.1) ++ [V.ref tw] = (M ++ [(tw, rgI n)]).map fun m => V.ref m.1 := by
        rw [List.map_append]
        rfl
      rw [eM]
      have s3 : Same H2 (upd H2 p3 (.lst ((M ++ [(tw, rgI n)]).map fun m => V.ref m.1))) := same_new np3
      have hp3 : (upd H2 p3 (.lst ((M ++ [(tw, rgI n)]).map fun m => V.ref m.1))) p3 = some (.lst ((M ++ [(tw, rgI n)]).map fun m => V.ref m.1)) := upd_same
      generalize upd H2 p3 (.lst ((M ++ [(tw, rgI n)]).map fun m => V.ref m.1)) = H3 at s3 hp3 ⊢
      have s13 := (s1.trans s2).trans s3
      have hM3 : ∀ m ∈ M ++ [(tw, rgI n)], SqT K H3 m.1 (m.2.map V.int) := fun m hm => by
        rcases List.mem_append.mp hm with u | u
        · exact (Ext.of s13).sqT (m4 m u)
        · rw [List.mem_singleton.mp u]
          exact SqT.of ((s2.trans s3) _ _ htw)
      dsimp only [tNil]
      refine ⟨p3, M ++ [(tw, rgI n)], rfl, SqL.of hp3, hM3, by rw [List.length_append]; show M.length + 1 < 64; omega, fun sa L nsa hL1 hL2 => ?_⟩
      have s4 := same_new (H := H3) (o := SetTO P w sa L) nsa
      refine ⟨sa, L, rfl, upd_same, (fun p hp => (Ext.of s4).sqT (hM3 p (hL1 p hp))), fun L' p4 pL _ pwL np4 => ?_⟩
      have s5 := s4.trans (same_new (o := HO.lst (L'.map fun m => V.ref m.1)) np4)
      refine ⟨p4, _, rfl, .inl ⟨SqL.of upd_same, fun t1 nt1 => ?_⟩⟩
      have s6 := s5.trans (same_new (o := HO.tup (L'.map fun m => V.ref m.1)) nt1)
      have ht1 : (upd (upd (upd H3 sa (SetTO P w sa L)) p4 (.lst (L'.map fun m => V.ref m.1))) t1 (.tup (L'.map fun m => V.ref m.1))) t1 = some (.tup (L'.map fun m => V.ref m.1)) := upd_same
      generalize upd (upd (upd H3 sa (SetTO P w sa L)) p4 (.lst (L'.map fun m => V.ref m.1))) t1 (.tup (L'.map fun m => V.ref m.1)) = H6 at s6 ht1 ⊢
      have s16 := s13.trans s6
      refine ⟨_, rfl, r, _, rfl, .inl ⟨SqL.of (s16 _ _ rowA), fun t2 nt2 => ?_⟩⟩
      have s7 : Same H6 (upd H6 t2 (.tup (wl.map V.int))) := same_new nt2
      have ht2 : (upd H6 t2 (.tup (wl.map V.int))) t2 = some (.tup (wl.map V.int)) := upd_same
      generalize upd H6 t2 (.tup (wl.map V.int)) = H7 at s7 ht2 ⊢
      refine ⟨by show 2 ≤ sizeLine; decide, fun t3 nt3 => ?_⟩
      have s8 : Same H7 (upd H7 t3 (.tup [.ref t1, .ref t2])) := same_new nt3
      have s18 := s16.trans (s7.trans s8)
      have inM : ∀ z ∈ L'.map (·.2), z ∈ M.map (·.2) ∨ z = rgI n := fun z hz => by
        obtain ⟨m, hm, rfl⟩ := List.mem_map.mp hz
        rcases List.mem_append.mp (hL1 m (pL.mem_iff.mp hm)) with u | u
        · exact .inl (List.mem_map_of_mem (f := fun m : Addr × List Int => m.2) u)
        · rw [List.mem_singleton.mp u]
          exact .inr rfl
      have pw2 : (L'.map (·.2)).Pairwise fun a b => HT.lexLt a b = true := List.pairwise_map.mpr pwL
      have ndL : (L'.map (·.2)).Nodup := pw2.imp fun {a b} h e => by
        rw [e, lexLt_dec, decide_eq_false (List.lt_irrefl _)] at h
        cases h
      refine q t3 (.ref t1) (.ref t2) (L'.map (·.2)) wl _ (kA.same s18) (SqT.of upd_same) (.tup (SqT.of ((s7.trans s8) _ _ ht1)) (dhs_refs fun m hm => (Ext.of (s6.trans (s7.trans s8))).sqT (hM3 m (hL1 m (pL.mem_iff.mp hm))))) ⟨n1, n5, pw2, fun z hz => ?_, ?_, ?_⟩ (dh_ct (SqT.of (s8 _ _ ht2))) ?_
      · rcases inM z hz with u | u
        · exact m5.asc z u
        · rw [u]
          exact asc_rgI n
      · have z := hL2 (tw, rgI n) (List.mem_append_right _ (List.mem_singleton.mpr rfl))
        exact (pL.map (·.2)).mem_iff.mpr z
      · have z := nodup_len (L'.map (·.2)) (M.map (·.2) ++ [rgI n]) ndL fun y hy => by
          rcases inM y hy with u | u
          · exact List.mem_append_left _ u
          · rw [u]
            exact List.mem_append_right _ (List.mem_singleton.mpr rfl)
        rw [List.length_append, List.length_map (as := M)] at z
        have : ([rgI n] : List (List Int)).length = 1 := rfl
        omega
      · refine (mem_ords (rgI_len n) (rgI_nodup n)).mpr ⟨pw, m5.val.sub fun z hz => ?_⟩
        obtain ⟨h1, h2⟩ := List.mem_filter.mp hz
        have h2 := of_decide_eq_true h2
        rcases inM z h1 with u | u
        · exact u
        · rw [u, rgI_len] at h2
          omega
end
end Fm
namespace Fm
open PySem PySem.Spec PyProof.Rows L2
section
variable {P : Program} {w : World} {K : PySem.W.Frag} {mg : Str → Option Value} {base : Heap}
theorem dp_ints27 {H : Hp} : ∀ l : List Int, DpAll K H (l.map V.int) (l.map PyData.int)
  | [] => .nil
  | i :: l => .cons (.int i) (dp_ints27 l)
theorem shaped_ints27 (l : List Int) : SeqAt.shaped (.list (l.map PyData.int)) = true := shaped_ct l
def leftC (away : List Int) (j : Nat) : List Int := ((List.range j).map fun i : Nat => (i : Int)).filter fun c => decide (c ∉ away)
theorem leftC_mem {away : List Int} {j : Nat} {c : Int} : c ∈ leftC away j ↔ 0 ≤ c ∧ c < j ∧ c ∉ away := by
  unfold leftC
  rw [List.mem_filter, List.mem_map, decide_eq_true_eq]
  constructor
  · rintro ⟨⟨i, hi, rfl⟩, h⟩
    have := List.mem_range.mp hi
    exact ⟨by omega, by omega, h⟩
  · rintro ⟨h0, h1, h2⟩
    exact ⟨⟨c.toNat, List.mem_range.mpr (by omega), by omega⟩, h2⟩
theorem leftC_succ (away : List Int) (j : Nat) : leftC away (j + 1) = leftC away j ++ if (j : Int) ∉ away then [(j : Int)] else [] := by
  unfold leftC
  rw [List.range_succ, List.map_append, List.filter_append]
  congr 1
  show List.filter _ [(j : Int)] = _
  by_cases h : (j : Int) ∉ away
  · rw [if_pos h, List.filter_cons_of_pos (by simpa using h)]
    rfl
  · rw [if_neg h, List.filter_cons_of_neg (by simpa using h)]
    rfl
theorem PotOk.ne3 {H : Hp} {h g s p : Addr} (x : PotOk H h g s) (np : H p = none) : p ≠ h ∧ p ≠ g ∧ p ≠ s := by
  obtain ⟨t, tot, gs, ss, e1, e2, e3, _⟩ := x.ex
  exact ⟨fun e => (by rw [e, e1] at np; cases np), fun e => (by rw [e, e2] at np; cases np), fun e => (by rw [e, e3] at np; cases np)⟩
theorem KeepP.free {H H' : Hp} {h g s p : Addr} (x : PotOk H h g s) (k : KeepP h g s H H') (np : H' p = none) : H p = none := by
  obtain ⟨n1, n2, _⟩ := k.pot.ne3 np
  cases z : H p with
  | none => rfl
  | some o => rw [k.rest _ _ n1 n2 z] at np; cases np
theorem KeepP.put {H H' : Hp} {h g s d : Addr} {o : HO} (k : KeepP h g s H H') (nd : H d = none) (n : d ≠ h ∧ d ≠ g ∧ d ≠ s) : KeepP h g s H (upd H' d o) := by
  obtain ⟨t, tot, gs, ss, e1, e2, e3, r⟩ := k.pot.ex
  refine ⟨fun b u n1 n2 e => ?_, ⟨t, tot, gs, ss, ?_, ?_, ?_, r⟩⟩
  · rw [upd_ne (ne_of_none e nd)]
    exact k.rest b u n1 n2 e
  · rw [upd_ne n.1.symm]
    exact e1
  · rw [upd_ne n.2.1.symm]
    exact e2
  · rw [upd_ne n.2.2.symm]
    exact e3
end
end Fm
namespace Fm
open PySem PySem.Spec PyProof.Rows L2
section
variable {P : Program} {w : World} {K : PySem.W.Frag} {mg : Str → Option Value} {base : Heap}
def longF (ps : List (List Int)) (row : List (List Int)) : List (List (List Int)) := (ps.filter fun p => !decide (p ∈ row)).map fun p => row ++ [p]
def rowsF (ps : List (List Int)) : Nat → List (List (List Int))
  | 0 => [[]]
  | m + 1 => (rowsF ps m).flatMap (longF ps)
theorem mem_rowsF {ps : List (List Int)} : ∀ {m : Nat} {row : List (List Int)}, row ∈ rowsF ps m ↔ row.length = m ∧ (∀ p ∈ row, p ∈ ps) ∧ row.Nodup
  | 0, row => by
    show row ∈ [[]] ↔ _
    rw [List.mem_singleton]
    constructor
    · rintro rfl
      refine ⟨rfl, fun p hp => ?_, List.nodup_nil⟩
      cases hp
    · rintro ⟨h, _⟩
      exact List.eq_nil_of_length_eq_zero h
  | m + 1, row => by
    show row ∈ (rowsF ps m).flatMap (longF ps) ↔ _
    rw [List.mem_flatMap]
    constructor
    · rintro ⟨r, hr, h⟩
      obtain ⟨h1, h2, h3⟩ := mem_rowsF.mp hr
      unfold longF at h
      obtain ⟨p, hp, rfl⟩ := List.mem_map.mp h
      obtain ⟨p1, p2⟩ := List.mem_filter.mp hp
      have p2 : p ∉ r := by simpa using p2
      refine ⟨by rw [List.length_append, h1]; rfl, fun q hq => ?_, ?_⟩
      · rcases List.mem_append.mp hq with z | z
        · exact h2 q z
        · rw [List.mem_singleton.mp z]
          exact p1
      · refine List.nodup_append.mpr ⟨h3, by simp, fun y hy z hz e => ?_⟩
        rw [e, List.mem_singleton.mp hz] at hy
        exact p2 hy
    · rintro ⟨h1, h2, h3⟩
      obtain ⟨r, p, rfl⟩ : ∃ r p, row = r ++ [p] := by
        refine ⟨row.dropLast, row.getLast (fun z => by rw [z] at h1; cases h1), (List.dropLast_concat_getLast _).symm⟩
      obtain ⟨n1, _, n3⟩ := List.nodup_append.mp h3
      refine ⟨r, mem_rowsF.mpr ⟨by rw [List.length_append] at h1; exact Nat.succ.inj h1, fun q hq => h2 q (List.mem_append_left _ hq), n1⟩, ?_⟩
      unfold longF
      refine List.mem_map.mpr ⟨p, List.mem_filter.mpr ⟨h2 p (List.mem_append_right _ (List.mem_singleton.mpr rfl)), ?_⟩, rfl⟩
      rw [decide_eq_false fun z => n3 p z p (List.mem_singleton.mpr rfl) rfl]
      rfl
def ringsL (ps : List (List Int)) (m : Nat) : List RingT := (rowsF ps m).filterMap fun row => (colsR row).map fun cs => (row, cs)
theorem mem_ringsL {ps : List (List Int)} {m : Nat} {x : RingT} : x ∈ ringsL ps m ↔ (x.1.length = m ∧ (∀ p ∈ x.1, p ∈ ps) ∧ x.1.Nodup) ∧ colsR x.1 = some x.2 := by
  unfold ringsL
  rw [List.mem_filterMap]
  constructor
  · rintro ⟨row, h, e⟩
    obtain ⟨cs, hc, rfl⟩ := Option.map_eq_some_iff.mp e
    exact ⟨mem_rowsF.mp h, hc⟩
  · rintro ⟨h, e⟩
    exact ⟨x.1, mem_rowsF.mpr h, by rw [e]; rfl⟩
theorem take_flat {α β : Type} {f : α → List β} {l : List α} {j : Nat} {x : α} (h : l[j]? = some x) : (l.take (j + 1)).flatMap f = (l.take j).flatMap f ++ f x := by
  rw [List.take_add_one, h, List.flatMap_append]
  show _ ++ (f x ++ []) = _
  rw [List.append_nil]
end
end Fm
namespace Fm
open PySem PySem.Spec PyProof.Rows L2
section
variable {P : Program} {w : World} {K : PySem.W.Frag} {mg : Str → Option Value} {base : Heap}
theorem ringsF_L {parts : List (List Int)} {r : Nat} (r3 : 3 ≤ r) (r5 : r ≤ 5) {x : RingT} (h : x ∈ ringsF parts r) : x ∈ ringsL parts r := by
  unfold ringsF at h
  obtain ⟨ix, hix, h2⟩ := List.mem_filterMap.mp h
  obtain ⟨il, _, ib⟩ := (cmb_mem r 0 parts.length ix).mp hix
  have pl : (pickL parts ix).length = r := by unfold pickL; rw [List.length_map, il]
  obtain ⟨h3, h4, h5⟩ := ringIn_some (by omega) (by omega) h2
  have inp : ∀ p ∈ x.1, p ∈ parts := fun p hp => by
    have := h4 p hp
    unfold pickL at this
    obtain ⟨k, hk, rfl⟩ := List.mem_map.mp this
    have := ib k hk
    rw [getD_lt (by omega)]
    exact List.getElem_mem _
  refine mem_ringsL.mpr ⟨⟨by omega, inp, ?_⟩, h5⟩
  obtain ⟨c, x0⟩ := rs_ring (left := parts.flatten) (fun p hp y hy => List.mem_flatten.mpr ⟨p, hp, hy⟩) (by omega) inp (colsR_some h5)
  refine List.pairwise_iff_getElem.mpr fun i j hi hj hij e => ?_
  have := x0.rne (i := i) (j := j) hi hj (by omega)
  rw [getD_lt hi, getD_lt hj] at this
  exact this e
end
end Fm
namespace Fm
open PySem PySem.Spec PyProof.Rows L2
section
variable {P : Program} {w : World} {K : PySem.W.Frag} {mg : Str → Option Value} {base : Heap}
def Dt.tl : Dt → Nat
  | .tup ds => ds.length
  | _ => 0
end
end Fm
namespace Fm
open PySem PySem.Spec PyProof.Rows L2
section
variable {P : Program} {w : World} {K : PySem.W.Frag} {mg : Str → Option Value} {base : Heap}
structure RingK (parts rs : List (List Int)) (cs : List Int) : Prop where
  l3 : 3 ≤ rs.length
  len : rs.length = cs.length
  mem : ∀ p ∈ rs, p ∈ parts
  nd1 : rs.Nodup
  nd2 : cs.Nodup
  at' : ∀ k, k < cs.length → atR rs cs k = true
def Dt.fewL : Dt → Prop
  | .tup [.tup rds, .tup cds] => rds.length < 64 ∧ cds.length < 64 ∧ ∀ d ∈ rds, d.tl < 64
  | _ => True
theorem Dt.fewL.few {d : Dt} (h : d.fewL) : d.few24 := by
  cases d with
  | tup ds =>
    rcases ds with _ | ⟨x, _ | ⟨y, _ | ⟨z, r⟩⟩⟩
    · exact True.intro
    · cases x <;> exact True.intro
    · cases x <;> cases y <;> first | exact True.intro | exact ⟨h.1, h.2.1⟩
    · cases x <;> cases y <;> exact True.intro
  | _ => exact True.intro
theorem mem_partL {n : Nat} {ps : List (List Int)} {p : List Int} : p ∈ partL n ps ↔ p ∈ ps ∧ p.length < n := by
  unfold partL
  rw [List.mem_filter, decide_eq_true_eq]
end
end Fm
namespace Fm
open PySem PySem.Spec PyProof.Rows L2
section
variable {P : Program} {w : World} {K : PySem.W.Frag} {mg : Str → Option Value} {base : Heap}
def prvI (m k : Nat) : Nat := if k = 0 then m - 1 else k - 1
theorem prv_lt {m k : Nat} (h : k < m) : prvI m k < m := by
  unfold prvI
  split <;> omega
theorem prv_ne {m k : Nat} (m3 : 3 ≤ m) (hk : k < m) : prvI m k ≠ k := by
  unfold prvI
  split <;> omega
theorem atI_prv {xs : List V} {m k : Nat} (h : xs.length = m) (hk : k < m) : atI xs ((k : Int) - 1) = xs[prvI m k]? := by
  unfold atI ixN prvI
  rw [h]
  by_cases z : k = 0
  · subst z
    rw [if_pos rfl, if_neg (by omega), if_pos (by omega)]
    show xs[_]? = _
    congr 1
    omega
  · rw [if_neg z, if_pos (by omega), if_pos (by omega)]
    show xs[_]? = _
    congr 1
    omega
theorem nodup_ix {α : Type} {l : List α} (nd : l.Nodup) {i j : Nat} {x : α} (h1 : l[i]? = some x) (h2 : l[j]? = some x) : i = j := by
  obtain ⟨hi, e1⟩ := List.getElem?_eq_some_iff.mp h1
  obtain ⟨hj, e2⟩ := List.getElem?_eq_some_iff.mp h2
  have key := List.pairwise_iff_getElem.mp nd
  rcases Nat.lt_trichotomy i j with h | h | h
  · exact (key i j hi hj h (e1.trans e2.symm)).elim
  · exact h
  · exact (key j i hj hi h (e2.trans e1.symm)).elim
abbrev Up (p : List Int) : Prop := p.Pairwise (· < ·)
structure RingP (n : Nat) (rs : List (List Int)) (cs : List Int) : Prop where
  asc : ∀ p ∈ rs, Asc n (-1) p ∧ p.length < n
  ring : RingK rs rs cs
theorem up_of_le : ∀ {l : List Int}, l.Pairwise (· ≤ ·) → l.Nodup → Up l
  | [], _, _ => .nil
  | x :: l, h, nd => by
    obtain ⟨h1, h2⟩ := List.pairwise_cons.mp h
    obtain ⟨n1, n2⟩ := List.nodup_cons.mp nd
    exact List.pairwise_cons.mpr ⟨fun y hy => by
      have := h1 y hy
      have : x ≠ y := fun e => n1 (e ▸ hy)
      omega, up_of_le h2 n2⟩
theorem plant_ring {n : Nat} {rs : List (List Int)} {cs : List Int} (m3 : 3 ≤ cs.length) (ml : cs.length ≤ n) (nd : cs.Nodup) (cb : ∀ c ∈ cs, 0 ≤ c ∧ c < n) (rl : rs.length = cs.length)
    (hp : ∀ k, k < cs.length → ∃ M : List Int, (rs.getD k []).Perm (cs.getD (prvI cs.length k) 0 :: cs.getD k 0 :: M) ∧ Up (rs.getD k []) ∧ ∀ c ∈ M, 0 ≤ c ∧ c < n ∧ c ∉ cs) : RingP n rs cs := by
  have cm : ∀ j, j < cs.length → cs.getD j 0 ∈ cs := fun j hj => by
    rw [List.getD_eq_getElem?_getD, List.getElem?_eq_getElem hj]
    exact List.getElem_mem hj
  have inj : ∀ i j, i < cs.length → j < cs.length → cs.getD i 0 = cs.getD j 0 → i = j := fun i j hi hj e => by
    rw [List.getD_eq_getElem?_getD, List.getD_eq_getElem?_getD, List.getElem?_eq_getElem hi, List.getElem?_eq_getElem hj] at e
    exact nodup_ix nd (x := cs[i]) (List.getElem?_eq_getElem hi) (by rw [List.getElem?_eq_getElem hj]; exact congrArg some (show cs[j] = cs[i] from e.symm))
  have has : ∀ k j, k < cs.length → j < cs.length → (cs.getD j 0 ∈ rs.getD k [] ↔ j = k ∨ j = prvI cs.length k) := fun k j hk hj => by
    obtain ⟨M, pm, up, hM⟩ := hp k hk
    rw [pm.mem_iff, List.mem_cons, List.mem_cons]
    constructor
    · rintro (h | h | h)
      · exact .inr (inj _ _ hj (prv_lt hk) h)
      · exact .inl (inj _ _ hj hk h)
      · exact absurd (cm j hj) (hM _ h).2.2
    · rintro (h | h)
      · exact .inr (.inl (by rw [h]))
      · exact .inl (by rw [h])
  have bd : ∀ k, k < cs.length → ∀ c ∈ rs.getD k [], 0 ≤ c ∧ c < n := fun k hk c hc => by
    obtain ⟨M, pm, up, hM⟩ := hp k hk
    rcases List.mem_cons.mp (pm.mem_iff.mp hc) with h | h
    · rw [h]
      exact cb _ (cm _ (prv_lt hk))
    · rcases List.mem_cons.mp h with h | h
      · rw [h]
        exact cb _ (cm _ hk)
      · exact ⟨(hM c h).1, (hM c h).2.1⟩
  have has' : ∀ k j, k < cs.length → j < cs.length → (cs.getD k 0 ∈ rs.getD j [] ↔ j = k ∨ j = (k + 1) % cs.length) := fun k j hk hj => by
    rw [has j k hj hk]
    have e : (k + 1) % cs.length = if k + 1 = cs.length then 0 else k + 1 := by
      split
      · rename_i z
        rw [z, Nat.mod_self]
      · exact Nat.mod_eq_of_lt (by omega)
    rw [e]
    unfold prvI
    split <;> split <;> omega
  have k1 : ∀ k, k < cs.length → (k + 1) % cs.length < cs.length := fun k _ => Nat.mod_lt _ (by omega)
  refine ⟨fun p hpm => ?_, ⟨by omega, rl, fun p hp => hp, ?_, nd, fun k hk => ?_⟩⟩
  · obtain ⟨k, hk, rfl⟩ := List.getElem_of_mem hpm
    have hk' : k < cs.length := by omega
    obtain ⟨M, pm, up, hM⟩ := hp k hk'
    have bk := bd k hk'
    rw [getD_lt hk] at up bk
    refine ⟨asc_of_lt up fun x hx => by have := bk x hx; omega, ?_⟩
    obtain ⟨j, hj, n1, n2⟩ : ∃ j, j < cs.length ∧ j ≠ k ∧ j ≠ prvI cs.length k := by
      unfold prvI
      by_cases h0 : k = 0
      · exact ⟨1, by omega, by omega, by rw [if_pos h0]; omega⟩
      · by_cases h1 : k = 1
        · exact ⟨2, by omega, by omega, by rw [if_neg h0]; omega⟩
        · by_cases h2 : k = cs.length - 1
          · exact ⟨0, by omega, by omega, by rw [if_neg h0]; omega⟩
          · exact ⟨k + 1, by omega, by omega, by rw [if_neg h0]; omega⟩
    have nj : cs.getD j 0 ∉ rs[k] := fun z => by
      have z : cs.getD j 0 ∈ rs.getD k [] := by rw [getD_lt hk]; exact z
      rcases (has k j hk' hj).mp z with h | h
      · exact n1 h
      · exact n2 h
    have := nodup_len (cs.getD j 0 :: rs[k]) ((List.range n).map fun i : Nat => (i : Int)) (List.nodup_cons.mpr ⟨nj, up.imp fun {a b} h e => by omega⟩) fun x hx => by
      have : 0 ≤ x ∧ x < n := by
        rcases List.mem_cons.mp hx with h | h
        · rw [h]
          exact cb _ (cm j hj)
        · exact bk x h
      exact List.mem_map.mpr ⟨x.toNat, List.mem_range.mpr (by omega), by omega⟩
    rw [List.length_cons, List.length_map, List.length_range] at this
    omega
  · refine List.pairwise_iff_getElem.mpr fun i j hi hj hij e => ?_
    have hi' : i < cs.length := by omega
    have hj' : j < cs.length := by omega
    have e : rs.getD i [] = rs.getD j [] := by rw [getD_lt hi, getD_lt hj, e]
    have h1 := (has j i hj' hi').mp (by rw [← e]; exact (has i i hi' hi').mpr (.inl rfl))
    have h2 := (has i j hi' hj').mp (by rw [e]; exact (has j j hj' hj').mpr (.inl rfl))
    unfold prvI at h1 h2
    split at h1 <;> split at h2 <;> omega
  · have hk' := k1 k hk
    unfold atR
    rw [rl, decide_eq_true ((has' k k hk hk).mpr (.inl rfl)), decide_eq_true ((has' k _ hk hk').mpr (.inr rfl))]
    have sn : (k + 1) % cs.length ≠ k := succ_ne (by omega) hk
    refine decide_eq_true (Nat.le_antisymm (cnt_ge (d := []) (is := [k, (k + 1) % cs.length]) fun j hj hf => ?_) (cnt_le (d := []) (is := [k, (k + 1) % cs.length]) (by
      simp only [List.nodup_cons, List.mem_cons, List.not_mem_nil, or_false, not_false_eq_true, List.nodup_nil, and_true]
      exact sn.symm) fun j hj => ?_))
    · have := (has' k j hk (by omega)).mp (of_decide_eq_true hf)
      simpa using this
    · have hj : j = k ∨ j = (k + 1) % cs.length := by simpa using hj
      have hjl : j < cs.length := by rcases hj with z | z <;> omega
      exact ⟨by omega, decide_eq_true ((has' k j hk hjl).mpr hj)⟩
theorem upR_rgI (n : Nat) : (rgI n).Nodup := by
  unfold rgI
  refine List.Pairwise.map (R := (· ≠ ·)) _ (fun a b (hab : a ≠ b) e => hab ?_) List.nodup_range
  have : (a : Int) = (b : Int) := e
  omega
theorem mem_rgI {n : Nat} {c : Int} : c ∈ rgI n ↔ 0 ≤ c ∧ c < n := by
  unfold rgI
  rw [List.mem_map]
  constructor
  · rintro ⟨i, hi, rfl⟩
    have := List.mem_range.mp hi
    omega
  · rintro ⟨h0, h1⟩
    exact ⟨c.toNat, List.mem_range.mpr (by omega), by omega⟩
theorem perm_intsV {ys : List V} {l : List Int} (pm : ys.Perm (l.map V.int)) : ∃ l' : List Int, ys = l'.map V.int ∧ l'.Perm l := by
  have key : ∀ ys : List V, (∀ y ∈ ys, ∃ i, y = V.int i) → ∃ l' : List Int, ys = l'.map V.int := fun ys => by
    induction ys with
    | nil => exact fun _ => ⟨[], rfl⟩
    | cons y ys ih =>
      intro h
      obtain ⟨i, rfl⟩ := h y (List.mem_cons_self ..)
      obtain ⟨l', rfl⟩ := ih fun z hz => h z (List.mem_cons_of_mem _ hz)
      exact ⟨i :: l', rfl⟩
  obtain ⟨l', rfl⟩ := key ys fun y hy => by
    obtain ⟨i, _, e⟩ := List.mem_map.mp (pm.mem_iff.mp hy)
    exact ⟨i, e.symm⟩
  refine ⟨l', rfl, ?_⟩
  have z := pm.map fun v : V => match v with
    | .int i => i
    | _ => 0
  rw [List.map_map, List.map_map] at z
  have e : ∀ l : List Int, l.map ((fun v : V => match v with
    | .int i => i
    | _ => 0) ∘ V.int) = l := fun l => by
    refine (List.map_congr_left fun x _ => ?_).trans (List.map_id l)
    rfl
  rwa [e, e] at z
def spPlant (K : PySem.W.Frag) : Sp := fun vs H Q _ => ∃ (h g s : Addr) (n : Nat), vs = [.ref h, .int n] ∧ PotOk H h g s ∧ 3 ≤ n ∧ n ≤ 5 ∧ ∀ v rs cs H', KeepP h g s H H' → Dh K H' v (rgD rs cs) → RingP n rs cs → Q v H'
theorem rg_len27 (n : Nat) : (rgI n).length = n := by
  unfold rgI
  rw [List.length_map, List.length_range]
set_option maxHeartbeats 800000 in
theorem ok_law_planted (T : Txt K mg) : FnOk P w K mg base CX0 3 T.f_law_planted T.d_law_planted ["pot", "columns"] (spPlant K) := by
  refine T.F_law_planted.ok sc_law_planted (fun vs H Q E h => ?_) (fun cdv A outer s H vs Q E hr h => ?_)
  · obtain ⟨_, _, _, _, rfl, _⟩ := h
    rfl
  · obtain ⟨h, g, sm, n, rfl, hx, n3, n5, q⟩ := h
    have hu := hu_of hr
    refine ⟨_, (pss_cons (ps_set (i := 2) sc_law_planted.nd rfl (.inl rfl) (pe_op op_add pe_int (pe_call (ok_law_draw T) (hr.mono (by decide)) (by rfl) T.g_law_draw T.F_law_draw.kp T.b_law_draw .nil pass0 (pa_cons (pv 0) (pa_cons (pe_op op_sub (pv 1) pe_int) pa_nil)))))
      (pss_cons (ps_set (i := 3) sc_law_planted.nd rfl (.inr rfl) (pe_slice (sl_listK K) (pe_call (ok_law_mixed T) hr (by rfl) T.g_law_mixed T.F_law_mixed.kp T.b_law_mixed .nil pass0 (pa_cons (pv 0) (pa_cons (pe_listRg rfl (by rfl) T.z_list (prg_1 (by rfl) T.z_range (pv 1))) pa_nil))) po_none (po_some (pv 2))))
      (pss_cons (ps_setLc (i := 4) (own := [("c", 8)]) rfl sc_law_planted.nd rfl rfl (sw_true rfl rfl rfl (by decide +kernel)) (pi_range1 (by rfl) T.z_range (pa_cons (pv 1) pa_nil)) (blkOk_by (N := N_law_planted) (sc := defScope s_law_planted) (by decide +kernel)) (fun _ _ _ _ _ => (pg_name (i := 8) sc_law_planted.nd rfl (.inl rfl))) (fun _ _ _ _ _ => (pts_one (pt_cmpR (op_notinLK (K := K) (room65 hr)) (pv 8) (pv 3) (by rfl)))) (fun _ _ _ _ _ => (pv 8)))
      (pss_cons (ps_set (i := 5) sc_law_planted.nd rfl (.inl rfl) (pe_lst pa_nil))
      (pss_cons (ps_for PassesOwn.never rfl (pi_range1 (by rfl) T.z_range (pa_cons (pv 2) pa_nil)) (pg_name (i := 6) sc_law_planted.nd rfl (.inl rfl)) (pss_cons (ps_setLc (i := 7) (own := [("c", 8)]) rfl sc_law_planted.nd rfl rfl (sw_true rfl rfl rfl (by decide +kernel)) (pi_listK K (pv 4)) (blkOk_by (N := N_law_planted) (sc := defScope s_law_planted) (by decide +kernel)) (fun _ _ _ _ _ => (pg_name (i := 8) sc_law_planted.nd rfl (.inl rfl))) (fun _ _ _ _ _ => (pts_one (pt_cmpR op_eq (pe_call (ok_law_draw T) (hr.mono (by decide)) (by rfl) T.g_law_draw T.F_law_draw.kp T.b_law_draw .nil pass0 (pa_cons (pv 0) (pa_cons pe_int pa_nil))) pe_int (nomark _)))) (fun _ _ _ _ _ => (pv 8)))
      (pss_one (ps_expr (pe_bm PySem.F.plainAttrs_list PySem.F.slot_list_append PySem.F.type_list_append mt_append (pv 5) (pa_cons (pe_callTy (call_tupleK K) (by rfl) T.z_tuple (by decide +kernel) (pa_cons (pe_callB (call_sortedTI (K := K)) (by rfl) T.z_sorted (by decide +kernel) (pa_cons (pe_op op_cat (pe_lst (pa_cons (pe_ix (ix_listK K) (pv 3) (pe_op op_sub (pv 6) pe_int) (fun _ _ => rfl)) (pa_cons (pe_ix (ix_listK K) (pv 3) (pv 6) (fun _ _ => rfl)) pa_nil))) (pv 7)) pa_nil)) pa_nil)) pa_nil))))))
      (pss_one (ps_ret (pe_tup (pa_cons (pe_callTy (call_tupleK K) (by rfl) T.z_tuple (by decide +kernel) (pa_cons (pv 5) pa_nil)) (pa_cons (pe_callTy (call_tupleK K) (by rfl) T.z_tuple (by decide +kernel) (pa_cons (pv 3) pa_nil)) pa_nil)))))))))), ?_⟩
    refine ⟨_, rfl, _, rfl, _, _, rfl, rfl, h, g, sm, _, rfl, hx, by omega, by omega, fun d H1 d0 d1 k1 => ⟨_, _, rfl, rfl, ?_⟩⟩
    obtain ⟨m, hm⟩ : ∃ m : Nat, 3 + d = (m : Int) := ⟨(3 + d).toNat, by omega⟩
    dsimp only
    rw [hm]
    have m3 : 3 ≤ m := by omega
    have mn : m ≤ n := by omega
    try dsimp only [tNext, tSeq, tAsg, gName, List.set_cons_succ, List.set_cons_zero]
    refine ⟨_, rfl, _, rfl, _, rfl, RgOk.of_le (by omega) (by omega) (by omega) (by omega), fun p np => ?_⟩
    rw [rgV_I]
    have s2 : Same H1 (upd H1 p (.lst ((rgI n).map V.int))) := same_new np
    have hp : (upd H1 p (.lst ((rgI n).map V.int))) p = some (.lst ((rgI n).map V.int)) := upd_same
    generalize upd H1 p (.lst ((rgI n).map V.int)) = H2 at s2 hp ⊢
    have k2 := k1.same s2
    refine ⟨h, g, sm, p, _, rfl, k2.pot, SqL.of hp, by rw [List.length_map, rg_len27]; omega, fun d2 ys H3 nd2 k3 hd2 pm => ?_⟩
    obtain ⟨l0, rfl, pm0⟩ := perm_intsV pm
    have nd3 := k2.pot.ne nd2
    have k03 := k2.trans k3
    refine ⟨_, rfl, _, rfl, d2, _, rfl, SqL.of hd2, fun cp ncp => ?_⟩
    have l0l : l0.length = n := by rw [pm0.length_eq, rg_len27]
    have ec : cutV (l0.map V.int) none (some (m : Int)) = (l0.take m).map V.int := by
      unfold cutV
      rw [HT.sIx_nat, HT.sIx_none, List.drop_zero, Nat.sub_zero, List.length_map, List.map_take]
      rw [show min m l0.length = m by omega]
    rw [ec]
    obtain ⟨cs, hcs⟩ : ∃ cs, cs = l0.take m := ⟨_, rfl⟩
    rw [← hcs]
    have csl : cs.length = m := by rw [hcs, List.length_take]; omega
    have csn : cs.Nodup := by rw [hcs]; exact (pm0.nodup_iff.mpr (upR_rgI n)).sublist (List.take_sublist _ _)
    have csb : ∀ c ∈ cs, 0 ≤ c ∧ c < n := fun c hc => by
      rw [hcs] at hc
      exact mem_rgI.mp (pm0.mem_iff.mp (List.mem_of_mem_take hc))
    have s4 : Same H3 (upd H3 cp (.lst (cs.map V.int))) := same_new ncp
    have hcp : (upd H3 cp (.lst (cs.map V.int))) cp = some (.lst (cs.map V.int)) := upd_same
    have ncp3 := k3.pot.ne ncp
    generalize upd H3 cp (.lst (cs.map V.int)) = H4 at s4 hcp ⊢
    have k4 := k03.same s4
    try dsimp only [tNext, tSeq, tAsg, gName, List.set_cons_succ, List.set_cons_zero]
    refine ⟨_, rfl, (n : Int), rfl, by omega, by omega, fun E nE => lc_range (lo := 0) (n := ((n : Nat) : Int).toNat) (fun j H' => Same H4 H' ∧ H' E = some (.lst ((leftC cs j).map V.int))) ⟨same_new nE, upd_same⟩ ?_ ?_⟩
    · rintro j H5 hj ⟨s5, hE⟩
      rw [Int.zero_add]
      refine ⟨rfl, ?_⟩
      refine ⟨_, rfl, _, rfl, .int (j : Int), cs.map PyData.int, .int _, .lst (SqL.of (s5 _ _ hcp)) (dp_ints27 cs), shaped_int _, shaped_ints27 cs, _, rfl, ?_⟩
      rw [any_mem]
      have es := leftC_succ cs j
      by_cases hc : (j : Int) ∈ cs
      · rw [decide_eq_true hc]
        rw [if_neg (fun z => z hc), List.append_nil] at es
        refine iteF ⟨s5, ?_⟩
        rw [es]
        exact hE
      · rw [decide_eq_false hc]
        rw [if_pos hc] at es
        refine iteT ⟨_, rfl, _, hE, sz_small (by
          rw [List.length_map]
          unfold leftC
          have := List.length_filter_le (fun c => decide (c ∉ cs)) ((List.range j).map fun i : Nat => (i : Int))
          rw [List.length_map, List.length_range] at this
          omega), Same.put nE s5, ?_⟩
        rw [upd_same, es, List.map_append]
        rfl
    · rintro H5 ⟨s5, hE⟩
      rw [show ((n : Nat) : Int).toNat = n by omega] at hE
      obtain ⟨W, hW⟩ : ∃ W, W = leftC cs n := ⟨_, rfl⟩
      rw [← hW] at hE
      have hWm : ∀ c ∈ W, 0 ≤ c ∧ c < n ∧ c ∉ cs := fun c hc => leftC_mem.mp (by rw [← hW]; exact hc)
      have Wn : W.Nodup := by
        rw [hW]
        unfold leftC
        exact (upR_rgI n).filter _
      have Wl : W.length ≤ 5 := by
        rw [hW]
        unfold leftC
        have := List.length_filter_le (fun c => decide (c ∉ cs)) ((List.range n).map fun i : Nat => (i : Int))
        rw [List.length_map, List.length_range] at this
        omega
      have nE4 := k4.pot.ne nE
      have k5 := k4.same s5
      have hcp5 := s5 _ _ hcp
      try dsimp only [tNext, tSeq, tAsg, gName, List.set_cons_succ, List.set_cons_zero]
      refine ⟨Nat.zero_le _, fun rp nrp => ?_⟩
      have s6 : Same H5 (upd H5 rp (.lst [])) := same_new nrp
      have hrp : (upd H5 rp (.lst [])) rp = some (.lst []) := upd_same
      have nrp5 := k5.pot.ne nrp
      have nrc : cp ≠ rp := fun e => by rw [← e, hcp5] at nrp; cases nrp
      have nrE : E ≠ rp := fun e => by rw [← e, hE] at nrp; cases nrp
      have nrp0 : H rp = none := by
        cases z : H rp with
        | none => rfl
        | some o =>
          have := k5.rest rp o nrp5.1 nrp5.2.1 z
          rw [nrp] at this
          cases this
      generalize upd H5 rp (.lst []) = H6 at s6 hrp ⊢
      have k6 := k5.same s6
      try dsimp only [tNext, tSeq, tAsg, gName, List.set_cons_succ, List.set_cons_zero]
      refine ⟨_, rfl, (m : Int), rfl, by omega, by omega, for_range (lo := 0) (n := ((m : Nat) : Int).toNat) (fun j σ H' => ∃ (y6 y7 : Option V) (xs : List V) (rs : List (List Int)), σ = [some (.ref h), some (.int n), some (.int m), some (.ref cp), some (.ref E), some (.ref rp), y6, y7, none] ∧ KeepP h g sm H H' ∧ H' cp = some (.lst (cs.map V.int)) ∧ H' E = some (.lst (W.map V.int)) ∧ H' rp = some (.lst xs) ∧ xs.length = j ∧ rs.length = j ∧ DhAll K H' xs (rs.map ctD) ∧
          ∀ k, k < j → ∃ M : List Int, (rs.getD k []).Perm (cs.getD (prvI cs.length k) 0 :: cs.getD k 0 :: M) ∧ Up (rs.getD k []) ∧ ∀ c ∈ M, 0 ≤ c ∧ c < n ∧ c ∉ cs)
        ⟨none, none, [], [], rfl, k6, s6 _ _ hcp5, s6 _ _ hE, hrp, rfl, rfl, .nil, fun k hk => by omega⟩ ?_ ?_⟩
      · rintro j σ H7 hj ⟨y6, y7, xs, rs, rfl, k7, hcp7, hE7, hrp7, xl, rl, hxs, hrs⟩
        have hjm : j < m := by omega
        rw [Int.zero_add]
        try dsimp only [tNext, tSeq, tAsg, gName, List.set_cons_succ, List.set_cons_zero]
        refine ⟨_, rfl, E, rfl, ⟨_, SqL.of hE7⟩, fun F nF => lc_list (K := K) (xs := W.map V.int) (fun i H' => ∃ M : List Int, KeepP h g sm H7 H' ∧ H' F = some (.lst (M.map V.int)) ∧ M.Sublist (W.take i)) ⟨[], .of k7.pot (same_new nF), upd_same, List.nil_sublist _⟩ (fun i H' _ ⟨_, k, _⟩ => SqL.of (k.rest _ _ nE4.1 nE4.2.1 hE7)) ?_ ?_⟩
        · rintro i x H8 hxi ⟨M, k8, hF, hM⟩
          obtain ⟨c, rfl, hc⟩ := int_at hxi
          have nF7 := k7.pot.ne nF
          have tk : W.take (i + 1) = W.take i ++ [c] := by rw [List.take_add_one, hc]; rfl
          refine ⟨rfl, ?_⟩
          refine ⟨_, rfl, h, g, sm, 3, rfl, k8.pot, by decide, by decide, fun d9 H9 d90 d91 k9 => ?_⟩
          refine ⟨rfl, _, rfl, ?_⟩
          have hF9 := k9.rest _ _ nF7.1 nF7.2.1 hF
          have Ml := hM.length_le
          have Wi := List.length_take_le' i W
          by_cases e : d9 = 0
          · subst e
            refine iteT ⟨_, rfl, _, hF9, sz_small (by rw [List.length_map]; omega), M ++ [c], (k8.trans k9).put nF nF7, ?_, ?_⟩
            · rw [upd_same, List.map_append]
              rfl
            · rw [tk]
              exact hM.append (List.Sublist.refl _)
          · rw [decide_eq_false (fun z => e (V.int.inj z))]
            refine iteF ⟨M, k8.trans k9, hF9, ?_⟩
            rw [tk]
            exact hM.trans (List.sublist_append_left _ _)
        · rintro H8 ⟨M, k8, hF, hM⟩
          have nF7 := k7.pot.ne nF
          have hM := hM.trans (List.take_sublist _ _)
          have Ml := hM.length_le
          have hcp8 := k8.rest _ _ ncp3.1 ncp3.2.1 hcp7
          have hE8 := k8.rest _ _ nE4.1 nE4.2.1 hE7
          have hrp8 := k8.rest _ _ nrp5.1 nrp5.2.1 hrp7
          have hpj := prv_lt hjm
          have xa : atI (cs.map V.int) ((j : Int) - 1) = some (.int (cs.getD (prvI cs.length j) 0)) := by
            rw [csl, atI_prv (by rw [List.length_map, csl]) hjm]
            exact ints_at (by omega)
          have xb : atI (cs.map V.int) (j : Int) = some (.int (cs.getD j 0)) := atI_nat (ints_at (by omega))
          try dsimp only [tNext, tSeq, tAsg, gName, List.set_cons_succ, List.set_cons_zero]
          refine ⟨_, rfl, .inl ⟨rfl, _, SqL.of hrp8⟩, _, rfl, _, rfl, _, _, rfl, rfl, cp, _, _, _, rfl, rfl, SqL.of hcp8, xa, _, rfl, _, rfl, cp, _, _, _, rfl, rfl, SqL.of hcp8, xb, by show 2 ≤ sizeLine; decide, fun t1 nt1 => ?_⟩
          generalize hA : cs.getD (prvI cs.length j) 0 = A0 at hpj ⊢
          generalize hB : cs.getD j 0 = B0 at hpj ⊢
          have hF9 : (upd H8 t1 (.lst [.int A0, .int B0])) F = some (.lst (M.map V.int)) := (same_new nt1) _ _ hF
          have ht1 : (upd H8 t1 (.lst [.int A0, .int B0])) t1 = some (.lst [.int A0, .int B0]) := upd_same
          have s9 : Same H8 (upd H8 t1 (.lst [.int A0, .int B0])) := same_new nt1
          generalize upd H8 t1 (.lst [.int A0, .int B0]) = H9 at s9 ht1 hF9 ⊢
          refine ⟨_, rfl, t1, F, _, _, rfl, rfl, ht1, hF9, Nat.le_of_lt (sz_small (by rw [List.length_map]; show 2 + M.length ≤ 100000; omega)), fun t2 nt2 => ?_⟩
          have s10 : Same H9 (upd H9 t2 (.lst ([.int A0, .int B0] ++ M.map V.int))) := same_new nt2
          have ht2 : (upd H9 t2 (.lst ([.int A0, .int B0] ++ M.map V.int))) t2 = some (.lst ((A0 :: B0 :: M).map V.int)) := upd_same
          generalize upd H9 t2 (.lst ([.int A0, .int B0] ++ M.map V.int)) = H10 at s10 ht2 ⊢
          refine ⟨t2, A0 :: B0 :: M, rfl, .inl (SqL.of ht2), by show M.length + 1 + 1 < 64; omega, fun ns t3 pm3 pw3 nt3 => ?_⟩
          have s11 : Same H10 (upd H10 t3 (.lst (ns.map V.int))) := same_new nt3
          have ht3 : (upd H10 t3 (.lst (ns.map V.int))) t3 = some (.lst (ns.map V.int)) := upd_same
          generalize upd H10 t3 (.lst (ns.map V.int)) = H11 at s11 ht3 ⊢
          refine ⟨t3, _, rfl, .inl ⟨SqL.of ht3, fun t4 nt4 => ?_⟩⟩
          have s12 : Same H11 (upd H11 t4 (.tup (ns.map V.int))) := same_new nt4
          have ht4 : SqT K (upd H11 t4 (.tup (ns.map V.int))) t4 (ns.map V.int) := SqT.of upd_same
          generalize upd H11 t4 (.tup (ns.map V.int)) = H12 at s12 ht4 ⊢
          have s812 := (s9.trans s10).trans (s11.trans s12)
          have hrp12 := s812 _ _ hrp8
          have hMW : ∀ c ∈ M, 0 ≤ c ∧ c < n ∧ c ∉ cs := fun c hc => hWm c (hM.subset hc)
          have cmem : ∀ i, i < cs.length → cs.getD i 0 ∈ cs := fun i hi => by
            rw [List.getD_eq_getElem?_getD, List.getElem?_eq_getElem hi]
            exact List.getElem_mem hi
          have hAc : A0 ∈ cs := hA ▸ cmem _ (by rw [csl]; exact prv_lt hjm)
          have hBc : B0 ∈ cs := hB ▸ cmem _ (by omega)
          have hAB : A0 ≠ B0 := fun e => by
            rw [← hA, ← hB] at e
            have h1 : prvI cs.length j < cs.length := by rw [csl]; exact prv_lt hjm
            have h2 : j < cs.length := by omega
            have e3 : prvI cs.length j = j := by
              rw [List.getD_eq_getElem?_getD, List.getD_eq_getElem?_getD, List.getElem?_eq_getElem h1, List.getElem?_eq_getElem h2] at e
              exact nodup_ix csn (x := cs[prvI cs.length j]) (List.getElem?_eq_getElem h1) (by rw [List.getElem?_eq_getElem h2]; exact congrArg some (show cs[j] = cs[prvI cs.length j] from e.symm))
            exact prv_ne (by omega) h2 e3
          have nsn : ns.Nodup := pm3.nodup_iff.mpr (List.nodup_cons.mpr ⟨fun z => by
            rcases List.mem_cons.mp z with z | z
            · exact hAB z
            · exact (hMW _ z).2.2 hAc, List.nodup_cons.mpr ⟨fun z => (hMW _ z).2.2 hBc, Wn.sublist hM⟩⟩)
          refine ⟨rp, _, _, rfl, rfl, hrp12, sz_small (by omega), ?_⟩
          have ep := Ext.put (ys := xs ++ [.ref t4]) hrp12
          have k12 := k8.same s812
          refine ⟨_, _, xs ++ [.ref t4], rs ++ [ns], rfl, (k7.trans k12).put nrp0 ?_, by rw [upd_ne nrc]; exact s812 _ _ hcp8, by rw [upd_ne nrE]; exact s812 _ _ hE8, upd_same, by rw [List.length_append, xl]; rfl, by rw [List.length_append, rl]; rfl, ?_, fun k hk => ?_⟩
          · exact nrp5
          · rw [List.map_append]
            exact ((hxs.ext (KeepP.ext k7.pot k12)).ext ep).snoc ((dh_ct ht4).ext ep)
          · rcases Nat.lt_or_ge k j with u | u
            · obtain ⟨M', h1, h2, h3⟩ := hrs k u
              have e : (rs ++ [ns]).getD k [] = rs.getD k [] := by
                rw [List.getD_eq_getElem?_getD, List.getD_eq_getElem?_getD, List.getElem?_append_left (by omega)]
              rw [e]
              exact ⟨M', h1, h2, h3⟩
            · obtain rfl : k = j := by omega
              have e : (rs ++ [ns]).getD k [] = ns := by
                rw [List.getD_eq_getElem?_getD, List.getElem?_append_right (by omega), show k - rs.length = 0 by omega]
                rfl
              rw [e, hA, hB]
              exact ⟨M, pm3, up_of_le pw3 nsn, hMW⟩
      · rintro σ H7 ⟨y6, y7, xs, rs, rfl, k7, hcp7, hE7, hrp7, xl, rl, hxs, hrs⟩
        rw [show ((m : Nat) : Int).toNat = m by omega] at xl rl hrs
        try dsimp only [tNext, tSeq, tAsg, gName, List.set_cons_succ, List.set_cons_zero]
        refine ⟨_, rfl, rp, _, rfl, .inl ⟨SqL.of hrp7, fun ta nta => ?_⟩⟩
        have s8 : Same H7 (upd H7 ta (.tup xs)) := same_new nta
        have hta : SqT K (upd H7 ta (.tup xs)) ta xs := SqT.of upd_same
        generalize upd H7 ta (.tup xs) = H8 at s8 hta ⊢
        refine ⟨_, rfl, cp, _, rfl, .inl ⟨SqL.of (s8 _ _ hcp7), fun tb ntb => ?_⟩⟩
        have s9 : Same H8 (upd H8 tb (.tup (cs.map V.int))) := same_new ntb
        have htb : SqT K (upd H8 tb (.tup (cs.map V.int))) tb (cs.map V.int) := SqT.of upd_same
        generalize upd H8 tb (.tup (cs.map V.int)) = H9 at s9 htb ⊢
        refine ⟨by show 2 ≤ sizeLine; decide, fun tc ntc => ?_⟩
        have s10 : Same H9 (upd H9 tc (.tup [.ref ta, .ref tb])) := same_new ntc
        have R := plant_ring (n := n) (rs := rs) (cs := cs) (by omega) (by omega) csn csb (by omega) (by rw [csl] at hrs ⊢; exact hrs)
        exact q _ rs cs _ (k7.same (s8.trans (s9.trans s10))) (.tup (SqT.of upd_same) (.cons (.tup ((Ext.of (s9.trans s10)).sqT hta) (hxs.ext (.of (s8.trans (s9.trans s10))))) (.cons (dh_ct ((Ext.of s10).sqT htb)) .nil))) R
end
end Fm
namespace Fm
open PySem PySem.Spec PyProof.Rows L2
section
variable {P : Program} {w : World} {K : PySem.W.Frag} {mg : Str → Option Value} {base : Heap}
theorem LsS.nd {n : Nat} {ps : List (List Int)} (x : LsS n ps) : ps.Nodup := x.pw.imp fun {a b} h e => by
  rw [e, lexLt_dec, decide_eq_false (List.lt_irrefl _)] at h
  cases h
def spBigL (K : PySem.W.Frag) : Sp := fun vs H Q _ => ∃ (h g s : Addr) (n : Nat), vs = [.ref h, .int n] ∧ PotOk H h g s ∧ 1 ≤ n ∧ n ≤ 5 ∧ ∀ v ps H', KeepP h g s H H' → LsS n ps → Dh K H' v (patsD ps) → Q v H'
theorem ok_law_big_list (T : Txt K mg) : FnOk P w K mg base CX0 4 T.f_law_big_list T.d_law_big_list ["pot", "columns"] (spBigL K) := by
  refine T.F_law_big_list.ok sc_law_big_list (fun vs H Q E h => ?_) (fun cdv A outer s H vs Q E hr h => ?_)
  · obtain ⟨_, _, _, _, rfl, _⟩ := h
    rfl
  · obtain ⟨h, g, sm, n, rfl, hx, n1, n5, q⟩ := h
    refine ⟨_, (pss_cons (ps_set (i := 2) sc_law_big_list.nd rfl (.inl rfl) (pe_callTy (call_listK (K := K)) (by rfl) T.z_list (by decide +kernel) (pa_cons (pe_ix (ix_tupK K) (pe_call (ok_law_ringless T) hr (by rfl) T.g_law_ringless T.F_law_ringless.kp T.b_law_ringless .nil pass0 (pa_cons (pv 0) (pa_cons (pv 1) (pa_cons pe_int pa_nil)))) pe_int (fun _ _ => rfl)) pa_nil)))
      (pss_cons (ps_for PassesOwn.never rfl (pi_listK K (pe_slice (sl_listK K) (pe_call (ok_law_mixed T) (hr.mono (by decide)) (by rfl) T.g_law_mixed T.F_law_mixed.kp T.b_law_mixed .nil pass0 (pa_cons (pv 0) (pa_cons (pe_call (ok_law_patterns T) (hr.mono (by decide)) (by rfl) T.g_law_patterns T.F_law_patterns.kp T.b_law_patterns .nil pass0 (pa_cons (pv 1) pa_nil)) pa_nil))) po_none (po_some pe_int))) (pg_name (i := 3) sc_law_big_list.nd rfl (.inl rfl)) (pss_one (ps_if (PW.pt (pw_and (pt_cmpR (op_notinLK (K := K) (room65 hr)) (pv 3) (pv 2) (by rfl)) (pw_and1 (pt_cmpR op_lt (pe_callB (call_lenK K) (by rfl) T.z_len PySem.boot_len (pa_cons (pv 2) pa_nil)) pe_int (nomark _))))) (pss_one (ps_expr (pe_bm PySem.F.plainAttrs_list PySem.F.slot_list_append PySem.F.type_list_append mt_append (pv 2) (pa_cons (pv 3) pa_nil)))) pss_nil)))
      (pss_one (ps_ret (pe_callTy (call_tupleK K) (by rfl) T.z_tuple (by decide +kernel) (pa_cons (pe_callB (call_sortTsK (K := K) hr.units) (by rfl) T.z_sorted (by decide +kernel) (pa_cons (pv 2) pa_nil)) pa_nil)))))), ?_⟩
    have e0 : L2.start N_law_big_list [V.ref h, V.int n] = [some (.ref h), some (.int n), none, none] := rfl
    rw [e0]
    refine ⟨_, rfl, _, rfl, h, g, sm, n, rfl, hx, n1, n5, fun t v1 v2 ps r H1 k1 ht hv1 ls hv2 hr2 => ?_⟩
    obtain ⟨a, xs, rfl, ha, hxs⟩ := hv1.tup_inv
    refine ⟨t, _, 0, _, rfl, rfl, ht, atI_nat (j := 0) rfl, a, _, rfl, .inr ha, fun l nl => ?_⟩
    have s2 : Same H1 (upd H1 l (.lst xs)) := same_new nl
    have hl : (upd H1 l (.lst xs)) l = some (.lst xs) := upd_same
    obtain ⟨l1, l2, l3⟩ := k1.pot.ne nl
    have nlH := KeepP.free hx k1 nl
    have k2 := k1.same s2
    have hxs2 := hxs.ext (.of s2)
    generalize upd H1 l (.lst xs) = H2 at s2 hl k2 hxs2 ⊢
    try dsimp only [tNext, tSeq, tAsg, gName, List.set_cons_succ, List.set_cons_zero]
    refine ⟨_, rfl, _, rfl, n, rfl, n5, fun p zs qs H3 np s3 hp hzs pa => ?_⟩
    have k3 := k2.same s3
    have zl := hzs.length
    rw [List.length_map] at zl
    have p2 := (pow5 n5).2
    refine ⟨h, g, sm, p, zs, rfl, k3.pot, SqL.of hp, by have := pa.len; omega, fun d ys H4 nd k4 hd pm => ?_⟩
    have k34 := k3.trans k4
    have cta : ∀ y ∈ ys, ∃ q, Dh K H4 y (ctD q) ∧ Asc n (-1) q := fun y hy => by
      obtain ⟨q, h1, h2⟩ := cta_of hzs (fun q hq => (pa.all q).mp hq) y (pm.mem_iff.mp hy)
      exact ⟨q, h1.ext (KeepP.ext k3.pot k4), h2⟩
    refine ⟨_, rfl, d, _, rfl, SqL.of hd, fun c nc => ?_⟩
    have ec : cutV ys none (some (2 : Int)) = ys.take 2 := by
      unfold cutV
      rw [HT.sIx_none, show (2 : Int) = ((2 : Nat) : Int) from rfl, HT.sIx_nat, List.drop_zero, Nat.sub_zero]
      rcases Nat.le_total 2 ys.length with z | z
      · rw [Nat.min_eq_left z]
      · rw [Nat.min_eq_right z, List.take_of_length_le (Nat.le_refl _), List.take_of_length_le z]
    rw [ec]
    have s5 : Same H4 (upd H4 c (.lst (ys.take 2))) := same_new nc
    have hc : (upd H4 c (.lst (ys.take 2))) c = some (.lst (ys.take 2)) := upd_same
    obtain ⟨c1, c2, c3⟩ := k34.pot.ne nc
    have hl4 := k4.rest _ _ l1 l2 (s3 _ _ hl)
    have hcl : c ≠ l := fun e => by rw [← e, nc] at hl4; cases hl4
    have hl5 := s5 _ _ hl4
    have k5 := k34.same s5
    have hx5 := (hxs2.ext ((Ext.of s3).trans (KeepP.ext k3.pot k4))).ext (.of s5)
    have cta5 : ∀ y ∈ ys, ∃ q, Dh K (upd H4 c (.lst (ys.take 2))) y (ctD q) ∧ Asc n (-1) q := fun y hy => by
      obtain ⟨q, h1, h2⟩ := cta y hy
      exact ⟨q, h1.ext (.of s5), h2⟩
    generalize upd H4 c (.lst (ys.take 2)) = H5 at s5 hc hl5 k5 hx5 cta5 ⊢
    refine ⟨c, rfl, ⟨_, SqL.of hc⟩, for_list (K := K) (xs := ys.take 2) (fun i σ H' => ∃ (y3 : Option V) (us : List V) (rs : List (List Int)), σ = [some (.ref h), some (.int n), some (.ref l), y3] ∧ KeepP h g sm H H' ∧ H' c = some (.lst (ys.take 2)) ∧ (∀ y ∈ ys, ∃ q, Dh K H' y (ctD q) ∧ Asc n (-1) q) ∧ H' l = some (.lst us) ∧ DhAll K H' us (rs.map ctD) ∧ rs.Nodup ∧ (∀ p ∈ rs, Asc n (-1) p) ∧ rgI n ∈ rs ∧ rs.length ≤ 12)
      ⟨none, xs, ps, rfl, k5, hc, cta5, hl5, hx5, ls.nd, ls.asc, ls.whole, ls.len⟩ (fun i σ H' _ ⟨_, _, _, _, _, z, _⟩ => SqL.of z) ?_ ?_⟩
    · rintro i x σ H6 hxi ⟨y3, us, rs, rfl, k6, hc6, cta6, hl6, hus, nd, asc, wh, len⟩
      obtain ⟨q0, hq0, aq0⟩ := cta6 x (List.mem_of_mem_take (List.mem_of_getElem? hxi))
      try dsimp only [tNext, tSeq, tAsg, gName, List.set_cons_succ, List.set_cons_zero]
      refine ⟨_, rfl, _, rfl, ctP q0, rs.map ctP, dp_ct hq0, .lst (SqL.of hl6) (dp_patsP hus), shaped_ct _, shaped_cts _, ?_⟩
      rw [any_pats]
      refine ⟨_, rfl, ?_⟩
      by_cases e : q0 ∈ rs
      · rw [decide_eq_true e]
        exact iteF ⟨_, us, rs, rfl, k6, hc6, cta6, hl6, hus, nd, asc, wh, len⟩
      rw [decide_eq_false e]
      refine iteT ?_
      have ul : us.length = rs.length := by rw [hus.length, List.length_map]
      refine ⟨_, rfl, l, _, rfl, .inl (SqL.of hl6), _, _, rfl, rfl, _, rfl, ?_⟩
      by_cases l12 : rs.length < 12
      · rw [decide_eq_true (show (us.length : Int) < 12 by omega)]
        refine iteT ?_
        refine ⟨_, rfl, .inl ⟨rfl, _, SqL.of hl6⟩, _, rfl, l, us, _, rfl, rfl, hl6, sz_small (by omega), ?_⟩
        have ep := Ext.put (ys := us ++ [x]) hl6
        refine ⟨_, us ++ [x], rs ++ [q0], rfl, k6.put nlH ⟨l1, l2, l3⟩, by rw [upd_ne hcl]; exact hc6, fun y hy => ?_, upd_same, ?_, ?_, fun p hp => ?_, List.mem_append_left _ wh, by rw [List.length_append]; show rs.length + 1 ≤ 12; omega⟩
        · obtain ⟨q, h1, h2⟩ := cta6 y hy
          exact ⟨q, h1.ext ep, h2⟩
        · rw [List.map_append]
          exact (hus.ext ep).snoc (hq0.ext ep)
        · refine List.nodup_append.mpr ⟨nd, by simp, fun y hy z hz e2 => ?_⟩
          rw [e2, List.mem_singleton.mp hz] at hy
          exact e hy
        · rcases List.mem_append.mp hp with z | z
          · exact asc p z
          · rw [List.mem_singleton.mp z]
            exact aq0
      · rw [decide_eq_false (show ¬ (us.length : Int) < 12 by omega)]
        exact iteF ⟨_, us, rs, rfl, k6, hc6, cta6, hl6, hus, nd, asc, wh, len⟩
    · rintro σ H6 ⟨y3, us, rs, rfl, k6, hc6, cta6, hl6, hus, nd, asc, wh, len⟩
      try dsimp only [tNext, tSeq, tAsg, gName, List.set_cons_succ, List.set_cons_zero]
      refine ⟨_, rfl, ?_⟩
      dsimp only [tNil]
      refine sort_pats (SqL.of hl6) hus (fun z hz => ?_) fun p4 ys4 qs4 np4 hys4 eq4 => ?_
      · have := (asc z hz).len (by omega)
        omega
      · have pq := List.mergeSort_perm rs fun a b : List Int => decide (a ≤ b)
        rw [← eq4] at pq
        have s7 : Same H6 (upd H6 p4 (.lst ys4)) := same_new np4
        refine ⟨p4, _, rfl, .inl ⟨SqL.of upd_same, fun t nt => ?_⟩⟩
        have s8 := s7.trans (same_new (o := HO.tup ys4) nt)
        exact q (.ref t) qs4 _ (k6.same s8) ⟨n1, n5, by rw [eq4]; exact sorted_pats nd, fun z hz => asc z (pq.mem_iff.mp hz), pq.mem_iff.mpr wh, by rw [pq.length_eq]; exact len⟩ (.tup (SqT.of upd_same) (hys4.ext (.of s8)))
end
end Fm
namespace Fm
open PySem PySem.Spec PyProof.Rows L2
section
variable {P : Program} {w : World} {K : PySem.W.Frag} {mg : Str → Option Value} {base : Heap}
theorem ix_seqK {X : Cx} (K : PySem.W.Frag) (e : X.K = K := by rfl) : IxR X (rIx K) := e ▸ ix_seq
def spLAny (K : PySem.W.Frag) : Sp := fun vs H Q _ => ∃ (h g s p : Addr) (xs : List V), vs = [.ref h, .ref p] ∧ PotOk H h g s ∧ ((p ≠ h ∧ p ≠ g ∧ H p = some (.lst xs)) ∨ SqT K H p xs) ∧ 0 < xs.length ∧ xs.length ≤ 1000 ∧ ∀ x H', x ∈ xs → KeepP h g s H H' → Q x H'
theorem ok_law_any (T : Txt K mg) : FnOk P w K mg base CX0 2 T.f_law_any T.d_law_any ["pot", "items"] (spLAny K) := by
  refine T.F_law_any.ok sc_law_any (fun vs H Q E h => ?_) (fun cdv A outer s H vs Q E hr h => ?_)
  · obtain ⟨_, _, _, _, _, rfl, _⟩ := h
    rfl
  · obtain ⟨h, g, sm, p, xs, rfl, hx, hp, l0, l1, q⟩ := h
    refine ⟨_, (pss_one (ps_ret (pe_ix (ix_seqK K) (pv 1) (pe_call (ok_law_draw T) hr (by rfl) T.g_law_draw T.F_law_draw.kp T.b_law_draw .nil pass0 (pa_cons (pv 0) (pa_cons (pe_callB (call_lenK K) (by rfl) T.z_len PySem.boot_len (pa_cons (pv 1) pa_nil)) pa_nil))) (fun _ _ => rfl)))), ?_⟩
    have hl : SqL K H p xs ∨ SqT K H p xs := hp.imp (fun z => SqL.of z.2.2) id
    refine ⟨_, rfl, _, rfl, _, rfl, p, _, rfl, hl, h, g, sm, _, rfl, hx, by omega, by omega, fun d H' d0 d1 k => ?_⟩
    have hd : d.toNat < xs.length := by omega
    have ha : atI xs d = some xs[d.toNat] := at_of (j := d.toNat) (by omega) (List.getElem?_eq_getElem hd)
    rcases hp with ⟨n1, n2, hp⟩ | hp
    · exact .inl ⟨p, xs, d, xs[d.toNat], rfl, rfl, SqL.of (k.rest _ _ n1 n2 hp), ha, q _ H' (List.getElem_mem hd) k⟩
    · exact .inr (.inl ⟨p, xs, d, xs[d.toNat], rfl, rfl, (KeepP.ext hx k).sqT hp, ha, q _ H' (List.getElem_mem hd) k⟩)
def Dt.Sm : Nat → Dt → Prop
  | 0, _ => True
  | k + 1, .tup ds => ds.length < 64 ∧ ∀ d ∈ ds, Dt.Sm k d
  | _ + 1, _ => True
end
end Fm
namespace Fm
open PySem PySem.Spec PyProof.Rows L2
section
variable {P : Program} {w : World} {K : PySem.W.Frag} {mg : Str → Option Value} {base : Heap}
theorem RingK.le {n : Nat} {parts rs : List (List Int)} {cs : List Int} (x : RingK parts rs cs) (hp : ∀ p ∈ parts, Asc n (-1) p ∧ p.length < n) : rs.length ≤ n := by
  have := nodup_len cs ((List.range n).map fun i : Nat => (i : Int)) x.nd2 fun c hc => by
    obtain ⟨k, hk, rfl⟩ := List.getElem_of_mem hc
    have h1 := x.at' k hk
    unfold atR at h1
    rw [Bool.and_eq_true] at h1
    have h1 := of_decide_eq_true h1.1
    have hk' : k < rs.length := by rw [x.len]; exact hk
    rw [getD_lt hk, getD_lt hk'] at h1
    have := (hp _ (x.mem _ (List.getElem_mem hk'))).1.mem _ h1
    exact List.mem_map.mpr ⟨cs[k].toNat, List.mem_range.mpr (by omega), by omega⟩
  rw [List.length_map, List.length_range, ← x.len] at this
  exact this
theorem rot_getD {α : Type} {l : List α} {d : α} {k : Nat} (l1 : 1 ≤ l.length) (hk : k < l.length) : (l.drop 1 ++ l.take 1).getD k d = l.getD ((k + 1) % l.length) d := by
  have dl : (l.drop 1).length = l.length - 1 := List.length_drop
  rw [List.getD_eq_getElem?_getD, List.getD_eq_getElem?_getD]
  by_cases h : k + 1 < l.length
  · rw [Nat.mod_eq_of_lt h, List.getElem?_append_left (by omega), List.getElem?_drop, Nat.add_comm 1 k]
  · have e : k + 1 = l.length := by omega
    rw [e, Nat.mod_self, List.getElem?_append_right (by omega), dl, show k - (l.length - 1) = 0 by omega, List.getElem?_take, if_pos (by decide)]
theorem rot_perm {α : Type} (l : List α) : (l.drop 1 ++ l.take 1).Perm l := by
  have := List.perm_append_comm (l₁ := l.drop 1) (l₂ := l.take 1)
  rwa [List.take_append_drop] at this
theorem RingK.turn {parts rs : List (List Int)} {cs : List Int} (x : RingK parts rs cs) : RingK parts (rs.drop 1 ++ rs.take 1) (cs.drop 1 ++ cs.take 1) := by
  have l3 := x.l3
  have lc := x.len
  have p1 := rot_perm rs
  have p2 := rot_perm cs
  refine ⟨by rw [p1.length_eq]; exact l3, by rw [p1.length_eq, p2.length_eq]; exact lc, fun p hp => x.mem p (p1.mem_iff.mp hp), p1.nodup_iff.mpr x.nd1, p2.nodup_iff.mpr x.nd2, fun k hk => ?_⟩
  rw [p2.length_eq] at hk
  have hk1 : (k + 1) % rs.length < rs.length := Nat.mod_lt _ (by omega)
  have key := x.at' ((k + 1) % cs.length) (by rw [← lc]; exact hk1)
  unfold atR at key ⊢
  rw [rot_getD (by omega) hk, rot_getD (by omega) (by omega : k < rs.length), p1.length_eq, rot_getD (by omega) hk1, (p1.filter _).length_eq, ← lc]
  rw [← lc] at key
  exact key
def backI (m k : Nat) : Nat := if k + 1 = m then m - 1 else m - 2 - k
def backC (cs : List Int) : List Int := (List.range cs.length).map fun k => cs.getD (backI cs.length k) 0
theorem backI_lt {m k : Nat} (hk : k < m) : backI m k < m := by
  unfold backI
  split <;> omega
theorem RingK.back {parts rs : List (List Int)} {cs : List Int} (x : RingK parts rs cs) : RingK parts rs.reverse (backC cs) := by
  have l3 := x.l3
  have lc := x.len
  have p1 := List.reverse_perm rs
  have bl : (backC cs).length = cs.length := by unfold backC; rw [List.length_map, List.length_range]
  have rv : ∀ k, k < rs.length → rs.reverse.getD k [] = rs.getD (rs.length - 1 - k) [] := fun k hk => by
    rw [List.getD_eq_getElem?_getD, List.getD_eq_getElem?_getD, List.getElem?_reverse hk]
  refine ⟨by rw [List.length_reverse]; exact l3, by rw [List.length_reverse, bl]; exact lc, fun p hp => x.mem p (List.mem_reverse.mp hp), p1.nodup_iff.mpr x.nd1, ?_, fun k hk => ?_⟩
  · unfold backC List.Nodup
    rw [List.pairwise_map]
    refine (List.nodup_range (n := cs.length)).imp_of_mem fun {a b} ha hb ne e => ne ?_
    have ha := List.mem_range.mp ha
    have hb := List.mem_range.mp hb
    rw [getD_lt (backI_lt ha), getD_lt (backI_lt hb)] at e
    have := nodup_ix x.nd2 (List.getElem?_eq_getElem (backI_lt ha)) (by rw [List.getElem?_eq_getElem (backI_lt hb)]; exact congrArg some e.symm)
    unfold backI at this
    split at this <;> split at this <;> omega
  · rw [bl] at hk
    have hb := backI_lt hk
    have key := x.at' (backI cs.length k) hb
    have ec : (backC cs).getD k 0 = cs.getD (backI cs.length k) 0 := by
      unfold backC
      rw [getD_lt (by rw [List.length_map, List.length_range]; exact hk), List.getElem_map, List.getElem_range]
    have hk1 : (k + 1) % rs.length < rs.length := Nat.mod_lt _ (by omega)
    unfold atR at key ⊢
    rw [ec, List.length_reverse, rv k (by omega), rv _ hk1, (p1.filter _).length_eq]
    have e1 : (backI cs.length k + 1) % rs.length = rs.length - 1 - k := by
      unfold backI
      split
      · rename_i z
        rw [show cs.length - 1 + 1 = rs.length by omega, Nat.mod_self]
        omega
      · rw [Nat.mod_eq_of_lt (by omega)]
        omega
    have e2 : rs.length - 1 - (k + 1) % rs.length = backI cs.length k := by
      unfold backI
      split
      · rename_i z
        rw [z, lc, Nat.mod_self]
        omega
      · rw [Nat.mod_eq_of_lt (by omega)]
        omega
    rw [e1] at key
    rw [e2]
    simp only [Bool.and_eq_true] at key ⊢
    exact ⟨key.2.1, key.1, key.2.2⟩
theorem Dt.Sm.fewL {d : Dt} (h : d.Sm 3) : d.fewL := by
  unfold Dt.fewL
  split
  · rename_i rds cds
    obtain ⟨_, h2⟩ := h
    obtain ⟨r1, r2⟩ : rds.length < 64 ∧ ∀ d ∈ rds, d.Sm 1 := h2 (.tup rds) (List.mem_cons_self ..)
    obtain ⟨c1, _⟩ : cds.length < 64 ∧ ∀ d ∈ cds, d.Sm 1 := h2 (.tup cds) (List.mem_cons_of_mem _ (List.mem_singleton.mpr rfl))
    refine ⟨r1, c1, fun d hd => ?_⟩
    have := r2 d hd
    cases d with
    | tup ds => exact this.1
    | _ => exact (by show 0 < 64; decide)
  · exact True.intro
end
end Fm
namespace Fm
open PySem PySem.Spec PyProof.Rows L2
section
variable {P : Program} {w : World} {K : PySem.W.Frag} {mg : Str → Option Value} {base : Heap}
theorem LsS.up {n : Nat} {ps : List (List Int)} (x : LsS n ps) : (partL n ps).Pairwise (· < ·) := by
  refine List.Pairwise.sublist List.filter_sublist (x.pw.imp fun {a b} h => ?_)
  rw [lexLt_dec] at h
  exact of_decide_eq_true h
theorem LsS.subP {n : Nat} {ps : List (List Int)} (x : LsS n ps) : ∀ p ∈ partL n ps, ∀ y ∈ p, y ∈ rgI n := fun p hp y hy => by
  have := (x.asc p (mem_partL.mp hp).1).mem y hy
  exact mem_rgI.mpr (by omega)
theorem eqv_bool (b : Bool) : PyData.eqv (.bool b) (.bool b) = true := by
  rw [PyData.eqv]
  cases b <;> rfl
theorem ringV_non {H : Hp} {v : V} {o : Option RingT} (h : RingV K H v o) : decide (v = .non) = o.isNone := by
  cases o with
  | none =>
    have h : v = .non := h
    subst h
    rfl
  | some r =>
    have h : Dh K H v (rgD r.1 r.2) := h
    obtain ⟨a, xs, rfl, _, _⟩ := h.tup_inv
    exact decide_eq_false fun z => by cases z
theorem ordV_non {H : Hp} {v : V} {o : Option (List Int)} (h : OrdV K H v o) : decide (v = .non) = o.isNone := by
  cases o with
  | none =>
    have h : v = .non := h
    subst h
    rfl
  | some r =>
    obtain ⟨a, rfl, _⟩ := ct_inv (show Dh K H v (ctD r) from h)
    exact decide_eq_false fun z => by cases z
theorem RingV.ext {H H' : Hp} {v : V} {o : Option RingT} (e : Ext H H') (h : RingV K H v o) : RingV K H' v o := by
  cases o with
  | none => exact h
  | some r => exact (show Dh K H v (rgD r.1 r.2) from h).ext e
end
end Fm
namespace Fm
open PySem PySem.Spec PyProof.Rows L2
section
variable {P : Program} {w : World} {K : PySem.W.Frag} {mg : Str → Option Value} {base : Heap}
def hitB (R : List (List (List Int))) (ls : List (List Int)) : Bool := R.all fun rs => rs.any fun p => decide (p ∈ ls)
def spHit (K : PySem.W.Frag) : Sp := fun vs H Q _ => ∃ (a : Addr) (v : V) (xs : List V) (R : List (List (List Int))) (ls : List (List Int)), vs = [.ref a, v] ∧ H a = some (.lst xs) ∧ DhAll K H xs (R.map patsD) ∧ Dh K H v (patsD ls) ∧ R.length ≤ 40000 ∧ (∀ rs ∈ R, rs.length ≤ 64) ∧ ∀ H', Same H H' → Q (.bl (hitB R ls)) H'
theorem ok_is_hit (T : Txt K mg) : FnOk P w K mg base CX0 1 T.f_is_hit T.d_is_hit ["rings", "lost"] (spHit K) := by
  refine T.F_is_hit.ok sc_is_hit (fun vs H Q E h => ?_) (fun cdv A outer s H vs Q E hr h => ?_)
  · obtain ⟨_, _, _, _, _, rfl, _⟩ := h
    rfl
  · obtain ⟨a, v, xs, R, ls, rfl, ha, hx, hv, lR, l64, q⟩ := h
    have xl : xs.length = R.length := by rw [hx.length, List.length_map]
    obtain ⟨b, ys, rfl, hb, hy⟩ := hv.tup_inv
    refine ⟨_, (pss_one (ps_ret (pe_callB (call_allK (K := K) rfl) (by rfl) T.z_all (by decide +kernel) (pa_cons (pe_lc (own := [("rs", 2)]) rfl sc_is_hit.nd (pi_listK K (pv 0)) (blkOk_by (N := N_is_hit) (sc := defScope s_is_hit) (by decide +kernel)) (fun _ _ _ _ _ => (pg_name (i := 2) sc_is_hit.nd rfl (.inl rfl))) (fun _ _ _ _ _ => pts_nil) (fun _ _ _ _ _ => (pe_callB (call_anyK (K := K) rfl) (by rfl) T.z_any (by decide +kernel) (pa_cons (pe_lc (own := [("pattern", 3)]) rfl sc_is_hit.nd (pi_tupK K (pv 2)) (blkOk_by (N := N_is_hit) (sc := { kind := .function, names := [(".0", .local), ("rs", .local), ("any", .globalImplicit), ("lost", .cell)], isGenerator := false, isCoroutine := false }) (by decide +kernel)) (fun _ _ _ _ _ => (pg_name (i := 3) sc_is_hit.nd rfl (.inl rfl))) (fun _ _ _ _ _ => pts_nil) (fun _ _ _ _ _ => (pe_cmpR (op_inT (K := K) (room65 hr)) (pv 3) (pv 1) (by rfl)))) pa_nil)))) pa_nil)))), ?_⟩
    refine ⟨_, rfl, a, rfl, ⟨_, SqL.of ha⟩, fun D nD => lc_list (K := K) (xs := xs) (fun j H' => Same H H' ∧ H' D = some (.lst (((R.take j).map fun rs => rs.any fun p => decide (p ∈ ls)).map V.bl))) ⟨same_new nD, upd_same⟩ (fun j H' _ ⟨s', _⟩ => SqL.of (s' _ _ ha)) ?_ ?_⟩
    · rintro j x H1 hxj ⟨s1, hD⟩
      obtain ⟨d, hd, hxd⟩ := (hx.ext (.of s1)).get hxj
      obtain ⟨rs, hrs, rfl⟩ := map_at hd
      have hj := (List.getElem?_eq_some_iff.mp hrs).1
      have rl := l64 rs (List.mem_of_getElem? hrs)
      obtain ⟨ra, zs, rfl, hra, hz⟩ := hxd.tup_inv
      have zl : zs.length = rs.length := by rw [hz.length, List.length_map]
      refine ⟨rfl, ?_⟩
      dsimp only [tYes]
      rw [if_pos rfl]
      refine ⟨_, rfl, ra, rfl, ⟨_, hra⟩, fun F nF => lc_tup (K := K) (xs := zs) (fun i H' => Same H1 H' ∧ H' F = some (.lst (((rs.take i).map fun p => decide (p ∈ ls)).map V.bl))) ⟨same_new nF, upd_same⟩ (fun i H' _ ⟨s', _⟩ => (Ext.of s').sqT hra) ?_ ?_⟩
      · rintro i y H2 hyi ⟨s2, hF⟩
        obtain ⟨d, hd, hyd⟩ := (hz.ext (.of s2)).get hyi
        obtain ⟨p, hp, rfl⟩ := map_at hd
        have s12 := s1.trans s2
        refine ⟨rfl, ?_⟩
        dsimp only [tYes]
        rw [if_pos rfl]
        refine ⟨_, rfl, _, rfl, ctP p, ls.map ctP, dp_ct hyd, .tup ((Ext.of s12).sqT hb) (dp_patsP (hy.ext (.of s12))), shaped_ct _, shaped_patsP _, ?_⟩
        rw [any_pats]
        refine ⟨_, hF, sz_small (by rw [List.length_map, List.length_map, List.length_take]; omega), Same.put nF s2, ?_⟩
        rw [upd_same, List.take_add_one, hp, List.map_append, List.map_append]
        rfl
      · rintro H2 ⟨s2, hF⟩
        rw [zl, List.take_length] at hF
        refine ⟨F, _, rfl, SqL.of hF, ?_⟩
        refine ⟨_, s2 _ _ hD, sz_small (by rw [List.length_map, List.length_map, List.length_take]; omega), Same.put nD (s1.trans s2), ?_⟩
        rw [upd_same, List.take_add_one, hrs, List.map_append, List.map_append, List.any_map]
        rfl
    · rintro H1 ⟨s1, hD⟩
      rw [xl, List.take_length] at hD
      refine ⟨D, _, rfl, SqL.of hD, ?_⟩
      rw [List.all_map]
      exact q H1 s1
end
end Fm
namespace Fm
open PySem PySem.Spec PyProof.Rows L2
section
variable {P : Program} {w : World} {K : PySem.W.Frag} {mg : Str → Option Value} {base : Heap}
def lotsR : Nat → List (List Int) → List (List (List Int))
  | 0, _ => [[]]
  | _ + 1, [] => []
  | m + 1, p :: l => (lotsR m l).map (p :: ·) ++ lotsR (m + 1) l
theorem lots_0 (l : List (List Int)) : lotsR 0 l = [[]] := by cases l <;> rfl
theorem lots_pick (parts : List (List Int)) : ∀ (k r lo : Nat), lo + k = parts.length → (cmb r lo k).map (pickL parts) = lotsR r (parts.drop lo)
  | 0, 0, lo, h => by rw [show cmb 0 lo 0 = [[]] from rfl, lots_0]; rfl
  | k + 1, 0, lo, h => by rw [show cmb 0 lo (k + 1) = [[]] from rfl, lots_0]; rfl
  | 0, r + 1, lo, h => by
    rw [show cmb (r + 1) lo 0 = [] from rfl, List.drop_eq_nil_of_le (by omega)]
    rfl
  | k + 1, r + 1, lo, h => by
    have hlo : lo < parts.length := by omega
    have e : parts.drop lo = parts.getD lo [] :: parts.drop (lo + 1) := by rw [getD_lt hlo]; exact List.drop_eq_getElem_cons hlo
    rw [show cmb (r + 1) lo (k + 1) = (cmb r (lo + 1) k).map (lo :: ·) ++ cmb (r + 1) (lo + 1) k from rfl, List.map_append, lots_pick parts k (r + 1) (lo + 1) (by omega), e]
    show _ = (lotsR r (parts.drop (lo + 1))).map (parts.getD lo [] :: ·) ++ lotsR (r + 1) (parts.drop (lo + 1))
    rw [← lots_pick parts k r (lo + 1) (by omega), List.map_map, List.map_map]
    rfl
theorem ltl_irr (a : List (List Int)) : ¬ a < a := List.lt_irrefl _
theorem mem_lots : ∀ {l : List (List Int)}, l.Pairwise (· < ·) → ∀ {m : Nat} {ls : List (List Int)}, ls ∈ lotsR m l ↔ ls.length = m ∧ (∀ p ∈ ls, p ∈ l) ∧ ls.Pairwise (· < ·)
  | l, _, 0, ls => by
    rw [lots_0, List.mem_singleton]
    constructor
    · rintro rfl
      exact ⟨rfl, (fun p hp => nomatch hp), List.Pairwise.nil⟩
    · rintro ⟨h, _⟩
      exact List.eq_nil_of_length_eq_zero h
  | [], _, m + 1, ls => by
    constructor
    · intro h
      cases h
    · rintro ⟨h1, h2, _⟩
      cases ls with
      | nil => cases h1
      | cons p t => cases h2 p (List.mem_cons_self ..)
  | p :: l, pw, m + 1, ls => by
    rw [List.pairwise_cons] at pw
    show ls ∈ (lotsR m l).map (p :: ·) ++ lotsR (m + 1) l ↔ _
    rw [List.mem_append, List.mem_map]
    constructor
    · rintro (⟨t, ht, rfl⟩ | h)
      · obtain ⟨h1, h2, h3⟩ := (mem_lots pw.2).mp ht
        exact ⟨by rw [List.length_cons, h1], fun q hq => (List.mem_cons.mp hq).elim (fun e => e ▸ List.mem_cons_self ..) fun e => List.mem_cons_of_mem _ (h2 q e), List.pairwise_cons.mpr ⟨fun q hq => pw.1 q (h2 q hq), h3⟩⟩
      · obtain ⟨h1, h2, h3⟩ := (mem_lots pw.2).mp h
        exact ⟨h1, fun q hq => List.mem_cons_of_mem _ (h2 q hq), h3⟩
    · rintro ⟨h1, h2, h3⟩
      cases ls with
      | nil => cases h1
      | cons q t =>
        rw [List.pairwise_cons] at h3
        rcases List.mem_cons.mp (h2 q (List.mem_cons_self ..)) with e | e
        · subst e
          refine .inl ⟨t, (mem_lots pw.2).mpr ⟨Nat.succ.inj h1, fun x hx => ?_, h3.2⟩, rfl⟩
          rcases List.mem_cons.mp (h2 x (List.mem_cons_of_mem _ hx)) with z | z
          · exact absurd (h3.1 x hx) (by rw [z]; exact List.lt_irrefl _)
          · exact z
        · refine .inr ((mem_lots pw.2).mpr ⟨h1, fun x hx => ?_, List.pairwise_cons.mpr h3⟩)
          rcases List.mem_cons.mp hx with z | z
          · rw [z]
            exact e
          · rcases List.mem_cons.mp (h2 x (List.mem_cons_of_mem _ z)) with y | y
            · have h4 := h3.1 x z
              rw [y] at h4
              exact absurd (List.lt_trans (pw.1 q e) h4) (List.lt_irrefl _)
            · exact y
theorem lots_up : ∀ {l : List (List Int)}, l.Pairwise (· < ·) → ∀ m : Nat, (lotsR m l).Pairwise (· < ·)
  | l, _, 0 => by rw [lots_0]; exact List.pairwise_singleton _ _
  | [], _, m + 1 => .nil
  | p :: l, pw, m + 1 => by
    have pw' := List.pairwise_cons.mp pw
    show ((lotsR m l).map (p :: ·) ++ lotsR (m + 1) l).Pairwise (· < ·)
    refine List.pairwise_append.mpr ⟨?_, lots_up pw'.2 (m + 1), fun a ha b hb => ?_⟩
    · rw [List.pairwise_map]
      exact (lots_up pw'.2 m).imp fun {a b} h => by rw [List.cons_lt_cons_iff]; exact .inr ⟨rfl, h⟩
    · obtain ⟨t, ht, rfl⟩ := List.mem_map.mp ha
      obtain ⟨h1, h2, _⟩ := (mem_lots pw'.2).mp hb
      cases b with
      | nil => cases h1
      | cons q u =>
        rw [List.cons_lt_cons_iff]
        exact .inl (pw'.1 q (h2 q (List.mem_cons_self ..)))
theorem sorted_ext {a b : List (List (List Int))} (ha : a.Pairwise (· < ·)) (hb : b.Pairwise (· < ·)) (h : ∀ x, x ∈ a ↔ x ∈ b) : a = b := by
  have na : a.Nodup := List.Pairwise.imp (S := (· ≠ ·)) (fun {x y} (h : x < y) (e : x = y) => ltl_irr y (by rw [e] at h; exact h)) ha
  have nb : b.Nodup := List.Pairwise.imp (S := (· ≠ ·)) (fun {x y} (h : x < y) (e : x = y) => ltl_irr y (by rw [e] at h; exact h)) hb
  exact ((List.perm_ext_iff_of_nodup na nb).mpr h).eq_of_pairwise (fun x y _ _ h1 h2 => absurd (ltl_trans h1 h2) (ltl_irr x)) ha hb
theorem ringsF_lots (parts : List (List Int)) (r : Nat) : ringsF parts r = (lotsR r parts).filterMap ringIn := by
  unfold ringsF
  have := lots_pick parts parts.length r 0 (Nat.zero_add _)
  rw [List.drop_zero] at this
  rw [← this, List.filterMap_map]
  rfl
def lessP (parts ls : List (List Int)) : List (List Int) := parts.filter fun p => !decide (p ∈ ls)
theorem mem_lessP {parts ls : List (List Int)} {p : List Int} : p ∈ lessP parts ls ↔ p ∈ parts ∧ p ∉ ls := by
  unfold lessP
  rw [List.mem_filter, Bool.not_eq_true', decide_eq_false_iff_not]
def hitF (n : Nat) (parts ls : List (List Int)) : Bool := (ords n (lessP parts ls) (rgI n)).head?.isSome
theorem hitF_iff {n : Nat} {parts ls : List (List Int)} (sub : ∀ p ∈ parts, ∀ y ∈ p, y ∈ rgI n) : hitF n parts ls = true ↔ ∀ m r c, ¬ Ring (· ∈ lessP parts ls) (· ∈ rgI n) m r c := by
  have key := ords_ring (left := rgI n) (ps := lessP parts ls) (rgI_nodup n) fun p hp => sub p (mem_lessP.mp hp).1
  rw [rgI_len] at key
  rw [← key]
  unfold hitF
  rw [Option.isSome_iff_ne_none]
theorem hit_rings {n : Nat} {parts ls : List (List Int)} (up : parts.Pairwise (· < ·)) (n5 : n ≤ 5) (sub : ∀ p ∈ parts, ∀ y ∈ p, y ∈ rgI n) : hitF n parts ls = true ↔ ∀ r, 3 ≤ r → r ≤ n → ∀ x ∈ ringsF parts r, ∃ p ∈ x.1, p ∈ ls := by
  rw [hitF_iff sub]
  constructor
  · intro h r r3 rn x hx
    refine Classical.byContradiction fun z => ?_
    have := ringsF_L r3 (by omega) hx
    obtain ⟨⟨h1, h2, _⟩, h3⟩ := mem_ringsL.mp this
    obtain ⟨c, x0⟩ := rs_ring (parts := lessP parts ls) (left := rgI n) (fun p hp => sub p (mem_lessP.mp hp).1) (by omega) (fun p hp => mem_lessP.mpr ⟨h2 p hp, fun y => z ⟨p, hp, y⟩⟩) (colsR_some h3)
    exact h _ _ _ x0
  · intro h m g c x0
    have n3 := x0.n3
    have mn := x0.le
    rw [rgI_len] at mn
    have upL : (lessP parts ls).Pairwise (· < ·) := up.sublist List.filter_sublist
    obtain ⟨y, hy⟩ := List.exists_mem_of_ne_nil _ (ring_found x0 (by omega))
    rw [ringsF_lots] at hy
    obtain ⟨q, hq, e⟩ := List.mem_filterMap.mp hy
    obtain ⟨q1, q2, q3⟩ := (mem_lots upL).mp hq
    have hyP : y ∈ ringsF parts m := by
      rw [ringsF_lots]
      exact List.mem_filterMap.mpr ⟨q, (mem_lots up).mpr ⟨q1, fun p hp => (mem_lessP.mp (q2 p hp)).1, q3⟩, e⟩
    obtain ⟨p, hp, hl⟩ := h m n3 mn y hyP
    obtain ⟨_, y2, _⟩ := ringIn_some (by omega) (by omega) e
    exact (mem_lessP.mp (q2 p (y2 p hp))).2 hl
/-- of the tuples without which no ring is left those of fewest patterns -/
structure GivenD (n : Nat) (parts : List (List Int)) (m : Nat) (S : List (List (List Int))) : Prop where
  le : m ≤ parts.length
  none : ∀ k, k < m → ∀ ls ∈ lotsR k parts, hitF n parts ls = false
  eq : S = (lotsR m parts).filter (hitF n parts)
  ne : S ≠ []
theorem GivenD.one {n m m' : Nat} {parts : List (List Int)} {S S' : List (List (List Int))} (x : GivenD n parts m S) (y : GivenD n parts m' S') : m = m' ∧ S = S' := by
  have key : ∀ {m m' : Nat} {S S' : List (List (List Int))}, GivenD n parts m S → GivenD n parts m' S' → m ≤ m' := fun {m m' S S'} x y => by
    refine Nat.le_of_not_lt fun z => ?_
    obtain ⟨ls, hls⟩ := List.exists_mem_of_ne_nil _ y.ne
    rw [y.eq] at hls
    obtain ⟨h1, h2⟩ := List.mem_filter.mp hls
    rw [x.none m' z ls h1] at h2
    cases h2
  have e : m = m' := Nat.le_antisymm (key x y) (key y x)
  subst e
  exact ⟨rfl, by rw [x.eq, y.eq]⟩
theorem GivenD.up {n m : Nat} {parts : List (List Int)} {S : List (List (List Int))} (x : GivenD n parts m S) (up : parts.Pairwise (· < ·)) : S.Pairwise (· < ·) := by
  rw [x.eq]
  exact (lots_up up m).sublist List.filter_sublist
end
end Fm
namespace Fm
open PySem PySem.Spec PyProof.Rows L2
section
variable {P : Program} {w : World} {K : PySem.W.Frag} {mg : Str → Option Value} {base : Heap}
theorem sort_lots {H : Hp} {a : Addr} {xs : List V} {S : List (List (List Int))} {Q : VK} (hs : SqL K H a xs) (hd : DhAll K H xs (S.map patsD)) (up : S.Pairwise (· < ·))
    (q : ∀ p, H p = none → Q (.ref p) (upd H p (.lst xs))) : rSortTs K [.ref a] H Q := by
  have data : ∀ {xs : List V} {S : List (List (List Int))}, DhAll K H xs (S.map patsD) → ∃ cs : List (V × List (List Int)), cs.map (·.1) = xs ∧ cs.map (·.2) = S ∧ ∀ b ∈ cs, Dh K H b.1 (patsD b.2) := fun {xs} => by
    induction xs with
    | nil =>
      intro S h
      cases S with
      | nil => exact ⟨[], rfl, rfl, fun b hb => by cases hb⟩
      | cons c S => cases h
    | cons x xs ih =>
      intro S h
      cases S with
      | nil => cases h
      | cons c S =>
        rw [List.map_cons] at h
        cases h with
        | cons h t =>
          obtain ⟨bs, e, e2, hb⟩ := ih t
          refine ⟨(x, c) :: bs, by rw [List.map_cons, e], by rw [List.map_cons, e2], fun b hm => ?_⟩
          rcases List.mem_cons.mp hm with z | z
          · rw [z]
            exact h
          · exact hb b z
  obtain ⟨cs, e, e2, hb⟩ := data hd
  have e1 : (cs.map fun b => (b.1, PyData.tuple (b.2.map ctP))).map (·.1) = xs := by
    rw [List.map_map, ← e]
    rfl
  refine ⟨a, cs.map fun b => (b.1, PyData.tuple (b.2.map ctP)), rfl, by rw [e1]; exact hs, fun b hm => ?_, ?_, fun p np => ?_⟩
  · obtain ⟨z, hz, rfl⟩ := List.mem_map.mp hm
    obtain ⟨c, ys, h1, h2, h3⟩ := (hb z hz).tup_inv
    refine ⟨by rw [h1]; exact .tup h2 (dp_patsP h3), ⟨_, rfl⟩, ?_⟩
    obtain ⟨_, h4⟩ := lay_all (f := ctP) (n := 1) lay_ct z.2
    exact Nat.le_trans (show (PyData.tuple (z.2.map ctP)).depth ≤ 2 from Nat.succ_le_succ h4) (by decide)
  · intro d hd d' hd'
    obtain ⟨b, hm, rfl⟩ := List.mem_map.mp hd
    obtain ⟨b', hm', rfl⟩ := List.mem_map.mp hd'
    obtain ⟨z, hz, rfl⟩ := List.mem_map.mp hm
    obtain ⟨z', hz', rfl⟩ := List.mem_map.mp hm'
    exact alike_pats _ _
  · have pw : (cs.map fun b => (b.1, PyData.tuple (b.2.map ctP))).Pairwise (fun a b => PySem.W.dataLe false (fun b : V × PyData => b.2) a b = true) := by
      rw [List.pairwise_map]
      rw [← e2, List.pairwise_map] at up
      refine up.imp fun {a b} h => ?_
      rw [PySem.W.dataLe_eq]
      show (!PySem.W.dataLt (.tuple (b.2.map ctP)) (.tuple (a.2.map ctP))) = true
      rw [PySem.W.dataLt_tuple]
      show (!PySem.W.rowLt (b.2.map ctP) (a.2.map ctP)) = true
      rw [rowLt_pats, decide_eq_false fun z => ltl_irr _ (ltl_trans h z)]
      rfl
    have z := q p np
    rw [List.mergeSort_of_pairwise pw, e1]
    exact z
def LotsAt (K : PySem.W.Frag) (H : Hp) (d : Addr) (S : List (List (List Int))) : Prop := ∃ xs, H d = some (.lst xs) ∧ DhAll K H xs (S.map patsD)
def spGiven (K : PySem.W.Frag) : Sp := fun vs H Q _ => ∃ (n : Nat) (v : V) (ps : List (List Int)), vs = [.int n, v] ∧ LsS n ps ∧ Dh K H v (patsD ps) ∧ ∀ d H' m S, H d = none → Same H H' → LotsAt K H' d S → GivenD n (partL n ps) m S → Q (.ref d) H'
theorem ok_given_up (T : Txt K mg) : FnOk P w K mg base CX0 5 T.f_given_up T.d_given_up ["columns", "listed"] (spGiven K) := by
  refine T.F_given_up.ok sc_given_up (fun vs H Q E h => ?_) (fun cdv A outer s H vs Q E hr h => ?_)
  · obtain ⟨_, _, _, rfl, _⟩ := h
    rfl
  · obtain ⟨n, v, ps, rfl, ls, hv, q⟩ := h
    refine ⟨_, (pss_cons (ps_set (i := 2) sc_given_up.nd rfl (.inl rfl) (pe_callTy (call_listK (K := K)) (by rfl) T.z_list (by decide +kernel) (pa_cons (pe_call (ok_parts_of T) hr (by rfl) T.g_parts_of T.F_parts_of.kp T.b_parts_of .nil pass0 (pa_cons (pv 0) (pa_cons (pv 1) pa_nil))) pa_nil)))
      (pss_cons (ps_set (i := 3) sc_given_up.nd rfl (.inr rfl) (pe_lst pa_nil))
      (pss_cons (ps_for PassesOwn.never rfl (pi_range2 (by rfl) T.z_range (pa_cons (pe_glob (by rfl) T.k_LEAST_RING.1 T.k_LEAST_RING.2) (pa_cons (pe_op op_add (pv 0) pe_int) pa_nil))) (pg_name (i := 4) sc_given_up.nd rfl (.inl rfl)) (pss_one (ps_expr (pe_bm PySem.F.plainAttrs_list PySem.F.slot_list_extend PySem.F.type_list_extend mt_extend (pv 3) (pa_cons (pe_lc (own := [("rs", 8), ("_", 9)]) rfl sc_given_up.nd (pi_listK K (pe_call (ok_rings_of T) hr (by rfl) T.g_rings_of T.F_rings_of.kp T.b_rings_of .nil pass0 (pa_cons (pv 2) (pa_cons (pv 4) pa_nil)))) (blkOk_by (N := N_given_up) (sc := defScope s_given_up) (by decide +kernel)) (fun _ _ _ _ _ => (pg_tupK K (n := 2) rfl (pgs_cons (pg_name (i := 8) sc_given_up.nd rfl (.inl rfl)) (pgs_cons (pg_name (i := 9) sc_given_up.nd rfl (.inl rfl)) pgs_nil)))) (fun _ _ _ _ _ => pts_nil) (fun _ _ _ _ _ => (pv 8))) pa_nil)))))
      (pss_cons (ps_for PassesOwn.never rfl (pi_range1 (by rfl) T.z_range (pa_cons (pe_op op_add (pe_callB (call_lenK K) (by rfl) T.z_len PySem.boot_len (pa_cons (pv 2) pa_nil)) pe_int) pa_nil)) (pg_name (i := 5) sc_given_up.nd rfl (.inl rfl)) (pss_cons (ps_setLc (i := 6) (own := [("lost", 7)]) rfl sc_given_up.nd rfl rfl (sw_true rfl rfl rfl (by decide +kernel)) (pi_comb (K := K) (by rfl) T.w_combinations (pa_cons (pv 2) (pa_cons (pv 5) pa_nil))) (blkOk_by (N := N_given_up) (sc := defScope s_given_up) (by decide +kernel)) (fun _ _ _ _ _ => (pg_name (i := 7) sc_given_up.nd rfl (.inl rfl))) (fun _ _ _ _ _ => (pts_one (pt_val (pe_call (ok_is_hit T) (hr.mono (by decide)) (by rfl) T.g_is_hit T.F_is_hit.kp T.b_is_hit .nil pass0 (pa_cons (pv 3) (pa_cons (pv 7) pa_nil)))))) (fun _ _ _ _ _ => (pv 7)))
      (pss_one (ps_if (pt_truth (pv 6) (fun _ => rfl)) (pss_one (ps_ret (pe_callB (call_sortTsK (K := K) hr.units) (by rfl) T.z_sorted (by decide +kernel) (pa_cons (pv 6) pa_nil)))) pss_nil))))
      (pss_one (ps_ret (pe_lst pa_nil))))))), ?_⟩
    have e0 : L2.start N_given_up [V.int n, v] = [some (.int n), some v, none, none, none, none, none, none, none, none] := rfl
    rw [e0]
    have n1 := ls.n1
    have n5 := ls.n5
    have up := ls.up
    have sub := ls.subP
    have l12 : (partL n ps).length ≤ 12 := Nat.le_trans (List.length_filter_le _ _) ls.len
    have lp : ∀ p ∈ partL n ps, p.length ≤ 5 := fun p hp => by have := (mem_partL.mp hp).2; omega
    refine ⟨_, rfl, _, rfl, n, v, ps, rfl, ls.n1, ls.n5, hv, ls.ok.lst, ls.len, fun u H1 s1 hu => ?_⟩
    obtain ⟨ua, xs, rfl, hua, hux⟩ := hu.tup_inv
    generalize hparts : partL n ps = parts at *
    have hux : DhAll K H1 xs (parts.map ctD) := hparts ▸ hux
    refine ⟨ua, _, rfl, .inr hua, fun l nl => ?_⟩
    have s2 : Same H1 (upd H1 l (.lst xs)) := same_new nl
    have hl : (upd H1 l (.lst xs)) l = some (.lst xs) := upd_same
    have hx2 := hux.ext (.of s2)
    generalize upd H1 l (.lst xs) = H2 at s2 hl hx2 ⊢
    have xl : xs.length = parts.length := by rw [hx2.length, List.length_map]
    try dsimp only [tNext, tSeq, tAsg, gName, List.set_cons_succ, List.set_cons_zero]
    refine ⟨Nat.zero_le _, fun R nR => ?_⟩
    have s3 : Same H2 (upd H2 R (.lst [])) := same_new nR
    have hR : (upd H2 R (.lst [])) R = some (.lst []) := upd_same
    have hl3 := s3 _ _ hl
    have hx3 := hx2.ext (.of s3)
    have s13 := s1.trans (s2.trans s3)
    generalize upd H2 R (.lst []) = H3 at s3 hR hl3 hx3 s13 ⊢
    try dsimp only [tNext, tSeq, tAsg, gName, List.set_cons_succ, List.set_cons_zero]
    refine ⟨_, rfl, _, _, rfl, rfl, 3, (n : Int) + 1, rfl, ⟨by omega, by omega, by omega, by omega⟩, for_range (lo := 3) (n := ((n : Int) + 1 - 3).toNat) (fun i σ H' => ∃ (y4 : Option V) (zs : List V) (RR : List (List (List Int))), σ = [some (.int n), some v, some (.ref l), some (.ref R), y4, none, none, none, none, none] ∧ Same H2 H' ∧ H' R = some (.lst zs) ∧ DhAll K H' zs (RR.map patsD) ∧ RR.length ≤ i * 1000 ∧ ∀ rs, rs ∈ RR ↔ ∃ r, 3 ≤ r ∧ r < 3 + i ∧ ∃ x ∈ ringsF parts r, x.1 = rs)
      ⟨none, [], [], rfl, s3, hR, .nil, Nat.zero_le _, fun rs => ⟨fun h => (nomatch h), fun ⟨r, h1, h2, _⟩ => by omega⟩⟩ ?_ ?_⟩
    · rintro i σ H4 hi ⟨y4, zs, RR, rfl, s4, hR4, hzs, rl, hm⟩
      have e3 : (3 : Int) + (i : Int) = ((3 + i : Nat) : Int) := by omega
      try dsimp only [tNext, tSeq, tAsg, gName, List.set_cons_succ, List.set_cons_zero]
      refine ⟨_, rfl, .inl ⟨rfl, _, SqL.of hR4⟩, _, rfl, _, rfl, l, xs, parts, 3 + i, by rw [e3]; rfl, .inl (s4 _ _ hl), hx2.ext (.of s4), l12, lp, by omega, by omega, fun p ys S H5 np s5 hp hys pm pw => ?_⟩
      have Sl : S.length ≤ 1000 := by
        rw [pm.length_eq]
        unfold ringsF
        exact Nat.le_trans (List.length_filterMap_le ..) (cmb_le (by omega) (by omega))
      have yl : ys.length = S.length := by rw [hys.length, List.length_map]
      refine ⟨p, rfl, ⟨_, SqL.of hp⟩, fun D nD => lc_list (K := K) (xs := ys) (fun j H' => ∃ us, Same H5 H' ∧ H' D = some (.lst us) ∧ DhAll K H' us (((S.take j).map (·.1)).map patsD)) ⟨[], same_new nD, upd_same, .nil⟩ (fun j H' _ ⟨_, s', _⟩ => SqL.of (s' _ _ hp)) ?_ ?_⟩
      · rintro j x H6 hxj ⟨us, s6, hD, hus⟩
        obtain ⟨d, hd, hxd⟩ := (hys.ext (.of s6)).get hxj
        obtain ⟨r, hr1, rfl⟩ := map_at hd
        have hj := (List.getElem?_eq_some_iff.mp hr1).1
        obtain ⟨ta, ws, rfl, hta, hall⟩ := hxd.tup_inv
        obtain ⟨v1, v2, rfl, h1, h2⟩ := dh_two hall
        refine ⟨ta, _, rfl, hta, rfl, _, _, rfl, _, _, rfl, rfl, rfl, ?_⟩
        dsimp only [tYes]
        rw [if_pos rfl]
        have ul : us.length = (S.take j).length := by rw [hus.length, List.length_map, List.length_map]
        refine ⟨_, rfl, us, hD, sz_small (by rw [ul, List.length_take]; omega), us ++ [v1], Same.put nD s6, upd_same, ?_⟩
        have ep := Ext.put (ys := us ++ [v1]) hD
        rw [List.take_add_one, hr1, List.map_append, List.map_append]
        exact (hus.ext ep).snoc (show Dh K _ v1 (patsD r.1) from h1.ext ep)
      · rintro H6 ⟨us, s6, hD, hus⟩
        rw [yl, List.take_length] at hus
        have s56 := s5.trans s6
        have hR6 := s56 _ _ hR4
        have zl : zs.length = RR.length := by rw [hzs.length, List.length_map]
        have ul : us.length = S.length := by rw [hus.length, List.length_map, List.length_map]
        refine ⟨R, D, zs, us, rfl, rfl, hR6, hD, Nat.le_of_lt (sz_small (by omega)), ?_⟩
        have ep := Ext.put (ys := zs ++ us) hR6
        refine ⟨_, zs ++ us, RR ++ S.map (·.1), rfl, Same.put nR (s4.trans s56), upd_same, ?_, ?_, fun rs => ?_⟩
        · rw [List.map_append]
          exact ((hzs.ext (.of s56)).ext ep).append (hus.ext ep)
        · rw [List.length_append, List.length_map]
          omega
        · rw [List.mem_append, hm, List.mem_map]
          constructor
          · rintro (⟨r, h1, h2, h3⟩ | ⟨x, hx, e⟩)
            · exact ⟨r, h1, by omega, h3⟩
            · exact ⟨3 + i, by omega, by omega, x, pm.mem_iff.mp hx, e⟩
          · rintro ⟨r, h1, h2, x, hx, e⟩
            by_cases z : r = 3 + i
            · subst z
              exact .inr ⟨x, pm.mem_iff.mpr hx, e⟩
            · exact .inl ⟨r, h1, by omega, x, hx, e⟩
    · rintro σ H4 ⟨y4, zs, RR, rfl, s4, hR4, hzs, rl, hm⟩
      have R5 : RR.length ≤ 40000 := by
        have : ((n : Int) + 1 - 3).toNat ≤ 3 := by omega
        have := Nat.mul_le_mul_right 1000 this
        omega
      have in5 : ∀ rs ∈ RR, rs.length ≤ 5 := fun rs hrs => by
        obtain ⟨r, h1, h2, x, hx, rfl⟩ := (hm rs).mp hrs
        have := (mem_ringsL.mp (ringsF_L h1 (by omega) hx)).1.1
        omega
      have hB : ∀ q, hitB RR q = hitF n parts q := fun q => by
        rw [Bool.eq_iff_iff, hit_rings up n5 sub]
        unfold hitB
        rw [List.all_eq_true]
        constructor
        · intro h r r3 rn x hx
          obtain ⟨p, hp, e⟩ := List.any_eq_true.mp (h x.1 ((hm x.1).mpr ⟨r, r3, by omega, x, hx, rfl⟩))
          exact ⟨p, hp, of_decide_eq_true e⟩
        · intro h rs hrs
          obtain ⟨r, h1, h2, x, hx, rfl⟩ := (hm rs).mp hrs
          obtain ⟨p, hp, e⟩ := h r h1 (by omega) x hx
          exact List.any_eq_true.mpr ⟨p, hp, decide_eq_true e⟩
      have hl4 := s4 _ _ hl
      have hx4 := hx2.ext (.of s4)
      try dsimp only [tNext, tSeq, tAsg, gName, List.set_cons_succ, List.set_cons_zero]
      refine ⟨_, rfl, l, _, rfl, .inl (SqL.of hl4), _, _, rfl, rfl, _, rfl, by omega, by omega, for_range (lo := 0) (n := ((xs.length : Int) + 1).toNat) (fun i σ H' => ∃ (y5 y6 : Option V), σ = [some (.int n), some v, some (.ref l), some (.ref R), y4, y5, y6, none, none, none] ∧ Same H4 H' ∧ ∀ k, k < i → ∀ q ∈ lotsR k parts, hitF n parts q = false)
        ⟨none, none, rfl, Same.refl H4, fun k hk => by omega⟩ ?_ ?_⟩
      · rintro i σ H5 hi ⟨y5, y6, rfl, s5, hno⟩
        have hi : i ≤ parts.length := by omega
        have hl5 := s5 _ _ hl4
        have hx5 := hx4.ext (.of s5)
        have hR5 := s5 _ _ hR4
        have hzs5 := hzs.ext (.of s5)
        have el := lots_pick parts parts.length i 0 (Nat.zero_add _)
        rw [List.drop_zero] at el
        try dsimp only [tNext, tSeq, tAsg, gName, List.set_cons_succ, List.set_cons_zero]
        refine ⟨_, rfl, _, rfl, l, xs, (i : Int), cmb i 0 xs.length, by rw [Int.zero_add], .inl (SqL.of hl5), by omega, by omega, by omega, by rw [Int.toNat_natCast]; exact comb_seq12 (by omega) (by omega), fun D nD => lc_comb (fun j H' => ∃ us, Same H5 H' ∧ H' D = some (.lst us) ∧ DhAll K H' us (((((cmb i 0 xs.length).take j).map (pickL parts)).filter (hitF n parts)).map patsD)) ⟨[], same_new nD, upd_same, .nil⟩ ?_ ?_⟩
        · rintro j ix Tp H6 hj ⟨us, s6, hD, hus⟩ nT
          have jl := (List.getElem?_eq_some_iff.mp hj).1
          have cl := cmb_le12 (n := xs.length) (r := i) (by omega) (by omega)
          obtain ⟨_, _, xb⟩ := (cmb_mem i 0 xs.length ix).mp (List.mem_of_getElem? hj)
          have s7 : Same H6 (upd H6 Tp (.tup (ix.map fun k => xs.getD k .non))) := same_new nT
          have dT : Dh K (upd H6 Tp (.tup (ix.map fun k => xs.getD k .non))) (.ref Tp) (patsD (pickL parts ix)) := .tup (SqT.of upd_same) (dh_pick (hx5.ext (.of (s6.trans s7))) ix fun k hk => by have := xb k hk; omega)
          generalize upd H6 Tp (.tup (ix.map fun k => xs.getD k .non)) = H7 at s7 dT ⊢
          have s57 := s6.trans s7
          have ul : us.length ≤ 1000 := by
            rw [hus.length, List.length_map]
            have h1 := List.length_filter_le (hitF n parts) (((cmb i 0 xs.length).take j).map (pickL parts))
            rw [List.length_map, List.length_take] at h1
            omega
          have tk : (((cmb i 0 xs.length).take (j + 1)).map (pickL parts)).filter (hitF n parts) = (((cmb i 0 xs.length).take j).map (pickL parts)).filter (hitF n parts) ++ if hitF n parts (pickL parts ix) = true then [pickL parts ix] else [] := by
            rw [List.take_add_one, hj, List.map_append, List.filter_append]
            congr 1
            by_cases z : hitF n parts (pickL parts ix) = true
            · rw [if_pos z]
              exact List.filter_cons_of_pos z
            · rw [if_neg z]
              exact List.filter_cons_of_neg z
          refine ⟨rfl, ?_⟩
          refine ⟨_, rfl, _, rfl, R, .ref Tp, zs, RR, pickL parts ix, rfl, s57 _ _ hR5, hzs5.ext (.of s57), dT, R5, fun rs hrs => by have := in5 rs hrs; omega, fun H8 s8 => ⟨_, rfl, ?_⟩⟩
          rw [hB]
          have s58 := s57.trans s8
          have s68 := s7.trans s8
          have hD8 := s68 _ _ hD
          by_cases z : hitF n parts (pickL parts ix) = true
          · rw [if_pos z] at tk
            dsimp only
            rw [if_pos z]
            have ep := Ext.put (ys := us ++ [.ref Tp]) hD8
            refine ⟨_, rfl, us, hD8, sz_small (by omega), us ++ [.ref Tp], Same.put nD s58, upd_same, ?_⟩
            rw [tk, List.map_append]
            exact ((hus.ext (.of s68)).ext ep).snoc ((dT.ext (.of s8)).ext ep)
          · rw [if_neg z, List.append_nil] at tk
            dsimp only
            rw [if_neg z]
            exact ⟨us, s58, hD8, by rw [tk]; exact hus.ext (.of s68)⟩
        · rintro H6 ⟨us, s6, hD, hus⟩
          rw [List.take_length, xl, el] at hus
          try dsimp only [tNext, tSeq, tAsg, gName, List.set_cons_succ, List.set_cons_zero]
          generalize hS : (lotsR i parts).filter (hitF n parts) = S at hus
          cases S with
          | nil =>
            cases hus
            refine ⟨_, rfl, false, .inl ⟨_, SqL.of hD, rfl⟩, iteF ⟨_, _, rfl, s5.trans s6, fun k hk q hq => ?_⟩⟩
            by_cases z : k = i
            · subst z
              cases h : hitF n parts q with
              | false => rfl
              | true =>
                have : q ∈ (lotsR k parts).filter (hitF n parts) := List.mem_filter.mpr ⟨hq, h⟩
                rw [hS] at this
                cases this
            · exact hno k (by omega) q hq
          | cons q0 S =>
            have g : GivenD n parts i (q0 :: S) := ⟨hi, hno, hS.symm, fun z => by cases z⟩
            obtain ⟨y, us', rfl⟩ : ∃ y us', us = y :: us' := by
              cases us with
              | nil => cases hus
              | cons y us' => exact ⟨y, us', rfl⟩
            refine ⟨_, rfl, true, .inl ⟨_, SqL.of hD, rfl⟩, iteT ?_⟩
            refine ⟨_, rfl, ?_⟩
            dsimp only [tNil]
            refine sort_lots (SqL.of hD) hus (g.up up) fun p np => ?_
            have s7 : Same H6 (upd H6 p (.lst (y :: us'))) := same_new np
            have s06 := s1.trans (s2.trans (s4.trans (s5.trans s6)))
            have npH : H p = none := by
              cases z : H p with
              | none => rfl
              | some o =>
                have := s06 _ _ z
                rw [np] at this
                cases this
            exact q p _ i (q0 :: S) npH (s06.trans s7) ⟨_, upd_same, hus.ext (.of s7)⟩ g
      · rintro σ H5 ⟨y5, y6, rfl, s5, hno⟩
        have h1 := hno parts.length (by omega) parts ((mem_lots up).mpr ⟨rfl, fun p hp => hp, up⟩)
        have h2 : hitF n parts parts = true := (hitF_iff sub).mpr fun m g c x => by
          have := x.mem 0 (by have := x.n3; omega)
          exact (mem_lessP.mp this).2 (mem_lessP.mp this).1
        rw [h1] at h2
        cases h2
end
end Fm
namespace Fm
open PySem PySem.Spec PyProof.Rows L2
section
variable {P : Program} {w : World} {K : PySem.W.Frag} {mg : Str → Option Value} {base : Heap}
def lastLt (row : List (List Int)) (p : List Int) : Bool := decide (row = []) || decide (row.getLastD [] < p)
def tupF (ps : List (List Int)) (row : List (List Int)) : List (List (List Int)) := (ps.filter (lastLt row)).map fun p => row ++ [p]
def tupsT (ps : List (List Int)) : Nat → List (List (List Int))
  | 0 => [[]]
  | m + 1 => (tupsT ps m).flatMap (tupF ps)
theorem pw_snoc {row : List (List Int)} {p : List Int} (pw : row.Pairwise (· < ·)) : (row ++ [p]).Pairwise (· < ·) ↔ lastLt row p = true := by
  unfold lastLt
  rw [List.pairwise_append, Bool.or_eq_true, decide_eq_true_eq, decide_eq_true_eq]
  constructor
  · rintro ⟨_, _, h⟩
    cases row with
    | nil => exact .inl rfl
    | cons q r =>
      refine .inr (h _ ?_ p (List.mem_singleton.mpr rfl))
      rw [List.getLastD_eq_getLast?, List.getLast?_eq_getLast (List.cons_ne_nil q r)]
      exact List.getLast_mem _
  · intro h
    refine ⟨pw, List.pairwise_singleton _ _, fun a ha b hb => ?_⟩
    rw [List.mem_singleton.mp hb]
    rcases h with rfl | h
    · cases ha
    · have hne : row ≠ [] := List.ne_nil_of_mem ha
      rw [List.getLastD_eq_getLast?, List.getLast?_eq_getLast hne] at h
      have h : row.getLast hne < p := h
      have e := List.dropLast_concat_getLast hne
      by_cases z : a = row.getLast hne
      · rw [z]
        exact h
      · rw [← e] at ha pw
        rcases List.mem_append.mp ha with y | y
        · exact List.lt_trans ((List.pairwise_append.mp pw).2.2 a y _ (List.mem_singleton.mpr rfl)) h
        · exact absurd (List.mem_singleton.mp y) z
theorem mem_tups {ps : List (List Int)} : ∀ {m : Nat} {row : List (List Int)}, row ∈ tupsT ps m ↔ row.length = m ∧ (∀ p ∈ row, p ∈ ps) ∧ row.Pairwise (· < ·)
  | 0, row => by
    show row ∈ [[]] ↔ _
    rw [List.mem_singleton]
    constructor
    · rintro rfl
      exact ⟨rfl, (fun p hp => nomatch hp), List.Pairwise.nil⟩
    · rintro ⟨h, _⟩
      exact List.eq_nil_of_length_eq_zero h
  | m + 1, row => by
    show row ∈ (tupsT ps m).flatMap (tupF ps) ↔ _
    rw [List.mem_flatMap]
    constructor
    · rintro ⟨r, hr, h⟩
      obtain ⟨h1, h2, h3⟩ := mem_tups.mp hr
      unfold tupF at h
      obtain ⟨p, hp, rfl⟩ := List.mem_map.mp h
      obtain ⟨p1, p2⟩ := List.mem_filter.mp hp
      refine ⟨by rw [List.length_append, h1]; rfl, fun q hq => ?_, (pw_snoc h3).mpr p2⟩
      rcases List.mem_append.mp hq with z | z
      · exact h2 q z
      · rw [List.mem_singleton.mp z]
        exact p1
    · rintro ⟨h1, h2, h3⟩
      obtain ⟨r, p, rfl⟩ : ∃ r p, row = r ++ [p] := by
        refine ⟨row.dropLast, row.getLast (fun z => by rw [z] at h1; cases h1), (List.dropLast_concat_getLast _).symm⟩
      have pr := (List.pairwise_append.mp h3).1
      refine ⟨r, mem_tups.mpr ⟨by rw [List.length_append] at h1; exact Nat.succ.inj h1, fun q hq => h2 q (List.mem_append_left _ hq), pr⟩, ?_⟩
      unfold tupF
      exact List.mem_map.mpr ⟨p, List.mem_filter.mpr ⟨h2 p (List.mem_append_right _ (List.mem_singleton.mpr rfl)), (pw_snoc pr).mp h3⟩, rfl⟩
theorem lt_app : ∀ {a b : List (List Int)}, a.length = b.length → a < b → ∀ x y, a ++ x < b ++ y
  | [], [], _, h, _, _ => absurd h (ltl_irr _)
  | p :: a, q :: b, hl, h, x, y => by
    rw [List.cons_lt_cons_iff] at h
    show p :: (a ++ x) < q :: (b ++ y)
    rw [List.cons_lt_cons_iff]
    rcases h with h | ⟨h1, h2⟩
    · exact .inl h
    · exact .inr ⟨h1, lt_app (Nat.succ.inj hl) h2 x y⟩
  | [], _ :: _, hl, _, _, _ => by cases hl
  | _ :: _, [], hl, _, _, _ => by cases hl
theorem lt_snoc : ∀ (r : List (List Int)) {p q : List Int}, p < q → r ++ [p] < r ++ [q]
  | [], p, q, h => by
    show [p] < [q]
    rw [List.cons_lt_cons_iff]
    exact .inl h
  | a :: r, p, q, h => by
    show a :: (r ++ [p]) < a :: (r ++ [q])
    rw [List.cons_lt_cons_iff]
    exact .inr ⟨rfl, lt_snoc r h⟩
theorem tups_up {ps : List (List Int)} (up : ps.Pairwise (· < ·)) : ∀ m, (tupsT ps m).Pairwise (· < ·)
  | 0 => List.pairwise_singleton _ _
  | m + 1 => by
    have ih := tups_up up m
    have hl : ∀ r ∈ tupsT ps m, r.length = m := fun r hr => (mem_tups.mp hr).1
    show ((tupsT ps m).flatMap (tupF ps)).Pairwise (· < ·)
    generalize tupsT ps m = L at ih hl
    induction L with
    | nil => exact .nil
    | cons r L ih2 =>
      rw [List.pairwise_cons] at ih
      rw [List.flatMap_cons]
      refine List.pairwise_append.mpr ⟨?_, ih2 ih.2 fun r hr => hl r (List.mem_cons_of_mem _ hr), fun a ha b hb => ?_⟩
      · unfold tupF
        rw [List.pairwise_map]
        exact (up.sublist List.filter_sublist).imp fun {p q} h => lt_snoc r h
      · obtain ⟨r', hr', hb⟩ := List.mem_flatMap.mp hb
        unfold tupF at ha hb
        obtain ⟨p, _, rfl⟩ := List.mem_map.mp ha
        obtain ⟨q, _, rfl⟩ := List.mem_map.mp hb
        exact lt_app (by rw [hl r (List.mem_cons_self ..), hl r' (List.mem_cons_of_mem _ hr')]) (ih.1 r' hr') _ _
theorem tups_lots {ps : List (List Int)} (up : ps.Pairwise (· < ·)) (m : Nat) : tupsT ps m = lotsR m ps := sorted_ext (tups_up up m) (lots_up up m) fun x => by rw [mem_tups, mem_lots up]
theorem lots_le {ps : List (List Int)} (l12 : ps.length ≤ 12) (m : Nat) (hm : m ≤ 12) : (lotsR m ps).length ≤ 1000 := by
  have := lots_pick ps ps.length m 0 (Nat.zero_add _)
  rw [List.drop_zero] at this
  rw [← this, List.length_map]
  exact cmb_le12 l12 hm
def spTups (K : PySem.W.Frag) : Sp := fun vs H Q _ => ∃ (a : Addr) (m : Nat) (xs : List V) (ps : List (List Int)), vs = [.ref a, .int m] ∧ H a = some (.lst xs) ∧ DhAll K H xs (ps.map ctD) ∧ ps.length ≤ 12 ∧ m ≤ 12 ∧ ps.Pairwise (· < ·) ∧
  ∀ d H', H d = none → Same H H' → LotsAt K H' d (lotsR m ps) → Q (.ref d) H'
theorem ok_law_tuples (T : Txt K mg) : FnOk P w K mg base CX0 1 T.f_law_tuples T.d_law_tuples ["some", "many"] (spTups K) := by
  refine T.F_law_tuples.ok sc_law_tuples (fun vs H Q E h => ?_) (fun cdv A outer s H vs Q E hr h => ?_)
  · obtain ⟨_, _, _, _, rfl, _⟩ := h
    rfl
  · obtain ⟨a, m, xs, ps, rfl, ha, hx, l12, m12, up, q⟩ := h
    have hxl : xs.length = ps.length := by rw [hx.length, List.length_map]
    have tl : ∀ j, j ≤ 12 → (tupsT ps j).length ≤ 1000 := fun j hj => by rw [tups_lots up]; exact lots_le l12 j hj
    refine ⟨_, (pss_cons (ps_set (i := 2) sc_law_tuples.nd rfl (.inl rfl) (pe_lst (pa_cons (pe_tup pa_nil) pa_nil)))
      (pss_cons (ps_for PassesOwn.never rfl (pi_range1 (by rfl) T.z_range (pa_cons (pv 1) pa_nil)) (pg_name (i := 3) sc_law_tuples.nd rfl (.inl rfl)) (pss_cons (ps_set (i := 4) sc_law_tuples.nd rfl (.inl rfl) (pe_lst pa_nil))
      (pss_cons (ps_for PassesOwn.never rfl (pi_listK K (pv 2)) (pg_name (i := 5) sc_law_tuples.nd rfl (.inr rfl)) (pss_one (ps_expr (pe_bm PySem.F.plainAttrs_list PySem.F.slot_list_extend PySem.F.type_list_extend mt_extend (pv 4) (pa_cons (pe_lc (own := [("pattern", 6)]) rfl sc_law_tuples.nd (pi_listK K (pv 0)) (blkOk_by (N := N_law_tuples) (sc := defScope s_law_tuples) (by decide +kernel)) (fun _ _ _ _ _ => (pg_name (i := 6) sc_law_tuples.nd rfl (.inl rfl))) (fun _ _ _ _ _ => (pts_one (PW.pt (pw_or (pt_cmpR (op_eqK K hr.units) (pv 5) (pe_tup pa_nil) (nomark _)) (pw_or1 (pt_cmpR (op_gtTK (K := K) (room65 hr)) (pv 6) (pe_ix (ix_tupK K) (pv 5) (pe_un un_neg pe_int) (fun _ _ => rfl)) (nomark _))))))) (fun _ _ _ _ _ => (pe_op (op_catK K) (pv 5) (pe_tup (pa_cons (pv 6) pa_nil))))) pa_nil)))))
      (pss_one (ps_set (i := 2) sc_law_tuples.nd rfl (.inl rfl) (pv 4))))))
      (pss_one (ps_ret (pv 2))))), ?_⟩
    have e0 : L2.start N_law_tuples [V.ref a, V.int m] = [some (.ref a), some (.int m), none, none, none, none, none] := rfl
    rw [e0]
    refine ⟨Nat.zero_le _, fun t0 nt0 => ⟨by show 1 ≤ sizeLine; decide, fun r0 nr0 => ?_⟩⟩
    have s1 : Same H (upd (upd H t0 (.tup [])) r0 (.lst [.ref t0])) := (same_new nt0).trans (same_new nr0)
    have hr0 : (upd (upd H t0 (.tup [])) r0 (.lst [.ref t0])) r0 = some (.lst [.ref t0]) := upd_same
    have ht0 : SqT K (upd (upd H t0 (.tup [])) r0 (.lst [.ref t0])) t0 [] := (Ext.of (same_new nr0)).sqT (SqT.of upd_same)
    have nrH : H r0 = none := by
      cases z : H r0 with
      | none => rfl
      | some o =>
        have := (same_new (o := HO.tup []) nt0) _ _ z
        rw [nr0] at this
        cases this
    generalize upd (upd H t0 (.tup [])) r0 (.lst [.ref t0]) = H1 at s1 hr0 ht0 ⊢
    try dsimp only [tNext, tSeq, tAsg, gName, List.set_cons_succ, List.set_cons_zero]
    refine ⟨_, rfl, m, rfl, by omega, by omega, for_range (lo := 0) (n := ((m : Nat) : Int).toNat) (fun j σ H' => ∃ (y3 y4 y5 : Option V) (b : Addr) (ys : List V), σ = [some (.ref a), some (.int m), some (.ref b), y3, y4, y5, none] ∧ Same H H' ∧ H b = none ∧ H' b = some (.lst ys) ∧ DhAll K H' ys ((tupsT ps j).map patsD))
      ⟨none, none, none, r0, _, rfl, s1, nrH, hr0, .cons (.tup ht0 .nil) .nil⟩ ?_ ?_⟩
    · rintro j σ H2 hj ⟨y3, y4, y5, b, ys, rfl, s2, nb, hb, hys⟩
      have hjm : j < m := by omega
      have yl : ys.length = (tupsT ps j).length := by rw [hys.length, List.length_map]
      try dsimp only [tNext, tSeq, tAsg, gName, List.set_cons_succ, List.set_cons_zero]
      refine ⟨Nat.zero_le _, fun g ng => ?_⟩
      have s3 : Same H2 (upd H2 g (.lst [])) := same_new ng
      have hg : (upd H2 g (.lst [])) g = some (.lst []) := upd_same
      have hb3 := s3 _ _ hb
      generalize upd H2 g (.lst []) = H3 at s3 hg hb3 ⊢
      have ngH : H g = none := by
        cases z : H g with
        | none => rfl
        | some o =>
          have := s2 _ _ z
          rw [ng] at this
          cases this
      try dsimp only [tNext, tSeq, tAsg, gName, List.set_cons_succ, List.set_cons_zero]
      refine ⟨_, rfl, b, rfl, ⟨_, SqL.of hb3⟩, for_list (K := K) (xs := ys) (fun i σ H' => ∃ (y5 : Option V) (zs : List V), σ = [some (.ref a), some (.int m), some (.ref b), some (.int (0 + (j : Int))), some (.ref g), y5, none] ∧ Same H2 H' ∧ H' g = some (.lst zs) ∧ DhAll K H' zs ((((tupsT ps j).take i).flatMap (tupF ps)).map patsD))
        ⟨y5, [], rfl, s3, hg, .nil⟩ (fun i σ H' _ ⟨_, _, _, s', _⟩ => SqL.of (s' _ _ hb)) ?_ ?_⟩
      · rintro i x σ H4 hxi ⟨y5, zs, rfl, s4, hg4, hzs⟩
        obtain ⟨d, hd, hxd⟩ := (hys.ext (.of s4)).get hxi
        obtain ⟨row, hrow, rfl⟩ := map_at hd
        have hrm := mem_tups.mp (List.mem_of_getElem? hrow)
        obtain ⟨rw0, rxs, rfl, hrw0, hrxs⟩ := hxd.tup_inv
        have rxl : rxs.length = row.length := by rw [hrxs.length, List.length_map]
        have s24 : Same H H4 := s2.trans s4
        try dsimp only [tNext, tSeq, tAsg, gName, List.set_cons_succ, List.set_cons_zero]
        refine ⟨_, rfl, .inl ⟨rfl, _, SqL.of hg4⟩, _, rfl, a, rfl, ⟨_, SqL.of (s24 _ _ ha)⟩, fun D nD => lc_list (K := K) (xs := xs) (fun k H' => Got K H4 D ((((ps.take k).filter (lastLt row)).map fun p => row ++ [p]).map patsD) H') (.zero nD) (fun k H' _ g => SqL.of (g.same _ _ (s24 _ _ ha))) ?_ ?_⟩
        · rintro k x H5 hxk gt
          obtain ⟨d, hd, hxd⟩ := (hx.ext (.of (s24.trans gt.same))).get hxk
          obtain ⟨p, hp, rfl⟩ := map_at hd
          have hrw5 := (Ext.of gt.same).sqT hrw0
          have hrx5 := hrxs.ext (.of gt.same)
          have hf := take_filter (f := lastLt row) hp
          have gl : ((((ps.take k).filter (lastLt row)).map fun p => row ++ [p]).map patsD).length ≤ 10000 := by
            rw [List.length_map, List.length_map]
            have := List.length_filter_le (lastLt row) (ps.take k)
            have := List.length_take (i := k) (l := ps)
            omega
          refine ⟨rfl, ?_⟩
          have put : ∀ H6, Same H5 H6 → lastLt row p = true → tOp (rCatA K) (tVar 5) (tTup (tCons (tVar 6) tNil)) [some (.ref a), some (.int m), some (.ref b), some (.int (0 + (j : Int))), some (.ref g), some (.ref rw0), some x] H6 fun y H7 => ∃ acc, H7 D = some (.lst acc) ∧ acc.length < sizeLine ∧ Got K H4 D ((((ps.take (k + 1)).filter (lastLt row)).map fun p => row ++ [p]).map patsD) (upd H7 D (.lst (acc ++ [y]))) := fun H6 s6 hlt => by
            rw [if_pos hlt] at hf
            refine ⟨_, rfl, _, rfl, by show 1 ≤ sizeLine; decide, fun t nt => ?_⟩
            have s7 : Same H6 (upd H6 t (.tup [x])) := same_new nt
            have s57 := s6.trans s7
            refine cat_dh (c := row.map ctD) (d := [ctD p]) (.tup ((Ext.of s57).sqT hrw5) (hrx5.ext (.of s57))) (.tup (SqT.of upd_same) (.cons (hxd.ext (.of s57)) .nil)) (by rw [List.length_map, hrm.1]; show j + 1 ≤ 1000; omega) fun v H8 s8 hv => ?_
            rw [hf, List.map_append, List.map_append]
            refine gt.put nD (s57.trans s8) ?_ gl
            have e2 : patsD (row ++ [p]) = .tup (row.map ctD ++ [ctD p]) := by
              show Dt.tup ((row ++ [p]).map ctD) = _
              rw [List.map_append]
              rfl
            rw [e2]
            exact hv
          refine ⟨_, rfl, Nat.zero_le _, fun t nt => ?_⟩
          have s6 : Same H5 (upd H5 t (.tup [])) := same_new nt
          refine ⟨.tuple (row.map ctP), .tuple [], .tup ((Ext.of s6).sqT hrw5) (dp_patsP (hrx5.ext (.of s6))), .tup (SqT.of upd_same) .nil, shaped_patsP _, rfl, ?_⟩
          rw [show PyData.eqv (.tuple (row.map ctP)) (.tuple []) = decide (row = []) from eqv_pats row []]
          refine ⟨_, rfl, ?_⟩
          by_cases er : row = []
          · rw [decide_eq_true er]
            refine iteT ?_
            dsimp only
            rw [if_pos rfl]
            exact put _ s6 (by unfold lastLt; rw [decide_eq_true er]; rfl)
          · rw [decide_eq_false er]
            refine iteF ?_
            obtain ⟨q0, hq0, hql⟩ : ∃ q0, atI rxs (-1) = some q0 ∧ Dh K H5 q0 (ctD (row.getLastD [])) := by
              have rl1 : 0 < row.length := List.length_pos_iff.mpr er
              have e := atI_prv (xs := rxs) (m := rxs.length) (k := 0) rfl (by omega)
              have e2 : ((0 : Nat) : Int) - 1 = -1 := by omega
              have e3 : prvI rxs.length 0 = row.length - 1 := by
                unfold prvI
                rw [if_pos rfl, rxl]
              rw [e2, e3] at e
              obtain ⟨pa, h1, h2⟩ := pats_at hrx5 (k := row.length - 1) (by omega)
              refine ⟨.ref pa, by rw [e, h1], ?_⟩
              have e4 : row.getD (row.length - 1) [] = row.getLastD [] := by
                rw [List.getLastD_eq_getLast?, List.getLast?_eq_getElem?, List.getD_eq_getElem?_getD]
              rw [← e4]
              exact dh_ct h2
            refine ⟨_, rfl, _, rfl, _, rfl, rw0, rxs, -1, q0, rfl, rfl, (Ext.of s6).sqT hrw5, hq0, p, row.getLastD [], dp_ct (hxd.ext (.of s6)), dp_ct (hql.ext (.of s6)), ?_⟩
            refine ⟨_, rfl, ?_⟩
            have el : lastLt row p = decide (row.getLastD [] < p) := by
              unfold lastLt
              rw [decide_eq_false er, Bool.false_or]
            rw [← el]
            dsimp only
            by_cases e : lastLt row p = true
            · rw [if_pos e]
              exact put _ s6 e
            · rw [if_neg e]
              rw [if_neg e, List.append_nil] at hf
              rw [hf]
              exact ⟨gt.same.trans s6, by
                obtain ⟨acc, h1, h2⟩ := gt.got
                exact ⟨acc, s6 _ _ h1, h2.ext (.of s6)⟩⟩
        · rintro H5 ⟨s5, acc, hD, hac⟩
          rw [hxl, List.take_length] at hac
          have hac : DhAll K H5 acc ((tupF ps row).map patsD) := hac
          have zl : zs.length ≤ 1000 := by
            rw [hzs.length, List.length_map]
            have h2 := tl (j + 1) (by omega)
            have h3 : (tupsT ps (j + 1)) = ((tupsT ps j).take i).flatMap (tupF ps) ++ ((tupsT ps j).drop i).flatMap (tupF ps) := by
              rw [← List.flatMap_append, List.take_append_drop]
              rfl
            rw [h3, List.length_append] at h2
            omega
          have al : acc.length ≤ 12 := by
            rw [hac.length, List.length_map]
            unfold tupF
            rw [List.length_map]
            have := List.length_filter_le (lastLt row) ps
            omega
          have hg5 := s5 _ _ hg4
          refine ⟨g, D, zs, acc, rfl, rfl, hg5, hD, Nat.le_of_lt (sz_small (by omega)), ?_⟩
          have ep := Ext.put (ys := zs ++ acc) hg5
          refine ⟨_, zs ++ acc, rfl, Same.put ng (s4.trans s5), upd_same, ?_⟩
          rw [take_flat hrow, List.map_append]
          exact (((hzs.ext (.of s5)).ext ep).append (hac.ext ep))
      · rintro σ H4 ⟨y5, zs, rfl, s4, hg4, hzs⟩
        rw [yl, List.take_length] at hzs
        exact ⟨_, rfl, _, _, _, g, zs, rfl, s2.trans s4, ngH, hg4, hzs⟩
    · rintro σ H2 ⟨y3, y4, y5, b, ys, rfl, s2, nb, hb, hys⟩
      rw [show ((m : Nat) : Int).toNat = m by omega, tups_lots up] at hys
      exact ⟨_, rfl, q b H2 nb s2 ⟨ys, hb, hys⟩⟩
end
end Fm
namespace Fm
open PySem PySem.Spec PyProof.Rows L2
section
variable {P : Program} {w : World} {K : PySem.W.Frag} {mg : Str → Option Value} {base : Heap}
def cutTo (L p : List Int) : List Int := p.filter fun x => decide (x ∈ L)
theorem cutTo_cut1 (c : Int) (L p : List Int) : cut1 c (cutTo L p) = cutTo (cut1 c L) p := by
  unfold cut1 cutTo
  rw [List.filter_filter]
  refine List.filter_congr fun x _ => ?_
  rw [Bool.eq_iff_iff, Bool.and_eq_true, decide_eq_true_eq, decide_eq_true_eq, decide_eq_true_eq, List.mem_filter, decide_eq_true_eq]
  exact ⟨fun h => ⟨h.2, h.1⟩, fun h => ⟨h.2, h.1⟩⟩
theorem strk_cutTo (c : Int) (L : List Int) (qs : List (List Int)) : strk c (qs.map (cutTo L)) = qs.map (cutTo (cut1 c L)) := by
  unfold strk
  rw [List.map_map]
  exact List.map_congr_left fun p _ => cutTo_cut1 c L p
def FinS (qs : List (List Int)) (q : List Int) : Prop := ∃ o : List Int, o.Perm q ∧ Val (qs.map (cutTo q)) o
theorem cut1_perm {c : Int} {q : List Int} (nd : q.Nodup) (hc : c ∈ q) : (c :: cut1 c q).Perm q := by
  refine (List.perm_ext_iff_of_nodup (List.nodup_cons.mpr ⟨fun h => (mem_cut1.mp h).2 rfl, cut1_nodup nd⟩) nd).mpr fun x => ?_
  rw [List.mem_cons, mem_cut1]
  by_cases e : x = c
  · rw [e]
    exact ⟨fun _ => hc, fun _ => .inl rfl⟩
  · exact ⟨fun h => h.elim (fun z => absurd z e) fun z => z.1, fun h => .inr ⟨h, e⟩⟩
theorem FinS.back {qs : List (List Int)} {q : List Int} {c : Int} (nd : q.Nodup) (hc : c ∈ q) (hn : Nest c (qs.map (cutTo q))) (h : FinS qs (cut1 c q)) : FinS qs q := by
  obtain ⟨o, ho, hv⟩ := h
  refine ⟨c :: o, (List.Perm.cons c ho).trans (cut1_perm nd hc), hn, ?_⟩
  rw [strk_cutTo]
  exact hv
theorem finS_nil (qs : List (List Int)) : FinS qs [] := ⟨[], List.Perm.refl _, True.intro⟩
theorem finS_whole {n : Nat} {qs : List (List Int)} (hq : ∀ p ∈ qs, Asc n (-1) p) : (ords n qs (rgI n)).head?.isSome = true ↔ FinS qs (rgI n) := by
  have e : qs.map (cutTo (rgI n)) = qs := by
    refine (List.map_congr_left fun p hp => ?_).trans (List.map_id qs)
    exact List.filter_eq_self.mpr fun x hx => decide_eq_true (mem_rgI.mpr (by have := (hq p hp).mem x hx; omega))
  unfold FinS
  rw [e]
  constructor
  · intro h
    cases z : ords n qs (rgI n) with
    | nil => rw [z] at h; cases h
    | cons o r =>
      exact ⟨o, (mem_ords (rgI_len n) (rgI_nodup n)).mp (by rw [z]; exact List.mem_cons_self ..)⟩
  · rintro ⟨o, h1, h2⟩
    have := (mem_ords (rgI_len n) (rgI_nodup n)).mpr ⟨h1, h2⟩
    cases z : ords n qs (rgI n) with
    | nil => rw [z] at this; cases this
    | cons o r => rfl
theorem asc_cut1 {n : Int} {l : Int} {p : List Int} (c : Int) (h : Asc n l p) : Asc n l (cut1 c p) := asc_of_lt ((asc_lt h).sublist List.filter_sublist) fun x hx => h.mem x (mem_cut1.mp hx).1
structure InvD (n : Nat) (qs : List (List Int)) (P M keys : List (List Int)) : Prop where
  perm : keys.Perm (P ++ M)
  nd : keys.Nodup
  asc : ∀ q ∈ keys, Asc n (-1) q ∧ (FinS qs q → FinS qs (rgI n))
  whole : rgI n ∈ keys
def DoneD (qs : List (List Int)) (D keys : List (List Int)) : Prop := ∀ q ∈ D, q ≠ [] ∧ ∀ c ∈ q, Nest c (qs.map (cutTo q)) → cut1 c q ∈ keys
theorem DoneD.mono {qs D keys keys' : List (List Int)} (h : DoneD qs D keys) (s : ∀ q ∈ keys, q ∈ keys') : DoneD qs D keys' := fun q hq => ⟨(h q hq).1, fun c hc hn => s _ ((h q hq).2 c hc hn)⟩
theorem InvD.push {n : Nat} {qs P M keys : List (List Int)} (x : InvD n qs P M keys) {q : List Int} {c : Int} (hq : q ∈ P) (hc : c ∈ q) (hn : Nest c (qs.map (cutTo q))) (hk : cut1 c q ∉ keys) : InvD n qs P (M ++ [cut1 c q]) (keys ++ [cut1 c q]) := by
  have qk : q ∈ keys := x.perm.mem_iff.mpr (List.mem_append_left _ hq)
  obtain ⟨a1, a2⟩ := x.asc q qk
  refine ⟨?_, List.nodup_append.mpr ⟨x.nd, by simp, fun y hy z hz e => ?_⟩, fun z hz => ?_, List.mem_append_left _ x.whole⟩
  · rw [← List.append_assoc]
    exact x.perm.append_right _
  · rw [e, List.mem_singleton.mp hz] at hy
    exact hk hy
  · rcases List.mem_append.mp hz with y | y
    · exact x.asc z y
    · rw [List.mem_singleton.mp y]
      exact ⟨asc_cut1 c a1, fun f => a2 (f.back (asc_nodup5 a1) hc hn)⟩
theorem InvD.pop {n : Nat} {qs P M keys : List (List Int)} {q : List Int} (x : InvD n qs P (M ++ [q]) keys) : InvD n qs (q :: P) M keys := by
  refine ⟨x.perm.trans ?_, x.nd, x.asc, x.whole⟩
  rw [← List.append_assoc]
  exact List.perm_append_comm.trans (List.Perm.refl _)
theorem InvD.few {n : Nat} {qs P M keys : List (List Int)} (x : InvD n qs P M keys) (n5 : n ≤ 5) : keys.length ≤ 32 := by
  have h := nodup_len keys (patsOf n) x.nd fun y hy => mem_pats.mpr (x.asc y hy).1
  rw [pats_len] at h
  have h2 : 2 ^ n ≤ 2 ^ 5 := Nat.pow_le_pow_right (by decide) n5
  have h3 : 2 ^ 5 = 32 := by decide
  omega
theorem done_no {n : Nat} {qs P keys : List (List Int)} (x : InvD n qs P [] keys) (d : DoneD qs P keys) : ¬ FinS qs (rgI n) := by
  have mem : ∀ q, q ∈ keys ↔ q ∈ P := fun q => by
    rw [x.perm.mem_iff, List.append_nil]
  have key : ∀ (o q : List Int), q ∈ P → o.Perm q → Val (qs.map (cutTo q)) o → False := fun o => by
    induction o with
    | nil =>
      intro q hq hp _
      exact (d q hq).1 hp.symm.eq_nil
    | cons c o ih =>
      intro q hq hp hv
      have nd := asc_nodup5 (x.asc q ((mem q).mpr hq)).1
      have hc : c ∈ q := hp.mem_iff.mp (List.mem_cons_self ..)
      have h1 := (mem _).mp ((d q hq).2 c hc hv.1)
      refine ih (cut1 c q) h1 ?_ ?_
      · exact List.Perm.cons_inv (hp.trans (cut1_perm nd hc).symm)
      · have := hv.2
        rwa [strk_cutTo] at this
  rintro ⟨o, h1, h2⟩
  exact key o _ ((mem _).mp x.whole) h1 h2
theorem findT_mem {L : TupL} {q : List Int} : (findT L q).isSome = decide (q ∈ L.map (·.2.1)) := by
  unfold findT
  rw [Option.isSome_map, Bool.eq_iff_iff, List.find?_isSome, decide_eq_true_eq, List.mem_map]
  simp only [decide_eq_true_eq]
/-- a dict and a list that change; all else stays -/
def Kw (w dk : Addr) (H H' : Hp) : Prop := ∀ b o, b ≠ w → b ≠ dk → H b = some o → H' b = some o
theorem Kw.of {w dk : Addr} {H H' : Hp} (s : Same H H') : Kw w dk H H' := fun b o _ _ e => s b o e
theorem Kw.trans {w dk : Addr} {H H1 H2 : Hp} (x : Kw w dk H H1) (y : Kw w dk H1 H2) : Kw w dk H H2 := fun b o h1 h2 e => y b o h1 h2 (x b o h1 h2 e)
theorem Kw.upw {w dk : Addr} {H : Hp} {o : HO} : Kw w dk H (upd H w o) := fun b u h1 _ e => by rw [upd_ne h1]; exact e
theorem Kw.upd {w dk : Addr} {H : Hp} {o : HO} : Kw w dk H (L2.upd H dk o) := fun b u _ h2 e => by rw [upd_ne h2]; exact e
structure StAt (K : PySem.W.Frag) (P : Program) (ww : World) (w dk : Addr) (M : List (Addr × List Int)) (L : TupL) (H : Hp) : Prop where
  hw : H w = some (.lst (M.map fun m => V.ref m.1))
  hd : H dk = some (DTO P ww dk (ValF L))
  hM : ∀ m ∈ M, SqT K H m.1 (m.2.map V.int)
  hL : KeysT K H L
theorem Kw.sqT {w dk : Addr} {H H' : Hp} (k : Kw w dk H H') {ws : List V} {P : Program} {ww : World} {L : TupL} (hw : H w = some (.lst ws)) (hd : H dk = some (DTO P ww dk (ValF L))) {b : Addr} {xs : List V} (h : SqT K H b xs) : SqT K H' b xs := by
  rcases h with (h | ⟨o, h⟩) | h
  · exact .inl (.inl (k b _ (fun e => by rw [e, hw] at h; cases h) (fun e => by rw [e, hd] at h; cases h) h))
  · exact .inl (.inr ⟨o, k b _ (fun e => by rw [e, hw] at h; cases h) (fun e => by rw [e, hd] at h; cases h) h⟩)
  · exact .inr h
theorem StAt.same {w dk : Addr} {H H' : Hp} {P : Program} {ww : World} {M : List (Addr × List Int)} {L : TupL} (x : StAt K P ww w dk M L H) (s : Same H H') : StAt K P ww w dk M L H' := ⟨s _ _ x.hw, s _ _ x.hd, fun m hm => (Ext.of s).sqT (x.hM m hm), fun p hp => (Ext.of s).sqT (x.hL p hp)⟩
theorem StAt.put {w dk : Addr} {H : Hp} {P : Program} {ww : World} {M : List (Addr × List Int)} {L L' : TupL} (x : StAt K P ww w dk M L H) (ne : w ≠ dk) (hL : ∀ p ∈ L', SqT K H p.1 (p.2.1.map V.int)) : StAt K P ww w dk M L' (upd H dk (DTO P ww dk (ValF L'))) := by
  have k : Kw w dk H (upd H dk (DTO P ww dk (ValF L'))) := Kw.upd
  exact ⟨by rw [upd_ne ne]; exact x.hw, upd_same, fun m hm => k.sqT x.hw x.hd (x.hM m hm), fun p hp => k.sqT x.hw x.hd (hL p hp)⟩
theorem StAt.row {w dk : Addr} {H : Hp} {P : Program} {ww : World} {M M' : List (Addr × List Int)} {L : TupL} (x : StAt K P ww w dk M L H) (ne : w ≠ dk) (hM : ∀ m ∈ M', SqT K H m.1 (m.2.map V.int)) : StAt K P ww w dk M' L (upd H w (.lst (M'.map fun m => V.ref m.1))) := by
  have k : Kw w dk H (upd H w (.lst (M'.map fun m => V.ref m.1))) := Kw.upw
  exact ⟨upd_same, by rw [upd_ne ne.symm]; exact x.hd, fun m hm => k.sqT x.hw x.hd (hM m hm), fun p hp => k.sqT x.hw x.hd (x.hL p hp)⟩
def spStr25 (K : PySem.W.Frag) : Sp := fun vs H Q _ => ∃ (n : Nat) (a : Addr) (qs : List (List Int)), vs = [.int n, .ref a] ∧ LstP K H a qs ∧ 1 ≤ n ∧ n ≤ 5 ∧ qs.length ≤ 12 ∧ (∀ p ∈ qs, Asc n (-1) p) ∧ ∀ H', Same H H' → Q (.bl (ords n qs (rgI n)).head?.isSome) H'
theorem ok_law_can_be_struck (T : Txt K mg) : FnOk P w K mg base CX0 3 T.f_law_can_be_struck T.d_law_can_be_struck ["columns", "some"] (spStr25 K) := by
  refine T.F_law_can_be_struck.ok sc_law_can_be_struck (fun vs H Q E h => ?_) (fun cdv A outer s H vs Q E hr h => ?_)
  · obtain ⟨_, _, _, rfl, _⟩ := h
    rfl
  · obtain ⟨n, a, qs, rfl, ⟨xs, ha, hx⟩, n1, n5, l12, hq, q⟩ := h
    refine ⟨_, (pss_cons (ps_set (i := 2) sc_law_can_be_struck.nd rfl (.inl rfl) (pe_lst (pa_cons (pe_tupRg rfl (by rfl) T.z_tuple (prg_1 (by rfl) T.z_range (pv 0))) pa_nil)))
      (pss_cons (ps_set (i := 3) sc_law_can_be_struck.nd rfl (.inl rfl) (pe_dispV (K := K) (P := P) (w := w) hr.units (hl := (show (1 : Nat) ≤ 15 by decide)) (pe_ix (ix_listK K) (pv 2) pe_int (fun _ _ => rfl)) pe_bl))
      (pss_cons (ps_for PassesOwn.never rfl (pi_range1 (by rfl) T.z_range (pa_cons pe_int pa_nil)) (pg_name (i := 4) sc_law_can_be_struck.nd rfl (.inl rfl)) (pss_one (ps_if (pt_cmpR op_gt (pe_callB (call_lenK K) (by rfl) T.z_len PySem.boot_len (pa_cons (pv 2) pa_nil)) pe_int (nomark _)) (pss_cons (ps_set (i := 5) sc_law_can_be_struck.nd rfl (.inr rfl) (pe_bm0 PySem.F.plainAttrs_list PySem.F.slot_list_pop PySem.F.type_list_pop mt_pop (pv 2)))
      (pss_cons (ps_if (pt_cmpR (op_eqK K hr.units) (pv 5) (pe_tup pa_nil) (nomark _)) (pss_one (ps_ret pe_bl)) pss_nil)
      (pss_cons (ps_setLc (i := 6) (own := [("pattern", 9)]) rfl sc_law_can_be_struck.nd rfl rfl (sw_true rfl rfl rfl (by decide +kernel)) (pi_listK K (pv 1)) (blkOk_by (N := N_law_can_be_struck) (sc := defScope s_law_can_be_struck) (by decide +kernel)) (fun _ _ _ _ _ => (pg_name (i := 9) sc_law_can_be_struck.nd rfl (.inl rfl))) (fun _ _ _ _ _ => pts_nil) (fun _ _ _ _ _ => (pe_callTy (call_tupleK K) (by rfl) T.z_tuple (by decide +kernel) (pa_cons (pe_lc (own := [("c", 7)]) rfl sc_law_can_be_struck.nd (pi_tupK K (pv 9)) (blkOk_by (N := N_law_can_be_struck) (sc := { kind := .function, names := [(".0", .local), ("pattern", .local), ("tuple", .globalImplicit), ("left", .cell)], isGenerator := false, isCoroutine := false }) (by decide +kernel)) (fun _ _ _ _ _ => (pg_name (i := 7) sc_law_can_be_struck.nd rfl (.inl rfl))) (fun _ _ _ _ _ => (pts_one (pt_cmpR (op_inT (K := K) (room65 hr)) (pv 7) (pv 5) (by rfl)))) (fun _ _ _ _ _ => (pv 7))) pa_nil))))
      (pss_one (ps_for PassesOwn.never rfl (pi_tupK K (pv 5)) (pg_name (i := 7) sc_law_can_be_struck.nd rfl (.inr rfl)) (pss_cons (ps_set (i := 8) sc_law_can_be_struck.nd rfl (.inl rfl) (pe_callTy (call_tupleK K) (by rfl) T.z_tuple (by decide +kernel) (pa_cons (pe_lc (own := [("other", 10)]) rfl sc_law_can_be_struck.nd (pi_tupK K (pv 5)) (blkOk_by (N := N_law_can_be_struck) (sc := defScope s_law_can_be_struck) (by decide +kernel)) (fun _ _ _ _ _ => (pg_name (i := 10) sc_law_can_be_struck.nd rfl (.inl rfl))) (fun _ _ _ _ _ => (pts_one (pt_cmpR op_ne (pv 10) (pv 7) (nomark _)))) (fun _ _ _ _ _ => (pv 10))) pa_nil)))
      (pss_one (ps_if (PW.pt (pw_and (pt_cmpR (op_notinKT (K := K) (P := P) (w := w) hr.units) (pv 8) (pv 3) (by rfl)) (pw_and1 (pt_val (pe_call (ok_law_is_nest T) hr (by rfl) T.g_law_is_nest T.F_law_is_nest.kp T.b_law_is_nest .nil pass0 (pa_cons (pv 7) (pa_cons (pv 6) pa_nil))))))) (pss_cons (ps_dputT (K := K) (P := P) (w := w) hr.units (pv 3) (pv 8) pe_bl rfl)
      (pss_one (ps_expr (pe_bm PySem.F.plainAttrs_list PySem.F.slot_list_append PySem.F.type_list_append mt_append (pv 2) (pa_cons (pv 8) pa_nil))))) pss_nil)))))))) pss_nil)))
      (pss_one (ps_ret pe_bl))))), ?_⟩
    have e0 : L2.start N_law_can_be_struck [V.int n, V.ref a] = [some (.int n), some (.ref a), none, none, none, none, none, none, none, none, none] := rfl
    rw [e0]
    refine ⟨_, rfl, _, rfl, RgOk.of_le (by omega) (by omega) (by omega) (by omega), fun tw ntw => ?_⟩
    rw [rgV_I]
    have s1 : Same H (upd H tw (.tup ((rgI n).map V.int))) := same_new ntw
    have htw : (upd H tw (.tup ((rgI n).map V.int))) tw = some (.tup ((rgI n).map V.int)) := upd_same
    generalize upd H tw (.tup ((rgI n).map V.int)) = H1 at s1 htw ⊢
    refine ⟨by show 1 ≤ sizeLine; decide, fun wl nw => ?_⟩
    have s2 : Same H1 (upd H1 wl (.lst [.ref tw])) := same_new nw
    have hwl : (upd H1 wl (.lst [.ref tw])) wl = some (.lst [.ref tw]) := upd_same
    have nwH : H wl = none := by
      cases z : H wl with
      | none => rfl
      | some o => have := s1 _ _ z; rw [nw] at this; cases this
    generalize upd H1 wl (.lst [.ref tw]) = H2 at s2 hwl ⊢
    try dsimp only [tNext, tSeq, tAsg, gName, List.set_cons_succ, List.set_cons_zero]
    intro dk nd
    have s3 : Same H2 (upd H2 dk (DTO P w dk (ValF []))) := same_new nd
    have hdk : (upd H2 dk (DTO P w dk (ValF []))) dk = some (DTO P w dk (ValF [])) := upd_same
    have ndH : H dk = none := by
      cases z : H dk with
      | none => rfl
      | some o => have := (s1.trans s2) _ _ z; rw [nd] at this; cases this
    have ne : wl ≠ dk := fun e => by rw [← e, hwl] at nd; cases nd
    generalize upd H2 dk (DTO P w dk (ValF [])) = H3 at s3 hdk ⊢
    have hw3 := s3 _ _ hwl
    have ht3 : SqT K H3 tw ((rgI n).map V.int) := SqT.of (s3 _ _ (s2 _ _ htw))
    refine ⟨_, rfl, wl, _, 0, _, rfl, rfl, SqL.of hw3, atI_nat (j := 0) rfl, tw, rgI n, .bl true, rfl, hdk, ht3, ?_⟩
    have st0 : StAt K P w wl dk [] [] (upd H3 wl (.lst [])) := ⟨upd_same, by rw [upd_ne ne.symm]; exact hdk, (fun m hm => nomatch hm), (fun p hp => nomatch hp)⟩
    have ht4 : SqT K (upd H3 dk (DTO P w dk (ValF [(tw, rgI n, V.bl true)]))) tw ((rgI n).map V.int) := (Kw.upd : Kw wl dk H3 _).sqT hw3 hdk ht3
    have st : StAt K P w wl dk [(tw, rgI n)] [(tw, rgI n, V.bl true)] (upd H3 dk (DTO P w dk (ValF [(tw, rgI n, V.bl true)]))) := ⟨by rw [upd_ne ne]; exact hw3, upd_same, fun m hm => by rw [List.mem_singleton.mp hm]; exact ht4, fun p hp => by rw [List.mem_singleton.mp hp]; exact ht4⟩
    have sH : Same H (upd H3 dk (DTO P w dk (ValF [(tw, rgI n, V.bl true)]))) := Same.put ndH (s1.trans (s2.trans s3))
    generalize upd H3 dk (DTO P w dk (ValF [(tw, rgI n, V.bl true)])) = H4 at st sH ⊢
    clear st0
    have inv0 : InvD n qs [] [rgI n] [rgI n] := ⟨List.Perm.refl _, by simp, fun q hq => by rw [List.mem_singleton.mp hq]; exact ⟨asc_rgI n, id⟩, List.mem_singleton.mpr rfl⟩
    try dsimp only [tNext, tSeq, tAsg, gName, List.set_cons_succ, List.set_cons_zero]
    refine ⟨_, rfl, by omega, by omega, for_range (lo := 0) (n := (40 : Int).toNat) (fun t σ H' => ∃ (y4 y5 y6 y7 y8 : Option V) (M : List (Addr × List Int)) (L : TupL) (PP : List (List Int)), σ = [some (.int n), some (.ref a), some (.ref wl), some (.ref dk), y4, y5, y6, y7, y8, none, none] ∧ Same H H' ∧ StAt K P w wl dk M L H' ∧ InvD n qs PP (M.map (·.2)) (L.map (·.2.1)) ∧ DoneD qs PP (L.map (·.2.1)) ∧ (M = [] ∨ PP.length = t))
      ⟨none, none, none, none, none, [(tw, rgI n)], [(tw, rgI n, .bl true)], [], rfl, sH, st, by exact inv0, (fun q hq => nomatch hq), .inr rfl⟩ ?_ ?_⟩
    · rintro t σ H5 ht ⟨y4, y5, y6, y7, y8, M, L, PP, rfl, s5, st, inv, dn, cnt⟩
      try dsimp only [tNext, tSeq, tAsg, gName, List.set_cons_succ, List.set_cons_zero]
      refine ⟨_, rfl, wl, _, rfl, .inl (SqL.of st.hw), _, _, rfl, rfl, _, rfl, ?_⟩
      rw [List.length_map]
      rcases List.eq_nil_or_concat M with rfl | ⟨M', m, eM⟩
      · rw [decide_eq_false (by show ¬ (0 : Int) < ((0 : Nat) : Int); decide)]
        exact iteF ⟨_, _, _, _, _, [], L, PP, rfl, s5, st, inv, dn, .inl rfl⟩
      rw [List.concat_eq_append] at eM
      subst eM
      rw [decide_eq_true (show (0 : Int) < ((M' ++ [m]).length : Nat) by rw [List.length_append]; show (0 : Int) < ((M'.length + 1 : Nat) : Int); omega)]
      refine iteT ?_
      have pc : PP.length = t := cnt.resolve_left fun z => by simp at z
      have few := inv.few n5
      have hwM : H5 wl = some (.lst ((M'.map fun m => V.ref m.1) ++ [.ref m.1])) := by
        rw [st.hw, List.map_append]
        rfl
      refine ⟨_, rfl, .inl ⟨rfl, _, SqL.of hwM⟩, wl, _, .ref m.1, rfl, rfl, hwM, ?_, ?_⟩
      · rw [List.length_append, List.getElem?_append_right (by show _ ≤ _ + 1 - 1; omega)]
        show [V.ref m.1][_ + 1 - 1 - _]? = _
        rw [Nat.add_sub_cancel, Nat.sub_self]
        rfl
      rw [List.dropLast_concat]
      have st6 := st.row (M' := M') ne fun x hx => st.hM x (List.mem_append_left _ hx)
      have hm6 : SqT K (upd H5 wl (.lst (M'.map fun m => V.ref m.1))) m.1 (m.2.map V.int) := (Kw.upw : Kw wl dk H5 _).sqT st.hw st.hd (st.hM m (List.mem_append_right _ (List.mem_singleton.mpr rfl)))
      have s6 : Same H (upd H5 wl (.lst (M'.map fun m => V.ref m.1))) := Same.put nwH s5
      generalize upd H5 wl (.lst (M'.map fun m => V.ref m.1)) = H6 at st6 hm6 s6 ⊢
      have inv6 : InvD n qs (m.2 :: PP) (M'.map (·.2)) (L.map (·.2.1)) := InvD.pop (by rw [List.map_append] at inv; exact inv)
      clear inv st hwM s5
      obtain ⟨ml, q0⟩ := m
      have hm6 : SqT K H6 ml (q0.map V.int) := hm6
      have inv6 : InvD n qs (q0 :: PP) (M'.map (·.2)) (L.map (·.2.1)) := inv6
      have q0k : q0 ∈ L.map (·.2.1) := inv6.perm.mem_iff.mpr (List.mem_append_left _ (List.mem_cons_self ..))
      obtain ⟨q0a, q0f⟩ := inv6.asc q0 q0k
      have q0l : q0.length ≤ 5 := by have := q0a.len (by omega); omega
      try dsimp only [tNext, tSeq, tAsg, gName, List.set_cons_succ, List.set_cons_zero]
      refine ⟨_, rfl, Nat.zero_le _, fun t0 nt0 => ?_⟩
      have s7 : Same H6 (upd H6 t0 (.tup [])) := same_new nt0
      refine ⟨ctP q0, ctP [], dp_ct (dh_ct ((Ext.of s7).sqT hm6)), dp_ct (dh_ct (SqT.of upd_same)), shaped_ct _, shaped_ct _, ?_⟩
      rw [eqv_ct]
      refine ⟨_, rfl, ?_⟩
      have st7 := st6.same s7
      have hm7 := (Ext.of s7).sqT hm6
      have s07 := s6.trans s7
      generalize upd H6 t0 (.tup []) = H7 at s7 st7 hm7 s07 ⊢
      by_cases e0 : q0 = []
      · rw [decide_eq_true e0]
        refine iteT ?_
        have f := (finS_whole hq).mpr (q0f (by rw [e0]; exact finS_nil qs))
        rw [← f]
        exact q H7 s07
      rw [decide_eq_false e0]
      refine iteF ?_
      try dsimp only [tNext, tSeq, tAsg, gName, List.set_cons_succ, List.set_cons_zero]
      have ha7 := s07 _ _ ha
      have hx7 := hx.ext (.of s07)
      have xl : xs.length = qs.length := by rw [hx.length, List.length_map]
      refine ⟨_, rfl, a, rfl, ⟨_, SqL.of ha7⟩, fun D nD => lc_list (K := K) (xs := xs) (fun j H' => Got K H7 D (((qs.take j).map (cutTo q0)).map ctD) H') (.zero nD) (fun j H' _ g => SqL.of (g.same _ _ ha7)) ?_ ?_⟩
      · rintro j x H8 hxj g
        obtain ⟨d, hd, hxd⟩ := (hx7.ext (.of g.same)).get hxj
        obtain ⟨p, hp, rfl⟩ := map_at hd
        obtain ⟨pa, rfl, hpa⟩ := ct_inv hxd
        have hm8 := (Ext.of g.same).sqT hm7
        have pl : p.length ≤ 5 := by have := (hq p (List.mem_of_getElem? hp)).len (by omega); omega
        refine ⟨rfl, ?_⟩
        dsimp only [tYes]
        rw [if_pos rfl]
        refine ⟨_, rfl, pa, rfl, ⟨_, hpa⟩, fun F nF => lc_tup (K := K) (xs := p.map V.int) (fun i H' => Same H8 H' ∧ H' F = some (.lst ((cutTo q0 (p.take i)).map V.int))) ⟨same_new nF, upd_same⟩ (fun i H' _ ⟨s', _⟩ => (Ext.of s').sqT hpa) ?_ ?_⟩
        · rintro i y H9 hyi ⟨s9, hF⟩
          obtain ⟨c, rfl, hc⟩ := int_at hyi
          have hf := take_filter (f := fun x => decide (x ∈ q0)) hc
          refine ⟨rfl, _, rfl, _, rfl, .int c, q0.map PyData.int, .int c, dp_ct (dh_ct ((Ext.of s9).sqT hm8)), shaped_int c, shaped_ct q0, ?_⟩
          rw [any_mem]
          refine ⟨_, rfl, ?_⟩
          by_cases e : c ∈ q0
          · rw [decide_eq_true e]
            dsimp only
            rw [if_pos rfl]
            rw [if_pos (decide_eq_true e)] at hf
            refine ⟨_, rfl, _, hF, sz_small (by
              rw [List.length_map]
              have := List.length_filter_le (fun x => decide (x ∈ q0)) (p.take i)
              have := List.length_take (i := i) (l := p)
              unfold cutTo
              omega), Same.put nF s9, ?_⟩
            rw [upd_same]
            unfold cutTo
            rw [hf, List.map_append]
            rfl
          · rw [decide_eq_false e]
            dsimp only
            rw [if_neg (by decide)]
            rw [if_neg (by rw [decide_eq_false e]; decide), List.append_nil] at hf
            refine ⟨s9, ?_⟩
            unfold cutTo
            rw [hf]
            exact hF
        · rintro H9 ⟨s9, hF⟩
          rw [List.length_map, List.take_length] at hF
          refine ⟨F, _, rfl, .inl ⟨SqL.of hF, fun tt ntt => ?_⟩⟩
          have s10 := s9.trans (same_new (o := HO.tup ((cutTo q0 p).map V.int)) ntt)
          have z := g.put nD s10 (d := ctD (cutTo q0 p)) (v := .ref tt) (dh_ct (SqT.of upd_same)) (by rw [List.length_map, List.length_map]; have := List.length_take (i := j) (l := qs); omega)
          rw [List.take_add_one, hp, List.map_append, List.map_append]
          exact z
      · rintro H8 ⟨s8, acc, hD, hac⟩
        rw [xl, List.take_length] at hac
        have st8 := st7.same s8
        have hm8 := (Ext.of s8).sqT hm7
        have Dw : D ≠ wl := fun e => by rw [e, st7.hw] at nD; cases nD
        have Dd : D ≠ dk := fun e => by rw [e, st7.hd] at nD; cases nD
        obtain ⟨N0, hN1, hN2, hN3⟩ := refs_of hac
        have now : ∀ H', Kw wl dk H8 H' → LstP K H' D (qs.map (cutTo q0)) := fun H' k => ⟨acc, k _ _ Dw Dd hD, by
          rw [← hN2, hN1]
          exact dhs_refs fun m hm => k.sqT st8.hw st8.hd (hN3 m hm)⟩
        have s08 := s07.trans s8
        refine ⟨_, rfl, ml, rfl, ⟨_, hm8⟩, for_tup (K := K) (xs := q0.map V.int) (fun i σ H' => ∃ (y7 y8 : Option V) (M : List (Addr × List Int)) (L : TupL), σ = [some (.int n), some (.ref a), some (.ref wl), some (.ref dk), some (.int (0 + (t : Int))), some (.ref ml), some (.ref D), y7, y8, none, none] ∧ Same H H' ∧ Kw wl dk H8 H' ∧ StAt K P w wl dk M L H' ∧ InvD n qs (q0 :: PP) (M.map (·.2)) (L.map (·.2.1)) ∧ DoneD qs PP (L.map (·.2.1)) ∧ ∀ c ∈ q0.take i, Nest c (qs.map (cutTo q0)) → cut1 c q0 ∈ L.map (·.2.1))
          ⟨y7, y8, M', L, rfl, s08, Kw.of (Same.refl H8), st8, inv6, dn, fun c hc => by cases hc⟩ (fun i σ H' _ ⟨_, _, _, _, _, _, k, _⟩ => k.sqT st8.hw st8.hd hm8) ?_ ?_⟩
        · rintro i x σ H9 hxi ⟨y7, y8, M, L, rfl, s9, k9, st9, inv9, dn9, dc9⟩
          obtain ⟨c, rfl, hc⟩ := int_at hxi
          have cq : c ∈ q0 := List.mem_of_getElem? hc
          have hm9 := k9.sqT st8.hw st8.hd hm8
          have tk : q0.take (i + 1) = q0.take i ++ [c] := by rw [List.take_add_one, hc]; rfl
          have few9 := inv9.few n5
          have Ll : L.length ≤ 32 := by rw [← List.length_map (f := fun p : Addr × List Int × V => p.2.1)]; exact few9
          have Ml : M.length ≤ 32 := by
            have := inv9.perm.length_eq
            rw [List.length_append, List.length_map (as := M)] at this
            omega
          try dsimp only [tNext, tSeq, tAsg, gName, List.set_cons_succ, List.set_cons_zero]
          refine ⟨_, rfl, ml, rfl, ⟨_, hm9⟩, fun F nF => lc_tup (K := K) (xs := q0.map V.int) (fun j H' => Same H9 H' ∧ H' F = some (.lst ((cut1 c (q0.take j)).map V.int))) ⟨same_new nF, upd_same⟩ (fun j H' _ ⟨s', _⟩ => (Ext.of s').sqT hm9) ?_ ?_⟩
          · rintro j y H10 hyj ⟨s10, hF⟩
            obtain ⟨b, rfl, hb⟩ := int_at hyj
            have hf := take_filter (f := fun x => decide (x ≠ c)) hb
            refine ⟨rfl, _, rfl, _, rfl, rfl, _, rfl, ?_⟩
            rw [dec_int]
            dsimp only
            by_cases e : b = c
            · rw [beq_iff_eq.mpr e]
              rw [if_neg (by simpa using e), List.append_nil] at hf
              rw [if_neg (by decide)]
              refine ⟨s10, ?_⟩
              unfold cut1
              rw [hf]
              exact hF
            · rw [show (b == c) = false from beq_eq_false_iff_ne.mpr e]
              rw [if_pos (decide_eq_true e)] at hf
              rw [if_pos (by decide)]
              refine ⟨_, rfl, _, hF, sz_small (by
                rw [List.length_map]
                have := List.length_filter_le (fun x => decide (x ≠ c)) (q0.take j)
                have := List.length_take (i := j) (l := q0)
                unfold cut1
                omega), Same.put nF s10, ?_⟩
              rw [upd_same]
              unfold cut1
              rw [hf, List.map_append]
              rfl
          · rintro H10 ⟨s10, hF⟩
            rw [List.length_map, List.take_length] at hF
            refine ⟨F, _, rfl, .inl ⟨SqL.of hF, fun tr ntr => ?_⟩⟩
            have s11 := s10.trans (same_new (o := HO.tup ((cut1 c q0).map V.int)) ntr)
            have htr : SqT K (upd H10 tr (.tup ((cut1 c q0).map V.int))) tr ((cut1 c q0).map V.int) := SqT.of upd_same
            generalize upd H10 tr (.tup ((cut1 c q0).map V.int)) = H11 at s11 htr ⊢
            have st11 := st9.same s11
            have k11 := k9.trans (Kw.of s11)
            try dsimp only [tNext, tSeq, tAsg, gName, List.set_cons_succ, List.set_cons_zero]
            refine ⟨_, rfl, _, rfl, tr, dk, cut1 c q0, L, rfl, rfl, .inl st11.hd, st11.hL, htr, _, rfl, ?_⟩
            rw [findT_mem]
            by_cases ek : cut1 c q0 ∈ L.map (·.2.1)
            · rw [decide_eq_true ek]
              refine iteF ?_
              refine iteF ⟨_, _, M, L, rfl, s9.trans s11, k11, st11, inv9, dn9, fun b hb hn => ?_⟩
              rw [tk] at hb
              rcases List.mem_append.mp hb with z | z
              · exact dc9 b z hn
              · rw [List.mem_singleton.mp z]
                exact ek
            rw [decide_eq_false ek]
            refine iteT ?_
            refine ⟨_, rfl, _, rfl, c, D, qs.map (cutTo q0), rfl, now H11 k11, by rw [List.length_map]; omega, fun p hp => ?_, fun H12 s12 => ⟨_, rfl, ?_⟩⟩
            · obtain ⟨p', hp', rfl⟩ := List.mem_map.mp hp
              have h1 := (hq p' hp').len (by omega)
              have h2 := List.length_filter_le (fun x => decide (x ∈ q0)) p'
              unfold cutTo
              omega
            have st12 := st11.same s12
            have k12 := k11.trans (Kw.of s12)
            have s9' := s9.trans (s11.trans s12)
            by_cases en : Nest c (qs.map (cutTo q0))
            · rw [decide_eq_true en]
              refine iteT ?_
              have ntr12 : SqT K H12 tr ((cut1 c q0).map V.int) := (Ext.of s12).sqT htr
              refine ⟨_, rfl, _, rfl, dk, tr, cut1 c q0, L, rfl, rfl, st12.hd, st12.hL, ntr12, by omega, ?_⟩
              have eL : storeT L tr (cut1 c q0) (.bl true) = L ++ [(tr, cut1 c q0, .bl true)] := by
                unfold storeT
                rw [findT_mem, decide_eq_false ek]
                rfl
              rw [eL]
              have st13 := st12.put ne (L' := L ++ [(tr, cut1 c q0, .bl true)]) fun p hp => by
                rcases List.mem_append.mp hp with z | z
                · exact st12.hL p z
                · rw [List.mem_singleton.mp z]
                  exact ntr12
              have k13 : Kw wl dk H8 (upd H12 dk (DTO P w dk (ValF (L ++ [(tr, cut1 c q0, .bl true)])))) := k12.trans Kw.upd
              have s13 : Same H (upd H12 dk (DTO P w dk (ValF (L ++ [(tr, cut1 c q0, .bl true)])))) := Same.put ndH s9'
              have ntr13 : SqT K (upd H12 dk (DTO P w dk (ValF (L ++ [(tr, cut1 c q0, .bl true)])))) tr ((cut1 c q0).map V.int) := (Kw.upd : Kw wl dk H12 _).sqT st12.hw st12.hd ntr12
              generalize upd H12 dk (DTO P w dk (ValF (L ++ [(tr, cut1 c q0, .bl true)]))) = H13 at st13 k13 s13 ntr13 ⊢
              refine ⟨_, rfl, .inl ⟨rfl, _, SqL.of st13.hw⟩, _, rfl, wl, _, _, rfl, rfl, st13.hw, sz_small (by rw [List.length_map]; omega), ?_⟩
              have eM : (M.map fun m => V.ref m.1) ++ [V.ref tr] = (M ++ [(tr, cut1 c q0)]).map fun m => V.ref m.1 := by
                rw [List.map_append]
                rfl
              rw [eM]
              have st14 := st13.row (M' := M ++ [(tr, cut1 c q0)]) ne fun m hm => by
                rcases List.mem_append.mp hm with z | z
                · exact st13.hM m z
                · rw [List.mem_singleton.mp z]
                  exact ntr13
              have eK : (L ++ [(tr, cut1 c q0, V.bl true)]).map (·.2.1) = L.map (·.2.1) ++ [cut1 c q0] := by rw [List.map_append]; rfl
              refine ⟨_, _, M ++ [(tr, cut1 c q0)], L ++ [(tr, cut1 c q0, .bl true)], rfl, Same.put nwH s13, k13.trans Kw.upw, st14, ?_, ?_, fun b hb hn => ?_⟩
              · rw [eK, List.map_append]
                exact inv9.push (List.mem_cons_self ..) cq en ek
              · rw [eK]
                exact dn9.mono fun z hz => List.mem_append_left _ hz
              · rw [eK]
                rw [tk] at hb
                rcases List.mem_append.mp hb with z | z
                · exact List.mem_append_left _ (dc9 b z hn)
                · rw [List.mem_singleton.mp z]
                  exact List.mem_append_right _ (List.mem_singleton.mpr rfl)
            · rw [decide_eq_false en]
              refine iteF ⟨_, _, M, L, rfl, s9', k12, st12, inv9, dn9, fun b hb hn => ?_⟩
              rw [tk] at hb
              rcases List.mem_append.mp hb with z | z
              · exact dc9 b z hn
              · rw [List.mem_singleton.mp z] at hn
                exact absurd hn en
        · rintro σ H9 ⟨y7, y8, M, L, rfl, s9, k9, st9, inv9, dn9, dc9⟩
          rw [List.length_map, List.take_length] at dc9
          refine ⟨_, _, _, _, _, M, L, q0 :: PP, rfl, s9, st9, inv9, fun b hb => ?_, .inr (by rw [List.length_cons, pc])⟩
          rcases List.mem_cons.mp hb with z | z
          · rw [z]
            exact ⟨e0, dc9⟩
          · exact dn9 b z
    · rintro σ H5 ⟨y4, y5, y6, y7, y8, M, L, PP, rfl, s5, st, inv, dn, cnt⟩
      have hM : M = [] := by
        rcases cnt with z | z
        · exact z
        · have := inv.few n5
          rw [inv.perm.length_eq, List.length_append] at this
          have : (40 : Int).toNat = 40 := rfl
          omega
      subst hM
      have no := done_no inv dn
      have e : (ords n qs (rgI n)).head?.isSome = false := Bool.eq_false_iff.mpr fun z => no ((finS_whole hq).mp z)
      rw [← e]
      exact q H5 s5
end
end Fm
namespace Fm
open PySem PySem.Spec PyProof.Rows L2
section
variable {P : Program} {w : World} {K : PySem.W.Frag} {mg : Str → Option Value} {base : Heap}
abbrev lotP (s : List (List Int)) : PyData := .tuple (s.map ctP)
theorem lay_lot (s : List (List Int)) : (lotP s).canLay0 = true ∧ (lotP s).depth ≤ 2 := by
  obtain ⟨h1, h2⟩ := lay_all (f := ctP) (n := 1) lay_ct s
  exact ⟨h1, Nat.succ_le_succ h2⟩
theorem shaped_lots (S : List (List (List Int))) : SeqAt.shaped (.list (S.map lotP)) = true := by
  obtain ⟨h1, h2⟩ := lay_all (f := lotP) (n := 2) lay_lot S
  exact shaped_of (n := 3) ⟨h1, Nat.succ_le_succ h2⟩ (by decide)
theorem dp_lot {H : Hp} {v : V} {s : List (List Int)} (h : Dh K H v (patsD s)) : Dp K H v (lotP s) := by
  obtain ⟨a, xs, rfl, h1, h2⟩ := h.tup_inv
  exact .tup h1 (dp_patsP h2)
theorem dp_lots {H : Hp} : ∀ {xs : List V} {S : List (List (List Int))}, DhAll K H xs (S.map patsD) → DpAll K H xs (S.map lotP)
  | [], [], _ => .nil
  | x :: xs, r :: S, h => by
    rw [List.map_cons] at h
    cases h with
    | cons h t => exact .cons (dp_lot h) (dp_lots t)
  | x :: xs, [], h => by cases h
  | [], q :: S, h => by cases h
theorem eqv_lots (S S' : List (List (List Int))) : PyData.eqv (.list (S.map lotP)) (.list (S'.map lotP)) = decide (S = S') := by
  rw [PyData.eqv]
  exact eqv_all (f := lotP) eqv_pats S S'
def spDue25 (K : PySem.W.Frag) : Sp := fun vs H Q _ => ∃ (n : Nat) (a : Addr) (xs : List V) (parts : List (List Int)), vs = [.int n, .ref a] ∧ H a = some (.lst xs) ∧ DhAll K H xs (parts.map ctD) ∧ 1 ≤ n ∧ n ≤ 5 ∧ parts.length ≤ 12 ∧ parts.Pairwise (· < ·) ∧ (∀ p ∈ parts, Asc n (-1) p) ∧
  ∀ d H' m S, H d = none → Same H H' → LotsAt K H' d S → GivenD n parts m S → Q (.ref d) H'
theorem ok_law_due (T : Txt K mg) : FnOk P w K mg base CX0 4 T.f_law_due T.d_law_due ["columns", "parts"] (spDue25 K) := by
  refine T.F_law_due.ok sc_law_due (fun vs H Q E h => ?_) (fun cdv A outer s H vs Q E hr h => ?_)
  · obtain ⟨_, _, _, _, rfl, _⟩ := h
    rfl
  · obtain ⟨n, a, xs, parts, rfl, ha, hx, n1, n5, l12, up, asc, q⟩ := h
    have xl : xs.length = parts.length := by rw [hx.length, List.length_map]
    have sub : ∀ p ∈ parts, ∀ y ∈ p, y ∈ rgI n := fun p hp y hy => mem_rgI.mpr (by have := (asc p hp).mem y hy; omega)
    refine ⟨_, (pss_cons (ps_for PassesOwn.never rfl (pi_range1 (by rfl) T.z_range (pa_cons (pe_op op_add (pe_callB (call_lenK K) (by rfl) T.z_len PySem.boot_len (pa_cons (pv 1) pa_nil)) pe_int) pa_nil)) (pg_name (i := 2) sc_law_due.nd rfl (.inl rfl)) (pss_cons (ps_set (i := 3) sc_law_due.nd rfl (.inl rfl) (pe_lst pa_nil))
      (pss_cons (ps_for PassesOwn.never rfl (pi_listK K (pe_call (ok_law_tuples T) (hr.mono (by decide)) (by rfl) T.g_law_tuples T.F_law_tuples.kp T.b_law_tuples .nil pass0 (pa_cons (pv 1) (pa_cons (pv 2) pa_nil)))) (pg_name (i := 4) sc_law_due.nd rfl (.inr rfl)) (pss_one (ps_if (pt_val (pe_call (ok_law_can_be_struck T) hr (by rfl) T.g_law_can_be_struck T.F_law_can_be_struck.kp T.b_law_can_be_struck .nil pass0 (pa_cons (pv 0) (pa_cons (pe_lc (own := [("pattern", 5)]) rfl sc_law_due.nd (pi_listK K (pv 1)) (blkOk_by (N := N_law_due) (sc := defScope s_law_due) (by decide +kernel)) (fun _ _ _ _ _ => (pg_name (i := 5) sc_law_due.nd rfl (.inl rfl))) (fun _ _ _ _ _ => (pts_one (pt_cmpR (op_notinT (K := K) (room65 hr)) (pv 5) (pv 4) (by rfl)))) (fun _ _ _ _ _ => (pv 5))) pa_nil)))) (pss_one (ps_expr (pe_bm PySem.F.plainAttrs_list PySem.F.slot_list_append PySem.F.type_list_append mt_append (pv 3) (pa_cons (pv 4) pa_nil)))) pss_nil)))
      (pss_one (ps_if (pt_cmpR (op_neK K hr.units) (pv 3) (pe_lst pa_nil) (nomark _)) (pss_one (ps_ret (pv 3))) pss_nil)))))
      (pss_one (ps_ret pe_non))), ?_⟩
    have e0 : L2.start N_law_due [V.int n, V.ref a] = [some (.int n), some (.ref a), none, none, none, none] := rfl
    rw [e0]
    refine ⟨_, rfl, a, _, rfl, .inl (SqL.of ha), _, _, rfl, rfl, _, rfl, by omega, by omega, for_range (lo := 0) (n := ((xs.length : Int) + 1).toNat) (fun i σ H' => ∃ (y2 y3 y4 : Option V), σ = [some (.int n), some (.ref a), y2, y3, y4, none] ∧ Same H H' ∧ ∀ k, k < i → ∀ q ∈ lotsR k parts, hitF n parts q = false)
      ⟨none, none, none, rfl, Same.refl H, fun k hk => by omega⟩ ?_ ?_⟩
    · rintro i σ H1 hi ⟨y2, y3, y4, rfl, s1, hno⟩
      have hi : i ≤ parts.length := by omega
      try dsimp only [tNext, tSeq, tAsg, gName, List.set_cons_succ, List.set_cons_zero]
      refine ⟨Nat.zero_le _, fun f nf => ?_⟩
      have s2 : Same H1 (upd H1 f (.lst [])) := same_new nf
      have hf : (upd H1 f (.lst [])) f = some (.lst []) := upd_same
      have nfH : H f = none := by
        cases z : H f with
        | none => rfl
        | some o => have := s1 _ _ z; rw [nf] at this; cases this
      generalize upd H1 f (.lst []) = H2 at s2 hf ⊢
      have s02 := s1.trans s2
      try dsimp only [tNext, tSeq, tAsg, gName, List.set_cons_succ, List.set_cons_zero]
      refine ⟨_, rfl, _, rfl, a, i, xs, parts, by rw [Int.zero_add]; rfl, s02 _ _ ha, hx.ext (.of s02), l12, by omega, up, fun l H3 nl s3 hl => ?_⟩
      obtain ⟨ys, hl, hys⟩ := hl
      have tl := lots_le l12 i (by omega)
      have yl : ys.length = (lotsR i parts).length := by rw [hys.length, List.length_map]
      refine ⟨l, rfl, ⟨_, SqL.of hl⟩, for_list (K := K) (xs := ys) (fun j σ H' => ∃ (y4 : Option V) (us : List V), σ = [some (.int n), some (.ref a), some (.int (0 + (i : Int))), some (.ref f), y4, none] ∧ Same H H' ∧ H' l = some (.lst ys) ∧ DhAll K H' ys ((lotsR i parts).map patsD) ∧ H' f = some (.lst us) ∧ DhAll K H' us ((((lotsR i parts).take j).filter (hitF n parts)).map patsD))
        ⟨y4, [], rfl, s02.trans s3, hl, hys, s3 _ _ hf, .nil⟩ (fun j σ H' _ ⟨_, _, _, _, z, _⟩ => SqL.of z) ?_ ?_⟩
      · rintro j x σ H4 hxj ⟨y4, us, rfl, s4, hl4, hys4, hf4, hus⟩
        obtain ⟨d, hd, hxd⟩ := hys4.get hxj
        obtain ⟨lot, hlot, rfl⟩ := map_at hd
        have hj := (List.getElem?_eq_some_iff.mp hlot).1
        obtain ⟨la, zs, rfl, hla, hz⟩ := hxd.tup_inv
        have tk := take_filter (f := hitF n parts) hlot
        have ul : us.length ≤ 1000 := by
          rw [hus.length, List.length_map]
          have h1 := List.length_filter_le (hitF n parts) ((lotsR i parts).take j)
          have h2 := List.length_take (i := j) (l := lotsR i parts)
          omega
        try dsimp only [tNext, tSeq, tAsg, gName, List.set_cons_succ, List.set_cons_zero]
        refine ⟨_, rfl, _, rfl, a, rfl, ⟨_, SqL.of (s4 _ _ ha)⟩, fun D nD => lc_list (K := K) (xs := xs) (fun k H' => Got K H4 D ((lessP (parts.take k) lot).map ctD) H') (.zero nD) (fun k H' _ g => SqL.of (g.same _ _ (s4 _ _ ha))) ?_ ?_⟩
        · rintro k y H5 hyk g
          obtain ⟨d, hd, hyd⟩ := (hx.ext (.of (s4.trans g.same))).get hyk
          obtain ⟨p, hp, rfl⟩ := map_at hd
          have hfp := take_filter (f := fun p => !decide (p ∈ lot)) hp
          have gl : ((lessP (parts.take k) lot).map ctD).length ≤ 10000 := by
            rw [List.length_map]
            unfold lessP
            have := List.length_filter_le (fun p => !decide (p ∈ lot)) (parts.take k)
            have := List.length_take (i := k) (l := parts)
            omega
          refine ⟨rfl, ?_⟩
          refine ⟨_, rfl, _, rfl, ctP p, lot.map ctP, dp_ct hyd, .tup ((Ext.of g.same).sqT hla) (dp_patsP (hz.ext (.of g.same))), shaped_ct _, shaped_patsP _, ?_⟩
          rw [any_pats]
          refine ⟨_, rfl, ?_⟩
          by_cases e : (!decide (p ∈ lot)) = true
          · rw [if_pos e] at hfp
            rw [if_pos e]
            have z := g.put nD (Same.refl H5) hyd gl
            unfold lessP at z ⊢
            rw [hfp, List.map_append]
            exact ⟨_, rfl, z⟩
          · rw [if_neg e, List.append_nil] at hfp
            rw [if_neg e]
            unfold lessP at g ⊢
            rw [hfp]
            exact g
        · rintro H5 ⟨s5, acc, hD, hac⟩
          rw [xl, List.take_length] at hac
          refine ⟨n, D, lessP parts lot, rfl, ⟨acc, hD, hac⟩, n1, n5, Nat.le_trans (List.length_filter_le _ _) l12, fun p hp => asc p (mem_lessP.mp hp).1, fun H6 s6 => ⟨_, rfl, ?_⟩⟩
          have s56 := s5.trans s6
          have eh : (ords n (lessP parts lot) (rgI n)).head?.isSome = hitF n parts lot := rfl
          rw [eh]
          have hf6 := s56 _ _ hf4
          have fl : f ≠ l := fun e => by rw [← e, hf4] at hl4; exact absurd nf (by intro; have := hl; rw [← e] at this; have h2 := s3 _ _ hf; rw [h2] at this; have := HO.lst.inj (Option.some.inj this); rw [← this] at hxj; simp at hxj)
          by_cases e : hitF n parts lot = true
          · rw [if_pos e] at tk
            rw [e]
            refine iteT ?_
            refine ⟨_, rfl, .inl ⟨rfl, _, SqL.of hf6⟩, _, rfl, f, us, _, rfl, rfl, hf6, sz_small (by omega), ?_⟩
            have ep := Ext.put (ys := us ++ [.ref la]) hf6
            refine ⟨_, us ++ [.ref la], rfl, Same.put nfH (s4.trans s56), by rw [upd_ne fl.symm]; exact s56 _ _ hl4, (hys4.ext (.of s56)).ext ep, upd_same, ?_⟩
            rw [tk, List.map_append]
            exact ((hus.ext (.of s56)).ext ep).snoc ((hxd.ext (.of s56)).ext ep)
          · rw [if_neg e, List.append_nil] at tk
            rw [show hitF n parts lot = false from Bool.eq_false_iff.mpr e]
            refine iteF ⟨_, us, rfl, s4.trans s56, s56 _ _ hl4, hys4.ext (.of s56), hf6, ?_⟩
            rw [tk]
            exact hus.ext (.of s56)
      · rintro σ H4 ⟨y4, us, rfl, s4, hl4, hys4, hf4, hus⟩
        rw [yl, List.take_length] at hus
        try dsimp only [tNext, tSeq, tAsg, gName, List.set_cons_succ, List.set_cons_zero]
        refine ⟨_, rfl, Nat.zero_le _, fun t nt => ?_⟩
        have s5 : Same H4 (upd H4 t (.lst [])) := same_new nt
        refine ⟨.list (((lotsR i parts).filter (hitF n parts)).map lotP), .list (([] : List (List (List Int))).map lotP), .lst (SqL.of (s5 _ _ hf4)) (dp_lots (hus.ext (.of s5))), .lst (SqL.of upd_same) .nil, shaped_lots _, shaped_lots [], ?_⟩
        rw [eqv_lots]
        refine ⟨_, rfl, ?_⟩
        by_cases e : (lotsR i parts).filter (hitF n parts) = []
        · rw [decide_eq_true e]
          refine iteF ⟨_, _, _, rfl, s4.trans s5, fun k hk q hq => ?_⟩
          by_cases z : k = i
          · subst z
            cases h : hitF n parts q with
            | false => rfl
            | true =>
              have : q ∈ (lotsR k parts).filter (hitF n parts) := List.mem_filter.mpr ⟨hq, h⟩
              rw [e] at this
              cases this
          · exact hno k (by omega) q hq
        · rw [decide_eq_false e]
          refine iteT ?_
          exact ⟨_, rfl, q f _ i _ nfH (s4.trans s5) ⟨us, s5 _ _ hf4, hus.ext (.of s5)⟩ ⟨hi, hno, rfl, e⟩⟩
    · rintro σ H1 ⟨y2, y3, y4, rfl, s1, hno⟩
      have h1 := hno parts.length (by omega) parts ((mem_lots up).mpr ⟨rfl, fun p hp => hp, up⟩)
      have h2 : hitF n parts parts = true := (hitF_iff sub).mpr fun m g c x => by
        have := x.mem 0 (by have := x.n3; omega)
        exact (mem_lessP.mp this).2 (mem_lessP.mp this).1
      rw [h1] at h2
      cases h2
end
end Fm
namespace Fm
open PySem PySem.Spec PyProof.Rows L2
section
variable {P : Program} {w : World} {K : PySem.W.Frag} {mg : Str → Option Value} {base : Heap}
theorem LsS.less {n : Nat} {ps ls : List (List Int)} (x : LsS n ps) (h : ∀ p ∈ ls, p.length < n) : LsS n (lessP ps ls) := ⟨x.n1, x.n5, x.pw.sublist List.filter_sublist, fun p hp => x.asc p (mem_lessP.mp hp).1, mem_lessP.mpr ⟨x.whole, fun z => by
  have := h _ z
  rw [rgI_len] at this
  omega⟩, Nat.le_trans (List.length_filter_le _ _) x.len⟩
theorem partL_less (n : Nat) (ps ls : List (List Int)) : partL n (lessP ps ls) = lessP (partL n ps) ls := by
  unfold partL lessP
  rw [List.filter_filter, List.filter_filter]
  exact List.filter_congr fun x _ => Bool.and_comm _ _
theorem lessP_nil (ps : List (List Int)) : lessP ps [] = ps := List.filter_eq_self.mpr fun x _ => by simp
theorem given_nil {n m : Nat} {parts : List (List Int)} {S : List (List (List Int))} (x : GivenD n parts m S) (up : parts.Pairwise (· < ·)) : S = [[]] ↔ hitF n parts [] = true := by
  constructor
  · intro e
    have h : ([] : List (List Int)) ∈ S := by rw [e]; exact List.mem_singleton.mpr rfl
    rw [x.eq] at h
    exact (List.mem_filter.mp h).2
  · intro h
    have m0 : m = 0 := Nat.eq_zero_of_not_pos fun z => by
      have := x.none 0 z [] (by rw [lots_0]; exact List.mem_singleton.mpr rfl)
      rw [this] at h
      cases h
    rw [x.eq, m0, lots_0, List.filter_cons_of_pos h]
    rfl
theorem given_mem {n m : Nat} {parts : List (List Int)} {S : List (List (List Int))} (x : GivenD n parts m S) (up : parts.Pairwise (· < ·)) {q : List (List Int)} (h : q ∈ S) : hitF n parts q = true ∧ q.length = m ∧ (∀ p ∈ q, p ∈ parts) ∧ q.Pairwise (· < ·) := by
  rw [x.eq] at h
  obtain ⟨h1, h2⟩ := List.mem_filter.mp h
  exact ⟨h2, (mem_lots up).mp h1⟩
theorem given_less {n m : Nat} {parts : List (List Int)} {S : List (List (List Int))} (x : GivenD n parts m S) (up : parts.Pairwise (· < ·)) {q : List (List Int)} (h : q ∈ S) {p : List Int} (hp : p ∈ q) : hitF n parts (q.filter fun z => decide (z ≠ p)) = false := by
  obtain ⟨_, h1, h2, h3⟩ := given_mem x up h
  have hl : (q.filter fun z => decide (z ≠ p)).length < q.length := by
    rw [List.length_filter_lt_length_iff_exists]
    exact ⟨p, hp, by simp⟩
  exact x.none _ (by omega) _ ((mem_lots up).mpr ⟨rfl, fun z hz => h2 z (List.mem_filter.mp hz).1, h3.sublist List.filter_sublist⟩)
def spLaw (K : PySem.W.Frag) : Sp := fun vs H Q _ => ∃ (a : Addr) (ns : List Int), vs = [.ref a] ∧ SqL K H a (ns.map V.int) ∧ ns.length ≤ 63 ∧ ∀ H', Q (.bl true) H'
theorem ok_law (T : Txt K mg) {f : Addr} {fd : FuncData} (F : Fun K "law" "law" s_law f fd) : FnOk P w K mg base CX0 11 f fd ["script"] (spLaw K) := by
  refine F.ok sc_law (fun vs H Q E h => ?_) (fun cdv A outer s H vs Q E hr h => ?_)
  · obtain ⟨_, _, rfl, _⟩ := h
    rfl
  · obtain ⟨a, ns, rfl, ha, hl, q⟩ := h
    have hu := hu_of hr
    refine ⟨_, (pss_cons (ps_set (i := 1) sc_law.nd rfl (.inl rfl) (pe_call (ok_law_pot T) (hr.mono (by decide)) (by rfl) T.g_law_pot T.F_law_pot.kp T.b_law_pot .nil pass0 (pa_cons (pv 0) pa_nil)))
      (pss_cons (ps_set (i := 2) sc_law.nd rfl (.inl rfl) (pe_op op_add pe_int (pe_call (ok_law_draw T) (hr.mono (by decide)) (by rfl) T.g_law_draw T.F_law_draw.kp T.b_law_draw .nil pass0 (pa_cons (pv 1) (pa_cons pe_int pa_nil)))))
      (pss_cons (ps_set (i := 3) sc_law.nd rfl (.inl rfl) (pe_call (ok_law_list T) (hr.mono (by decide)) (by rfl) T.g_law_list T.F_law_list.kp T.b_law_list .nil pass0 (pa_cons (pv 1) (pa_cons (pv 2) (pa_cons (pe_ix (ix_listK K) (pe_lst (pa_cons pe_int (pa_cons pe_int (pa_cons pe_int pa_nil)))) (pe_call (ok_law_draw T) (hr.mono (by decide)) (by rfl) T.g_law_draw T.F_law_draw.kp T.b_law_draw .nil pass0 (pa_cons (pv 1) (pa_cons pe_int pa_nil))) (fun _ _ => rfl)) pa_nil)))))
      (C8.pss_cut (ps_if (PW.pt (pw_and (pt_cmpR op_gt (pv 2) pe_int (nomark _)) (pw_and1 (pt_cmpR op_eq (pe_call (ok_law_draw T) (hr.mono (by decide)) (by rfl) T.g_law_draw T.F_law_draw.kp T.b_law_draw .nil pass0 (pa_cons (pv 1) (pa_cons pe_int pa_nil))) pe_int (nomark _))))) (pss_cons (ps_set (i := 11) sc_law.nd rfl (.inl rfl) (pe_call (ok_law_parts T) (hr.mono (by decide)) (by rfl) T.g_law_parts T.F_law_parts.kp T.b_law_parts .nil pass0 (pa_cons (pv 2) (pa_cons (pe_call (ok_law_list T) (hr.mono (by decide)) (by rfl) T.g_law_list T.F_law_list.kp T.b_law_list .nil pass0 (pa_cons (pv 1) (pa_cons (pv 2) (pa_cons pe_int pa_nil)))) pa_nil))))
      (pss_cons (ps_for PassesOwn.never rfl (pi_range1 (by rfl) T.z_range (pa_cons (pe_op op_add pe_int (pe_call (ok_law_draw T) (hr.mono (by decide)) (by rfl) T.g_law_draw T.F_law_draw.kp T.b_law_draw .nil pass0 (pa_cons (pv 1) (pa_cons pe_int pa_nil)))) pa_nil)) (pg_name (i := 12) sc_law.nd rfl (.inl rfl)) (pss_one (ps_set (i := 11) sc_law.nd rfl (.inl rfl) (pe_op op_cat (pv 11) (pe_callTy (call_listK (K := K)) (by rfl) T.z_list (by decide +kernel) (pa_cons (pe_ix (ix_tupK K) (pe_call (ok_law_planted T) (hr.mono (by decide)) (by rfl) T.g_law_planted T.F_law_planted.kp T.b_law_planted .nil pass0 (pa_cons (pv 1) (pa_cons (pv 2) pa_nil))) pe_int (fun _ _ => rfl)) pa_nil))))))
      (pss_one (ps_set (i := 3) sc_law.nd rfl (.inl rfl) (pe_callTy (call_tupleK K) (by rfl) T.z_tuple (by decide +kernel) (pa_cons (pe_callB (call_sortTsK (K := K) hr.units) (by rfl) T.z_sorted (by decide +kernel) (pa_cons (pe_op op_cat (pe_slice (sl_listK K) (pe_call (ok_law_mixed T) (hr.mono (by decide)) (by rfl) T.g_law_mixed T.F_law_mixed.kp T.b_law_mixed .nil pass0 (pa_cons (pv 1) (pa_cons (pe_callB (call_sortSU (K := K) (P := P) (w := w) rfl hr.units) (by rfl) T.z_sorted (by decide +kernel) (pa_cons (pe_callTy (call_setOfTK (K := K) (P := P) (w := w) rfl hr.units) (by rfl) T.z_set (by decide +kernel) (pa_cons (pv 11) pa_nil)) pa_nil)) pa_nil))) po_none (po_some pe_int)) (pe_lst (pa_cons (pe_tupRg rfl (by rfl) T.z_tuple (prg_1 (by rfl) T.z_range (pv 2))) pa_nil))) pa_nil)) pa_nil)))))) pss_nil)
      (C8.pss_cut (ps_if (pt_cmpR op_eq (pe_call (ok_law_draw T) (hr.mono (by decide)) (by rfl) T.g_law_draw T.F_law_draw.kp T.b_law_draw .nil pass0 (pa_cons (pv 1) (pa_cons pe_int pa_nil))) pe_int (nomark _)) (pss_cons (ps_set (i := 2) sc_law.nd rfl (.inl rfl) (pe_op op_add pe_int (pe_call (ok_law_draw T) (hr.mono (by decide)) (by rfl) T.g_law_draw T.F_law_draw.kp T.b_law_draw .nil pass0 (pa_cons (pv 1) (pa_cons pe_int pa_nil)))))
      (pss_one (ps_set (i := 3) sc_law.nd rfl (.inl rfl) (pe_call (ok_law_big_list T) (hr.mono (by decide)) (by rfl) T.g_law_big_list T.F_law_big_list.kp T.b_law_big_list .nil pass0 (pa_cons (pv 1) (pa_cons (pv 2) pa_nil)))))) pss_nil)
      (pss_cons (ps_set (i := 4) sc_law.nd rfl (.inl rfl) (pe_call (ok_law_due T) (hr.mono (by decide)) (by rfl) T.g_law_due T.F_law_due.kp T.b_law_due .nil pass0 (pa_cons (pv 2) (pa_cons (pe_call (ok_law_parts T) (hr.mono (by decide)) (by rfl) T.g_law_parts T.F_law_parts.kp T.b_law_parts .nil pass0 (pa_cons (pv 2) (pa_cons (pv 3) pa_nil))) pa_nil))))
      (pss_cons (ps_set (i := 5) sc_law.nd rfl (.inl rfl) (pe_call (ok_given_up T) (hr.mono (by decide)) (by rfl) T.g_given_up T.F_given_up.kp T.b_given_up .nil pass0 (pa_cons (pv 2) (pa_cons (pv 3) pa_nil))))
      (pss_cons (ps_if (PW.pt (pw_or (pt_not (pt_val (pe_callB (call_isiK' K) (by rfl) T.z_isinstance (by decide +kernel) (pa_cons (pv 5) (pa_cons (pe_bltn (v := .ty "list") (by rfl) T.z_list (by decide +kernel) rfl) pa_nil))))) (pw_or1 (pt_cmpR (op_neK K hr.units) (pv 5) (pv 4) (nomark _))))) (pss_one (ps_ret pe_bl)) pss_nil)
      (pss_cons (ps_set (i := 6) sc_law.nd rfl (.inl rfl) (pe_call (ok_ring T) (hr.mono (by decide)) (by rfl) T.g_ring T.F_ring.kp T.b_ring .nil pass0 (pa_cons (pv 2) (pa_cons (pv 3) pa_nil))))
      (pss_cons (ps_if (pt_cmpR (op_neK K hr.units) (pe_cmpR op_isN (pv 6) pe_non (nomark _)) (pe_cmpR (op_eqK K hr.units) (pv 4) (pe_lst (pa_cons (pe_tup pa_nil) pa_nil)) (nomark _)) (nomark _)) (pss_one (ps_ret pe_bl)) pss_nil)
      (pss_cons (ps_expr (pe_bm PySem.F.plainAttrs_list PySem.F.slot_list_append PySem.F.type_list_append mt_append (pv 5) (pa_cons pe_non pa_nil)))
      (pss_cons (ps_if (pt_cmpR (op_neK K hr.units) (pe_call (ok_given_up T) (hr.mono (by decide)) (by rfl) T.g_given_up T.F_given_up.kp T.b_given_up .nil pass0 (pa_cons (pv 2) (pa_cons (pv 3) pa_nil))) (pv 4) (nomark _)) (pss_one (ps_ret pe_bl)) pss_nil)
      (pss_cons (ps_set (i := 7) sc_law.nd rfl (.inr rfl) (pe_call (ok_law_any T) (hr.mono (by decide)) (by rfl) T.g_law_any T.F_law_any.kp T.b_law_any .nil pass0 (pa_cons (pv 1) (pa_cons (pv 4) pa_nil))))
      (pss_cons (ps_set (i := 8) sc_law.nd rfl (.inl rfl) (pe_callTy (call_tupleK K) (by rfl) T.z_tuple (by decide +kernel) (pa_cons (pe_lc (own := [("pattern", 13)]) rfl sc_law.nd (pi_tupK K (pv 3)) (blkOk_by (N := N_law) (sc := defScope s_law) (by decide +kernel)) (fun _ _ _ _ _ => (pg_name (i := 13) sc_law.nd rfl (.inl rfl))) (fun _ _ _ _ _ => (pts_one (pt_cmpR (op_notinT (K := K) (room65 hr)) (pv 13) (pv 7) (by rfl)))) (fun _ _ _ _ _ => (pv 13))) pa_nil)))
      (pss_cons (ps_if (PW.pt (pw_or (pt_cmpR op_notN (pe_call (ok_ring T) (hr.mono (by decide)) (by rfl) T.g_ring T.F_ring.kp T.b_ring .nil pass0 (pa_cons (pv 2) (pa_cons (pv 8) pa_nil))) pe_non (nomark _)) (pw_or1 (pt_cmpR op_isN (pe_call (ok_order T) hr (by rfl) T.g_order T.F_order.kp T.b_order .nil pass0 (pa_cons (pv 2) (pa_cons (pv 8) pa_nil))) pe_non (nomark _))))) (pss_one (ps_ret pe_bl)) pss_nil)
      (pss_cons (ps_if (pt_cmpR (op_eqK K hr.units) (pv 7) (pe_tup pa_nil) (nomark _)) (pss_one (ps_ret pe_bl)) pss_nil)
      (pss_cons (ps_if (pt_not (pt_val (pe_callB (call_anyK (K := K) rfl) (by rfl) T.z_any (by decide +kernel) (pa_cons (pe_lc (own := [("pattern", 13)]) rfl sc_law.nd (pi_tupK K (pe_ix (ix_tupK K) (pv 6) pe_int (fun _ _ => rfl))) (blkOk_by (N := N_law) (sc := defScope s_law) (by decide +kernel)) (fun _ _ _ _ _ => (pg_name (i := 13) sc_law.nd rfl (.inl rfl))) (fun _ _ _ _ _ => pts_nil) (fun _ _ _ _ _ => (pe_cmpR (op_inT (K := K) (room65 hr)) (pv 13) (pv 7) (by rfl)))) pa_nil)))) (pss_one (ps_ret pe_bl)) pss_nil)
      (pss_cons (ps_set (i := 9) sc_law.nd rfl (.inr rfl) (pe_call (ok_law_any T) (hr.mono (by decide)) (by rfl) T.g_law_any T.F_law_any.kp T.b_law_any .nil pass0 (pa_cons (pv 1) (pa_cons (pe_callTy (call_listK (K := K)) (by rfl) T.z_list (by decide +kernel) (pa_cons (pv 7) pa_nil)) pa_nil))))
      (pss_cons (ps_set (i := 10) sc_law.nd rfl (.inl rfl) (pe_callTy (call_tupleK K) (by rfl) T.z_tuple (by decide +kernel) (pa_cons (pe_lc (own := [("pattern", 13)]) rfl sc_law.nd (pi_tupK K (pv 3)) (blkOk_by (N := N_law) (sc := defScope s_law) (by decide +kernel)) (fun _ _ _ _ _ => (pg_name (i := 13) sc_law.nd rfl (.inl rfl))) (fun _ _ _ _ _ => (pts_one (PW.pt (pw_or (pt_cmpR (op_notinT (K := K) (room65 hr)) (pv 13) (pv 7) (by rfl)) (pw_or1 (pt_cmpR (op_eqK K hr.units) (pv 13) (pv 9) (nomark _))))))) (fun _ _ _ _ _ => (pv 13))) pa_nil)))
      (pss_one (ps_ret (pe_and (pe_cmpR op_notN (pe_call (ok_ring T) (hr.mono (by decide)) (by rfl) T.g_ring T.F_ring.kp T.b_ring .nil pass0 (pa_cons (pv 2) (pa_cons (pv 10) pa_nil))) pe_non (nomark _)) (pe_one (pe_cmpR op_isN (pe_call (ok_order T) hr (by rfl) T.g_order T.F_order.kp T.b_order .nil pass0 (pa_cons (pv 2) (pa_cons (pv 10) pa_nil))) pe_non (nomark _))))))))))))))))))))))))), ?_⟩
    have e0 : L2.start N_law [V.ref a] = [some (.ref a), none, none, none, none, none, none, none, none, none, none, none, none, none] := rfl
    rw [e0]
    refine ⟨_, rfl, a, ns, rfl, ha, by omega, fun h g sm H1 nh ng s1 hx1 => ?_⟩
    try dsimp only [tNext, tSeq, tAsg, gName, List.set_cons_succ, List.set_cons_zero]
    refine ⟨_, rfl, h, g, sm, 4, rfl, hx1, by decide, by decide, fun d1 H3 d10 d11 k3 => ⟨_, _, rfl, rfl, ?_⟩⟩
    obtain ⟨n, hn⟩ : ∃ n : Nat, 2 + d1 = (n : Int) := ⟨(2 + d1).toNat, by omega⟩
    have n2 : 2 ≤ n := by omega
    have n5 : n ≤ 5 := by omega
    dsimp only
    rw [hn]
    try dsimp only [tNext, tSeq, tAsg, gName, List.set_cons_succ, List.set_cons_zero]
    refine ⟨_, rfl, _, rfl, by show 3 ≤ sizeLine; decide, fun l nl => ?_⟩
    have s4 : Same H3 (upd H3 l (.lst [.int 4, .int 6, .int 8])) := same_new nl
    have hl4 : (upd H3 l (.lst [.int 4, .int 6, .int 8])) l = some (.lst [.int 4, .int 6, .int 8]) := upd_same
    have k4 := k3.same s4
    obtain ⟨l1, l2, _⟩ := k3.pot.ne nl
    generalize upd H3 l (.lst [.int 4, .int 6, .int 8]) = H4 at s4 hl4 k4 ⊢
    refine ⟨_, rfl, h, g, sm, 3, rfl, k4.pot, by decide, by decide, fun d2 H5 d20 d21 k5 => ?_⟩
    have hl5 := k5.rest _ _ l1 l2 hl4
    obtain ⟨most, hm, hm0, hm1⟩ : ∃ most : Int, atI [V.int 4, .int 6, .int 8] d2 = some (.int most) ∧ 0 ≤ most ∧ most ≤ 8 := by
      have : d2 = 0 ∨ d2 = 1 ∨ d2 = 2 := by omega
      rcases this with rfl | rfl | rfl
      · exact ⟨4, rfl, by decide, by decide⟩
      · exact ⟨6, rfl, by decide, by decide⟩
      · exact ⟨8, rfl, by decide, by decide⟩
    refine ⟨l, _, d2, _, rfl, rfl, SqL.of hl5, hm, h, g, sm, n, most, rfl, k5.pot, by omega, n5, hm0, by omega, fun u ps H6 k6 ls ll hu6 => ?_⟩
    try dsimp only [tNext, tSeq, tAsg, gName, List.set_cons_succ, List.set_cons_zero]
    refine ⟨fun σ' H' => ∃ (u' : V) (y11 y12 : Option V) (ps' : List (List Int)), σ' = [some (.ref a), some (.ref h), some (.int n), some u', none, none, none, none, none, none, none, y11, y12, none] ∧ PotOk H' h g sm ∧ LsS n ps' ∧ Dh K H' u' (patsD ps'), ?_, ?_⟩
    · have n2i : (2 : Int) ≤ n := by omega
      have no : ∀ H', KeepP h g sm H6 H' → ∃ (u' : V) (y11 y12 : Option V) (ps' : List (List Int)), [some (V.ref a), some (V.ref h), some (V.int n), some u, none, none, none, none, none, none, none, none, none, none] = [some (V.ref a), some (V.ref h), some (V.int n), some u', none, none, none, none, none, none, none, y11, y12, none] ∧ PotOk H' h g sm ∧ LsS n ps' ∧ Dh K H' u' (patsD ps') := fun H' k => ⟨u, none, none, ps, rfl, k.pot, ls, hu6.ext (KeepP.ext k6.pot k)⟩
      refine ⟨_, rfl, _, _, rfl, rfl, _, rfl, ?_⟩
      by_cases n3 : 2 < n
      case neg =>
        rw [decide_eq_false (show ¬ (2 : Int) < n by omega)]
        exact iteF (iteF (no H6 (KeepP.of k6.pot (Same.refl H6))))
      rw [decide_eq_true (show (2 : Int) < n by omega)]
      refine iteT ?_
      refine ⟨_, rfl, h, g, sm, 2, rfl, k6.pot, by decide, by decide, fun d3 H7 d30 d31 k7 => ⟨rfl, _, rfl, ?_⟩⟩
      rw [dec_int]
      by_cases ed3 : d3 = 0
      case neg =>
        rw [show (d3 == 0) = false from beq_eq_false_iff_ne.mpr ed3]
        exact iteF (no H7 k7)
      rw [beq_iff_eq.mpr ed3]
      refine iteT ?_
      try dsimp only [tNext, tSeq, tAsg, gName, List.set_cons_succ, List.set_cons_zero]
      refine ⟨_, rfl, _, rfl, _, rfl, h, g, sm, n, 2, rfl, k7.pot, by omega, n5, by decide, by decide, fun u2 ps2 H9 k9 ls2 ll2 hu2 => ?_⟩
      refine ⟨n, u2, ps2, rfl, hu2, by have := ls2.len; omega, fun sl H10 nsl s10 hsl => ?_⟩
      obtain ⟨sxs, hsl, hsx⟩ := hsl
      have pf2 := Nat.le_trans (List.length_filter_le (fun p : List Int => decide (p.length < n)) ps2) (show ps2.length ≤ 3 by omega)
      have pf2 : (partL n ps2).length ≤ 3 := pf2
      have hx10 := k9.pot.same s10
      obtain ⟨sl1, sl2, _⟩ := k9.pot.ne nsl
      try dsimp only [tNext, tSeq, tAsg, gName, List.set_cons_succ, List.set_cons_zero]
      refine ⟨_, rfl, h, g, sm, 2, rfl, hx10, by decide, by decide, fun d4 H11 d40 d41 k11 => ⟨_, _, rfl, rfl, _, rfl, by omega, by omega, for_range (lo := 0) (n := (1 + d4).toNat) (fun j σ H' => ∃ (y12 : Option V) (b : Addr) (zs : List V) (qs : List (List Int)), σ = [some (.ref a), some (.ref h), some (.int n), some u, none, none, none, none, none, none, none, some (.ref b), y12, none] ∧ PotOk H' h g sm ∧ b ≠ h ∧ b ≠ g ∧ H' b = some (.lst zs) ∧ DhAll K H' zs (qs.map ctD) ∧ qs.length ≤ 3 + 5 * j ∧ ∀ p ∈ qs, Asc n (-1) p ∧ p.length < n)
        ⟨none, sl, sxs, partL n ps2, rfl, k11.pot, sl1, sl2, k11.rest _ _ sl1 sl2 hsl, hsx.ext (KeepP.ext hx10 k11), by omega, fun p hp => ⟨ls2.asc p (mem_partL.mp hp).1, (mem_partL.mp hp).2⟩⟩ ?_ ?_⟩⟩
      · rintro j σ H12 hj ⟨y12, b, zs, qs, rfl, hx12, b1, b2, hb, hzs, ql, hq⟩
        have hj : j < 2 := by omega
        try dsimp only [tNext, tSeq, tAsg, gName, List.set_cons_succ, List.set_cons_zero]
        refine ⟨_, rfl, _, rfl, _, rfl, h, g, sm, n, rfl, hx12, by omega, n5, fun tv rs cs H13 k13 htv rp => ?_⟩
        obtain ⟨ta, ts, rfl, hta, hall⟩ := htv.tup_inv
        obtain ⟨v1, v2, rfl, h1, h2⟩ := dh_two hall
        obtain ⟨ra, ws, rfl, hra, hws⟩ := h1.tup_inv
        have rle := rp.ring.le rp.asc
        have wl : ws.length = rs.length := by rw [hws.length, List.length_map]
        have zl : zs.length = qs.length := by rw [hzs.length, List.length_map]
        refine ⟨ta, _, 0, _, rfl, rfl, hta, atI_nat (j := 0) rfl, ra, _, rfl, .inr hra, fun q1 nq1 => ?_⟩
        have s14 : Same H13 (upd H13 q1 (.lst ws)) := same_new nq1
        have hq1 : (upd H13 q1 (.lst ws)) q1 = some (.lst ws) := upd_same
        generalize upd H13 q1 (.lst ws) = H14 at s14 hq1 ⊢
        have hb14 := s14 _ _ (k13.rest _ _ b1 b2 hb)
        have k14 := k13.same s14
        refine ⟨b, q1, _, _, rfl, rfl, hb14, hq1, Nat.le_of_lt (sz_small (by omega)), fun q2 nq2 => ?_⟩
        have s15 : Same H14 (upd H14 q2 (.lst (zs ++ ws))) := same_new nq2
        obtain ⟨c1, c2, _⟩ := k14.pot.ne nq2
        have k15 := k14.same s15
        refine ⟨_, q2, zs ++ ws, qs ++ rs, rfl, k15.pot, c1, c2, upd_same, ?_, by rw [List.length_append]; omega, fun p hp => ?_⟩
        · rw [List.map_append]
          exact (hzs.ext (KeepP.ext hx12 k15)).append (hws.ext (.of (s14.trans s15)))
        · rcases List.mem_append.mp hp with z | z
          · exact hq p z
          · exact rp.asc p z
      · rintro σ H12 ⟨y12, b, zs, qs, rfl, hx12, b1, b2, hb, hzs, ql, hq⟩
        have ql : qs.length ≤ 13 := by omega
        obtain ⟨M, hM1, hM2, hM3⟩ := refs_of hzs
        rw [hM1] at hb
        have Ml : M.length ≤ 13 := by
          rw [← List.length_map (f := fun m : Addr × List Int => m.2), hM2]
          exact ql
        try dsimp only [tNext, tSeq, tAsg, gName, List.set_cons_succ, List.set_cons_zero]
        refine ⟨_, rfl, _, rfl, ?_⟩
        dsimp only [tNil]
        refine ⟨b, M, rfl, SqL.of hb, hM3, by omega, fun sa L nsa hL1 hL2 => ?_⟩
        have s13 := same_new (H := H12) (o := SetTO P w sa L) nsa
        refine ⟨sa, L, rfl, upd_same, (fun p hp => (Ext.of s13).sqT (hM3 p (hL1 p hp))), fun L' q5 pL _ pwL nq5 => ?_⟩
        have s14 := s13.trans (same_new (o := HO.lst (L'.map fun m => V.ref m.1)) nq5)
        have hq5 : (upd (upd H12 sa (SetTO P w sa L)) q5 (.lst (L'.map fun m => V.ref m.1))) q5 = some (.lst (L'.map fun m => V.ref m.1)) := upd_same
        generalize upd (upd H12 sa (SetTO P w sa L)) q5 (.lst (L'.map fun m => V.ref m.1)) = H14 at s14 hq5 ⊢
        have hx14 := hx12.same s14
        have inq : ∀ m ∈ L', SqT K H14 m.1 (m.2.map V.int) ∧ Asc n (-1) m.2 ∧ m.2.length < n := fun m hm => by
          have h1 := hL1 m (pL.mem_iff.mp hm)
          refine ⟨(Ext.of s14).sqT (hM3 m h1), hq m.2 ?_⟩
          rw [← hM2]
          exact List.mem_map_of_mem (f := fun m : Addr × List Int => m.2) h1
        have pw2 : (L'.map (·.2)).Pairwise fun a b => HT.lexLt a b = true := List.pairwise_map.mpr pwL
        have ndL : (L'.map (·.2)).Nodup := pw2.imp fun {a b} h e => by
          rw [e, lexLt_dec, decide_eq_false (List.lt_irrefl _)] at h
          cases h
        have Ll : L'.length ≤ 13 := by
          have := nodup_len (L'.map (·.2)) (M.map (·.2)) ndL fun y hy => by
            obtain ⟨m, hm, rfl⟩ := List.mem_map.mp hy
            exact List.mem_map_of_mem (f := fun m : Addr × List Int => m.2) (hL1 m (pL.mem_iff.mp hm))
          rw [List.length_map, List.length_map] at this
          omega
        refine ⟨h, g, sm, q5, _, rfl, hx14, SqL.of hq5, by rw [List.length_map]; omega, fun d ys H15 nd k15 hd pm => ?_⟩
        obtain ⟨M', pM, rfl⟩ := perm_map_inv pm L' rfl
        dsimp only [tNoPart, tPart]
        refine ⟨_, rfl, d, _, rfl, SqL.of hd, fun c nc => ?_⟩
        have ec : cutV (M'.map fun m => V.ref m.1) none (some (9 : Int)) = (M'.take 9).map fun m => V.ref m.1 := by
          unfold cutV
          rw [HT.sIx_none, show (9 : Int) = ((9 : Nat) : Int) from rfl, HT.sIx_nat, List.drop_zero, Nat.sub_zero, List.map_take]
          rcases Nat.le_total 9 (M'.map fun m => V.ref m.1).length with z | z
          · rw [Nat.min_eq_left z]
          · rw [Nat.min_eq_right z, List.take_of_length_le (Nat.le_refl _), List.take_of_length_le z]
        rw [ec]
        have inM : ∀ m ∈ M'.take 9, SqT K H15 m.1 (m.2.map V.int) ∧ Asc n (-1) m.2 ∧ m.2.length < n := fun m hm => by
          obtain ⟨h1, h2⟩ := inq m (pM.mem_iff.mp (List.mem_of_mem_take hm))
          exact ⟨(KeepP.ext hx14 k15).sqT h1, h2⟩
        have s16 : Same H15 (upd H15 c (.lst ((M'.take 9).map fun m => V.ref m.1))) := same_new nc
        have hc : (upd H15 c (.lst ((M'.take 9).map fun m => V.ref m.1))) c = some (.lst ((M'.take 9).map fun m => V.ref m.1)) := upd_same
        generalize upd H15 c (.lst ((M'.take 9).map fun m => V.ref m.1)) = H16 at s16 hc ⊢
        refine ⟨_, rfl, _, rfl, RgOk.of_le (by omega) (by omega) (by omega) (by omega), fun tw ntw => ?_⟩
        rw [rgV_I]
        have s17 : Same H16 (upd H16 tw (.tup ((rgI n).map V.int))) := same_new ntw
        have htw : (upd H16 tw (.tup ((rgI n).map V.int))) tw = some (.tup ((rgI n).map V.int)) := upd_same
        generalize upd H16 tw (.tup ((rgI n).map V.int)) = H17 at s17 htw ⊢
        refine ⟨by show 1 ≤ sizeLine; decide, fun q3 nq3 => ?_⟩
        have s18 : Same H17 (upd H17 q3 (.lst [.ref tw])) := same_new nq3
        have hq3 : (upd H17 q3 (.lst [.ref tw])) q3 = some (.lst [.ref tw]) := upd_same
        generalize upd H17 q3 (.lst [.ref tw]) = H18 at s18 hq3 ⊢
        have l9 : (M'.take 9).length ≤ 9 := by rw [List.length_take]; omega
        refine ⟨c, q3, _, _, rfl, rfl, (s17.trans s18) _ _ hc, hq3, Nat.le_of_lt (sz_small (by rw [List.length_map]; show (M'.take 9).length + 1 ≤ 100000; omega)), fun q4 nq4 => ?_⟩
        have eM : ((M'.take 9).map fun m => V.ref m.1) ++ [V.ref tw] = ((M'.take 9) ++ [(tw, rgI n)]).map fun m => V.ref m.1 := by
          rw [List.map_append]
          rfl
        rw [eM]
        have s19 : Same H18 (upd H18 q4 (.lst (((M'.take 9) ++ [(tw, rgI n)]).map fun m => V.ref m.1))) := same_new nq4
        have hq4 : (upd H18 q4 (.lst (((M'.take 9) ++ [(tw, rgI n)]).map fun m => V.ref m.1))) q4 = some (.lst (((M'.take 9) ++ [(tw, rgI n)]).map fun m => V.ref m.1)) := upd_same
        generalize upd H18 q4 (.lst (((M'.take 9) ++ [(tw, rgI n)]).map fun m => V.ref m.1)) = H19 at s19 hq4 ⊢
        have s1619 := s16.trans (s17.trans (s18.trans s19))
        have hMk : ∀ m ∈ (M'.take 9) ++ [(tw, rgI n)], SqT K H19 m.1 (m.2.map V.int) := fun m hm => by
          rcases List.mem_append.mp hm with z | z
          · exact (Ext.of s1619).sqT (inM m z).1
          · rw [List.mem_singleton.mp z]
            exact SqT.of ((s18.trans s19) _ _ htw)
        have snds : ((M'.take 9) ++ [(tw, rgI n)]).map (·.2) = (M'.take 9).map (·.2) ++ [rgI n] := by
          rw [List.map_append]
          rfl
        have hal : ∀ z ∈ (M'.take 9).map (·.2) ++ [rgI n], Asc n (-1) z := fun z hz => by
          rcases List.mem_append.mp hz with y | y
          · obtain ⟨m, hm, rfl⟩ := List.mem_map.mp y
            exact (inM m hm).2.1
          · rw [List.mem_singleton.mp y]
            exact asc_rgI n
        have ndk : ((M'.take 9).map (·.2) ++ [rgI n]).Nodup := by
          refine List.nodup_append.mpr ⟨?_, by simp, fun y hy z hz e => ?_⟩
          · have z1 : (M'.map (·.2)).Nodup := (pM.map (·.2)).nodup_iff.mpr ndL
            exact List.Nodup.sublist ((List.take_sublist 9 M').map _) z1
          · obtain ⟨m, hm, rfl⟩ := List.mem_map.mp hy
            have := (inM m hm).2.2
            rw [e, List.mem_singleton.mp hz, rgI_len] at this
            omega
        refine sort_pats (SqL.of hq4) (dhs_refs hMk) (fun z hz => ?_) fun p6 ys6 qs6 np6 hys6 eq6 => ?_
        · rw [snds] at hz
          have := (hal z hz).len (by omega)
          omega
        · rw [snds] at eq6
          have pq := List.mergeSort_perm ((M'.take 9).map (·.2) ++ [rgI n]) fun a b : List Int => decide (a ≤ b)
          rw [← eq6] at pq
          have s20 : Same H19 (upd H19 p6 (.lst ys6)) := same_new np6
          refine ⟨p6, _, rfl, .inl ⟨SqL.of upd_same, fun t nt => ?_⟩⟩
          have s21 := s20.trans (same_new (o := HO.tup ys6) nt)
          refine ⟨.ref t, _, _, qs6, rfl, (k15.same (s1619.trans s21)).pot, ⟨by omega, n5, by rw [eq6]; exact sorted_pats ndk, fun z hz => hal z (pq.mem_iff.mp hz), pq.mem_iff.mpr (List.mem_append_right _ (List.mem_singleton.mpr rfl)), ?_⟩, .tup (SqT.of upd_same) (hys6.ext (.of s21))⟩
          rw [pq.length_eq, List.length_append, List.length_map]
          show (M'.take 9).length + 1 ≤ 12
          omega
    · rintro σ H7 ⟨u', y11, y12, ps', rfl, hx7, ls', hu7⟩
      refine ⟨fun σ' H' => ∃ (u' : V) (y11 y12 : Option V) (n : Nat) (ps' : List (List Int)), σ' = [some (.ref a), some (.ref h), some (.int n), some u', none, none, none, none, none, none, none, y11, y12, none] ∧ PotOk H' h g sm ∧ LsS n ps' ∧ Dh K H' u' (patsD ps'), ?_, ?_⟩
      · refine ⟨_, rfl, h, g, sm, 5, rfl, hx7, by decide, by decide, fun d5 H8 d50 d51 k8 => ⟨rfl, _, rfl, ?_⟩⟩
        rw [dec_int]
        by_cases ed5 : d5 = 0
        case neg =>
          rw [show (d5 == 0) = false from beq_eq_false_iff_ne.mpr ed5]
          exact iteF ⟨u', y11, y12, n, ps', rfl, k8.pot, ls', hu7.ext (KeepP.ext hx7 k8)⟩
        rw [beq_iff_eq.mpr ed5]
        refine iteT ?_
        refine ⟨_, rfl, h, g, sm, 2, rfl, k8.pot, by decide, by decide, fun d6 H9 d60 d61 k9 => ⟨_, _, rfl, rfl, ?_⟩⟩
        obtain ⟨n', hn'⟩ : ∃ n' : Nat, 4 + d6 = (n' : Int) := ⟨(4 + d6).toNat, by omega⟩
        dsimp only
        rw [hn']
        try dsimp only [tNext, tSeq, tAsg, gName, List.set_cons_succ, List.set_cons_zero]
        exact ⟨_, rfl, _, rfl, h, g, sm, n', rfl, k9.pot, by omega, by omega, fun u9 ps9 H10 k10 ls9 hu9 => ⟨u9, y11, y12, n', ps9, rfl, k10.pot, ls9, hu9⟩⟩
      · rintro σ H8 ⟨u8, y11, y12, n8, ps8, rfl, hx8, ls8, hu8⟩
        have n1 := ls8.n1
        have n5 := ls8.n5
        have up := ls8.up
        have sub := ls8.subP
        have l12 : (partL n8 ps8).length ≤ 12 := Nat.le_trans (List.length_filter_le _ _) ls8.len
        have ascP : ∀ p ∈ partL n8 ps8, Asc n8 (-1) p := fun p hp => ls8.asc p (mem_partL.mp hp).1
        refine ⟨_, rfl, _, rfl, _, rfl, n8, u8, ps8, rfl, hu8, by have := ls8.len; omega, fun pl H9 np s9 hpl => ?_⟩
        obtain ⟨pxs, hpl, hpx⟩ := hpl
        refine ⟨n8, pl, pxs, partL n8 ps8, rfl, hpl, hpx, n1, n5, l12, up, ascP, fun d H10 m S nd s10 hS g1 => ?_⟩
        try dsimp only [tNext, tSeq, tAsg, gName, List.set_cons_succ, List.set_cons_zero]
        have s810 := s9.trans s10
        have hu10 := hu8.ext (.of s810)
        have hx9 := hx8.same s9
        obtain ⟨d1', d2', _⟩ := hx9.ne nd
        refine ⟨_, rfl, _, rfl, n8, u8, ps8, rfl, ls8, hu10, fun e H11 m2 S2 ne s11 hS2 g2 => ?_⟩
        obtain ⟨em, eS⟩ := g2.one g1
        subst em eS
        obtain ⟨dxs, hd, hdx⟩ := hS
        obtain ⟨exs, he, hex⟩ := hS2
        have hde : d ≠ e := fun z => by rw [← z, hd] at ne; cases ne
        have hd11 := s11 _ _ hd
        have hdx11 := hdx.ext (.of s11)
        try dsimp only [tNext, tSeq, tAsg, gName, List.set_cons_succ, List.set_cons_zero]
        refine ⟨_, rfl, _, _, _, _, _, rfl, .ty _, .base (.lst he), kit_ty (show kitB "list" "list" = some true by decide +kernel), _, rfl, ?_⟩
        refine iteF ?_
        refine ⟨_, rfl, _, rfl, .list (S2.map lotP), .list (S2.map lotP), .lst (SqL.of he) (dp_lots hex), .lst (SqL.of hd11) (dp_lots hdx11), shaped_lots _, shaped_lots _, ?_⟩
        rw [eqv_lots, decide_eq_true rfl]
        refine ⟨_, rfl, iteF ?_⟩
        have hu11 := hu10.ext (.of s11)
        refine ⟨_, rfl, _, rfl, n8, u8, ps8, rfl, ls8.ok, hu11, fun v6 H12 o s12 hR hv6 => ?_⟩
        try dsimp only [tNext, tSeq, tAsg, gName, List.set_cons_succ, List.set_cons_zero]
        have oN : o.isNone = hitF n8 (partL n8 ps8) [] := by
          have key := least_none (n := n8) n5 sub hR
          rw [Bool.eq_iff_iff, Option.isNone_iff_eq_none, key]
          unfold hitF
          rw [lessP_nil, Option.isSome_iff_ne_none]
        have s812 := s810.trans (s11.trans s12)
        refine ⟨_, rfl, rfl, _, rfl, Nat.zero_le _, fun t1 nt1 => ⟨by show 1 ≤ sizeLine; decide, fun t2 nt2 => ?_⟩⟩
        have s13 : Same H12 (upd (upd H12 t1 (.tup [])) t2 (.lst [.ref t1])) := (same_new nt1).trans (same_new nt2)
        have ht1 : SqT K (upd (upd H12 t1 (.tup [])) t2 (.lst [.ref t1])) t1 [] := (Ext.of (same_new nt2)).sqT (SqT.of upd_same)
        have ht2 : (upd (upd H12 t1 (.tup [])) t2 (.lst [.ref t1])) t2 = some (.lst [.ref t1]) := upd_same
        generalize upd (upd H12 t1 (.tup [])) t2 (.lst [.ref t1]) = H13 at s13 ht1 ht2 ⊢
        have s1113 := s12.trans s13
        refine ⟨.list (S2.map lotP), .list (([[]] : List (List (List Int))).map lotP), .lst (SqL.of (s1113 _ _ hd11)) (dp_lots (hdx11.ext (.of s1113))), .lst (SqL.of ht2) (.cons (.tup ht1 .nil) .nil), shaped_lots _, shaped_lots [[]], ?_⟩
        rw [eqv_lots, ringV_non hv6, oN, show decide (S2 = [[]]) = hitF n8 (partL n8 ps8) [] by rw [Bool.eq_iff_iff, decide_eq_true_eq]; exact given_nil g1 up]
        refine ⟨_, _, .bl _, .bl _, rfl, rfl, ?_⟩
        rw [eqv_bool]
        refine ⟨_, rfl, iteF ?_⟩
        -- one thing more in what was found
        have he13 := s1113 _ _ he
        have s813 := s812.trans s13
        have el : exs.length = S2.length := by rw [hex.length, List.length_map]
        have Sl : S2.length ≤ 1000 := by
          rw [g1.eq]
          exact Nat.le_trans (List.length_filter_le _ _) (lots_le l12 m2 (by have := g1.le; omega))
        refine ⟨_, rfl, .inl ⟨rfl, _, SqL.of he13⟩, e, exs, _, rfl, rfl, he13, sz_small (by omega), ?_⟩
        have ep := Ext.put (ys := exs ++ [.non]) he13
        have hx13 := hx8.same s813
        have neH8 : H8 e = none := by
          cases z : H8 e with
          | none => rfl
          | some o => have := s810 _ _ z; rw [ne] at this; cases this
        obtain ⟨e1, e2, e3⟩ := hx8.ne neH8
        have k14 : KeepP h g sm H8 (upd H13 e (.lst (exs ++ [.non]))) := (KeepP.of hx8 s813).put neH8 ⟨e1, e2, e3⟩
        have hd14 : (upd H13 e (.lst (exs ++ [.non]))) d = some (.lst dxs) := by
          rw [upd_ne hde]
          exact s1113 _ _ hd11
        have hdx14 := (hdx11.ext (.of s1113)).ext ep
        have hv14 := RingV.ext ep (RingV.ext (.of s13) hv6)
        have hu14 := hu8.ext (KeepP.ext hx8 k14)
        generalize upd H13 e (.lst (exs ++ [.non])) = H14 at k14 hd14 hdx14 hv14 hu14 ⊢
        clear ep he13
        try dsimp only [tNext, tSeq, tAsg, gName, List.set_cons_succ, List.set_cons_zero]
        refine ⟨_, rfl, _, rfl, n8, u8, ps8, rfl, ls8, hu14, fun e' H15 m3 S3 ne' s15 hS3 g3 => ?_⟩
        obtain ⟨_, eS⟩ := g3.one g1
        subst eS
        obtain ⟨fxs, hf, hfx⟩ := hS3
        have hd15 := s15 _ _ hd14
        have hdx15 := hdx14.ext (.of s15)
        refine ⟨_, rfl, .list (S3.map lotP), .list (S3.map lotP), .lst (SqL.of hf) (dp_lots hfx), .lst (SqL.of hd15) (dp_lots hdx15), shaped_lots _, shaped_lots _, ?_⟩
        rw [eqv_lots, decide_eq_true rfl]
        refine ⟨_, rfl, iteF ?_⟩
        have k15 := k14.same s15
        have dl : dxs.length = S3.length := by rw [hdx15.length, List.length_map]
        refine ⟨_, rfl, _, rfl, h, g, sm, d, dxs, rfl, k15.pot, .inl ⟨d1', d2', hd15⟩, by rw [dl]; exact List.length_pos_iff.mpr g1.ne, by omega, fun lv H16 hlv k16 => ?_⟩
        obtain ⟨li, hli⟩ := List.mem_iff_getElem?.mp hlv
        obtain ⟨ld, hld, hlv15⟩ := hdx15.get hli
        obtain ⟨lot, hlot, rfl⟩ := map_at hld
        obtain ⟨lh, lm, lsub, lpw⟩ := given_mem g1 up (List.mem_of_getElem? hlot)
        have l816 := k15.trans k16
        have hlot16 := hlv15.ext (KeepP.ext k15.pot k16)
        have hv16 := RingV.ext ((Ext.of s15).trans (KeepP.ext k15.pot k16)) hv14
        have hu16 := hu8.ext (KeepP.ext hx8 l816)
        obtain ⟨la, lzs, rfl, hla, hlz⟩ := hlot16.tup_inv
        obtain ⟨ua, uxs, rfl, hua, hux⟩ := hu16.tup_inv
        have uxl : uxs.length = ps8.length := by rw [hux.length, List.length_map]
        have ltp : ∀ p ∈ lot, p.length < n8 := fun p hp => (mem_partL.mp (lsub p hp)).2
        try dsimp only [tNext, tSeq, tAsg, gName, List.set_cons_succ, List.set_cons_zero]
        refine ⟨_, rfl, ua, rfl, ⟨_, hua⟩, fun D nD => lc_tup (K := K) (xs := uxs) (fun j H' => Got K H16 D ((lessP (ps8.take j) lot).map ctD) H') (.zero nD) (fun j H' _ g => (Ext.of g.same).sqT hua) ?_ ?_⟩
        · rintro j y H17 hyj g
          obtain ⟨d, hd, hyd⟩ := (hux.ext (.of g.same)).get hyj
          obtain ⟨p, hp, rfl⟩ := map_at hd
          have hfp := take_filter (f := fun p => !decide (p ∈ lot)) hp
          have gl : ((lessP (ps8.take j) lot).map ctD).length ≤ 10000 := by
            rw [List.length_map]
            unfold lessP
            have := List.length_filter_le (fun p => !decide (p ∈ lot)) (ps8.take j)
            have := List.length_take (i := j) (l := ps8)
            have := ls8.len
            omega
          refine ⟨rfl, ?_⟩
          refine ⟨_, rfl, _, rfl, ctP p, lot.map ctP, dp_ct hyd, .tup ((Ext.of g.same).sqT hla) (dp_patsP (hlz.ext (.of g.same))), shaped_ct _, shaped_patsP _, ?_⟩
          rw [any_pats]
          refine ⟨_, rfl, ?_⟩
          by_cases e : (!decide (p ∈ lot)) = true
          · rw [if_pos e] at hfp
            rw [if_pos e]
            have z := g.put nD (Same.refl H17) hyd gl
            unfold lessP at z ⊢
            rw [hfp, List.map_append]
            exact ⟨_, rfl, z⟩
          · rw [if_neg e, List.append_nil] at hfp
            rw [if_neg e]
            unfold lessP at g ⊢
            rw [hfp]
            exact g
        · rintro H17 ⟨s17, acc, hD, hac⟩
          rw [uxl, List.take_length] at hac
          refine ⟨D, _, rfl, .inl ⟨SqL.of hD, fun lt nlt => ?_⟩⟩
          have s18 := s17.trans (same_new (o := HO.tup acc) nlt)
          have hlt : Dh K (upd H17 lt (.tup acc)) (.ref lt) (patsD (lessP ps8 lot)) := .tup (SqT.of upd_same) (hac.ext (Ext.new nlt))
          generalize upd H17 lt (.tup acc) = H18 at s18 hlt ⊢
          have lsL := ls8.less ltp
          have ePL := partL_less n8 ps8 lot
          try dsimp only [tNext, tSeq, tAsg, gName, List.set_cons_succ, List.set_cons_zero]
          refine ⟨_, rfl, _, rfl, n8, _, lessP ps8 lot, rfl, lsL.ok, hlt, fun v9 H19 o9 s19 hR9 hv9 => ⟨rfl, _, rfl, ?_⟩⟩
          have o9n : (ords n8 (partL n8 (lessP ps8 lot)) (rgI n8)).head?.isSome = true := by
            rw [ePL]
            exact lh
          have o9N : o9 = none := (least_none (n := n8) n5 lsL.subP hR9).mpr (Option.isSome_iff_ne_none.mp o9n)
          rw [ringV_non hv9, o9N]
          refine iteF ?_
          refine ⟨_, rfl, _, rfl, n8, _, lessP ps8 lot, rfl, lsL.ok, hlt.ext (.of s19), fun v10 H20 s20 hv10 => ⟨rfl, _, rfl, ?_⟩⟩
          rw [ordV_non hv10]
          rw [show (ords n8 (partL n8 (lessP ps8 lot)) (rgI n8)).head?.isNone = false by cases z : (ords n8 (partL n8 (lessP ps8 lot)) (rgI n8)).head? with
            | none => rw [z] at o9n; cases o9n
            | some o => rfl]
          refine iteF ?_
          have s1620 := s18.trans (s19.trans s20)
          have hla20 := (Ext.of s1620).sqT hla
          have hlz20 := hlz.ext (.of s1620)
          refine ⟨_, rfl, Nat.zero_le _, fun t3 nt3 => ?_⟩
          have s21 : Same H20 (upd H20 t3 (.tup [])) := same_new nt3
          refine ⟨lotP lot, lotP [], .tup ((Ext.of s21).sqT hla20) (dp_patsP (hlz20.ext (.of s21))), .tup (SqT.of upd_same) .nil, shaped_patsP _, shaped_patsP [], ?_⟩
          rw [show PyData.eqv (lotP lot) (lotP []) = decide (lot = []) from eqv_pats lot []]
          refine ⟨_, rfl, ?_⟩
          have s1621 := s1620.trans s21
          generalize upd H20 t3 (.tup []) = H21 at s21 s1621 ⊢
          by_cases el0 : lot = []
          · rw [decide_eq_true el0]
            exact iteT (q _)
          rw [decide_eq_false el0]
          refine iteF ?_
          have hv21 := RingV.ext (.of s1621) hv16
          have hla21 := (Ext.of s1621).sqT hla
          have hlz21 := hlz.ext (.of s1621)
          have k21 := l816.same s1621
          have hx21 := k21.pot
          cases o with
          | none =>
            have h0 : hitF n8 (partL n8 ps8) [] = true := by rw [← oN]; rfl
            have hS := (given_nil g1 up).mpr h0
            have := List.mem_of_getElem? hlot
            rw [hS] at this
            exact absurd (List.mem_singleton.mp this) el0
          | some x =>
            obtain ⟨r, r3, rn, hno, hxm, hle⟩ := hR
            have hv21 : Dh K H21 v6 (rgD x.1 x.2) := hv21
            obtain ⟨b, bzs, rfl, hb, hball⟩ := hv21.tup_inv
            obtain ⟨v1, v2, rfl, h1, h2⟩ := dh_two hball
            obtain ⟨ra, ws, rfl, hra, hws⟩ := h1.tup_inv
            have xr : x.1.length = r := (mem_ringsL.mp (ringsF_L r3 (by omega) hxm)).1.1
            have wl : ws.length = x.1.length := by rw [hws.length, List.length_map]
            refine ⟨_, rfl, b, _, 0, _, rfl, rfl, hb, atI_nat (j := 0) rfl, ra, rfl, ⟨_, hra⟩, fun F nF => lc_tup (K := K) (xs := ws) (fun j H' => Same H21 H' ∧ H' F = some (.lst (((x.1.take j).map fun p => decide (p ∈ lot)).map V.bl))) ⟨same_new nF, upd_same⟩ (fun j H' _ ⟨s', _⟩ => (Ext.of s').sqT hra) ?_ ?_⟩
            · rintro j y H22 hyj ⟨s22, hF⟩
              obtain ⟨d, hd, hyd⟩ := (hws.ext (.of s22)).get hyj
              obtain ⟨p, hp, rfl⟩ := map_at hd
              refine ⟨rfl, ?_⟩
              dsimp only [tYes]
              rw [if_pos rfl]
              refine ⟨_, rfl, _, rfl, ctP p, lot.map ctP, dp_ct hyd, .tup ((Ext.of s22).sqT hla21) (dp_patsP (hlz21.ext (.of s22))), shaped_ct _, shaped_patsP _, ?_⟩
              rw [any_pats]
              refine ⟨_, hF, sz_small (by rw [List.length_map, List.length_map, List.length_take]; omega), Same.put nF s22, ?_⟩
              rw [upd_same, List.take_add_one, hp, List.map_append, List.map_append]
              rfl
            · rintro H22 ⟨s22, hF⟩
              rw [wl, List.take_length] at hF
              refine ⟨F, _, rfl, SqL.of hF, _, rfl, ?_⟩
              obtain ⟨p0, hp0, hpl0⟩ := (hit_rings up n5 sub).mp lh r r3 rn x hxm
              rw [show (x.1.map fun p => decide (p ∈ lot)).any id = true by rw [List.any_map]; exact List.any_eq_true.mpr ⟨p0, hp0, decide_eq_true hpl0⟩]
              refine iteF ?_
              have k22 := k21.same s22
              have hla22 := (Ext.of s22).sqT hla21
              have hlz22 := hlz21.ext (.of s22)
              have lzl : lzs.length = lot.length := by rw [hlz22.length, List.length_map]
              have ll12 : lot.length ≤ 12 := by have := g1.le; omega
              refine ⟨_, rfl, _, rfl, la, _, rfl, .inr hla22, fun q1 nq1 => ?_⟩
              have s23 : Same H22 (upd H22 q1 (.lst lzs)) := same_new nq1
              have hq1 : (upd H22 q1 (.lst lzs)) q1 = some (.lst lzs) := upd_same
              obtain ⟨c1, c2, _⟩ := k22.pot.ne nq1
              generalize upd H22 q1 (.lst lzs) = H23 at s23 hq1 ⊢
              have k23 := k22.same s23
              refine ⟨h, g, sm, q1, lzs, rfl, k23.pot, .inl ⟨c1, c2, hq1⟩, by rw [lzl]; exact List.length_pos_iff.mpr el0, by omega, fun kv H24 hkv k24 => ?_⟩
              obtain ⟨ki, hki⟩ := List.mem_iff_getElem?.mp hkv
              obtain ⟨kd, hkd, hkv23⟩ := (hlz22.ext (.of s23)).get hki
              obtain ⟨kept, hkept, rfl⟩ := map_at hkd
              have hkm := List.mem_of_getElem? hkept
              have ex24 := KeepP.ext k23.pot k24
              have hkv24 := hkv23.ext ex24
              have hla24 := ((Ext.of s23).trans ex24).sqT hla22
              have hlz24 := (hlz22.ext (.of s23)).ext ex24
              have k824 := k23.trans k24
              have hua24 := (KeepP.ext hx8 k824)
              obtain ⟨ua', uxs', eua, hua', hux'⟩ := (hu8.ext hua24).tup_inv
              cases eua
              have uxl' : uxs'.length = ps8.length := by rw [hux'.length, List.length_map]
              have wk : ∀ p : List Int, (!decide (p ∈ lot.filter fun z => decide (z ≠ kept))) = (!decide (p ∈ lot) || decide (p = kept)) := fun p => by
                rw [Bool.eq_iff_iff, Bool.not_eq_true', decide_eq_false_iff_not, Bool.or_eq_true, Bool.not_eq_true', decide_eq_false_iff_not, decide_eq_true_eq, List.mem_filter, decide_eq_true_eq]
                constructor
                · intro z
                  by_cases y : p ∈ lot
                  · exact .inr (Classical.byContradiction fun w => z ⟨y, w⟩)
                  · exact .inl y
                · rintro (z | z) ⟨y1, y2⟩
                  · exact z y1
                  · exact y2 z
              obtain ⟨lk, hlk⟩ : ∃ lk, lk = lot.filter fun z => decide (z ≠ kept) := ⟨_, rfl⟩
              rw [← hlk] at wk
              have ltk : ∀ p ∈ lk, p.length < n8 := fun p hp => ltp p (by rw [hlk] at hp; exact (List.mem_filter.mp hp).1)
              have hk0 : hitF n8 (partL n8 ps8) lk = false := by rw [hlk]; exact given_less g1 up (List.mem_of_getElem? hlot) hkm
              try dsimp only [tNext, tSeq, tAsg, gName, List.set_cons_succ, List.set_cons_zero]
              refine ⟨_, rfl, ua, rfl, ⟨_, hua'⟩, fun D2 nD2 => lc_tup (K := K) (xs := uxs') (fun j H' => Got K H24 D2 ((lessP (ps8.take j) lk).map ctD) H') (.zero nD2) (fun j H' _ g => (Ext.of g.same).sqT hua') ?_ ?_⟩
              · rintro j y H25 hyj g
                obtain ⟨d, hd, hyd⟩ := (hux'.ext (.of g.same)).get hyj
                obtain ⟨p, hp, rfl⟩ := map_at hd
                have hfp := take_filter (f := fun p => !decide (p ∈ lk)) hp
                have gl : ((lessP (ps8.take j) lk).map ctD).length ≤ 10000 := by
                  rw [List.length_map]
                  unfold lessP
                  have := List.length_filter_le (fun p => !decide (p ∈ lk)) (ps8.take j)
                  have := List.length_take (i := j) (l := ps8)
                  have := ls8.len
                  omega
                have put : (!decide (p ∈ lk)) = true → ∃ acc, H25 D2 = some (.lst acc) ∧ acc.length < sizeLine ∧ Got K H24 D2 ((lessP (ps8.take (j + 1)) lk).map ctD) (upd H25 D2 (.lst (acc ++ [y]))) := fun e => by
                  rw [if_pos e] at hfp
                  have z := g.put nD2 (Same.refl H25) hyd gl
                  unfold lessP at z ⊢
                  rw [hfp, List.map_append]
                  exact z
                refine ⟨rfl, ?_⟩
                refine ⟨_, rfl, _, rfl, ctP p, lot.map ctP, dp_ct hyd, .tup ((Ext.of g.same).sqT hla24) (dp_patsP (hlz24.ext (.of g.same))), shaped_ct _, shaped_patsP _, ?_⟩
                rw [any_pats]
                refine ⟨_, rfl, ?_⟩
                by_cases e1 : p ∈ lot
                · rw [decide_eq_true e1]
                  refine iteF ?_
                  refine ⟨_, rfl, _, rfl, ctP p, ctP kept, dp_ct hyd, dp_ct (hkv24.ext (.of g.same)), shaped_ct _, shaped_ct _, ?_⟩
                  rw [eqv_ct]
                  refine ⟨_, rfl, ?_⟩
                  have wp := wk p
                  rw [decide_eq_true e1] at wp
                  have wp : (!decide (p ∈ lk)) = decide (p = kept) := wp
                  dsimp only
                  by_cases e2 : p = kept
                  · rw [decide_eq_true e2, if_pos rfl]
                    exact ⟨_, rfl, put (by rw [wp]; exact decide_eq_true e2)⟩
                  · rw [decide_eq_false e2, if_neg (by decide)]
                    rw [if_neg (by rw [wp, decide_eq_false e2]; decide), List.append_nil] at hfp
                    unfold lessP at g ⊢
                    rw [hfp]
                    exact g
                · rw [decide_eq_false e1]
                  refine iteT ?_
                  dsimp only
                  rw [if_pos rfl]
                  exact ⟨_, rfl, put (by rw [wk, decide_eq_false e1]; rfl)⟩
              · rintro H25 ⟨s25, acc2, hD2, hac2⟩
                rw [uxl', List.take_length] at hac2
                refine ⟨D2, _, rfl, .inl ⟨SqL.of hD2, fun mt nmt => ?_⟩⟩
                have hmt : Dh K (upd H25 mt (.tup acc2)) (.ref mt) (patsD (lessP ps8 lk)) := .tup (SqT.of upd_same) (hac2.ext (Ext.new nmt))
                generalize upd H25 mt (.tup acc2) = H26 at hmt ⊢
                have lsM := ls8.less ltk
                have ePM := partL_less n8 ps8 lk
                have hn0 : (ords n8 (partL n8 (lessP ps8 lk)) (rgI n8)).head?.isSome = false := by
                  rw [ePM]
                  exact hk0
                try dsimp only [tNext, tSeq, tAsg, gName, List.set_cons_succ, List.set_cons_zero]
                refine ⟨_, rfl, _, rfl, n8, _, lessP ps8 lk, rfl, lsM.ok, hmt, fun v11 H27 o11 s27 hR11 hv11 => ⟨rfl, ?_⟩⟩
                have o11n : o11.isNone = false := by
                  cases o11 with
                  | none =>
                    have := (least_none (n := n8) n5 lsM.subP hR11).mp rfl
                    rw [← Option.isSome_iff_ne_none, hn0] at this
                    cases this
                  | some y => rfl
                rw [ringV_non hv11, o11n]
                refine ⟨true, rfl, ?_⟩
                rw [if_pos rfl]
                refine ⟨_, rfl, _, rfl, n8, _, lessP ps8 lk, rfl, lsM.ok, hmt.ext (.of s27), fun v12 H28 s28 hv12 => ⟨rfl, ?_⟩⟩
                rw [ordV_non hv12]
                rw [show (ords n8 (partL n8 (lessP ps8 lk)) (rgI n8)).head?.isNone = true by
                  rw [Option.isNone_iff_eq_none]
                  cases z : (ords n8 (partL n8 (lessP ps8 lk)) (rgI n8)).head? with
                  | none => rfl
                  | some o => rw [z] at hn0; cases hn0]
                exact q _
end
end Fm
namespace Fm
open PySem PySem.Spec PyProof.Rows L2
section
variable {P : Program} {w : World} {K : PySem.W.Frag} {mg : Str → Option Value} {base : Heap}
theorem kit_own {K : PySem.W.Frag} {D C : Addr} {b : Bool} (hne : D ≠ C) (hdct : PySem.W.hasDictIn K C = true) (ht : PySem.W.typeIn K (.ref C) = some (.type "type")) (h : PySem.W.subIn K (.ref D) (.ref C) = some b) : PySem.W.kitOne K (.ref D) (.ref C) = some b := by
  obtain ⟨cd, hc, _⟩ := PySem.W.any_some hdct
  unfold PySem.W.kitOne
  rw [if_neg fun e => hne (Value.ref.inj (beq_iff_eq.mp e))]
  have e2 : ((PySem.W.clsIn K C).isSome && PySem.W.typeIn K (.ref C) == some (.type "type")) = true := by rw [hc, ht] <;> rfl
  show (if ((PySem.W.clsIn K C).isSome && PySem.W.typeIn K (.ref C) == some (.type "type")) = true then PySem.W.subIn K (.ref D) (.ref C) else none) = some b
  rw [if_pos e2]
  exact h
theorem oexC_mk {K : PySem.W.Frag} {C N : Addr} {nm q : Str} {bs bm sub : List Value} {sn : List Str} {ab : Bool} {col : Option Bool} {dd : Option Addr} {k0 k1 k2 k3 k5 : Option Value} (l : K.lookup C = some (excClassObj nm q C N bs bm true sn sub ab col dd k0 k1 k2 k3 k5 "ValueError.__new__"))
    (r : PySem.HandSPX.refsVE bm = true) (sa : PySem.W.findIn K (.ref C) "__setattr__" = some (some (.builtin "object.__setattr__"))) (ex : PySem.W.subIn K (.ref C) (.type "BaseException") = some true) (ty : PySem.W.typeIn K (.ref C) = some (.type "type")) (kC : PySem.W.keepIn K (.ref C) = true) : OexC K C :=
  ⟨⟨nm, q, N, bs, bm, sn, sub, ab, col, dd, k0, k1, k2, k3, k5, l, r⟩, sa, ex, ty, kC⟩
theorem all_mk {l : PySem.W.OpenLaw} {w : World} {K : PySem.W.Frag} {h : Heap} {mg : Str → Option Value} {fa f1 f2 f3 f4 f5 f6 f7 f8 f9 f10 f11 f12 f13 f14 f15 f16 f17 f18 f19 f20 f21 f22 f23 f24 f25 f26 f27 f28 f29 f30 f31 f32 f33 f34 f35 f36 c_NoNumber c_NoList c_MaskError : Addr} (X : K.In h) (G : h.Ns mainGlobals mg) (hfa : mg "law" = some (.ref fa))
    {od1 an1 od2 an2 od3 an3 od4 an4 od5 an5 od6 an6 od7 an7 od8 an8 od9 an9 od10 an10 od11 an11 od12 an12 od13 an13 od14 an14 od15 an15 od16 an16 od17 an17 od18 an18 od19 an19 od20 an20 od21 an21 od22 an22 od23 an23 od24 an24 od25 an25 od26 an26 od27 an27 od28 an28 od29 an29 od30 an30 od31 an31 od32 an32 od33 an33 od34 an34 od35 an35 od36 an36 : Option Addr} {sl1 sl2 sl3 sl4 sl5 sl6 sl7 sl8 sl9 sl10 sl11 sl12 sl13 sl14 sl15 sl16 sl17 sl18 sl19 sl20 sl21 sl22 sl23 sl24 sl25 sl26 sl27 sl28 sl29 sl30 sl31 sl32 sl33 sl34 sl35 sl36 : Array (Option Value)} {oc1 kV1 dc1 pm1 cd1 ct1 oc2 kV2 dc2 pm2 cd2 ct2 oc3 kV3 dc3 pm3 cd3 ct3 oc4 kV4 dc4 pm4 cd4 ct4 oc5 kV5 dc5 pm5 cd5 ct5 oc6 kV6 dc6 pm6 cd6 ct6 oc7 kV7 dc7 pm7 cd7 ct7 oc8 kV8 dc8 pm8 cd8 ct8 oc9 kV9 dc9 pm9 cd9 ct9 oc10 kV10 dc10 pm10 cd10 ct10 oc11 kV11 dc11 pm11 cd11 ct11 oc12 kV12 dc12 pm12 cd12 ct12 oc13 kV13 dc13 pm13 cd13 ct13 oc14 kV14 dc14 pm14 cd14 ct14 oc15 kV15 dc15 pm15 cd15 ct15 oc16 kV16 dc16 pm16 cd16 ct16 oc17 kV17 dc17 pm17 cd17 ct17 oc18 kV18 dc18 pm18 cd18 ct18 oc19 kV19 dc19 pm19 cd19 ct19 oc20 kV20 dc20 pm20 cd20 ct20 oc21 kV21 dc21 pm21 cd21 ct21 oc22 kV22 dc22 pm22 cd22 ct22 oc23 kV23 dc23 pm23 cd23 ct23 oc24 kV24 dc24 pm24 cd24 ct24 oc25 kV25 dc25 pm25 cd25 ct25 oc26 kV26 dc26 pm26 cd26 ct26 oc27 kV27 dc27 pm27 cd27 ct27 oc28 kV28 dc28 pm28 cd28 ct28 oc29 kV29 dc29 pm29 cd29 ct29 oc30 kV30 dc30 pm30 cd30 ct30 oc31 kV31 dc31 pm31 cd31 ct31 oc32 kV32 dc32 pm32 cd32 ct32 oc33 kV33 dc33 pm33 cd33 ct33 oc34 kV34 dc34 pm34 cd34 ct34 oc35 kV35 dc35 pm35 cd35 ct35 oc36 kV36 dc36 pm36 cd36 ct36 m_MaskError : Value} {t1 t2 t3 : _}
    (n_NoNumber : PySem.W.nsIn K mainGlobals "NoNumber" = some (some (.ref c_NoNumber)))
    (n_NoList : PySem.W.nsIn K mainGlobals "NoList" = some (some (.ref c_NoList)))
    (n_MaskError : PySem.W.nsIn K mainGlobals "MaskError" = some (some (.ref c_MaskError)))
    (w_combinations : PySem.W.nsIn K mainGlobals "combinations" = some (some (.type "itertools.combinations")))
    (w_permutations : PySem.W.nsIn K mainGlobals "permutations" = some (some (.type "itertools.permutations")))
    (a1 : PySem.W.nsIn K mainGlobals "is_whole" = some (some (.ref f1))) (l1 : K.lookup f1 = some ⟨oc1, od1, .func (PySem.W.fnOf "is_whole" "is_whole" (defArgs s_is_whole) (defBody s_is_whole) (defScope s_is_whole) .none kV1 dc1 pm1 an1 cd1 ct1), sl1⟩) (c1 : PySem.W.codeIn K cd1 "is_whole" = true) (k1 : PySem.W.keepIn K (.ref f1) = true)
    (a2 : PySem.W.nsIn K mainGlobals "is_pattern" = some (some (.ref f2))) (l2 : K.lookup f2 = some ⟨oc2, od2, .func (PySem.W.fnOf "is_pattern" "is_pattern" (defArgs s_is_pattern) (defBody s_is_pattern) (defScope s_is_pattern) .none kV2 dc2 pm2 an2 cd2 ct2), sl2⟩) (c2 : PySem.W.codeIn K cd2 "is_pattern" = true) (k2 : PySem.W.keepIn K (.ref f2) = true)
    (a3 : PySem.W.nsIn K mainGlobals "all_columns" = some (some (.ref f3))) (l3 : K.lookup f3 = some ⟨oc3, od3, .func (PySem.W.fnOf "all_columns" "all_columns" (defArgs s_all_columns) (defBody s_all_columns) (defScope s_all_columns) .none kV3 dc3 pm3 an3 cd3 ct3), sl3⟩) (c3 : PySem.W.codeIn K cd3 "all_columns" = true) (k3 : PySem.W.keepIn K (.ref f3) = true)
    (a4 : PySem.W.nsIn K mainGlobals "less" = some (some (.ref f4))) (l4 : K.lookup f4 = some ⟨oc4, od4, .func (PySem.W.fnOf "less" "less" (defArgs s_less) (defBody s_less) (defScope s_less) .none kV4 dc4 pm4 an4 cd4 ct4), sl4⟩) (c4 : PySem.W.codeIn K cd4 "less" = true) (k4 : PySem.W.keepIn K (.ref f4) = true)
    (a5 : PySem.W.nsIn K mainGlobals "is_list" = some (some (.ref f5))) (l5 : K.lookup f5 = some ⟨oc5, od5, .func (PySem.W.fnOf "is_list" "is_list" (defArgs s_is_list) (defBody s_is_list) (defScope s_is_list) .none kV5 dc5 pm5 an5 cd5 ct5), sl5⟩) (c5 : PySem.W.codeIn K cd5 "is_list" = true) (k5 : PySem.W.keepIn K (.ref f5) = true)
    (a6 : PySem.W.nsIn K mainGlobals "parts_of" = some (some (.ref f6))) (l6 : K.lookup f6 = some ⟨oc6, od6, .func (PySem.W.fnOf "parts_of" "parts_of" (defArgs s_parts_of) (defBody s_parts_of) (defScope s_parts_of) .none kV6 dc6 pm6 an6 cd6 ct6), sl6⟩) (c6 : PySem.W.codeIn K cd6 "parts_of" = true) (k6 : PySem.W.keepIn K (.ref f6) = true)
    (a7 : PySem.W.nsIn K mainGlobals "within" = some (some (.ref f7))) (l7 : K.lookup f7 = some ⟨oc7, od7, .func (PySem.W.fnOf "within" "within" (defArgs s_within) (defBody s_within) (defScope s_within) .none kV7 dc7 pm7 an7 cd7 ct7), sl7⟩) (c7 : PySem.W.codeIn K cd7 "within" = true) (k7 : PySem.W.keepIn K (.ref f7) = true)
    (a8 : PySem.W.nsIn K mainGlobals "is_nest" = some (some (.ref f8))) (l8 : K.lookup f8 = some ⟨oc8, od8, .func (PySem.W.fnOf "is_nest" "is_nest" (defArgs s_is_nest) (defBody s_is_nest) (defScope s_is_nest) .none kV8 dc8 pm8 an8 cd8 ct8), sl8⟩) (c8 : PySem.W.codeIn K cd8 "is_nest" = true) (k8 : PySem.W.keepIn K (.ref f8) = true)
    (a9 : PySem.W.nsIn K mainGlobals "struck" = some (some (.ref f9))) (l9 : K.lookup f9 = some ⟨oc9, od9, .func (PySem.W.fnOf "struck" "struck" (defArgs s_struck) (defBody s_struck) (defScope s_struck) .none kV9 dc9 pm9 an9 cd9 ct9), sl9⟩) (c9 : PySem.W.codeIn K cd9 "struck" = true) (k9 : PySem.W.keepIn K (.ref f9) = true)
    (a10 : PySem.W.nsIn K mainGlobals "order_of" = some (some (.ref f10))) (l10 : K.lookup f10 = some ⟨oc10, od10, .func (PySem.W.fnOf "order_of" "order_of" (defArgs s_order_of) (defBody s_order_of) (defScope s_order_of) .none kV10 dc10 pm10 an10 cd10 ct10), sl10⟩) (c10 : PySem.W.codeIn K cd10 "order_of" = true) (k10 : PySem.W.keepIn K (.ref f10) = true)
    (a11 : PySem.W.nsIn K mainGlobals "order" = some (some (.ref f11))) (l11 : K.lookup f11 = some ⟨oc11, od11, .func (PySem.W.fnOf "order" "order" (defArgs s_order) (defBody s_order) (defScope s_order) .none kV11 dc11 pm11 an11 cd11 ct11), sl11⟩) (c11 : PySem.W.codeIn K cd11 "order" = true) (k11 : PySem.W.keepIn K (.ref f11) = true)
    (a12 : PySem.W.nsIn K mainGlobals "ring_columns" = some (some (.ref f12))) (l12 : K.lookup f12 = some ⟨oc12, od12, .func (PySem.W.fnOf "ring_columns" "ring_columns" (defArgs s_ring_columns) (defBody s_ring_columns) (defScope s_ring_columns) .none kV12 dc12 pm12 an12 cd12 ct12), sl12⟩) (c12 : PySem.W.codeIn K cd12 "ring_columns" = true) (k12 : PySem.W.keepIn K (.ref f12) = true)
    (a13 : PySem.W.nsIn K mainGlobals "those_with" = some (some (.ref f13))) (l13 : K.lookup f13 = some ⟨oc13, od13, .func (PySem.W.fnOf "those_with" "those_with" (defArgs s_those_with) (defBody s_those_with) (defScope s_those_with) .none kV13 dc13 pm13 an13 cd13 ct13), sl13⟩) (c13 : PySem.W.codeIn K cd13 "those_with" = true) (k13 : PySem.W.keepIn K (.ref f13) = true)
    (a14 : PySem.W.nsIn K mainGlobals "ring_in" = some (some (.ref f14))) (l14 : K.lookup f14 = some ⟨oc14, od14, .func (PySem.W.fnOf "ring_in" "ring_in" (defArgs s_ring_in) (defBody s_ring_in) (defScope s_ring_in) .none kV14 dc14 pm14 an14 cd14 ct14), sl14⟩) (c14 : PySem.W.codeIn K cd14 "ring_in" = true) (k14 : PySem.W.keepIn K (.ref f14) = true)
    (a15 : PySem.W.nsIn K mainGlobals "rings_of" = some (some (.ref f15))) (l15 : K.lookup f15 = some ⟨oc15, od15, .func (PySem.W.fnOf "rings_of" "rings_of" (defArgs s_rings_of) (defBody s_rings_of) (defScope s_rings_of) .none kV15 dc15 pm15 an15 cd15 ct15), sl15⟩) (c15 : PySem.W.codeIn K cd15 "rings_of" = true) (k15 : PySem.W.keepIn K (.ref f15) = true)
    (a16 : PySem.W.nsIn K mainGlobals "ring" = some (some (.ref f16))) (l16 : K.lookup f16 = some ⟨oc16, od16, .func (PySem.W.fnOf "ring" "ring" (defArgs s_ring) (defBody s_ring) (defScope s_ring) .none kV16 dc16 pm16 an16 cd16 ct16), sl16⟩) (c16 : PySem.W.codeIn K cd16 "ring" = true) (k16 : PySem.W.keepIn K (.ref f16) = true)
    (a17 : PySem.W.nsIn K mainGlobals "given_up" = some (some (.ref f17))) (l17 : K.lookup f17 = some ⟨oc17, od17, .func (PySem.W.fnOf "given_up" "given_up" (defArgs s_given_up) (defBody s_given_up) (defScope s_given_up) .none kV17 dc17 pm17 an17 cd17 ct17), sl17⟩) (c17 : PySem.W.codeIn K cd17 "given_up" = true) (k17 : PySem.W.keepIn K (.ref f17) = true)
    (a18 : PySem.W.nsIn K mainGlobals "is_hit" = some (some (.ref f18))) (l18 : K.lookup f18 = some ⟨oc18, od18, .func (PySem.W.fnOf "is_hit" "is_hit" (defArgs s_is_hit) (defBody s_is_hit) (defScope s_is_hit) .none kV18 dc18 pm18 an18 cd18 ct18), sl18⟩) (c18 : PySem.W.codeIn K cd18 "is_hit" = true) (k18 : PySem.W.keepIn K (.ref f18) = true)
    (a19 : PySem.W.nsIn K mainGlobals "_law_pot" = some (some (.ref f19))) (l19 : K.lookup f19 = some ⟨oc19, od19, .func (PySem.W.fnOf "_law_pot" "_law_pot" (defArgs s_law_pot) (defBody s_law_pot) (defScope s_law_pot) .none kV19 dc19 pm19 an19 cd19 ct19), sl19⟩) (c19 : PySem.W.codeIn K cd19 "_law_pot" = true) (k19 : PySem.W.keepIn K (.ref f19) = true)
    (a20 : PySem.W.nsIn K mainGlobals "_law_draw" = some (some (.ref f20))) (l20 : K.lookup f20 = some ⟨oc20, od20, .func (PySem.W.fnOf "_law_draw" "_law_draw" (defArgs s_law_draw) (defBody s_law_draw) (defScope s_law_draw) .none kV20 dc20 pm20 an20 cd20 ct20), sl20⟩) (c20 : PySem.W.codeIn K cd20 "_law_draw" = true) (k20 : PySem.W.keepIn K (.ref f20) = true)
    (a21 : PySem.W.nsIn K mainGlobals "_law_any" = some (some (.ref f21))) (l21 : K.lookup f21 = some ⟨oc21, od21, .func (PySem.W.fnOf "_law_any" "_law_any" (defArgs s_law_any) (defBody s_law_any) (defScope s_law_any) .none kV21 dc21 pm21 an21 cd21 ct21), sl21⟩) (c21 : PySem.W.codeIn K cd21 "_law_any" = true) (k21 : PySem.W.keepIn K (.ref f21) = true)
    (a22 : PySem.W.nsIn K mainGlobals "_law_mixed" = some (some (.ref f22))) (l22 : K.lookup f22 = some ⟨oc22, od22, .func (PySem.W.fnOf "_law_mixed" "_law_mixed" (defArgs s_law_mixed) (defBody s_law_mixed) (defScope s_law_mixed) .none kV22 dc22 pm22 an22 cd22 ct22), sl22⟩) (c22 : PySem.W.codeIn K cd22 "_law_mixed" = true) (k22 : PySem.W.keepIn K (.ref f22) = true)
    (a23 : PySem.W.nsIn K mainGlobals "_law_patterns" = some (some (.ref f23))) (l23 : K.lookup f23 = some ⟨oc23, od23, .func (PySem.W.fnOf "_law_patterns" "_law_patterns" (defArgs s_law_patterns) (defBody s_law_patterns) (defScope s_law_patterns) .none kV23 dc23 pm23 an23 cd23 ct23), sl23⟩) (c23 : PySem.W.codeIn K cd23 "_law_patterns" = true) (k23 : PySem.W.keepIn K (.ref f23) = true)
    (a24 : PySem.W.nsIn K mainGlobals "_law_list" = some (some (.ref f24))) (l24 : K.lookup f24 = some ⟨oc24, od24, .func (PySem.W.fnOf "_law_list" "_law_list" (defArgs s_law_list) (defBody s_law_list) (defScope s_law_list) .none kV24 dc24 pm24 an24 cd24 ct24), sl24⟩) (c24 : PySem.W.codeIn K cd24 "_law_list" = true) (k24 : PySem.W.keepIn K (.ref f24) = true)
    (a25 : PySem.W.nsIn K mainGlobals "_law_parts" = some (some (.ref f25))) (l25 : K.lookup f25 = some ⟨oc25, od25, .func (PySem.W.fnOf "_law_parts" "_law_parts" (defArgs s_law_parts) (defBody s_law_parts) (defScope s_law_parts) .none kV25 dc25 pm25 an25 cd25 ct25), sl25⟩) (c25 : PySem.W.codeIn K cd25 "_law_parts" = true) (k25 : PySem.W.keepIn K (.ref f25) = true)
    (a26 : PySem.W.nsIn K mainGlobals "_law_inside" = some (some (.ref f26))) (l26 : K.lookup f26 = some ⟨oc26, od26, .func (PySem.W.fnOf "_law_inside" "_law_inside" (defArgs s_law_inside) (defBody s_law_inside) (defScope s_law_inside) .none kV26 dc26 pm26 an26 cd26 ct26), sl26⟩) (c26 : PySem.W.codeIn K cd26 "_law_inside" = true) (k26 : PySem.W.keepIn K (.ref f26) = true)
    (a27 : PySem.W.nsIn K mainGlobals "_law_is_nest" = some (some (.ref f27))) (l27 : K.lookup f27 = some ⟨oc27, od27, .func (PySem.W.fnOf "_law_is_nest" "_law_is_nest" (defArgs s_law_is_nest) (defBody s_law_is_nest) (defScope s_law_is_nest) .none kV27 dc27 pm27 an27 cd27 ct27), sl27⟩) (c27 : PySem.W.codeIn K cd27 "_law_is_nest" = true) (k27 : PySem.W.keepIn K (.ref f27) = true)
    (a28 : PySem.W.nsIn K mainGlobals "_law_planted" = some (some (.ref f28))) (l28 : K.lookup f28 = some ⟨oc28, od28, .func (PySem.W.fnOf "_law_planted" "_law_planted" (defArgs s_law_planted) (defBody s_law_planted) (defScope s_law_planted) .none kV28 dc28 pm28 an28 cd28 ct28), sl28⟩) (c28 : PySem.W.codeIn K cd28 "_law_planted" = true) (k28 : PySem.W.keepIn K (.ref f28) = true)
    (a29 : PySem.W.nsIn K mainGlobals "_law_ringless" = some (some (.ref f29))) (l29 : K.lookup f29 = some ⟨oc29, od29, .func (PySem.W.fnOf "_law_ringless" "_law_ringless" (defArgs s_law_ringless) (defBody s_law_ringless) (defScope s_law_ringless) .none kV29 dc29 pm29 an29 cd29 ct29), sl29⟩) (c29 : PySem.W.codeIn K cd29 "_law_ringless" = true) (k29 : PySem.W.keepIn K (.ref f29) = true)
    (a30 : PySem.W.nsIn K mainGlobals "_law_big_list" = some (some (.ref f30))) (l30 : K.lookup f30 = some ⟨oc30, od30, .func (PySem.W.fnOf "_law_big_list" "_law_big_list" (defArgs s_law_big_list) (defBody s_law_big_list) (defScope s_law_big_list) .none kV30 dc30 pm30 an30 cd30 ct30), sl30⟩) (c30 : PySem.W.codeIn K cd30 "_law_big_list" = true) (k30 : PySem.W.keepIn K (.ref f30) = true)
    (a31 : PySem.W.nsIn K mainGlobals "_law_can_be_struck" = some (some (.ref f31))) (l31 : K.lookup f31 = some ⟨oc31, od31, .func (PySem.W.fnOf "_law_can_be_struck" "_law_can_be_struck" (defArgs s_law_can_be_struck) (defBody s_law_can_be_struck) (defScope s_law_can_be_struck) .none kV31 dc31 pm31 an31 cd31 ct31), sl31⟩) (c31 : PySem.W.codeIn K cd31 "_law_can_be_struck" = true) (k31 : PySem.W.keepIn K (.ref f31) = true)
    (a32 : PySem.W.nsIn K mainGlobals "_law_tuples" = some (some (.ref f32))) (l32 : K.lookup f32 = some ⟨oc32, od32, .func (PySem.W.fnOf "_law_tuples" "_law_tuples" (defArgs s_law_tuples) (defBody s_law_tuples) (defScope s_law_tuples) .none kV32 dc32 pm32 an32 cd32 ct32), sl32⟩) (c32 : PySem.W.codeIn K cd32 "_law_tuples" = true) (k32 : PySem.W.keepIn K (.ref f32) = true)
    (a33 : PySem.W.nsIn K mainGlobals "_law_due" = some (some (.ref f33))) (l33 : K.lookup f33 = some ⟨oc33, od33, .func (PySem.W.fnOf "_law_due" "_law_due" (defArgs s_law_due) (defBody s_law_due) (defScope s_law_due) .none kV33 dc33 pm33 an33 cd33 ct33), sl33⟩) (c33 : PySem.W.codeIn K cd33 "_law_due" = true) (k33 : PySem.W.keepIn K (.ref f33) = true)
    (a34 : PySem.W.nsIn K mainGlobals "law" = some (some (.ref f34))) (l34 : K.lookup f34 = some ⟨oc34, od34, .func (PySem.W.fnOf "law" "law" (defArgs s_law) (defBody s_law) (defScope s_law) .none kV34 dc34 pm34 an34 cd34 ct34), sl34⟩) (c34 : PySem.W.codeIn K cd34 "law" = true) (k34 : PySem.W.keepIn K (.ref f34) = true)
    (a35 : PySem.W.findIn K (.ref c_NoNumber) "__init__" = some (some (.ref f35))) (l35 : K.lookup f35 = some ⟨oc35, od35, .func (PySem.W.fnOf "__init__" "NoNumber.__init__" (defArgs s_NoNumber_init) (defBody s_NoNumber_init) (defScope s_NoNumber_init) .none kV35 dc35 pm35 an35 cd35 ct35), sl35⟩) (c35 : PySem.W.codeIn K cd35 "NoNumber.__init__" = true) (k35 : PySem.W.keepIn K (.ref f35) = true)
    (a36 : PySem.W.findIn K (.ref c_NoList) "__init__" = some (some (.ref f36))) (l36 : K.lookup f36 = some ⟨oc36, od36, .func (PySem.W.fnOf "__init__" "NoList.__init__" (defArgs s_NoList_init) (defBody s_NoList_init) (defScope s_NoList_init) .none kV36 dc36 pm36 an36 cd36 ct36), sl36⟩) (c36 : PySem.W.codeIn K cd36 "NoList.__init__" = true) (k36 : PySem.W.keepIn K (.ref f36) = true)
    (y_MaskError : PySem.W.typeIn K (.ref c_MaskError) = some m_MaskError)
    (U_MaskError : UpC K c_MaskError m_MaskError)
    (o_NoNumber : OexC K c_NoNumber)
    (t_NoNumber : PySem.W.typeIn K (.ref f35) = some (.type "function"))
    (e_NoNumber : ExcC K c_NoNumber)
    (x_NoNumber : PySem.W.exmOne K (.ref c_NoNumber) (.ref c_MaskError) = some true)
    (o_NoList : OexC K c_NoList)
    (t_NoList : PySem.W.typeIn K (.ref f36) = some (.type "function"))
    (e_NoList : ExcC K c_NoList)
    (x_NoList : PySem.W.exmOne K (.ref c_NoList) (.ref c_MaskError) = some true)
    (q_NoNumber_NoNumber : PySem.W.kitOne K (.ref c_NoNumber) (.ref c_NoNumber) = some true)
    (q_NoNumber_NoList : PySem.W.kitOne K (.ref c_NoNumber) (.ref c_NoList) = some false)
    (q_NoList_NoNumber : PySem.W.kitOne K (.ref c_NoList) (.ref c_NoNumber) = some false)
    (q_NoList_NoList : PySem.W.kitOne K (.ref c_NoList) (.ref c_NoList) = some true)
    (u1 : PySem.W.nsIn K mainGlobals "MOST_COLUMNS" = some (some (.int 5 t1)))
    (u2 : PySem.W.nsIn K mainGlobals "MOST_PATTERNS" = some (some (.int 12 t2)))
    (u3 : PySem.W.nsIn K mainGlobals "LEAST_RING" = some (some (.int 3 t3)))
    (z1 : PySem.W.nsIn K mainGlobals "len" = some none)
    (z2 : PySem.W.nsIn K mainGlobals "isinstance" = some none)
    (z3 : PySem.W.nsIn K mainGlobals "range" = some none)
    (z4 : PySem.W.nsIn K mainGlobals "zip" = some none)
    (z5 : PySem.W.nsIn K mainGlobals "tuple" = some none)
    (z6 : PySem.W.nsIn K mainGlobals "list" = some none)
    (z7 : PySem.W.nsIn K mainGlobals "int" = some none)
    (z8 : PySem.W.nsIn K mainGlobals "bool" = some none)
    (z9 : PySem.W.nsIn K mainGlobals "abs" = some none)
    (z10 : PySem.W.nsIn K mainGlobals "sorted" = some none)
    (z11 : PySem.W.nsIn K mainGlobals "set" = some none)
    (z12 : PySem.W.nsIn K mainGlobals "enumerate" = some none)
    (z13 : PySem.W.nsIn K mainGlobals "sum" = some none)
    (z14 : PySem.W.nsIn K mainGlobals "all" = some none)
    (z15 : PySem.W.nsIn K mainGlobals "any" = some none)
    : ∃ fd : FuncData, (∀ (s : Shared) (v : Value), BindsTo s fd ⟨[v], []⟩ [("script", v)]) ∧ ∀ base : Heap, K.In base → base.Ns mainGlobals mg → FnOk l.prog w K mg base CX0 11 fa fd ["script"] (spLaw K) := by
  have e := hfa.symm.trans (PySem.W.mg_of X G a34)
  cases e
  have F1 := fun_mk (st := s_is_whole) l1 c1 k1
  have b1 := F1.binds (ps := ["thing"]) fun _ _ _ _ _ _ us hl => match us, hl with | [_], _ => rfl
  have F2 := fun_mk (st := s_is_pattern) l2 c2 k2
  have b2 := F2.binds (ps := ["columns", "thing"]) fun _ _ _ _ _ _ us hl => match us, hl with | [_, _], _ => rfl
  have F3 := fun_mk (st := s_all_columns) l3 c3 k3
  have b3 := F3.binds (ps := ["columns"]) fun _ _ _ _ _ _ us hl => match us, hl with | [_], _ => rfl
  have F4 := fun_mk (st := s_less) l4 c4 k4
  have b4 := F4.binds (ps := ["pattern", "column"]) fun _ _ _ _ _ _ us hl => match us, hl with | [_, _], _ => rfl
  have F5 := fun_mk (st := s_is_list) l5 c5 k5
  have b5 := F5.binds (ps := ["columns", "thing"]) fun _ _ _ _ _ _ us hl => match us, hl with | [_, _], _ => rfl
  have F6 := fun_mk (st := s_parts_of) l6 c6 k6
  have b6 := F6.binds (ps := ["columns", "listed"]) fun _ _ _ _ _ _ us hl => match us, hl with | [_, _], _ => rfl
  have F7 := fun_mk (st := s_within) l7 c7 k7
  have b7 := F7.binds (ps := ["inner", "outer"]) fun _ _ _ _ _ _ us hl => match us, hl with | [_, _], _ => rfl
  have F8 := fun_mk (st := s_is_nest) l8 c8 k8
  have b8 := F8.binds (ps := ["parts", "column"]) fun _ _ _ _ _ _ us hl => match us, hl with | [_, _], _ => rfl
  have F9 := fun_mk (st := s_struck) l9 c9 k9
  have b9 := F9.binds (ps := ["parts", "column"]) fun _ _ _ _ _ _ us hl => match us, hl with | [_, _], _ => rfl
  have F10 := fun_mk (st := s_order_of) l10 c10 k10
  have b10 := F10.binds (ps := ["parts", "left"]) fun _ _ _ _ _ _ us hl => match us, hl with | [_, _], _ => rfl
  have F11 := fun_mk (st := s_order) l11 c11 k11
  have b11 := F11.binds (ps := ["columns", "listed"]) fun _ _ _ _ _ _ us hl => match us, hl with | [_, _], _ => rfl
  have F12 := fun_mk (st := s_ring_columns) l12 c12 k12
  have b12 := F12.binds (ps := ["rs"]) fun _ _ _ _ _ _ us hl => match us, hl with | [_], _ => rfl
  have F13 := fun_mk (st := s_those_with) l13 c13 k13
  have b13 := F13.binds (ps := ["rs", "column"]) fun _ _ _ _ _ _ us hl => match us, hl with | [_, _], _ => rfl
  have F14 := fun_mk (st := s_ring_in) l14 c14 k14
  have b14 := F14.binds (ps := ["patterns"]) fun _ _ _ _ _ _ us hl => match us, hl with | [_], _ => rfl
  have F15 := fun_mk (st := s_rings_of) l15 c15 k15
  have b15 := F15.binds (ps := ["parts", "most"]) fun _ _ _ _ _ _ us hl => match us, hl with | [_, _], _ => rfl
  have F16 := fun_mk (st := s_ring) l16 c16 k16
  have b16 := F16.binds (ps := ["columns", "listed"]) fun _ _ _ _ _ _ us hl => match us, hl with | [_, _], _ => rfl
  have F17 := fun_mk (st := s_given_up) l17 c17 k17
  have b17 := F17.binds (ps := ["columns", "listed"]) fun _ _ _ _ _ _ us hl => match us, hl with | [_, _], _ => rfl
  have F18 := fun_mk (st := s_is_hit) l18 c18 k18
  have b18 := F18.binds (ps := ["rings", "lost"]) fun _ _ _ _ _ _ us hl => match us, hl with | [_, _], _ => rfl
  have F19 := fun_mk (st := s_law_pot) l19 c19 k19
  have b19 := F19.binds (ps := ["script"]) fun _ _ _ _ _ _ us hl => match us, hl with | [_], _ => rfl
  have F20 := fun_mk (st := s_law_draw) l20 c20 k20
  have b20 := F20.binds (ps := ["pot", "many"]) fun _ _ _ _ _ _ us hl => match us, hl with | [_, _], _ => rfl
  have F21 := fun_mk (st := s_law_any) l21 c21 k21
  have b21 := F21.binds (ps := ["pot", "items"]) fun _ _ _ _ _ _ us hl => match us, hl with | [_, _], _ => rfl
  have F22 := fun_mk (st := s_law_mixed) l22 c22 k22
  have b22 := F22.binds (ps := ["pot", "items"]) fun _ _ _ _ _ _ us hl => match us, hl with | [_, _], _ => rfl
  have F23 := fun_mk (st := s_law_patterns) l23 c23 k23
  have b23 := F23.binds (ps := ["columns"]) fun _ _ _ _ _ _ us hl => match us, hl with | [_], _ => rfl
  have F24 := fun_mk (st := s_law_list) l24 c24 k24
  have b24 := F24.binds (ps := ["pot", "columns", "most"]) fun _ _ _ _ _ _ us hl => match us, hl with | [_, _, _], _ => rfl
  have F25 := fun_mk (st := s_law_parts) l25 c25 k25
  have b25 := F25.binds (ps := ["columns", "patterns"]) fun _ _ _ _ _ _ us hl => match us, hl with | [_, _], _ => rfl
  have F26 := fun_mk (st := s_law_inside) l26 c26 k26
  have b26 := F26.binds (ps := ["one", "other"]) fun _ _ _ _ _ _ us hl => match us, hl with | [_, _], _ => rfl
  have F27 := fun_mk (st := s_law_is_nest) l27 c27 k27
  have b27 := F27.binds (ps := ["c", "some"]) fun _ _ _ _ _ _ us hl => match us, hl with | [_, _], _ => rfl
  have F28 := fun_mk (st := s_law_planted) l28 c28 k28
  have b28 := F28.binds (ps := ["pot", "columns"]) fun _ _ _ _ _ _ us hl => match us, hl with | [_, _], _ => rfl
  have F29 := fun_mk (st := s_law_ringless) l29 c29 k29
  have b29 := F29.binds (ps := ["pot", "columns", "most"]) fun _ _ _ _ _ _ us hl => match us, hl with | [_, _, _], _ => rfl
  have F30 := fun_mk (st := s_law_big_list) l30 c30 k30
  have b30 := F30.binds (ps := ["pot", "columns"]) fun _ _ _ _ _ _ us hl => match us, hl with | [_, _], _ => rfl
  have F31 := fun_mk (st := s_law_can_be_struck) l31 c31 k31
  have b31 := F31.binds (ps := ["columns", "some"]) fun _ _ _ _ _ _ us hl => match us, hl with | [_, _], _ => rfl
  have F32 := fun_mk (st := s_law_tuples) l32 c32 k32
  have b32 := F32.binds (ps := ["some", "many"]) fun _ _ _ _ _ _ us hl => match us, hl with | [_, _], _ => rfl
  have F33 := fun_mk (st := s_law_due) l33 c33 k33
  have b33 := F33.binds (ps := ["columns", "parts"]) fun _ _ _ _ _ _ us hl => match us, hl with | [_, _], _ => rfl
  have F34 := fun_mk (st := s_law) l34 c34 k34
  have F35 := fun_mk (st := s_NoNumber_init) l35 c35 k35
  have b35 := F35.binds (ps := ["self"]) fun _ _ _ _ _ _ us hl => match us, hl with | [_], _ => rfl
  have F36 := fun_mk (st := s_NoList_init) l36 c36 k36
  have b36 := F36.binds (ps := ["self"]) fun _ _ _ _ _ _ us hl => match us, hl with | [_], _ => rfl
  let T : Txt K mg := { f_is_whole := f1, d_is_whole := _, F_is_whole := F1, b_is_whole := b1, g_is_whole := PySem.W.mg_of X G a1, f_is_pattern := f2, d_is_pattern := _, F_is_pattern := F2, b_is_pattern := b2, g_is_pattern := PySem.W.mg_of X G a2, f_all_columns := f3, d_all_columns := _, F_all_columns := F3, b_all_columns := b3, g_all_columns := PySem.W.mg_of X G a3, f_less := f4, d_less := _, F_less := F4, b_less := b4, g_less := PySem.W.mg_of X G a4, f_is_list := f5, d_is_list := _, F_is_list := F5, b_is_list := b5, g_is_list := PySem.W.mg_of X G a5, f_parts_of := f6, d_parts_of := _, F_parts_of := F6, b_parts_of := b6, g_parts_of := PySem.W.mg_of X G a6, f_within := f7, d_within := _, F_within := F7, b_within := b7, g_within := PySem.W.mg_of X G a7, f_is_nest := f8, d_is_nest := _, F_is_nest := F8, b_is_nest := b8, g_is_nest := PySem.W.mg_of X G a8, f_struck := f9, d_struck := _, F_struck := F9, b_struck := b9, g_struck := PySem.W.mg_of X G a9, f_order_of := f10, d_order_of := _, F_order_of := F10, b_order_of := b10, g_order_of := PySem.W.mg_of X G a10, f_order := f11, d_order := _, F_order := F11, b_order := b11, g_order := PySem.W.mg_of X G a11, f_ring_columns := f12, d_ring_columns := _, F_ring_columns := F12, b_ring_columns := b12, g_ring_columns := PySem.W.mg_of X G a12, f_those_with := f13, d_those_with := _, F_those_with := F13, b_those_with := b13, g_those_with := PySem.W.mg_of X G a13, f_ring_in := f14, d_ring_in := _, F_ring_in := F14, b_ring_in := b14, g_ring_in := PySem.W.mg_of X G a14, f_rings_of := f15, d_rings_of := _, F_rings_of := F15, b_rings_of := b15, g_rings_of := PySem.W.mg_of X G a15, f_ring := f16, d_ring := _, F_ring := F16, b_ring := b16, g_ring := PySem.W.mg_of X G a16, f_given_up := f17, d_given_up := _, F_given_up := F17, b_given_up := b17, g_given_up := PySem.W.mg_of X G a17, f_is_hit := f18, d_is_hit := _, F_is_hit := F18, b_is_hit := b18, g_is_hit := PySem.W.mg_of X G a18, f_law_pot := f19, d_law_pot := _, F_law_pot := F19, b_law_pot := b19, g_law_pot := PySem.W.mg_of X G a19, f_law_draw := f20, d_law_draw := _, F_law_draw := F20, b_law_draw := b20, g_law_draw := PySem.W.mg_of X G a20, f_law_any := f21, d_law_any := _, F_law_any := F21, b_law_any := b21, g_law_any := PySem.W.mg_of X G a21, f_law_mixed := f22, d_law_mixed := _, F_law_mixed := F22, b_law_mixed := b22, g_law_mixed := PySem.W.mg_of X G a22, f_law_patterns := f23, d_law_patterns := _, F_law_patterns := F23, b_law_patterns := b23, g_law_patterns := PySem.W.mg_of X G a23, f_law_list := f24, d_law_list := _, F_law_list := F24, b_law_list := b24, g_law_list := PySem.W.mg_of X G a24, f_law_parts := f25, d_law_parts := _, F_law_parts := F25, b_law_parts := b25, g_law_parts := PySem.W.mg_of X G a25, f_law_inside := f26, d_law_inside := _, F_law_inside := F26, b_law_inside := b26, g_law_inside := PySem.W.mg_of X G a26, f_law_is_nest := f27, d_law_is_nest := _, F_law_is_nest := F27, b_law_is_nest := b27, g_law_is_nest := PySem.W.mg_of X G a27, f_law_planted := f28, d_law_planted := _, F_law_planted := F28, b_law_planted := b28, g_law_planted := PySem.W.mg_of X G a28, f_law_ringless := f29, d_law_ringless := _, F_law_ringless := F29, b_law_ringless := b29, g_law_ringless := PySem.W.mg_of X G a29, f_law_big_list := f30, d_law_big_list := _, F_law_big_list := F30, b_law_big_list := b30, g_law_big_list := PySem.W.mg_of X G a30, f_law_can_be_struck := f31, d_law_can_be_struck := _, F_law_can_be_struck := F31, b_law_can_be_struck := b31, g_law_can_be_struck := PySem.W.mg_of X G a31, f_law_tuples := f32, d_law_tuples := _, F_law_tuples := F32, b_law_tuples := b32, g_law_tuples := PySem.W.mg_of X G a32, f_law_due := f33, d_law_due := _, F_law_due := F33, b_law_due := b33, g_law_due := PySem.W.mg_of X G a33, f_NoNumber_init := f35, d_NoNumber_init := _, F_NoNumber_init := F35, b_NoNumber_init := b35, f_NoList_init := f36, d_NoList_init := _, F_NoList_init := F36, b_NoList_init := b36, c_NoNumber := c_NoNumber, g_NoNumber := PySem.W.mg_of X G n_NoNumber, c_NoList := c_NoList, g_NoList := PySem.W.mg_of X G n_NoList, c_MaskError := c_MaskError, g_MaskError := PySem.W.mg_of X G n_MaskError, m_MaskError := m_MaskError, U_MaskError := U_MaskError, o_NoNumber := o_NoNumber, t_NoNumber := t_NoNumber, e_NoNumber := e_NoNumber, x_NoNumber := x_NoNumber, i_NoNumber := a35, o_NoList := o_NoList, t_NoList := t_NoList, e_NoList := e_NoList, x_NoList := x_NoList, i_NoList := a36, q_NoNumber_NoNumber := q_NoNumber_NoNumber, q_NoNumber_NoList := q_NoNumber_NoList, q_NoList_NoNumber := q_NoList_NoNumber, q_NoList_NoList := q_NoList_NoList, w_combinations := PySem.W.mg_of X G w_combinations, w_permutations := PySem.W.mg_of X G w_permutations, u_MOST_COLUMNS := _, k_MOST_COLUMNS := ⟨PySem.W.mg_of X G u1, ⟨_, rfl⟩⟩, u_MOST_PATTERNS := _, k_MOST_PATTERNS := ⟨PySem.W.mg_of X G u2, ⟨_, rfl⟩⟩, u_LEAST_RING := _, k_LEAST_RING := ⟨PySem.W.mg_of X G u3, ⟨_, rfl⟩⟩, z_len := PySem.W.mg_none_of X G z1, z_isinstance := PySem.W.mg_none_of X G z2, z_range := PySem.W.mg_none_of X G z3, z_zip := PySem.W.mg_none_of X G z4, z_tuple := PySem.W.mg_none_of X G z5, z_list := PySem.W.mg_none_of X G z6, z_int := PySem.W.mg_none_of X G z7, z_bool := PySem.W.mg_none_of X G z8, z_abs := PySem.W.mg_none_of X G z9, z_sorted := PySem.W.mg_none_of X G z10, z_set := PySem.W.mg_none_of X G z11, z_enumerate := PySem.W.mg_none_of X G z12, z_sum := PySem.W.mg_none_of X G z13, z_all := PySem.W.mg_none_of X G z14, z_any := PySem.W.mg_none_of X G z15 }
  exact ⟨PySem.W.fnOf "law" "law" (defArgs s_law) (defBody s_law) (defScope s_law) .none kV34 dc34 pm34 an34 cd34 ct34, fun s v => .of_eq rfl, fun base _ _ => ok_law T F34⟩
end
end Fm
open PySem PySem.W PyProof.Rows
set_option maxHeartbeats 0 in
theorem PySem.Challenge.cw_fairmasks_k25_whole_patterns_given_up_holds : PySem.Challenge.rw_fairmasks_k25_whole_patterns_given_up.Holds := by
  w_on; o_law; k_head; (case hw => w_witness2)
  k_fill
  refine L2.walk_of (l := PySem.Challenge.rw_fairmasks_k25_whole_patterns_given_up) (n := 63) (k := 11) (x := "script") (CX := fun _ => L2.CX0) (sp := fun w => Fm.spLaw _) rfl (by decide) rfl ⟨rfl, by decide, by decide⟩ (fun w h Y => PySem.W.kIn_of Y) ?F (fun _ _ a ns hl _ hS => ⟨a, ns, rfl, hS, hl, fun _ => rfl⟩) (fun _ _ _ _ _ h => h)
  case F =>
    intro w mg fa h KX G hmg
    refine' Fm.all_mk KX G hmg ?n_NoNumber ?n_NoList ?n_MaskError ?w_combinations ?w_permutations ?a1 ?l1 ?c1 ?k1 ?a2 ?l2 ?c2 ?k2 ?a3 ?l3 ?c3 ?k3 ?a4 ?l4 ?c4 ?k4 ?a5 ?l5 ?c5 ?k5 ?a6 ?l6 ?c6 ?k6 ?a7 ?l7 ?c7 ?k7 ?a8 ?l8 ?c8 ?k8 ?a9 ?l9 ?c9 ?k9 ?a10 ?l10 ?c10 ?k10 ?a11 ?l11 ?c11 ?k11 ?a12 ?l12 ?c12 ?k12 ?a13 ?l13 ?c13 ?k13 ?a14 ?l14 ?c14 ?k14 ?a15 ?l15 ?c15 ?k15 ?a16 ?l16 ?c16 ?k16 ?a17 ?l17 ?c17 ?k17 ?a18 ?l18 ?c18 ?k18 ?a19 ?l19 ?c19 ?k19 ?a20 ?l20 ?c20 ?k20 ?a21 ?l21 ?c21 ?k21 ?a22 ?l22 ?c22 ?k22 ?a23 ?l23 ?c23 ?k23 ?a24 ?l24 ?c24 ?k24 ?a25 ?l25 ?c25 ?k25 ?a26 ?l26 ?c26 ?k26 ?a27 ?l27 ?c27 ?k27 ?a28 ?l28 ?c28 ?k28 ?a29 ?l29 ?c29 ?k29 ?a30 ?l30 ?c30 ?k30 ?a31 ?l31 ?c31 ?k31 ?a32 ?l32 ?c32 ?k32 ?a33 ?l33 ?c33 ?k33 ?a34 ?l34 ?c34 ?k34 ?a35 ?l35 ?c35 ?k35 ?a36 ?l36 ?c36 ?k36 ?y_MaskError ?U_MaskError ?o_NoNumber ?t_NoNumber ?e_NoNumber ?x_NoNumber ?o_NoList ?t_NoList ?e_NoList ?x_NoList ?q_NoNumber_NoNumber ?q_NoNumber_NoList ?q_NoList_NoNumber ?q_NoList_NoList ?u1 ?u2 ?u3 ?z1 ?z2 ?z3 ?z4 ?z5 ?z6 ?z7 ?z8 ?z9 ?z10 ?z11 ?z12 ?z13 ?z14 ?z15
    case n_NoNumber => k_is
    case n_NoList => k_is
    case n_MaskError => k_is
    case w_combinations => k_is
    case w_permutations => k_is
    case a1 => k_is
    case l1 => k_is
    case c1 => k_is
    case k1 => k_is
    case a2 => k_is
    case l2 => k_is
    case c2 => k_is
    case k2 => k_is
    case a3 => k_is
    case l3 => k_is
    case c3 => k_is
    case k3 => k_is
    case a4 => k_is
    case l4 => k_is
    case c4 => k_is
    case k4 => k_is
    case a5 => k_is
    case l5 => k_is
    case c5 => k_is
    case k5 => k_is
    case a6 => k_is
    case l6 => k_is
    case c6 => k_is
    case k6 => k_is
    case a7 => k_is
    case l7 => k_is
    case c7 => k_is
    case k7 => k_is
    case a8 => k_is
    case l8 => k_is
    case c8 => k_is
    case k8 => k_is
    case a9 => k_is
    case l9 => k_is
    case c9 => k_is
    case k9 => k_is
    case a10 => k_is
    case l10 => k_is
    case c10 => k_is
    case k10 => k_is
    case a11 => k_is
    case l11 => k_is
    case c11 => k_is
    case k11 => k_is
    case a12 => k_is
    case l12 => k_is
    case c12 => k_is
    case k12 => k_is
    case a13 => k_is
    case l13 => k_is
    case c13 => k_is
    case k13 => k_is
    case a14 => k_is
    case l14 => k_is
    case c14 => k_is
    case k14 => k_is
    case a15 => k_is
    case l15 => k_is
    case c15 => k_is
    case k15 => k_is
    case a16 => k_is
    case l16 => k_is
    case c16 => k_is
    case k16 => k_is
    case a17 => k_is
    case l17 => k_is
    case c17 => k_is
    case k17 => k_is
    case a18 => k_is
    case l18 => k_is
    case c18 => k_is
    case k18 => k_is
    case a19 => k_is
    case l19 => k_is
    case c19 => k_is
    case k19 => k_is
    case a20 => k_is
    case l20 => k_is
    case c20 => k_is
    case k20 => k_is
    case a21 => k_is
    case l21 => k_is
    case c21 => k_is
    case k21 => k_is
    case a22 => k_is
    case l22 => k_is
    case c22 => k_is
    case k22 => k_is
    case a23 => k_is
    case l23 => k_is
    case c23 => k_is
    case k23 => k_is
    case a24 => k_is
    case l24 => k_is
    case c24 => k_is
    case k24 => k_is
    case a25 => k_is
    case l25 => k_is
    case c25 => k_is
    case k25 => k_is
    case a26 => k_is
    case l26 => k_is
    case c26 => k_is
    case k26 => k_is
    case a27 => k_is
    case l27 => k_is
    case c27 => k_is
    case k27 => k_is
    case a28 => k_is
    case l28 => k_is
    case c28 => k_is
    case k28 => k_is
    case a29 => k_is
    case l29 => k_is
    case c29 => k_is
    case k29 => k_is
    case a30 => k_is
    case l30 => k_is
    case c30 => k_is
    case k30 => k_is
    case a31 => k_is
    case l31 => k_is
    case c31 => k_is
    case k31 => k_is
    case a32 => k_is
    case l32 => k_is
    case c32 => k_is
    case k32 => k_is
    case a33 => k_is
    case l33 => k_is
    case c33 => k_is
    case k33 => k_is
    case a34 => k_is
    case l34 => k_is
    case c34 => k_is
    case k34 => k_is
    case a35 => k_is
    case l35 => k_is
    case c35 => k_is
    case k35 => k_is
    case a36 => k_is
    case l36 => k_is
    case c36 => k_is
    case k36 => k_is
    case y_MaskError => k_is
    case U_MaskError => refine' ⟨?g_U_MaskError_z1, ?g_U_MaskError_z2, ?g_U_MaskError_z3⟩ <;> k_is
    case o_NoNumber => refine' Fm.oexC_mk ?g_o_NoNumber_z1 ?g_o_NoNumber_z2 ?g_o_NoNumber_z3 ?g_o_NoNumber_z4 ?g_o_NoNumber_z5 ?g_o_NoNumber_z6; (case g_o_NoNumber_z1 => k_is); (case g_o_NoNumber_z2 => decide +kernel); (case g_o_NoNumber_z3 => k_is); (case g_o_NoNumber_z4 => k_is); (case g_o_NoNumber_z5 => k_is); (case g_o_NoNumber_z6 => k_is)
    case t_NoNumber => k_is
    case e_NoNumber => refine' ⟨?g_e_NoNumber_z1, ?g_e_NoNumber_z2, ?g_e_NoNumber_z3, ?g_e_NoNumber_z4, ?g_e_NoNumber_z5, ?g_e_NoNumber_z6, ?g_e_NoNumber_z7, ?g_e_NoNumber_z8⟩ <;> k_is
    case x_NoNumber => refine' PySem.W.exm_ref ?g_x_NoNumber_z1 ?g_x_NoNumber_z2 ?g_x_NoNumber_z3 ?g_x_NoNumber_z4 <;> k_is
    case o_NoList => refine' Fm.oexC_mk ?g_o_NoList_z1 ?g_o_NoList_z2 ?g_o_NoList_z3 ?g_o_NoList_z4 ?g_o_NoList_z5 ?g_o_NoList_z6; (case g_o_NoList_z1 => k_is); (case g_o_NoList_z2 => decide +kernel); (case g_o_NoList_z3 => k_is); (case g_o_NoList_z4 => k_is); (case g_o_NoList_z5 => k_is); (case g_o_NoList_z6 => k_is)
    case t_NoList => k_is
    case e_NoList => refine' ⟨?g_e_NoList_z1, ?g_e_NoList_z2, ?g_e_NoList_z3, ?g_e_NoList_z4, ?g_e_NoList_z5, ?g_e_NoList_z6, ?g_e_NoList_z7, ?g_e_NoList_z8⟩ <;> k_is
    case x_NoList => refine' PySem.W.exm_ref ?g_x_NoList_z1 ?g_x_NoList_z2 ?g_x_NoList_z3 ?g_x_NoList_z4 <;> k_is
    case q_NoNumber_NoNumber => exact if_pos (beq_self_eq_true _)
    case q_NoNumber_NoList => refine' Fm.kit_own ?g_q_NoNumber_NoList_z1 ?g_q_NoNumber_NoList_z2 ?g_q_NoNumber_NoList_z3 ?g_q_NoNumber_NoList_z4; (case g_q_NoNumber_NoList_z1 => decide); (case g_q_NoNumber_NoList_z2 => k_is); (case g_q_NoNumber_NoList_z3 => k_is); (case g_q_NoNumber_NoList_z4 => k_is)
    case q_NoList_NoNumber => refine' Fm.kit_own ?g_q_NoList_NoNumber_z1 ?g_q_NoList_NoNumber_z2 ?g_q_NoList_NoNumber_z3 ?g_q_NoList_NoNumber_z4; (case g_q_NoList_NoNumber_z1 => decide); (case g_q_NoList_NoNumber_z2 => k_is); (case g_q_NoList_NoNumber_z3 => k_is); (case g_q_NoList_NoNumber_z4 => k_is)
    case q_NoList_NoList => exact if_pos (beq_self_eq_true _)
    case u1 => k_is
    case u2 => k_is
    case u3 => k_is
    case z1 => k_is
    case z2 => k_is
    case z3 => k_is
    case z4 => k_is
    case z5 => k_is
    case z6 => k_is
    case z7 => k_is
    case z8 => k_is
    case z9 => k_is
    case z10 => k_is
    case z11 => k_is
    case z12 => k_is
    case z13 => k_is
    case z14 => k_is
    case z15 => k_is
