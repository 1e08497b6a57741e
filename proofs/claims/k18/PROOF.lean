import PyProof.Rows.All
import Wide.All
import OpenK.AllK
import Wide.FinOn
import HandS.ForMost
import HandS.IsInst
import HandS.TupAny
import HandS.SetKeys
import HandS.DictComp
import HandS.Zip
import HandS.TupLe
import HandS.More
import HandS.Conv
import HandS.Codes
import KE.GoesNew
import KE.KDictZip
import HandS.Zip0
import KE.SortCalls
import KE.SortData
import HandS.Exc
import HandS.ExcInit
import HandS.ExcIs
import HandS.ClsMeth
import HandS.ForExc
import HandS.Deep
import HandS.TupMul
import HandS.Gcd
import HandS.WordsExc
import HandS.OwnEq
import HandS.TupSets
import HandS.Wide
import HandS.ExcField
import PyProof.InstNe
import KE.GoesSet
import KE.KDictKeyed
import KE.KDictDisplayH
import KE.KDictCopyH
import KE.KDictSum
import KE.KeyNested
import KE.KEqNest
import KE.LtData
import KE.KDictOf
import HandS.SetBool
import HandS.SortKw
import HandS.Slots
import KE.KSortKeyAny
import KE.DataMinMax
import HandS.Walk
import HandS.Style
import KE.DataCmp
import HandS.TryMany
import KE.KDictItemsList
import KE.KIndexOf
import KE.KMathGC
import PySem.Challenge.RW_fairmasks_k18_whole_coming_by_all_conten
set_option Elab.async false
set_option maxRecDepth 100000
set_option maxHeartbeats 4000000
/-! Plain things of the fairmasks laws: data that a value stands for, heaps that go on, the drawing hand. -/
namespace Fm
open PySem PySem.Spec PyProof.Rows L2

/-- a thing that is judged: lists, dicts, instances are told by their type alone -/
inductive Dt where
  | non | bl (b : Bool) | int (i : Int) | str (s : Str) | tup (ds : List Dt) | oth (t : Value)

/-- only lists may have changed, and they are lists still -/
def Ext (H H' : Hp) : Prop := ∀ b o, H b = some o → H' b = some o ∨ ((∃ xs, o = .lst xs) ∧ ∃ ys, H' b = some (.lst ys))
theorem Ext.refl (H : Hp) : Ext H H := fun _ _ e => .inl e
theorem Ext.of {H H' : Hp} (s : Same H H') : Ext H H' := fun b o e => .inl (s b o e)
theorem Ext.trans {H H1 H2 : Hp} (a : Ext H H1) (b : Ext H1 H2) : Ext H H2 := fun c o e => by
  rcases a c o e with e1 | ⟨⟨xs, rfl⟩, ys, e1⟩
  · exact b c o e1
  · rcases b c _ e1 with e2 | ⟨_, zs, e2⟩
    · exact .inr ⟨⟨xs, rfl⟩, ys, e2⟩
    · exact .inr ⟨⟨xs, rfl⟩, zs, e2⟩
theorem Ext.tup {H H' : Hp} (e : Ext H H') {a : Addr} {xs : List V} (h : H a = some (.tup xs)) : H' a = some (.tup xs) := by
  rcases e a _ h with e1 | ⟨⟨ys, q⟩, _⟩
  · exact e1
  · cases q
theorem Ext.frz {H H' : Hp} (e : Ext H H') {a : Addr} {o : Obj} {u : HO} (h : H a = some (.frz o u)) : H' a = some (.frz o u) := by
  rcases e a _ h with e1 | ⟨⟨ys, q⟩, _⟩
  · exact e1
  · cases q
theorem Ext.sqT {K : PySem.W.Frag} {H H' : Hp} (e : Ext H H') {a : Addr} {xs : List V} (h : SqT K H a xs) : SqT K H' a xs := by
  rcases h with (h | ⟨o, h⟩) | h
  · exact .inl (.inl (e.tup h))
  · exact .inl (.inr ⟨o, e.frz h⟩)
  · exact .inr h
theorem same_new {H : Hp} {p : Addr} {o : HO} (h : H p = none) : Same H (upd H p o) := fun b x e => by
  rw [upd_ne (ne_of_none e h)]
  exact e
theorem Ext.new {H : Hp} {p : Addr} {o : HO} (h : H p = none) : Ext H (upd H p o) := .of (same_new h)
theorem TyX.ext {K : PySem.W.Frag} {H H' : Hp} {v : V} {t : Value} (e : Ext H H') (h : TyX K H v t) : TyX K H' v t := by
  have go : ∀ {a : Addr} {o : HO}, H a = some o → (∀ xs, o ≠ .lst xs) → H' a = some o := fun {a o} q n => by
    rcases e a _ q with e1 | ⟨⟨ys, z⟩, _⟩
    · exact e1
    · exact absurd z (n ys)
  cases h with
  | base b =>
    cases b with
    | non => exact .base .non
    | bl x => exact .base (.bl x)
    | int i => exact .base (.int i)
    | str x => exact .base (.str x)
    | flt x => exact .base (.flt x)
    | @lst a xs q =>
      rcases e a _ q with e1 | ⟨_, ys, e1⟩
      · exact .base (.lst e1)
      · exact .base (.lst e1)
    | frz q => exact .base (.frz (e.frz q))
    | tup q => exact .base (.tup (e.tup q))
    | dK q => exact .base (.dK (go q fun _ z => nomatch z))
    | dT q => exact .base (.dT (go q fun _ z => nomatch z))
    | ins q cl ha hn htk hm => exact .base (.ins (go q fun _ z => nomatch z) cl ha hn htk hm)
  | byt b => exact .byt b
  | set q => exact .set (go q fun _ z => nomatch z)
  | kList q c => exact .kList q c
  | kTuple q c => exact .kTuple q c
  | kDict q c => exact .kDict q c
  | fTuple q => exact .fTuple (e.frz q)
  | fDict q => exact .fDict (e.frz q)

mutual
inductive Dh (K : PySem.W.Frag) (H : Hp) : V → Dt → Prop
  | non : Dh K H .non .non
  | bl (b : Bool) : Dh K H (.bl b) (.bl b)
  | int (i : Int) : Dh K H (.int i) (.int i)
  | str (x : Str) : Dh K H (.str x) (.str x)
  | tup {a : Addr} {xs : List V} {ds : List Dt} : SqT K H a xs → DhAll K H xs ds → Dh K H (.ref a) (.tup ds)
  | oth {v : V} {t : Value} : TyX K H v t → PySem.W.kitOne K t (.type "int") = some false → PySem.W.kitOne K t (.type "tuple") = some false → Dh K H v (.oth t)
inductive DhAll (K : PySem.W.Frag) (H : Hp) : List V → List Dt → Prop
  | nil : DhAll K H [] []
  | cons {v : V} {vs : List V} {d : Dt} {ds : List Dt} : Dh K H v d → DhAll K H vs ds → DhAll K H (v :: vs) (d :: ds)
end
section
variable {K : PySem.W.Frag} {H H' : Hp}
mutual
theorem Dh.ext (e : Ext H H') : ∀ {v : V} {d : Dt}, Dh K H v d → Dh K H' v d
  | _, _, .non => .non
  | _, _, .bl b => .bl b
  | _, _, .int i => .int i
  | _, _, .str x => .str x
  | _, _, .tup s h => .tup (e.sqT s) (DhAll.ext e h)
  | _, _, .oth t k1 k2 => .oth (TyX.ext e t) k1 k2
theorem DhAll.ext (e : Ext H H') : ∀ {vs : List V} {ds : List Dt}, DhAll K H vs ds → DhAll K H' vs ds
  | _, _, .nil => .nil
  | _, _, .cons h t => .cons (Dh.ext e h) (DhAll.ext e t)
end
theorem DhAll.length : ∀ {vs : List V} {ds : List Dt}, DhAll K H vs ds → vs.length = ds.length
  | _, _, .nil => rfl
  | _, _, .cons _ t => congrArg (· + 1) (DhAll.length t)
theorem DhAll.get : ∀ {vs : List V} {ds : List Dt} {i : Nat} {v : V}, DhAll K H vs ds → vs[i]? = some v → ∃ d, ds[i]? = some d ∧ Dh K H v d
  | _, _, _, _, .nil, e => by simp at e
  | _, _, 0, _, .cons h _, e => by simp at e; subst e; exact ⟨_, rfl, h⟩
  | _, _, i + 1, v, .cons _ t, e => by
    obtain ⟨d, h1, h2⟩ := DhAll.get (i := i) (v := v) t (by simpa using e)
    exact ⟨d, by simpa using h1, h2⟩
theorem DhAll.at : ∀ {vs : List V} {ds : List Dt} {i : Nat} {d : Dt}, DhAll K H vs ds → ds[i]? = some d → ∃ v, vs[i]? = some v ∧ Dh K H v d
  | _, _, _, _, .nil, e => by simp at e
  | _, _, 0, _, .cons h _, e => by simp at e; subst e; exact ⟨_, rfl, h⟩
  | _, _, i + 1, d, .cons _ t, e => by
    obtain ⟨v, h1, h2⟩ := DhAll.at (i := i) (d := d) t (by simpa using e)
    exact ⟨v, by simpa using h1, h2⟩
theorem DhAll.snoc : ∀ {vs : List V} {ds : List Dt} {v : V} {d : Dt}, DhAll K H vs ds → Dh K H v d → DhAll K H (vs ++ [v]) (ds ++ [d])
  | _, _, _, _, .nil, h => .cons h .nil
  | _, _, _, _, .cons q t, h => .cons q (DhAll.snoc t h)
theorem DhAll.append : ∀ {vs ws : List V} {ds es : List Dt}, DhAll K H vs ds → DhAll K H ws es → DhAll K H (vs ++ ws) (ds ++ es)
  | _, _, _, _, .nil, h => h
  | _, _, _, _, .cons q t, h => .cons q (DhAll.append t h)

/-! ### what isinstance tells -/
def Dt.isInt : Dt → Bool
  | .int _ => true
  | .bl _ => true
  | _ => false
def Dt.isW : Dt → Bool
  | .int _ => true
  | _ => false
def Dt.isTup : Dt → Bool
  | .tup _ => true
  | _ => false
theorem tyx_tup {a : Addr} {xs : List V} (h : SqT K H a xs) : TyX K H (.ref a) (.type "tuple") := by
  rcases h with (h | ⟨o, h⟩) | ⟨o, its, n, h1, h2, _⟩
  · exact .base (.tup h)
  · exact .fTuple h
  · exact .kTuple h1 h2
theorem Dh.kinds {v : V} {d : Dt} (h : Dh K H v d) : ∃ t, TyX K H v t ∧ PySem.W.kitOne K t (.type "int") = some d.isInt ∧ PySem.W.kitOne K t (.type "tuple") = some d.isTup ∧ (d.isInt = true → PySem.W.kitOne K t (.type "bool") = some (!d.isW)) := by
  cases h with
  | non => exact ⟨_, .base .non, kit_ty (by decide +kernel), kit_ty (by decide +kernel), fun z => nomatch z⟩
  | bl b => exact ⟨_, .base (.bl b), kit_ty (show kitB "bool" "int" = some true by decide +kernel), kit_ty (show kitB "bool" "tuple" = some false by decide +kernel), fun _ => kit_ty (show kitB "bool" "bool" = some true by decide +kernel)⟩
  | int i => exact ⟨_, .base (.int i), kit_ty (show kitB "int" "int" = some true by decide +kernel), kit_ty (show kitB "int" "tuple" = some false by decide +kernel), fun _ => kit_ty (show kitB "int" "bool" = some false by decide +kernel)⟩
  | str x => exact ⟨_, .base (.str x), kit_ty (show kitB "str" "int" = some false by decide +kernel), kit_ty (show kitB "str" "tuple" = some false by decide +kernel), fun z => nomatch z⟩
  | tup s _ => exact ⟨_, tyx_tup s, kit_ty (show kitB "tuple" "int" = some false by decide +kernel), kit_ty (show kitB "tuple" "tuple" = some true by decide +kernel), fun z => nomatch z⟩
  | oth t k1 k2 => exact ⟨_, t, k1, k2, fun z => nomatch z⟩
end

/-! ### promises of defs over data -/
/-- plain: some data come in, one comes out, nothing is changed -/
def spD (K : PySem.W.Frag) (f : List Dt → Option Dt) : Sp := fun vs H Q _ => ∃ ds r, DhAll K H vs ds ∧ f ds = some r ∧ ∀ v H', Same H H' → Dh K H' v r → Q v H'
/-- .. a new list of data comes out -/
def spL (K : PySem.W.Frag) (f : List Dt → Option (List Dt)) : Sp := fun vs H Q _ => ∃ ds rs, DhAll K H vs ds ∧ f ds = some rs ∧ ∀ p xs H', H p = none → Same H H' → H' p = some (.lst xs) → DhAll K H' xs rs → Q (.ref p) H'
theorem Dh.bl_inv {K : PySem.W.Frag} {H : Hp} {v : V} {b : Bool} (h : Dh K H v (.bl b)) : v = .bl b := by cases h; rfl
theorem Dh.int_inv {K : PySem.W.Frag} {H : Hp} {v : V} {i : Int} (h : Dh K H v (.int i)) : v = .int i := by cases h; rfl
theorem Dh.non_inv {K : PySem.W.Frag} {H : Hp} {v : V} (h : Dh K H v .non) : v = .non := by cases h; rfl
theorem Dh.tup_inv {K : PySem.W.Frag} {H : Hp} {v : V} {ds : List Dt} (h : Dh K H v (.tup ds)) : ∃ a xs, v = .ref a ∧ SqT K H a xs ∧ DhAll K H xs ds := by
  cases h with
  | tup s t => exact ⟨_, _, rfl, s, t⟩
/-- the call of such a def -/
theorem spD_of {K : PySem.W.Frag} {f : List Dt → Option Dt} {vs : List V} {H : Hp} {Q : VK} {ds : List Dt} {r : Dt} (h : DhAll K H vs ds) (e : f ds = some r) (q : ∀ v H', Same H H' → Dh K H' v r → Q v H') : spD K f vs H Q E0 := ⟨ds, r, h, e, q⟩
theorem spD_bl {K : PySem.W.Frag} {f : List Dt → Option Dt} {vs : List V} {H : Hp} {Q : VK} {ds : List Dt} {b : Bool} (h : DhAll K H vs ds) (e : f ds = some (.bl b)) (q : ∀ H', Same H H' → Q (.bl b) H') : spD K f vs H Q E0 :=
  ⟨ds, _, h, e, fun v H' s d => by rw [d.bl_inv]; exact q H' s⟩
theorem spD_int {K : PySem.W.Frag} {f : List Dt → Option Dt} {vs : List V} {H : Hp} {Q : VK} {ds : List Dt} {b : Int} (h : DhAll K H vs ds) (e : f ds = some (.int b)) (q : ∀ H', Same H H' → Q (.int b) H') : spD K f vs H Q E0 :=
  ⟨ds, _, h, e, fun v H' s d => by rw [d.int_inv]; exact q H' s⟩
end Fm
namespace Fm
open PySem PySem.Spec PyProof.Rows L2
/-! ### zip of a list and a tuple that both stay as they are -/
/-- a list (true), a tuple (false) that is read -/
def SqA (L : Bool) (K : PySem.W.Frag) (H : Hp) (a : Addr) (xs : List V) : Prop := match L with
  | true => SqL K H a xs
  | false => SqT K H a xs
theorem Ext.sqTs {K : PySem.W.Frag} {H H' : Hp} {a : Addr} {xs : List V} {L : Bool} (e : Same H H') (h : SqA L K H a xs) : SqA L K H' a xs := match L, h with
  | true, h => e.seq h
  | false, h => (Ext.of e).sqT h
theorem SqA.any {K : PySem.W.Frag} {H : Hp} {a : Addr} {xs : List V} {L : Bool} (h : SqA L K H a xs) : SqL K H a xs ∨ SqT K H a xs := match L, h with
  | true, h => .inl h
  | false, h => .inr h
/-- pairs of the items of a list or tuple and of a tuple that stay as they are -/
def ItM (L : Bool) (K : PySem.W.Frag) (a b : Addr) (xs ys : List V) : It where
  go := fun i H => SqA L K H a xs ∧ SqT K H b ys ∧ i < xs.length ∧ i < ys.length
  yld := fun i H v H' => ∃ T x y, v = .ref T ∧ H T = none ∧ H' = upd H T (.tup [x, y]) ∧ xs[i]? = some x ∧ ys[i]? = some y
  stop := fun i H => SqA L K H a xs ∧ SqT K H b ys ∧ i = min xs.length ys.length
theorem vals_at {xs : List V} {us : List Value} {i : Nat} {u : Value} (r : Vals xs us) (h : us[i]? = some u) : ∃ x, xs[i]? = some x ∧ RelV x u := by
  obtain ⟨hl, e⟩ := List.getElem?_eq_some_iff.mp h
  have hx : i < xs.length := by rw [r.length]; exact hl
  obtain ⟨u', e1, e2⟩ := r.get (List.getElem?_eq_getElem hx)
  rw [h] at e1
  cases e1
  exact ⟨_, List.getElem?_eq_getElem hx, e2⟩
theorem turn_m {P : Program} {w : World} {K : PySem.W.Frag} {elts : List Expr} {kk : Nat} {tp : Pos} {a b z TI TO i1 i2 : Addr} {xs ys : List V} (S : ZipSep2 z TI TO i1 i2 [i1, a] [i2, b]) (n1 : a ≠ i1) (n2 : b ≠ i2) :
    Turn P w K (.Tuple elts kk tp) (ItM true K a b xs ys) [z, TI, TO, i1, i2] z
      (fun i h => IsZip h z TI TO .none ∧ IsTupOf2 h TI (.ref i1) (.ref i2) ∧ (∃ u v, IsTupOf2 h TO u v) ∧ h.IsListIter i1 a i ∧ h.IsTupleIter i2 b i) where
  mem := List.mem_cons_self ..
  obj := by
    rintro i h ⟨q1, q2, ⟨u, v, q3⟩, ⟨o4, q4, _, d4⟩, ⟨o5, q5, _, d5⟩⟩ c hc
    rcases (show c = z ∨ c = TI ∨ c = TO ∨ c = i1 ∨ c = i2 by simpa using hc) with e | e | e | e | e <;> subst e
    · exact ⟨_, q1, fun _ y => nomatch y⟩
    · exact ⟨_, q2, fun _ y => nomatch y⟩
    · exact ⟨_, q3, fun _ y => nomatch y⟩
    · exact ⟨o4, q4, fun _ y => by rw [d4] at y; cases y⟩
    · exact ⟨o5, q5, fun _ y => by rw [d5] at y; cases y⟩
  keep := by
    rintro i h h' ⟨q1, q2, ⟨u, v, q3⟩, q4, q5⟩ k
    exact ⟨k _ (by simp) _ q1, k _ (by simp) _ q2, ⟨u, v, k _ (by simp) _ q3⟩, q4.at fun o e => k _ (by simp) o e, q5.at fun o e => k _ (by simp) o e⟩
  item := by
    intro X hP hw hK hc i pins s σ H E I hf st hg
    subst hP hw hK
    obtain ⟨hx, hy, lx, ly⟩ := hg
    obtain ⟨us, rx, px, _⟩ := I.list hx
    obtain ⟨ws, ry, py, _⟩ := I.tuple hy
    have hd : X.A.in1.handled = none := I.ok.hd hc
    have W := GoesN.zip2 (elts := elts) (x1 := kk) (pos := tp) S (Draws.list (prog := X.prog) (w := X.w) hd i1 a n1 us.toArray) (Draws.tuple (prog := X.prog) (w := X.w) hd i2 b n2 ws.toArray)
    have hlt : i < min us.toArray.size ws.toArray.size := by
      rw [List.size_toArray, List.size_toArray, ← rx.length, ← ry.length]
      omega
    obtain ⟨q1, q2, q3, q4, q5⟩ := st
    refine W.goes i s (fun v s2 => ∃ x H', Inv X pins σ H' s2 ∧ RelV x v ∧ (ItM true X.K a b xs ys).yld i H x H' ∧ (IsZip s2.heap z TI TO .none ∧ IsTupOf2 s2.heap TI (.ref i1) (.ref i2) ∧ (∃ u v, IsTupOf2 s2.heap TO u v) ∧ s2.heap.IsListIter i1 a (i + 1) ∧ s2.heap.IsTupleIter i2 b (i + 1)) ∧ ∀ c ∈ [z, TI, TO, i1, i2], H' c = none) E hlt
      ⟨q1, q2, q3, ⟨q4, px.isList⟩, q5, py⟩ fun v h' tk hY st' hk _ => ?_
    obtain ⟨T, u, v', rfl, hT, hu, hv, hTt⟩ := hY
    obtain ⟨g1, g2, g3, ⟨g4, _⟩, g5, _⟩ := st'
    obtain ⟨x, ex, rxu⟩ := vals_at rx (show us[i]? = some u by simpa using hu)
    obtain ⟨y, ey, ryu⟩ := vals_at ry (show ws[i]? = some v' by simpa using hv)
    have new : ObjOk X.prog X.w (upd H T (.tup [x, y])) h' T (.tup [x, y]) := ⟨by show 2 ≤ sizeLine; decide, [u, v'], .cons rxu (.cons ryu .nil), hTt⟩
    refine ⟨.ref T, _, I.turnedNew (t' := tk) (ch := [z, TI, TO, i1, i2]) (fun c o hn e => hk c o (fun m => hn ?_) e) hf hT new, rfl, ⟨T, x, y, rfl, I.hok.fresh hT, rfl, ex, ey⟩, ⟨g1, g2, g3, g4, g5⟩, fun c hm => ?_⟩
    · simp only [List.mem_cons, List.not_mem_nil, or_false] at m ⊢
      rcases m with m | m | m | m <;> simp [m]
    · obtain ⟨o, e⟩ : ∃ o, s.heap.get? c = some o := by
        rcases (show c = z ∨ c = TI ∨ c = TO ∨ c = i1 ∨ c = i2 by simpa using hm) with e | e | e | e | e <;> subst e
        · exact ⟨_, q1⟩
        · exact ⟨_, q2⟩
        · obtain ⟨_, _, q⟩ := q3
          exact ⟨_, q⟩
        · obtain ⟨o, q, _⟩ := q4
          exact ⟨o, q⟩
        · obtain ⟨o, q, _⟩ := q5
          exact ⟨o, q⟩
      rw [upd_ne (Nat.ne_of_lt (Nat.lt_of_lt_of_le (Heap.lt_size e) hT))]
      exact (hf c hm).1
  done := by
    intro X hP hw hK hc i pins s σ H E I hf st hg
    subst hP hw hK
    obtain ⟨hx, hy, hi⟩ := hg
    obtain ⟨us, rx, px, _⟩ := I.list hx
    obtain ⟨ws, ry, py, _⟩ := I.tuple hy
    have hd : X.A.in1.handled = none := I.ok.hd hc
    have W := GoesN.zip2 (elts := elts) (x1 := kk) (pos := tp) S (Draws.list (prog := X.prog) (w := X.w) hd i1 a n1 us.toArray) (Draws.tuple (prog := X.prog) (w := X.w) hd i2 b n2 ws.toArray)
    have hn : i = min us.toArray.size ws.toArray.size := by
      rw [List.size_toArray, List.size_toArray, ← rx.length, ← ry.length]
      exact hi
    subst hn
    obtain ⟨q1, q2, q3, q4, q5⟩ := st
    refine W.stops s (fun s1 => Inv X pins σ H s1) E ⟨q1, q2, q3, ⟨q4, px.isList⟩, q5, py⟩ fun h' tk hk _ => ?_
    refine I.turnedL (t' := tk) (ch := [z, TI, TO, i1, i2]) (fun c o hn e => hk c o (fun m => hn ?_) e) hf
    simp only [List.mem_cons, List.not_mem_nil, or_false] at m ⊢
    rcases m with m | m | m | m <;> simp [m]
  self := fun _ _ _ _ _ st q => wpAny_pyIter_zip st.1 q
theorem turn_t {P : Program} {w : World} {K : PySem.W.Frag} {elts : List Expr} {kk : Nat} {tp : Pos} {a b z TI TO i1 i2 : Addr} {xs ys : List V} (S : ZipSep2 z TI TO i1 i2 [i1, a] [i2, b]) (n1 : a ≠ i1) (n2 : b ≠ i2) :
    Turn P w K (.Tuple elts kk tp) (ItM false K a b xs ys) [z, TI, TO, i1, i2] z
      (fun i h => IsZip h z TI TO .none ∧ IsTupOf2 h TI (.ref i1) (.ref i2) ∧ (∃ u v, IsTupOf2 h TO u v) ∧ h.IsTupleIter i1 a i ∧ h.IsTupleIter i2 b i) where
  mem := List.mem_cons_self ..
  obj := by
    rintro i h ⟨q1, q2, ⟨u, v, q3⟩, ⟨o4, q4, _, d4⟩, ⟨o5, q5, _, d5⟩⟩ c hc
    rcases (show c = z ∨ c = TI ∨ c = TO ∨ c = i1 ∨ c = i2 by simpa using hc) with e | e | e | e | e <;> subst e
    · exact ⟨_, q1, fun _ y => nomatch y⟩
    · exact ⟨_, q2, fun _ y => nomatch y⟩
    · exact ⟨_, q3, fun _ y => nomatch y⟩
    · exact ⟨o4, q4, fun _ y => by rw [d4] at y; cases y⟩
    · exact ⟨o5, q5, fun _ y => by rw [d5] at y; cases y⟩
  keep := by
    rintro i h h' ⟨q1, q2, ⟨u, v, q3⟩, q4, q5⟩ k
    exact ⟨k _ (by simp) _ q1, k _ (by simp) _ q2, ⟨u, v, k _ (by simp) _ q3⟩, q4.at fun o e => k _ (by simp) o e, q5.at fun o e => k _ (by simp) o e⟩
  item := by
    intro X hP hw hK hc i pins s σ H E I hf st hg
    subst hP hw hK
    obtain ⟨hx, hy, lx, ly⟩ := hg
    obtain ⟨us, rx, px, _⟩ := I.tuple hx
    obtain ⟨ws, ry, py, _⟩ := I.tuple hy
    have hd : X.A.in1.handled = none := I.ok.hd hc
    have W := GoesN.zip2 (elts := elts) (x1 := kk) (pos := tp) S (Draws.tuple (prog := X.prog) (w := X.w) hd i1 a n1 us.toArray) (Draws.tuple (prog := X.prog) (w := X.w) hd i2 b n2 ws.toArray)
    have hlt : i < min us.toArray.size ws.toArray.size := by
      rw [List.size_toArray, List.size_toArray, ← rx.length, ← ry.length]
      omega
    obtain ⟨q1, q2, q3, q4, q5⟩ := st
    refine W.goes i s (fun v s2 => ∃ x H', Inv X pins σ H' s2 ∧ RelV x v ∧ (ItM false X.K a b xs ys).yld i H x H' ∧ (IsZip s2.heap z TI TO .none ∧ IsTupOf2 s2.heap TI (.ref i1) (.ref i2) ∧ (∃ u v, IsTupOf2 s2.heap TO u v) ∧ s2.heap.IsTupleIter i1 a (i + 1) ∧ s2.heap.IsTupleIter i2 b (i + 1)) ∧ ∀ c ∈ [z, TI, TO, i1, i2], H' c = none) E hlt
      ⟨q1, q2, q3, ⟨q4, px⟩, q5, py⟩ fun v h' tk hY st' hk _ => ?_
    obtain ⟨T, u, v', rfl, hT, hu, hv, hTt⟩ := hY
    obtain ⟨g1, g2, g3, ⟨g4, _⟩, g5, _⟩ := st'
    obtain ⟨x, ex, rxu⟩ := vals_at rx (show us[i]? = some u by simpa using hu)
    obtain ⟨y, ey, ryu⟩ := vals_at ry (show ws[i]? = some v' by simpa using hv)
    have new : ObjOk X.prog X.w (upd H T (.tup [x, y])) h' T (.tup [x, y]) := ⟨by show 2 ≤ sizeLine; decide, [u, v'], .cons rxu (.cons ryu .nil), hTt⟩
    refine ⟨.ref T, _, I.turnedNew (t' := tk) (ch := [z, TI, TO, i1, i2]) (fun c o hn e => hk c o (fun m => hn ?_) e) hf hT new, rfl, ⟨T, x, y, rfl, I.hok.fresh hT, rfl, ex, ey⟩, ⟨g1, g2, g3, g4, g5⟩, fun c hm => ?_⟩
    · simp only [List.mem_cons, List.not_mem_nil, or_false] at m ⊢
      rcases m with m | m | m | m <;> simp [m]
    · obtain ⟨o, e⟩ : ∃ o, s.heap.get? c = some o := by
        rcases (show c = z ∨ c = TI ∨ c = TO ∨ c = i1 ∨ c = i2 by simpa using hm) with e | e | e | e | e <;> subst e
        · exact ⟨_, q1⟩
        · exact ⟨_, q2⟩
        · obtain ⟨_, _, q⟩ := q3
          exact ⟨_, q⟩
        · obtain ⟨o, q, _⟩ := q4
          exact ⟨o, q⟩
        · obtain ⟨o, q, _⟩ := q5
          exact ⟨o, q⟩
      rw [upd_ne (Nat.ne_of_lt (Nat.lt_of_lt_of_le (Heap.lt_size e) hT))]
      exact (hf c hm).1
  done := by
    intro X hP hw hK hc i pins s σ H E I hf st hg
    subst hP hw hK
    obtain ⟨hx, hy, hi⟩ := hg
    obtain ⟨us, rx, px, _⟩ := I.tuple hx
    obtain ⟨ws, ry, py, _⟩ := I.tuple hy
    have hd : X.A.in1.handled = none := I.ok.hd hc
    have W := GoesN.zip2 (elts := elts) (x1 := kk) (pos := tp) S (Draws.tuple (prog := X.prog) (w := X.w) hd i1 a n1 us.toArray) (Draws.tuple (prog := X.prog) (w := X.w) hd i2 b n2 ws.toArray)
    have hn : i = min us.toArray.size ws.toArray.size := by
      rw [List.size_toArray, List.size_toArray, ← rx.length, ← ry.length]
      exact hi
    subst hn
    obtain ⟨q1, q2, q3, q4, q5⟩ := st
    refine W.stops s (fun s1 => Inv X pins σ H s1) E ⟨q1, q2, q3, ⟨q4, px⟩, q5, py⟩ fun h' tk hk _ => ?_
    refine I.turnedL (t' := tk) (ch := [z, TI, TO, i1, i2]) (fun c o hn e => hk c o (fun m => hn ?_) e) hf
    simp only [List.mem_cons, List.not_mem_nil, or_false] at m ⊢
    rcases m with m | m | m | m <;> simp [m]
  self := fun _ _ _ _ _ st q => wpAny_pyIter_zip st.1 q
/-- zip(list or tuple, tuple) as what a for walks -/
def iZipM (K : PySem.W.Frag) (ta : TA) : TI := fun σ H R => ta σ H fun vs H1 => ∃ (L : Bool) (a b : Addr) (xs ys : List V), vs = [.ref a, .ref b] ∧ SqA L K H1 a xs ∧ SqT K H1 b ys ∧ R (ItM L K a b xs ys) H1
theorem pi_zipM {X : Cx} {e e2 : Expr} {ta : TA} {p pos tp : Pos} {elts : List Expr} {kk : Nat} (hg : Gl X "zip") (hm : X.mg "zip" = none) (ha : PA X [e, e2] ta)
    (h1 : starEach [e, e2] X.env = (false, eval e X.env) :: starEach [e2] X.env := by rfl) (h2 : (backTo pos (starEach [e2] X.env)).any (·.1) = false := by rfl) :
    PI X (.Tuple elts kk tp) (.Call (.Name "zip" p) [e, e2] [] pos) (iZipM X.K ta) := by
  constructor
  intro pins s σ H R I h
  refine Call_ (ld_blt I hg hm PyProof.Rows.boot_zip (PyProof.Rows.callWith_type1 (thn (ha.run pos pins s σ H _ I h) fun us s1 q => ?_) h1 h2))
  obtain ⟨vs, H1, I1, r1, L, a, b, xs, ys, rfl, hx, hy, q⟩ := q
  match us, r1 with
  | [_, _], .cons ra (.cons rb .nil) =>
    cases ra
    cases rb
    cases L with
    | true =>
      have hx : SqL X.K H1 a xs := hx
      obtain ⟨us, rx, px, _⟩ := I1.list hx
      obtain ⟨ws, ry, py, _⟩ := I1.tuple hy
      have la : a < s1.heap.objs.size := px.lt
      have lb : b < s1.heap.objs.size := by
        obtain ⟨o, e, _⟩ := py
        exact Heap.lt_size e
      refine zip_begins2 (begins_list a us.toArray) (begins_tuple b ws.toArray) px.isList py fun h' k1 k2 k3 k4 k5 k6 k7 => wpAny_pyIter_zip k1 ?_
      have I2 : Inv X pins σ H1 { s1 with heap := h' } := I1.kept (t' := s1.toks) k7
      refine ⟨_, [s1.heap.objs.size + 4, s1.heap.objs.size + 2, s1.heap.objs.size + 3, s1.heap.objs.size, s1.heap.objs.size + 1], _, _, H1, rfl, I2,
        turn_m (zip_sep2 (N := s1.heap.objs.size) (fp1 := [a]) (fp2 := [b]) (by simpa using la) (by simpa using lb)) (Nat.ne_of_lt la) (Nat.ne_of_lt (Nat.lt_succ_of_lt lb)), ⟨k1, k2, ⟨_, _, k3⟩, ⟨_, k4, rfl, rfl⟩, ⟨_, k5, rfl, rfl⟩⟩, fun c hc => ?_, q⟩
      have hle : s1.heap.objs.size ≤ c := by
        simp only [List.mem_cons, List.not_mem_nil, or_false] at hc
        rcases hc with e | e | e | e | e <;> (rw [e]; first | exact Nat.le_refl _ | exact Nat.le_add_right _ _)
      exact I1.fpOk hle (I1.hok.fresh hle)
    | false =>
      have hx : SqT X.K H1 a xs := hx
      obtain ⟨us, rx, px, _⟩ := I1.tuple hx
      obtain ⟨ws, ry, py, _⟩ := I1.tuple hy
      have la : a < s1.heap.objs.size := by
        obtain ⟨o, e, _⟩ := px
        exact Heap.lt_size e
      have lb : b < s1.heap.objs.size := by
        obtain ⟨o, e, _⟩ := py
        exact Heap.lt_size e
      refine zip_begins2 (begins_tuple a us.toArray) (begins_tuple b ws.toArray) px py fun h' k1 k2 k3 k4 k5 k6 k7 => wpAny_pyIter_zip k1 ?_
      have I2 : Inv X pins σ H1 { s1 with heap := h' } := I1.kept (t' := s1.toks) k7
      refine ⟨_, [s1.heap.objs.size + 4, s1.heap.objs.size + 2, s1.heap.objs.size + 3, s1.heap.objs.size, s1.heap.objs.size + 1], _, _, H1, rfl, I2,
        turn_t (zip_sep2 (N := s1.heap.objs.size) (fp1 := [a]) (fp2 := [b]) (by simpa using la) (by simpa using lb)) (Nat.ne_of_lt la) (Nat.ne_of_lt (Nat.lt_succ_of_lt lb)), ⟨k1, k2, ⟨_, _, k3⟩, ⟨_, k4, rfl, rfl⟩, ⟨_, k5, rfl, rfl⟩⟩, fun c hc => ?_, q⟩
      have hle : s1.heap.objs.size ≤ c := by
        simp only [List.mem_cons, List.not_mem_nil, or_false] at hc
        rcases hc with e | e | e | e | e <;> (rw [e]; first | exact Nat.le_refl _ | exact Nat.le_add_right _ _)
      exact I1.fpOk hle (I1.hok.fresh hle)
/-- a loop over such pairs -/
theorem for_zipM {L : Bool} {K : PySem.W.Frag} {a b : Addr} {xs ys : List V} {g : TG} {tb : TS} {D : Ends} {σ : L2.St} {H : Hp} (Pv : Nat → L2.St → Hp → Prop) (h0 : Pv 0 σ H) (hq : ∀ i σ H, Pv i σ H → SqA L K H a xs ∧ SqT K H b ys)
    (hs : ∀ (i : Nat) (x y : V) (T : Addr) (σ : L2.St) (H : Hp), xs[i]? = some x → ys[i]? = some y → Pv i σ H → H T = none → g (.ref T) σ (upd H T (.tup [x, y])) fun σ2 H2 => tb { D with nx := Pv (i + 1), ct := Pv (i + 1), bk := D.nx } σ2 H2)
    (hd : ∀ σ H, Pv (min xs.length ys.length) σ H → D.nx σ H) :
    ∃ W : Nat → Nat → L2.St → Hp → Prop, (∃ m, W 0 m σ H) ∧ ∀ i m σ H, W i m σ H →
      ((ItM L K a b xs ys).stop i H ∧ D.nx σ H) ∨ ((ItM L K a b xs ys).go i H ∧ ∃ N : L2.St → Hp → Prop, (∀ σ' H', N σ' H' → ∃ m', m' < m ∧ W (i + 1) m' σ' H') ∧ ∀ v H', (ItM L K a b xs ys).yld i H v H' → g v σ H' fun σ2 H2 => tb { D with nx := N, ct := N, bk := D.nx } σ2 H2) := by
  refine ⟨fun i m σ H => i + m = min xs.length ys.length ∧ Pv i σ H, ⟨_, Nat.zero_add _, h0⟩, ?_⟩
  rintro i m σ H ⟨em, p⟩
  obtain ⟨qx, qy⟩ := hq i σ H p
  cases m with
  | zero =>
    have ei : i = min xs.length ys.length := em
    refine .inl ⟨⟨qx, qy, ei⟩, hd σ H ?_⟩
    rw [← ei]
    exact p
  | succ m =>
    refine .inr ⟨⟨qx, qy, by omega, by omega⟩, Pv (i + 1), fun σ' H' p' => ⟨m, Nat.lt_succ_self m, by omega, p'⟩, fun v H' y => ?_⟩
    obtain ⟨T, x, y', rfl, hT, rfl, f1, f2⟩ := y
    exact hs i x y' T σ H f1 f2 p hT
end Fm
namespace Fm
open PySem PySem.Spec PyProof.Rows L2
/-- a comprehension over a list, within it over range(n): Pv by both turns and the heap -/
theorem lc2_lr {K : PySem.W.Frag} {a : Addr} {xs : List V} {n : Nat} {i0 j0 : Nat} {ta : TA} {te : TE} {vs vs1 : List Nat} {σ : L2.St} {H1 : Hp} {D : Addr} {Qd : Hp → Prop} (Pv : Nat → Nat → Hp → Prop) (hn : n < 2 ^ 62)
    (hw : ∀ x, wipe ((wipe σ vs).set i0 (some x)) vs = wipe σ vs) (hw1 : ∀ x y, wipe ((wipe ((wipe σ vs).set i0 (some x)) vs1).set j0 (some y)) vs1 = wipe ((wipe σ vs).set i0 (some x)) vs1) (h0 : Pv 0 0 (upd H1 D (.lst []))) (hl : ∀ i j H, Pv i j H → SqL K H a xs)
    (hr : ∀ i x H, xs[i]? = some x → Pv i 0 H → ∀ R : List V → Hp → Prop, R [.int n] H → ta ((wipe σ vs).set i0 (some x)) H R)
    (hs : ∀ (i j : Nat) x H, xs[i]? = some x → j < n → Pv i j H → te ((wipe ((wipe σ vs).set i0 (some x)) vs1).set j0 (some (.int (j : Int)))) H fun y H7 => ∃ acc, H7 D = some (.lst acc) ∧ acc.length < sizeLine ∧ Pv i (j + 1) (upd H7 D (.lst (acc ++ [y]))))
    (hj : ∀ i H, i < xs.length → Pv i n H → Pv (i + 1) 0 H) (hd : ∀ H, Pv xs.length 0 H → Qd H) :
    ∃ W : Nat → Nat → Hp → Prop, (∃ m, W 0 m (upd H1 D (.lst []))) ∧ ∀ i m H, W i m H →
      ((Itl K a).stop i H ∧ Qd H) ∨ ((Itl K a).go i H ∧ ∃ Nx : Hp → Prop, (∀ H', Nx H' → ∃ m', m' < m ∧ W (i + 1) m' H') ∧ ∀ x H', (Itl K a).yld i H x H' → gName i0 x (wipe σ vs) H' fun σ2 H2 => wipe σ2 vs = wipe σ vs ∧ tYes σ2 H2 fun b H3 =>
        if b = true then (iRng1 ta) σ2 H3 fun J1 H4 => ∃ W1 : Nat → Nat → Hp → Prop, (∃ m, W1 0 m H4) ∧ ∀ j k H, W1 j k H →
          (J1.stop j H ∧ Nx H) ∨ (J1.go j H ∧ ∃ Nx1 : Hp → Prop, (∀ H', Nx1 H' → ∃ k', k' < k ∧ W1 (j + 1) k' H') ∧ ∀ x H', J1.yld j H x H' → gName j0 x (wipe σ2 vs1) H' fun σ3 H5 => wipe σ3 vs1 = wipe σ2 vs1 ∧ tYes σ3 H5 fun b H6 =>
            if b = true then te σ3 H6 fun y H7 => ∃ acc, H7 D = some (.lst acc) ∧ acc.length < sizeLine ∧ Nx1 (upd H7 D (.lst (acc ++ [y]))) else Nx1 H6)
        else Nx H3) := by
  refine ⟨fun i m H => i + m = xs.length ∧ Pv i 0 H, ⟨xs.length, Nat.zero_add _, h0⟩, fun i m H h => ?_⟩
  obtain ⟨em, p⟩ := h
  have q := hl i 0 H p
  cases m with
  | zero =>
    have ei : i = xs.length := em
    subst ei
    exact .inl ⟨⟨xs, q, Nat.le_refl _⟩, hd H p⟩
  | succ m =>
    have hlt : i < xs.length := by omega
    refine .inr ⟨⟨xs, xs[i], q, List.getElem?_eq_getElem hlt⟩, Pv (i + 1) 0, fun H' p' => ⟨m, Nat.lt_succ_self m, by omega, p'⟩, fun x H' y => ?_⟩
    obtain ⟨rfl, y⟩ := y
    have hx := y xs q
    refine ⟨hw x, ?_⟩
    dsimp only [tYes]
    rw [if_pos rfl]
    refine hr i x _ hx p _ ⟨(n : Int), rfl, by omega, by omega, ?_⟩
    refine ⟨fun j k H => j + k = n ∧ Pv i j H, ⟨n, Nat.zero_add _, p⟩, fun j k H h => ?_⟩
    obtain ⟨ek, pj⟩ := h
    cases k with
    | zero =>
      have ej : j = n := ek
      subst ej
      exact .inl ⟨by show ((j : Nat) : Int).toNat ≤ j; omega, hj i H hlt pj⟩
    | succ k =>
      have hjn : j < n := by omega
      refine .inr ⟨by show j < ((n : Nat) : Int).toNat; omega, Pv i (j + 1), fun H' p' => ⟨k, Nat.lt_succ_self k, by omega, p'⟩, fun y H' e => ?_⟩
      obtain ⟨rfl, rfl⟩ := e
      have e0 : (0 : Int) + (j : Int) = (j : Int) := Int.zero_add _
      rw [e0]
      refine ⟨hw1 x _, ?_⟩
      rw [if_pos rfl]
      exact hs i j x _ hx hjn pj
end Fm
namespace Fm
open PySem PySem.Spec PyProof.Rows L2
/-! ### rules whose reading is to name the written part by itself (within a comprehension's block) -/
section
variable {X : Cx} (K : PySem.W.Frag)
theorem op_catK (e : X.K = K := by rfl) : OpR X (binaryOp .Add) (rCatA K) := e ▸ op_catA
theorem op_eqK (hu : X.A.units + 64 < cLine) (e : X.K = K := by rfl) : OpR X (compareOp .Eq) (rEqD K) := e ▸ op_eqD hu
theorem op_neK (hu : X.A.units + 64 < cLine) (e : X.K = K := by rfl) : OpR X (compareOp .NotEq) (rNeD K) := e ▸ op_neD hu
theorem ix_tupK (e : X.K = K := by rfl) : IxR X (rIxT K) := e ▸ ix_tup
theorem ix_listK (e : X.K = K := by rfl) : IxR X (rIxL K) := e ▸ ix_list
theorem call_isiK' (e : X.K = K := by rfl) : CallR X (.builtin "isinstance") (rIsi K) := e ▸ call_isi
theorem pg_tupK {es : List Expr} {k : Nat} {t : TGs} {n : Nat} {pos : Pos} (hc : X.calm = true) (h : PGs X es t) (e : X.K = K := by rfl) (hn : (assignEach es X.env).length = n := by rfl) (hst : (assignEach es X.env).findIdx? (·.1) = none := by rfl) :
    PG X (.Tuple es k pos) (gTup K n t) := e ▸ pg_tup hc h hn hst
theorem pi_tupK {tg l : Expr} {tl : TE} (hl : PE X l tl) (e : X.K = K := by rfl) : PI X tg l (iTup K tl) := e ▸ pi_tup hl
theorem pi_listK {tg l : Expr} {tl : TE} (hl : PE X l tl) (e : X.K = K := by rfl) : PI X tg l (iList K tl) := e ▸ pi_list hl
theorem sl_tupK (e : X.K = K := by rfl) : SlR X (rSlA K) := e ▸ sl_tupA
theorem sl_listK (e : X.K = K := by rfl) : SlR X (rSlL K) := e ▸ sl_list
/-- len of a list or tuple; tuple(list or tuple) -/
def rLenK (K : PySem.W.Frag) : List V → Hp → VK → Prop := fun xs H Q => ∃ p ys, xs = [.ref p] ∧ (SqL K H p ys ∨ SqT K H p ys) ∧ Q (.int ys.length) H
theorem call_lenK (e : X.K = K := by rfl) : CallR X (.builtin "len") (rLenK K) := e ▸ call_len_seq
def rTupK (K : PySem.W.Frag) : List V → Hp → VK → Prop := fun xs H Q => ∃ p ys, xs = [.ref p] ∧ ((SqL K H p ys ∧ ∀ l, H l = none → Q (.ref l) (upd H l (.tup ys))) ∨ (SqT K H p ys ∧ Q (.ref p) H))
theorem call_tupleK (e : X.K = K := by rfl) : CallR X (.type "tuple") (rTupK K) := e ▸ call_tuple_of
end
end Fm
namespace Fm
open PySem PySem.Spec PyProof.Rows L2
/-! ### dict(zip(t, u)) of two tuples: the pair that zip gave out before is still held -/
section
variable {prog : Program} {w : World} {A : Around} {E : Value → Shared → Prop} {s : Shared}
theorem zh_item {z TI TO T i1 i2 l1 l2 : Addr} {f : Bool} {oT : Obj} {k1 k2 : Nat} {xs ys : Array Value} {x y : Value} {Q : Value → Shared → Prop} (D : ZipApart z TI TO i1 i2 l1 l2) (hz : IsZipHeld s.heap z TI TO T f) (hT : s.heap.get? T = some oT) (hTI : IsPair s.heap TI (.ref i1) (.ref i2))
    (g1 : s.heap.IsTupleIter i1 l1 k1) (g2 : s.heap.IsTupleIter i2 l2 k2) (t1 : s.heap.IsTuple l1 xs) (t2 : s.heap.IsTuple l2 ys) (hx : xs[k1]? = some x) (hy : ys[k2]? = some y)
    (q : ∀ h', IsZipHeld h' z TI TO T true → h'.IsTupleIter i1 l1 (k1 + 1) → h'.IsTupleIter i2 l2 (k2 + 1) → IsPair h' s.heap.objs.size x y → (∀ c o, c ≠ z → c ≠ i1 → c ≠ i2 → s.heap.get? c = some o → h'.get? c = some o) → Q (.ref s.heap.objs.size) { s with heap := h' }) :
    wpAny (model prog w) A (Builtin.«zip.__next__» ⟨[.ref z], []⟩) (fun fin s' => ∃ v, fin = .done (.ret v) ∧ Q v s') E s := by
  show wpAny _ _ (field (.ref z) 2 >>= _) _ _ _; refine wpAny_bind (wpAny_field hz rfl (x := .bool false) rfl ?_)
  show wpAny _ _ (field (.ref z) 3 >>= _) _ _ _; refine wpAny_bind (wpAny_field hz rfl (x := .ref TI) rfl (wpAny_bind (wpAny_seqItems hTI rfl ?_)))
  show wpAny _ _ (Builtin.SmallTypes.ownedTupleIsFree (.ref z) >>= _) _ _ _; refine wpAny_bind (wpAny_tupleHeld_zip hz hT fun ha za sa => ?_)
  simp only [Bool.false_eq_true, if_false]; refine wpAny_bind ?_; rw [← Array.forIn_toList]; simp only [List.forIn_cons, List.forIn_nil]
  refine wpAny_bind (wpAny_bind (wpAny_holding ?_)); show wpAny _ _ (Builtin.SmallTypes.nextOf (.ref i1) >>= _) _ _ _
  refine wpAny_bind (RZ.nextOf_tuple_item (s := { s with heap := ha }) (g1.at fun o e => sa.extBut _ _ D.i1z e) (t1.at fun o e => sa.extBut _ _ D.l1z e) hx fun hb gb sb => wpAny_pure (wpAny_pure ?_))
  refine wpAny_bind (wpAny_bind (wpAny_holding ?_)); show wpAny _ _ (Builtin.SmallTypes.nextOf (.ref i2) >>= _) _ _ _
  refine wpAny_bind (RZ.nextOf_tuple_item (s := { s with heap := hb }) (g2.at fun o e => sb.extBut _ _ D.i12.symm (sa.extBut _ _ D.i2z e)) (t2.at fun o e => sb.extBut _ _ D.l2i1 (sa.extBut _ _ D.l2z e)) hy fun hc gc sc => wpAny_pure (wpAny_pure (wpAny_pure ?_)))
  show wpAny _ _ (newTuple [x, y] >>= _) _ _ _; refine wpAny_bind (wpAny_newTuple (wpAny_pure ⟨_, rfl, ?_⟩))
  have ez : hc.objs.size = s.heap.objs.size := by rw [sc.1, sb.1, sa.1]
  have kk : ∀ c o, c ≠ z → c ≠ i1 → c ≠ i2 → s.heap.get? c = some o → hc.get? c = some o := fun c o c1 c2 c3 e => sc.extBut _ _ c3 (sb.extBut _ _ c2 (sa.extBut _ _ c1 e))
  have hp : IsPair (hc.push { cls := .type "tuple", data := .seq #[x, y] }) hc.objs.size x y := Heap.get?_push_size _ rfl
  show Q (.ref hc.objs.size) _
  rw [ez] at hp ⊢
  exact q _ (Heap.get?_push_of_some _ (sc.extBut _ _ D.i2z.symm (sb.extBut _ _ D.i1z.symm za))) (gb.at fun o e => Heap.get?_push_of_some _ (sc.extBut _ _ D.i12 e)) (gc.at fun o e => Heap.get?_push_of_some _ e) hp fun c o c1 c2 c3 e => Heap.get?_push_of_some _ (kk c o c1 c2 c3 e)
theorem zh_end {z TI TO T i1 i2 l1 l2 : Addr} {f : Bool} {oT : Obj} {k1 k2 : Nat} {xs ys : Array Value} {Q : Fin → Shared → Prop} (hh : A.handled = none) (D : ZipApart z TI TO i1 i2 l1 l2) (hz : IsZipHeld s.heap z TI TO T f) (hT : s.heap.get? T = some oT) (hTI : IsPair s.heap TI (.ref i1) (.ref i2))
    (g1 : s.heap.IsTupleIter i1 l1 k1) (g2 : s.heap.IsTupleIter i2 l2 k2) (t1 : s.heap.IsTuple l1 xs) (t2 : s.heap.IsTuple l2 ys) (hend : xs[k1]? = none ∨ ys[k2]? = none)
    (q : ∀ h' e, (∀ c o, c ≠ z → c ≠ i1 → c ≠ i2 → s.heap.get? c = some o → h'.get? c = some o) → (∃ o, h'.get? e = some o ∧ o.cls = .type "StopIteration") → E (.ref e) { s with heap := h' }) :
    wpAny (model prog w) A (Builtin.«zip.__next__» ⟨[.ref z], []⟩) Q E s := by
  show wpAny _ _ (field (.ref z) 2 >>= _) _ _ _; refine wpAny_bind (wpAny_field hz rfl (x := .bool false) rfl ?_)
  show wpAny _ _ (field (.ref z) 3 >>= _) _ _ _; refine wpAny_bind (wpAny_field hz rfl (x := .ref TI) rfl (wpAny_bind (wpAny_seqItems hTI rfl ?_)))
  show wpAny _ _ (Builtin.SmallTypes.ownedTupleIsFree (.ref z) >>= _) _ _ _; refine wpAny_bind (wpAny_tupleHeld_zip hz hT fun ha za sa => ?_)
  simp only [Bool.false_eq_true, if_false]; refine wpAny_bind ?_; rw [← Array.forIn_toList]; simp only [List.forIn_cons, List.forIn_nil]
  refine wpAny_bind (wpAny_bind (wpAny_holding ?_)); show wpAny _ _ (Builtin.SmallTypes.nextOf (.ref i1) >>= _) _ _ _
  cases hx : xs[k1]? with
  | none => exact wpAny_bind (RZ.nextOf_tuple_end (s := { s with heap := ha }) hh (g1.at fun o e => sa.extBut _ _ D.i1z e) (t1.at fun o e => sa.extBut _ _ D.l1z e) hx fun hb e sb he => q hb e (fun c o c1 c2 _ x => sb _ _ c2 (sa.extBut _ _ c1 x)) he)
  | some x =>
    have hy : ys[k2]? = none := by
      rcases hend with n | n
      · rw [hx] at n; cases n
      · exact n
    refine wpAny_bind (RZ.nextOf_tuple_item (s := { s with heap := ha }) (g1.at fun o e => sa.extBut _ _ D.i1z e) (t1.at fun o e => sa.extBut _ _ D.l1z e) hx fun hb gb sb => wpAny_pure (wpAny_pure ?_))
    refine wpAny_bind (wpAny_bind (wpAny_holding ?_)); show wpAny _ _ (Builtin.SmallTypes.nextOf (.ref i2) >>= _) _ _ _
    exact wpAny_bind (RZ.nextOf_tuple_end (s := { s with heap := hb }) hh (g2.at fun o e => sb.extBut _ _ D.i12.symm (sa.extBut _ _ D.i2z e)) (t2.at fun o e => sb.extBut _ _ D.l2i1 (sa.extBut _ _ D.l2z e)) hy fun hc e sc he => q hc e (fun c o c1 c2 c3 x => sc _ _ c3 (sb.extBut _ _ c2 (sa.extBut _ _ c1 x))) he)
theorem zh_next {z TI TO T i1 i2 l1 l2 : Addr} {f : Bool} {oT : Obj} {k1 k2 : Nat} {xs ys : Array Value} {x y : Value} {Q : Option Value → Shared → Prop} (D : ZipApart z TI TO i1 i2 l1 l2) (hz : IsZipHeld s.heap z TI TO T f) (hT : s.heap.get? T = some oT) (hTI : IsPair s.heap TI (.ref i1) (.ref i2))
    (g1 : s.heap.IsTupleIter i1 l1 k1) (g2 : s.heap.IsTupleIter i2 l2 k2) (t1 : s.heap.IsTuple l1 xs) (t2 : s.heap.IsTuple l2 ys) (hx : xs[k1]? = some x) (hy : ys[k2]? = some y)
    (q : ∀ h', IsZipHeld h' z TI TO T true → h'.IsTupleIter i1 l1 (k1 + 1) → h'.IsTupleIter i2 l2 (k2 + 1) → IsPair h' s.heap.objs.size x y → (∀ c o, c ≠ z → c ≠ i1 → c ≠ i2 → s.heap.get? c = some o → h'.get? c = some o) → Q (some (.ref s.heap.objs.size)) { s with heap := h' }) :
    wpAny (model prog w) A (pyNext (.ref z)) Q E s := by
  have ty : s.TypeIs (.ref z) "zip" := ⟨_, hz, rfl⟩
  unfold pyNext
  exact wpAny_bind (wpAny_attempt (wpAny_callSpecial?_slot (name := Str.ofString "__next__") ty F.slot_zip_next (wpAny_call_entry F.slot_zip_next ty F.entry_zip_next (zh_item D hz hT hTI g1 g2 t1 t2 hx hy fun h' a1 a2 a3 a4 a5 => wpAny_pure (q h' a1 a2 a3 a4 a5)) (F.args_zip_next_1 _))))
theorem zh_stop {z TI TO T i1 i2 l1 l2 : Addr} {f : Bool} {oT : Obj} {k1 k2 : Nat} {xs ys : Array Value} {Q : Option Value → Shared → Prop} (hh : A.handled = none) (D : ZipApart z TI TO i1 i2 l1 l2) (hz : IsZipHeld s.heap z TI TO T f) (hT : s.heap.get? T = some oT) (hTI : IsPair s.heap TI (.ref i1) (.ref i2))
    (g1 : s.heap.IsTupleIter i1 l1 k1) (g2 : s.heap.IsTupleIter i2 l2 k2) (t1 : s.heap.IsTuple l1 xs) (t2 : s.heap.IsTuple l2 ys) (hend : xs[k1]? = none ∨ ys[k2]? = none)
    (q : ∀ h', (∀ c o, c ≠ z → c ≠ i1 → c ≠ i2 → s.heap.get? c = some o → h'.get? c = some o) → Q none { s with heap := h' }) : wpAny (model prog w) A (pyNext (.ref z)) Q E s := by
  have ty : s.TypeIs (.ref z) "zip" := ⟨_, hz, rfl⟩
  unfold pyNext
  refine wpAny_bind (wpAny_attempt (wpAny_callSpecial?_slot (name := Str.ofString "__next__") ty F.slot_zip_next (wpAny_call_entry F.slot_zip_next ty F.entry_zip_next (zh_end hh D hz hT hTI g1 g2 t1 t2 hend fun h' e k he => ?_) (F.args_zip_next_1 _))))
  obtain ⟨o, ho, hc⟩ := he
  exact wpAny_bind (wpAny_isInstance (T := "StopIteration") (b := true) ⟨o, ho, hc⟩ isSubtype_stop (wpAny_pure (q _ k)))
end
section
variable {prog : Program} {w : World}
theorem zipArg (z TI TO i1 i2 l1 l2 : Addr) (D : ZipApart z TI TO i1 i2 l1 l2) (xs ys : Array Value) : PairArg prog w "zip" z [z, TI, TO, i1, i2, l1, l2] [z, TO, i1, i2] (min xs.size ys.size) (fun i k v => xs[i]? = some k ∧ ys[i]? = some v)
    (fun h => IsZip h z TI TO .none ∧ IsPair h TI (.ref i1) (.ref i2) ∧ (∃ a b, IsPair h TO a b) ∧ h.IsTupleIter i1 l1 0 ∧ h.IsTupleIter i2 l2 0 ∧ h.IsTuple l1 xs ∧ h.IsTuple l2 ys) where
  type := fun s ok => ⟨_, ok.1, rfl⟩
  notDict := by decide
  keep := fun h h' ⟨a1, a2, ⟨u, v, a3⟩, a4, a5, a6, a7⟩ k => ⟨k _ _ a1, k _ _ a2, ⟨u, v, k _ _ a3⟩, a4.at fun o e => k _ o e, a5.at fun o e => k _ o e, a6.at fun o e => k _ o e, a7.at fun o e => k _ o e⟩
  there := fun h ⟨a1, a2, ⟨_, _, a3⟩, ⟨_, a4, _⟩, ⟨_, a5, _⟩, ⟨_, a6, _⟩, ⟨_, a7, _⟩⟩ b hb => by
    rcases (show b = z ∨ b = TI ∨ b = TO ∨ b = i1 ∨ b = i2 ∨ b = l1 ∨ b = l2 by simpa using hb) with e | e | e | e | e | e | e <;> rw [e]
    · exact ⟨_, a1⟩
    · exact ⟨_, a2⟩
    · exact ⟨_, a3⟩
    · exact ⟨_, a4⟩
    · exact ⟨_, a5⟩
    · exact ⟨_, a6⟩
    · exact ⟨_, a7⟩
  sub := fun b hb => by
    rcases (show b = z ∨ b = TO ∨ b = i1 ∨ b = i2 by simpa using hb) with e | e | e | e <;> simp [e]
  noKeys := fun A s Q E hA ok q => getAttrOr_miss_zip ok.1 rfl rfl rfl zip_no_keys (by decide +kernel) hA q
  iter := fun A s d Q E hA ⟨a1, a2, ⟨u0, v0, a3⟩, a4, a5, a6, a7⟩ hd hdf q => by
    have df : d ≠ z ∧ d ≠ TI ∧ d ≠ TO ∧ d ≠ i1 ∧ d ≠ i2 ∧ d ≠ l1 ∧ d ≠ l2 := by simpa [not_or] using hdf
    obtain ⟨d1, d2, d3, d4, d5, d6, d7⟩ := df
    refine wpAny_pyIter_zip a1 (q z [z, TO, i1, i2] (fun i h => IsPair h TI (.ref i1) (.ref i2) ∧ h.IsTupleIter i1 l1 i ∧ h.IsTupleIter i2 l2 i ∧ h.IsTuple l1 xs ∧ h.IsTuple l2 ys ∧
      ((IsZip h z TI TO .none ∧ ∃ a b, IsPair h TO a b) ∨ ∃ T f oT, IsZipHeld h z TI TO T f ∧ h.get? T = some oT ∧ T ≠ z ∧ T ≠ i1 ∧ T ≠ i2 ∧ T ≠ d)) s.heap s.toks ?_ ⟨a2, a4, a5, a6, a7, .inl ⟨a1, u0, v0, a3⟩⟩ (fun _ _ e => e) fun b hb => .inl hb)
    have out : ∀ {c : Addr}, c ∉ [z, TO, i1, i2] → c ≠ z ∧ c ≠ TO ∧ c ≠ i1 ∧ c ≠ i2 := fun {c} hc => by simpa [not_or] using hc
    constructor
    · intro m
      rcases (show d = z ∨ d = TO ∨ d = i1 ∨ d = i2 by simpa using m) with e | e | e | e
      · exact d1 e
      · exact d3 e
      · exact d4 e
      · exact d5 e
    · rintro i ha hb ⟨b2, b4, b5, b6, b7, st⟩ k
      refine ⟨k _ _ d2.symm b2, b4.at fun o e => k _ o d4.symm e, b5.at fun o e => k _ o d5.symm e, b6.at fun o e => k _ o d6.symm e, b7.at fun o e => k _ o d7.symm e, ?_⟩
      rcases st with ⟨b1, u, v, b3⟩ | ⟨T, f, oT, b1, bT, r1, r2, r3, r4⟩
      · exact .inl ⟨k _ _ d1.symm b1, u, v, k _ _ d3.symm b3⟩
      · exact .inr ⟨T, f, oT, k _ _ d1.symm b1, k _ _ r4 bT, r1, r2, r3, r4⟩
    · rintro i s1 Q1 E1 hi ⟨b2, b4, b5, b6, b7, st⟩ hds hQ
      have ex := Array.getElem?_eq_getElem (Nat.lt_of_lt_of_le hi (Nat.min_le_left xs.size ys.size))
      have ey := Array.getElem?_eq_getElem (Nat.lt_of_lt_of_le hi (Nat.min_le_right xs.size ys.size))
      have lt : ∀ {c o}, s1.heap.get? c = some o → s1.heap.objs.size ≠ c := fun e => Nat.ne_of_gt (Heap.lt_size e)
      have n1 : s1.heap.objs.size ≠ i1 := let ⟨_, e, _⟩ := b4; lt e
      have n2 : s1.heap.objs.size ≠ i2 := let ⟨_, e, _⟩ := b5; lt e
      rcases st with ⟨b1, u, v, b3⟩ | ⟨T, f, oT, b1, bT, r1, r2, r3, r4⟩
      · refine RZ.pyNext_zipT_item D b1 b2 b3 b4 b5 b6 b7 ex ey fun h' c1 c2 c3 c4 c5 c6 k => ?_
        exact hQ s1.heap.objs.size _ _ h' s1.toks ⟨ex, ey⟩ (.inl ⟨_, c5, rfl, _, rfl⟩) ⟨k _ _ D.TIz D.TITO D.TIi1 D.TIi2 b2, c3, c4, b6.at fun o e => k _ o D.l1z D.l1TO D.l1i1 D.l1i2 e, b7.at fun o e => k _ o D.l2z D.l2TO D.l2i1 D.l2i2 e,
          .inr ⟨s1.heap.objs.size, false, _, c1, c5, lt b1, n1, n2, Nat.ne_of_gt hds⟩⟩ fun c o hc e => k c o (out hc).1 (out hc).2.1 (out hc).2.2.1 (out hc).2.2.2 e
      · refine zh_next D b1 bT b2 b4 b5 b6 b7 ex ey fun h' c1 c3 c4 c5 k => ?_
        exact hQ s1.heap.objs.size _ _ h' s1.toks ⟨ex, ey⟩ (.inl ⟨_, c5, rfl, _, rfl⟩) ⟨k _ _ D.TIz D.TIi1 D.TIi2 b2, c3, c4, b6.at fun o e => k _ o D.l1z D.l1i1 D.l1i2 e, b7.at fun o e => k _ o D.l2z D.l2i1 D.l2i2 e,
          .inr ⟨T, true, oT, c1, k _ _ r1 r2 r3 bT, r1, r2, r3, r4⟩⟩ fun c o hc e => k c o (out hc).1 (out hc).2.2.1 (out hc).2.2.2 e
    · rintro s1 Q1 E1 ⟨b2, b4, b5, b6, b7, st⟩ hQ
      have hend : xs[min xs.size ys.size]? = none ∨ ys[min xs.size ys.size]? = none := by
        rcases Nat.le_total xs.size ys.size with h | h
        · exact .inl (Array.getElem?_eq_none (by omega))
        · exact .inr (Array.getElem?_eq_none (by omega))
      rcases st with ⟨b1, u, v, b3⟩ | ⟨T, f, oT, b1, bT, r1, r2, r3, r4⟩
      · exact RZ.pyNext_zipT_end hA D b1 b2 b3 b4 b5 b6 b7 hend fun h' k => hQ h' s1.toks fun c o hc e => k c o (out hc).1 (out hc).2.1 (out hc).2.2.1 (out hc).2.2.2 e
      · exact zh_stop hA D b1 bT b2 b4 b5 b6 b7 hend fun h' k => hQ h' s1.toks fun c o hc e => k c o (out hc).1 (out hc).2.2.1 (out hc).2.2.2 e
end
end Fm
namespace Fm
open PySem PySem.Spec PyProof.Rows L2
def tDZ (K : PySem.W.Frag) (ta : TA) : TE := fun σ H Q => ta σ H fun vs H1 => ∃ (a b : Addr) (kvs : List (Key × V)), vs = [.ref a, .ref b] ∧ SqT K H1 a (kvs.map fun p => kV p.1) ∧ SqT K H1 b (kvs.map fun p => p.2) ∧ ∀ p, H1 p = none → Q (.ref p) (upd H1 p (.dK (mergeK [] kvs)))
theorem kv_zip : ∀ {kvs : List (Key × V)} {us : List Value}, Vals (kvs.map fun p => p.2) us → KV kvs ((kvs.map fun p => p.1).zip us)
  | [], _, .nil => .nil
  | _ :: _, _, .cons r t => .cons ⟨rfl, r⟩ (kv_zip t)
theorem pe_dictZip {X : Cx} {e e2 : Expr} {ta : TA} {p p2 pos pos2 : Pos} (hgD : Gl X "dict") (hmD : X.mg "dict" = none) (hgZ : Gl X "zip") (hmZ : X.mg "zip" = none) (hcalm : X.calm = true) (ha : PA X [e, e2] ta)
    (h1 : starEach [e, e2] X.env = (false, eval e X.env) :: starEach [e2] X.env := by rfl) (h2 : (backTo pos2 (starEach [e2] X.env)).any (·.1) = false := by rfl)
    (h3 : starEach [.Call (.Name "zip" p2) [e, e2] [] pos2] X.env = (false, eval (.Call (.Name "zip" p2) [e, e2] [] pos2) X.env) :: starEach [] X.env := by rfl) :
    PE X (.Call (.Name "dict" p) [.Call (.Name "zip" p2) [e, e2] [] pos2] [] pos) (tDZ X.K ta) := by
  constructor
  intro pins s σ H Q I h
  refine Call_ (ld_blt I hgD hmD (show bootBuiltins "dict" = some (.type "dict") by decide +kernel) (PyProof.Rows.callWith_type1 (args_cons ?_ h3) h3 rfl))
  refine Call_ (ld_blt I hgZ hmZ PyProof.Rows.boot_zip (PyProof.Rows.callWith_type1 (thn (ha.run pos2 pins s σ H _ I h) fun us s1 q => ?_) h1 h2))
  obtain ⟨vs, H1, I1, r1, a, b, kvs, rfl, hx, hy, q⟩ := q
  match us, r1 with
  | [_, _], .cons ra (.cons rb .nil) =>
    cases ra
    cases rb
    obtain ⟨us, rx, px, lx⟩ := I1.tuple hx
    obtain ⟨ws, ry, py, ly⟩ := I1.tuple hy
    have la : a < s1.heap.objs.size := by
      obtain ⟨o, e, _⟩ := px
      exact Heap.lt_size e
    have lb : b < s1.heap.objs.size := by
      obtain ⟨o, e, _⟩ := py
      exact Heap.lt_size e
    refine RZ.call_zipT px py fun h' k1 k2 k3 k4 k5 k6 k7 => args_nil ?_
    have eu : us.length = kvs.length := by rw [← rx.length, List.length_map]
    have ew : ws.length = kvs.length := by rw [← ry.length, List.length_map]
    rw [List.length_map] at lx
    have px' : s1.heap.IsTuple a us.toArray := px
    have py' : s1.heap.IsTuple b ws.toArray := py
    refine PySem.call_dict_pairs (knd := mixKind X.prog X.w) (kvs := (kvs.map fun p => p.1).zip ws) (s := { s1 with heap := h' }) (zipArg _ _ _ _ _ a b (PySem.W.ktu_apart s1.heap.objs.size a b la lb) us.toArray ws.toArray) (I1.ok.hd hcalm) ⟨k1, k2, ⟨_, _, k3⟩, k4, k5, px'.at fun o e => k7 _ o e, py'.at fun o e => k7 _ o e⟩ ⟨?_, fun i key v ⟨e1, e2⟩ => ?_⟩ ?_ fun h2 tk hd k => ?_
    · rw [List.length_zip, List.length_map, List.size_toArray, List.size_toArray, eu, ew]
    · have e1' : us[i]? = some key := by simpa using e1
      have e2' : ws[i]? = some v := by simpa using e2
      obtain ⟨x, ex, rxu⟩ := vals_at rx e1'
      rw [List.getElem?_map] at ex
      cases ek : kvs[i]? with
      | none =>
        rw [ek] at ex
        cases ex
      | some kv =>
        rw [ek] at ex
        cases ex
        refine ⟨kv.1, ?_, kV_is rxu⟩
        rw [List.getElem?_zip_eq_some]
        exact ⟨by rw [List.getElem?_map, ek]; rfl, e2'⟩
    · rw [List.size_toArray, List.size_toArray, eu, ew, Nat.min_self]
      exact lx
    · have hlen : (mergeK [] kvs).length ≤ sizeLine := by
        refine Nat.le_trans (length_mergeK kvs []) ?_
        rw [List.length_nil, Nat.zero_add]
        exact lx
      have big : (h'.objs.size == sysModules) = false := beq_eq_false_iff_ne.mpr (Nat.ne_of_gt (Nat.lt_of_lt_of_le I1.big (by rw [k6]; exact Nat.le_add_right _ _)))
      have kk : ∀ c o, s1.heap.get? c = some o → h2.get? c = some o := fun c o e => by
        have hc := Heap.lt_size e
        refine k c o (fun m => ?_) (k7 c o e)
        simp only [List.mem_cons, List.not_mem_nil, or_false] at m
        rcases m with m | m | m | m <;> (rw [m] at hc; first | exact absurd hc (Nat.lt_irrefl _) | exact absurd hc (Nat.not_lt.mpr (Nat.le_add_right _ _)))
      have J := I1.laid (t' := tk) (h' := h2) (a := h'.objs.size) (o := .dK (mergeK [] kvs)) kk (by rw [k6]; exact Nat.le_add_right _ _) ⟨hlen, big, _, KV.merge (kv_zip ry) .nil, hd⟩
      exact ⟨.ref h'.objs.size, _, J, rfl, q _ (I1.hok.fresh (by rw [k6]; exact Nat.le_add_right _ _))⟩
end Fm
/-! sorted of lists of tuples of any lengths, the empty one among them. -/
namespace FmSort
open PySem PySem.W PySem.SeqAt PyProof.Rows
def nonE : PyData → Bool
  | .tuple (_ :: _) => true
  | _ => false
section
variable {prog : Program} {w : World} {A : Around} {E : Value → Shared → Prop} {s : Shared} {vs : List Value} {ds : List PyData}
theorem call_tuple_lt {Q : Value → Shared → Prop} {l b : Addr} {items items2 : Array Value} {e r : Nat → Bool} (hl : s.heap.IsTuple l items) (hb : s.heap.IsTuple b items2)
    (he : ∀ j (h1 : j < items.size) (h2 : j < items2.size), EqAt A.in1 s items[j] items2[j] (e j)) (hr : ∀ j (h1 : j < items.size) (h2 : j < items2.size), e j = false → RcLt A.in1 s items[j] items2[j] (r j))
    (h : Q (.bool (firstLt e r (decide (items.size < items2.size)) (List.range (min items.size items2.size)))) s) : wpAny (model prog w) A (call (.builtin "tuple.__lt__") [.ref l, .ref b]) Q E s := by
  obtain ⟨⟨c1, u1, m1, p1⟩, g1, k1, n1, z1⟩ := id hl
  obtain ⟨⟨c2, u2, m2, p2⟩, g2, k2, n2, z2⟩ := id hb
  simp only at k1 z1 k2 z2
  subst k1 z1 k2 z2
  exact call_meets F.slot_tuple_lt ⟨_, g1, rfl⟩ F.entry_tuple_lt (F.args_tuple_lt_2 _ _) (tuple_ltAt l b items items2 n1 n2 u1 u2 p1 p2 e r) ⟨g1, g2, he, hr, h⟩
/-- two tuples, both of one type: by the slot itself -/
theorem oneLt_tup {xs ys : List PyData} {a b : Value} {as bs : List Addr} {Q : Bool → Shared → Prop} (ra : Reads s.heap a (.tuple xs) as) (rb : Reads s.heap b (.tuple ys) bs) (hal : alikeAll xs ys = true)
    (hu : A.units + min (PyData.tuple xs).depth (PyData.tuple ys).depth < cLine) (hq : Q (dataLt (.tuple xs) (.tuple ys)) s) : wpAny (model prog w) A (oneLt' true a b) Q E s := by
  cases ra with
  | @tuple l o us n _ as1 a1 a2 a3 a4 =>
    cases rb with
    | @tuple l2 o2 us2 n2 _ bs1 b1 b2 b3 b4 =>
      have z1 : us.size = xs.length := by simpa using ReadsAll.length _ _ _ a4
      have z2 : us2.size = ys.length := by simpa using ReadsAll.length _ _ _ b4
      rw [dataLt_tuple, ← firstLt_toks xs ys hal, ← z1, ← z2] at hq
      rw [oneLt'_eq]
      simp only [if_true]
      refine wpAny_bind (wpAny_cRoomFor (room_here hu) ?_)
      refine wpAny_bind (wpAny_callSpecialIfBound?_slot (T := "tuple") ⟨_, a1, a2⟩ F.slot_tuple_lt (call_tuple_lt (e := pairEq xs ys) (r := fun j => dataLt (xs.getD j .none) (ys.getD j .none)) ⟨_, a1, a2, _, a3⟩ ⟨_, b1, b2, _, b3⟩ (fun j j1 j2 => ?_) (fun j j1 j2 hj => ?_) ?_))
      · have t := eqAt_alikeAll xs ys A.in1 s us.toList us2.toList _ _ a4 b4 hal (room_in hu) j (by simpa using j1) (by simpa using j2)
        simpa using t
      · have t := rcLt_alikeAll xs ys A.in1 s us.toList us2.toList _ _ a4 b4 hal (room_in hu) j (by simpa using j1) (by simpa using j2) hj
        simpa using t
      · exact wpAny_truthy_bool hq
theorem firsts_each {M : Model} : ∀ {vs : List Value} {ds : List PyData} {Q : List (Option Value) → Shared → Prop}, EachIs (fun v d => ∃ as, Reads s.heap v d as) vs ds → (∀ d ∈ ds, ∃ xs, d = .tuple xs) →
    (∀ fs : List (Option Value), fs.map Option.isSome = ds.map nonE → Q fs s) → wpAny M A (vs.mapM firstOfTuple') Q E s
  | _, _, _, .nil, _, h => by
    rw [List.mapM_nil]
    exact wpAny_pure (h [] rfl)
  | _, _, Q, .cons (as := vs) ⟨as, r⟩ t, ht, h => by
    obtain ⟨xs, rfl⟩ := ht _ (List.mem_cons_self ..)
    rw [List.mapM_cons]
    refine wpAny_bind ?_
    rw [kas_first_eq]
    cases r with
    | @tuple l o us n _ as1 a1 a2 a3 a4 =>
      refine wpAny_bind (Looks.here (show Looks M s.heap (typeOf (.ref l)) o.cls from (Looks.ld a1).andThen .now) ?_)
      rw [a2, if_neg (by first | decide | simp)]
      refine wpAny_bind (listItems_at a1 a3 (wpAny_pure ?_))
      refine wpAny_bind (firsts_each (Q := fun bs s' => wpAny M A (pure (us[0]? :: bs)) Q E s') t (fun d hd => ht d (List.mem_cons_of_mem _ hd)) fun fs e => wpAny_pure (h _ ?_))
      rw [List.map_cons, List.map_cons, e]
      congr 1
      have z : us.toList.length = xs.length := by simpa using ReadsAll.length _ _ _ a4
      cases xs with
      | nil =>
        have e0 : us.size = 0 := by simpa using z
        rw [Array.getElem?_eq_none (by omega)]
        rfl
      | cons x r =>
        have e0 : us.size = r.length + 1 := by simpa using z
        rw [Array.getElem?_eq_getElem (by omega)]
        rfl
theorem sortsAt_tups (e : EachIs (fun v d => ∃ as, Reads s.heap v d as) vs ds) (hal : AllAlike ds) (ht : ∀ d ∈ ds, ∃ xs, d = .tuple xs) (hu : ∀ d ∈ ds, A.units + d.depth < cLine) : SortsAt prog w A s (dataKind s.heap ds) vs := by
  have room : ∀ {d d' : PyData}, d ∈ ds → A.units + min d.depth d'.depth < cLine := fun {d d'} hd => Nat.lt_of_le_of_lt (Nat.add_le_add_left (Nat.min_le_left _ _) _) (hu d hd)
  by_cases hne : ∀ d ∈ ds, nonE d = true
  · refine SortsAt.data e hal (.inl fun d hd => ?_) hu
    obtain ⟨xs, rfl⟩ := ht d hd
    cases xs with
    | nil => cases hne _ hd
    | cons x r => exact ⟨x, r, rfl⟩
  · have hall : (ds.map nonE).all id = false := by
      rw [List.all_map]
      cases q : ds.all (id ∘ nonE) with
      | false => rfl
      | true => exact absurd (fun d hd => List.all_eq_true.mp q d hd) hne
    have lt : ∀ f : Bool, H.LtAt prog w A s (dataKind s.heap ds) (if f = true then oneType' else general') := by
      intro f E x y a b Q ha hb hq
      obtain ⟨d, as, hd, ra, rfl⟩ := dataKind_inv ha
      obtain ⟨d', as', hd', rb, rfl⟩ := dataKind_inv hb
      obtain ⟨xs, rfl⟩ := ht d hd
      obtain ⟨ys, rfl⟩ := ht d' hd'
      have al := hal _ hd _ hd'
      cases f with
      | true => exact oneLt_tup ra rb (by simpa [alike] using al) (room hd) hq
      | false => exact oneLt_alike (f := false) (fun z => by cases z) ra rb al (fun z => by cases z) (room hd) hq
    refine ⟨fun v hv => ?_, (if (ds.map nonE).head? = some true then general' else oneType'), ?_, fun h2 E Q hq => ?_⟩
    · obtain ⟨d, hd, as, r⟩ := e.left v hv
      exact ⟨_, dataKind_some hal hd r⟩
    · by_cases q : (ds.map nonE).head? = some true
      · rw [if_pos q]
        exact lt false
      · rw [if_neg q]
        exact lt true
    · rw [keyKind'_eq, List.mapM_toArray, map_eq_pure_bind]
      refine wpAny_bind (wpAny_bind (firsts_each e ht fun fs hfs => wpAny_pure ?_))
      have e1 : (fs.toArray.all fun x => x.isSome) = false := by
        rw [List.all_toArray]
        have z : (fs.map Option.isSome).all id = false := by rw [hfs]; exact hall
        rw [List.all_map] at z
        exact z
      rw [if_neg (by rw [e1]; exact Bool.false_ne_true)]
      have e2 : ((fs.toArray)[0]?.bind id).isSome = decide ((ds.map nonE).head? = some true) := by
        rw [← hfs]
        cases fs with
        | nil => rfl
        | cons f r =>
          show (((f :: r).toArray)[0]?.bind id).isSome = _
          rw [List.getElem?_toArray]
          show f.isSome = decide (some f.isSome = some true)
          cases f <;> rfl
      rw [e2]
      by_cases q : (ds.map nonE).head? = some true
      · rw [if_pos (decide_eq_true q)]
        rw [if_pos q] at hq
        exact wpAny_pure hq
      · rw [if_neg (fun z => q (of_decide_eq_true z))]
        rw [if_neg q] at hq
        obtain ⟨v1, v2, r, rfl⟩ : ∃ v1 v2 r, vs = v1 :: v2 :: r := by
          match vs, h2 with
          | [], h2 => simp at h2
          | [_], h2 => simp at h2
          | v1 :: v2 :: r, _ => exact ⟨v1, v2, r, rfl⟩
        rw [oneTypeOnly'_eq, List.mapM_toArray, map_eq_pure_bind]
        refine wpAny_bind (wpAny_bind (wpAny_bind (kas_mapM (r := Value.type "tuple") _ (fun v hv Q' hq => ?_) (wpAny_pure ?_))))
        · obtain ⟨d, hd, as, rd⟩ := e.left v hv
          obtain ⟨xs, rfl⟩ := ht d hd
          exact (looks_reads rd).here hq
        · have a1 : ((List.map (fun _ => Value.type "tuple") (v1 :: v2 :: r)).toArray.all fun x => x == Value.type "tuple") = true := by
            simp only [List.all_toArray, List.all_map, List.all_eq_true]
            intro _ _
            rfl
          have a2 : (List.map (fun _ => Value.type "tuple") (v1 :: v2 :: r)).toArray[0]? = some (Value.type "tuple") := by simp
          rw [a2]
          simp only [a1, if_true]
          exact wpAny_pure (wpAny_pure hq)
end
end FmSort
namespace Fm
open PySem PySem.Spec PyProof.Rows L2 PySem.W
theorem each_vals : ∀ {bs : List (V × PyData)} {us : List Value}, Vals (bs.map (·.1)) us → EachIs (fun u b => RelV b.1 u) us bs
  | [], _, r => by
    cases r
    exact .nil
  | b :: bs, _, r => by
    cases r with
    | cons h t => exact .cons h (each_vals t)
theorem vals_each : ∀ {bs : List (V × PyData)} {us : List Value}, EachIs (fun u b => RelV b.1 u) us bs → Vals (bs.map (·.1)) us
  | _, _, .nil => .nil
  | _, _, .cons h t => .cons h (vals_each t)
theorem each_and {R S : Value → V × PyData → Prop} : ∀ {bs : List (V × PyData)} {us : List Value}, EachIs R us bs → (∀ u b, b ∈ bs → R u b → S u b) → EachIs S us bs
  | _, _, .nil, _ => .nil
  | _, _, .cons h t, k => .cons (k _ _ (List.mem_cons_self ..) h) (each_and t fun u b hb => k u b (List.mem_cons_of_mem _ hb))
/-- sorted of a list of tuples: each value goes with its data -/
def rSortTs (K : PySem.W.Frag) : List V → Hp → VK → Prop := fun vs H Q => ∃ (a : Addr) (bs : List (V × PyData)), vs = [.ref a] ∧ SqL K H a (bs.map (·.1)) ∧ (∀ b ∈ bs, Dp K H b.1 b.2 ∧ (∃ zs, b.2 = .tuple zs) ∧ b.2.depth ≤ 60) ∧ AllAlike (bs.map (·.2)) ∧
  ∀ p, H p = none → Q (.ref p) (upd H p (.lst ((bs.mergeSort (dataLe false (fun b : V × PyData => b.2))).map (·.1))))
theorem cr_sortTs {X : Cx} (hu : X.A.units + 64 < cLine) : CallR X (.builtin "sorted") (rSortTs X.K) := by
  intro pins s σ H vs us Q I r h
  obtain ⟨a, bs, rfl, hs, hb, hal, q⟩ := h
  obtain ⟨its, rv, hl, hz⟩ := I.list hs
  rw [Vals.ref1 r]
  have e0 := each_vals rv
  have er : EachIs (fun (v : Value) (b : V × PyData) => ∃ as, Reads (sortingHeap (copyHeap s.heap its) (s.heap.objs.size + 1) its) v b.2 as) its bs := each_and e0 fun u b hm hr => by
    obtain ⟨as, rd⟩ := Dp.reads I b.2 b.1 u (hb b hm).1 hr
    exact ⟨as, PyProof.Rows.Reads.keeps (fun _ _ => sorting_copy_old) rd⟩
  have hL : its.length ≤ sizeLine := by
    rw [← rv.length]
    exact hz
  refine sorted_vals hl.isList (FmSort.sortsAt_tups (s := { s with heap := sortingHeap (copyHeap s.heap its) (s.heap.objs.size + 1) its }) (each_map (R := fun v d => ∃ as, Reads (sortingHeap (copyHeap s.heap its) (s.heap.objs.size + 1) its) v d as) (fun b : V × PyData => b.2) er) hal (fun d hd => ?_) fun d hd => ?_) hL ?_
  · obtain ⟨b, hm, rfl⟩ := List.mem_map.mp hd
    exact (hb b hm).2.1
  · obtain ⟨b, hm, rfl⟩ := List.mem_map.mp hd
    have := (hb b hm).2.2
    show X.A.units + 1 + 1 + b.2.depth < cLine
    omega
  · have e1 := sortVals_data (R := fun u (b : V × PyData) => RelV b.1 u) false e0 er hal
    generalize sortVals (dataKind (sortingHeap (copyHeap s.heap its) (s.heap.objs.size + 1) its) (bs.map (·.2))) false its its = out at e1 ⊢
    have v1 := vals_each e1
    obtain ⟨ep, he'⟩ := PyProof.Rows.sortedAll_at s.heap its out.toArray
    have hlen : ((bs.mergeSort (dataLe false (fun b : V × PyData => b.2))).map (·.1)).length ≤ sizeLine := by
      rw [List.length_map, List.length_mergeSort]
      rw [List.length_map] at hz
      exact hz
    exact ⟨.ref _, upd H (s.heap.objs.size + 1) (.lst ((bs.mergeSort (dataLe false (fun b : V × PyData => b.2))).map (·.1))), I.laid (t' := s.toks) (fun _ _ => PyProof.Rows.sortedAll_old) (Nat.le_succ _) ⟨hlen, out, ep, v1, he'⟩, rfl, q _ (I.hok.fresh (Nat.le_succ _))⟩
end Fm
/-! Errors of one's own whose __init__ calls that of the own class above, over ValueError. -/
namespace Fm
open PySem PySem.Spec PyProof.Rows L2 PySem.W
/-- the class above at M, its __init__ being ValueError's -/
structure UpC (K : PySem.W.Frag) (M : Addr) (mc : Value) : Prop where
  rd : PySem.W.readsIn K M mc = true
  ga : PySem.W.specialIn K (.ref M) "__getattribute__" = some (some (.builtin "type.__getattribute__"))
  ini : PySem.W.findCls K (.ref M) mc "__init__" = some (.val (.builtin "ValueError.__init__"))
section
variable {X : Cx} {e : Expr} {es : List Expr} {ta : TA} {p1 p2 p pos : Pos} {x : Str} {M C fI : Addr} {mc : Value}
/-- Up.__init__(self, ..) -/
theorem pe_upinit {pl : Sem Bool} (U : UpC X.K M mc) (hg : Gl X x) (hm : X.mg x = some (.ref M)) (ha : PA X (e :: es) ta) (hdb : (x == ("__debug__" : Str)) = false := by decide)
    (hc : eval (.Call (.Attribute (.Name x p1) "__init__" p2) (e :: es) [] pos) X.env = (do
      let ov ← eval (.Name x p1) X.env
      standAt p2.atName
      let (f, first) ← holding [ov] (getMethod ov "__init__" pl)
      callWith pos f first (backTo pos (starEach (e :: es) X.env)) (backToKw pos (keywordEach [] X.env))) := by rfl)
    (he : starEach (e :: es) X.env = (false, eval e X.env) :: starEach es X.env := by rfl) (hpl : (backTo pos (starEach es X.env)).any (·.1) = false := by rfl) :
    PE X (.Call (.Attribute (.Name x p1) "__init__" p2) (e :: es) [] pos) (tVeI X.K ta) := by
  refine ⟨fun pins s σ H Q I h => ?_⟩
  refine PySem.W.methodCall_KW (ld_glob I hg hm ?_ hdb) hc
  refine PySem.W.method_cls I.kIn U.ga (PySem.W.cls_value I.kIn U.rd U.ini (by decide +kernel) ?_)
  show wpAny _ _ (callWith pos (Value.builtin "ValueError.__init__") [] (backTo pos (starEach (e :: es) X.env)) []) _ _ _
  refine PyProof.Rows.callWith_method1 (thn (ha.run pos pins _ σ H _ (I.tok _) h) fun us s1 ⟨vs, H1, I1, r1, a, C, ws, ev, hl, T, ea, q⟩ => ?_) he hpl
  subst ev
  cases r1 with
  | @cons _ u0 _ ur ra rw' =>
    obtain rfl : u0 = Value.ref a := ra
    have hn : ur.length ≤ sizeLine := by
      rw [← Paired.length rw', sizeLine_eq]
      omega
    exact oinit_ok T I1 ea hn fun s' J => ⟨.non, H1, J, rfl, q⟩
/-- the promise of such an __init__ without a field -/
def spIni0 (K : PySem.W.Frag) (C : Addr) : Sp := fun vs H Q _ => ∃ a : Addr, vs = [.ref a] ∧ H a = some (exo a C none) ∧ Q .non H
/-- C(), C's own __init__ keeping spIni0 -/
def tMkN (C : Addr) : L2.St → Hp → XK → Prop := fun _ H Q => Q (.ref C) none H
theorem del_upd {H : Hp} {a : Addr} {o : HO} (n : H a = none) : del (upd H a o) a = H := by
  funext b
  by_cases hb : b = a
  · rw [hb, del_same, n]
  · rw [del_ne hb, upd_ne hb]
theorem mk_endN {pins : List (Addr × Obj)} {σ : L2.St} {H1 : Hp} {Q : XK} {hp hp2 h2 : Heap} {g1 g2 : Array GenState} {d1 d2 : Drawn} {t1 t2 : Nat} {os1 os2 : OsState} {a : Addr} (T : Raises X (.ref C)) (I1 : Inv X pins σ H1 ⟨hp, g1, d1, t1, os1⟩)
    (ha : hp.objs.size ≤ a) (k : ∀ b o, hp.get? b = some o → hp2.get? b = some o) (un : Un (frs X.stack) [] (upd H1 a (exo a C none)) (upd H1 a (exo a C none)) hp2 h2) (hok : HOk X.prog X.w (upd H1 a (exo a C none)) h2) (ho : os2 = os1) (hb : AllBare g2)
    (q : Q (.ref C) none H1) : MkP X pins σ Q (.ref a) ⟨h2, g2, d2, t2, os2⟩ := by
  obtain ⟨t0, hoe⟩ := exo_at hok upd_same
  have hn : H1 a = none := I1.hok.fresh ha
  obtain ⟨G, ga, gb⟩ := restrict h2 fun b => decide (b ≠ a)
  have gk : ∀ b, b ≠ a → G.get? b = h2.get? b := fun b nb => ga b (decide_eq_true nb)
  have ge : G.get? a = none := gb a (by simp)
  have na : ∀ {b : Addr} {o : Obj}, hp.get? b = some o → b ≠ a := fun {b o} z => Nat.ne_of_lt (Nat.lt_of_lt_of_le (Heap.lt_size z) ha)
  have up : ∀ {b : Addr}, b ≠ a → H1 b = none → upd H1 a (exo a C none) b = none := fun {b} nb n => by
    rw [upd_ne nb]
    exact n
  have U : Un (frs X.stack) [] H1 H1 hp G := {
    keep := fun b o z n hf hx => by
      rw [gk b (na z)]
      exact un.keep b o (k b o z) (up (na z) n) hf hx
    slot := fun b o z n hf hx => by
      rw [gk b (na z)]
      exact un.slot b o (k b o z) (up (na z) n) hf hx
    free := fun b o z n hx => n
    there := fun b o z hx => by
      rw [gk b (na z)]
      exact un.there b o (k b o z) hx
    tups := fun b xs z => z
    frzs := fun b o v z => z
    tbls := fun b ps z => ⟨#[], by rw [Array.append_empty]; exact z⟩ }
  have hok3 : HOk X.prog X.w H1 G := fun b o z => by
    have nb : b ≠ a := ne_of_none z hn
    refine (hok b o (by rw [upd_ne nb]; exact z)).stay (fun c v hc y => ?_) (fun c hc => ?_) fun c xs hc => ?_
    · have nc : c ≠ a := by
        rcases hc with hc | hc
        · rw [hc]
          exact nb
        · exact at_ne (H := upd H1 a (exo a C none)) upd_same hc exo_own
      rw [gk c nc]
      exact y
    · rw [upd_ne (at_ne (H := upd H1 a (exo a C none)) upd_same hc exo_own)] at hc
      exact hc
    · rw [upd_ne (at_ne (H := upd H1 a (exo a C none)) upd_same hc exo_tup)] at hc
      exact hc
  have J : Inv X pins σ H1 ⟨G, g2, d2, t2, os2⟩ := I1.call' (ch := []) ho U hok3 hb (fun b z => absurd z (by simp))
  refine ⟨a, _, _, ⟨G, g2, d2, t2, os2⟩, _, .ref C, none, rfl, J, fun b o z => ?_, ge, hoe, ⟨rfl, rfl⟩, rfl, rfl, hn, rfl, hb, T, q⟩
  by_cases nb : b = a
  · rw [nb, ge] at z
    cases z
  · exact (gk b nb).symm.trans z
theorem pmk_oexN {CX : CXT} {k : Nat} {fd : FuncData} (T : OexC X.K C) (iC : PySem.W.findIn X.K (.ref C) "__init__" = some (some (.ref fI))) (tI : PySem.W.typeIn X.K (.ref fI) = some (.type "function"))
    (F1 : FnOk X.prog X.w X.K X.mg X.base CX k fI fd ["self"] (spIni0 X.K C)) (hr : Room (k + 1) X.A) (hb : Binds X.K fd ["self"] []) (hx : Passes CX X (fun _ _ _ => False)) (hg : Gl X x) (hm : X.mg x = some (.ref C)) (hdb : (x == ("__debug__" : Str)) = false := by decide) :
    PMk X (.Call (.Name x p) [] [] pos) (tMkN C) := by
  intro pins s σ H Q I h
  obtain ⟨nm, q, N, bs, bm, sn, sub, ab, col, dd, k0, k1, k2, k3, k5, hC, hbm⟩ := T.cls
  refine wpAny_Call_Name_kw (ld_glob I hg hm ?_ hdb)
  refine PySem.W.callWith_K0 I.kIn T.kC ?_
  obtain ⟨hp, g, dr, tk, os⟩ := s
  show wpAny _ _ (call (.ref C) []) _ _ _
  have hsz : hp.objs.size ≤ hp.objs.size + 1 := Nat.le_succ _
  have hn : H (hp.objs.size + 1) = none := I.hok.fresh hsz
  have kk : ∀ b o, hp.get? b = some o → ((hp.push (PySem.W.kdv_tup [])).push (PySem.HandSPX.excO C hp.objs.size)).get? b = some o := fun b o e => Heap.get?_push_of_some _ (Heap.get?_push_of_some _ e)
  have hget : ((hp.push (PySem.W.kdv_tup [])).push (PySem.HandSPX.excO C hp.objs.size)).get? (hp.objs.size + 1) = some (PySem.HandSPX.excO C hp.objs.size) := by heap_get
  have I2 : Inv X pins σ (upd H (hp.objs.size + 1) (exo (hp.objs.size + 1) C none)) ⟨(hp.push (PySem.W.kdv_tup [])).push (PySem.HandSPX.excO C hp.objs.size), g, dr, tk, os⟩ :=
    I.laid (t' := tk) (a := hp.objs.size + 1) (o := exo (hp.objs.size + 1) C none) (h' := (hp.push (PySem.W.kdv_tup [])).push (PySem.HandSPX.excO C hp.objs.size)) kk hsz (exo_ok hget)
  have r2 : Vals [V.ref (hp.objs.size + 1)] [Value.ref (hp.objs.size + 1)] := .cons rfl .nil
  refine wpAny_call (PySem.HandSPX.call_own F.excBase_ValueError (fun Y => PySem.HandSPX.refsVE_contains Y bm hbm) (I.kIn _ _ hC) (PySem.W.looks_findIn I.kIn iC) (fun self => PySem.W.bind_fn I.kIn self tI) (Nat.zero_le _)
    (codeAny_mono (F1.run _ X.stack _ _ ⟨[Value.ref (hp.objs.size + 1)], []⟩ [Value.ref (hp.objs.size + 1)] _ (fun v H2 => v = .non ∧ H2 = upd H (hp.objs.size + 1) (exo (hp.objs.size + 1) C none)) (fun _ _ _ => False) (hr.make C [] []) (I2.env0.make C [] []) (hb _ [Value.ref (hp.objs.size + 1)] I2.kIn rfl) r2
      ⟨_, rfl, upd_same, rfl, rfl⟩) fun r s' hq' => ?_))
  cases r with
  | error er => exact hx pins σ _ _ er s' I2 hq'
  | ok fl =>
    cases fl with
    | ret u =>
      obtain ⟨v, H2, os2, bare2, un2, hok2, rv, ev, eH⟩ := hq'
      subst ev eH
      obtain ⟨h2, g2, d2, t2, os'⟩ := s'
      exact ⟨rv, mk_endN (raises_own T.exC T.tyC) I hsz kk un2 hok2 os2 bare2 h⟩
    | next => exact False.elim hq'
    | brk => exact False.elim hq'
    | cont => exact False.elim hq'
end
end Fm
/-! More rules: in a tuple, count of data, a tuple turned round. -/
namespace Fm
open PySem PySem.Spec PyProof.Rows L2 PySem.W
section
variable {X : Cx} {K : PySem.W.Frag}
/-- x in t, t a tuple of data -/
def rInT (K : PySem.W.Frag) : R2 := fun x y H Q => ∃ d ds, Dp K H x d ∧ Dp K H y (.tuple ds) ∧ SeqAt.shaped d = true ∧ SeqAt.shaped (.tuple ds) = true ∧ Q (.bl (ds.any fun z => PyData.eqv z d)) H
theorem op_inT (hu : X.A.units + 65 < cLine) (e : X.K = K := by rfl) : OpR X (compareOp .In) (rInT K) := by
  subst e
  intro pins s σ H x y v u Q I rx ry h
  obtain ⟨d, ds, h1, h2, s1, s2, q⟩ := h
  obtain ⟨as, r1⟩ := Dp.reads I d x v h1 rx
  obtain ⟨bs, r2⟩ := Dp.reads I (.tuple ds) y u h2 ry
  exact SeqAt.in_tuple_reads r2 r1 (SeqAt.canLay_of_shaped s2) (SeqAt.canLay_of_shaped s1) (room_in_shaped s1 hu) ⟨.bl _, H, I, rfl, q⟩
theorem op_inLK (hu : X.A.units + 65 < cLine) (e : X.K = K := by rfl) : OpR X (compareOp .In) (rInD K) := e ▸ op_inD hu
theorem op_ltTK (hu : X.A.units < cLine) (e : X.K = K := by rfl) : OpR X (compareOp .Lt) (rLtT K) := e ▸ op_ltT hu
theorem mt_indexK (hu : X.A.units + 65 < cLine) (e : X.K = K := by rfl) : MtR X "list.index" (rIndexD K) := e ▸ mt_indexD hu
/-- l.count(x) -/
def rCntD (K : PySem.W.Frag) : V → List V → Hp → VK → Prop := fun x xs H Q => ∃ (a : Addr) (y : V) (d : PyData) (ds : List PyData), x = .ref a ∧ xs = [y] ∧ Dp K H (.ref a) (.list ds) ∧ Dp K H y d ∧ SeqAt.shaped (.list ds) = true ∧ SeqAt.shaped d = true ∧
  Q (.int ((ds.countP fun z => PyData.eqv z d : Nat) : Int)) H
theorem mt_countD (hu : X.A.units + 65 < cLine) (e : X.K = K := by rfl) : MtR X "list.count" (rCntD K) := by
  subst e
  intro pins s σ H x xs v us Q I rx rxs h
  obtain ⟨a, y, d, ds, rfl, rfl, hl, hy, s1, s2, q⟩ := h
  cases rx
  obtain ⟨u, rfl, ru⟩ := rxs.one
  obtain ⟨bs, r1⟩ := Dp.reads I d y u hy ru
  have c1 : PyData.canLayAll0 ds = true := SeqAt.canLay_of_shaped s1
  have room : X.A.units + 1 + min (PyData.depthAll ds) d.depth < cLine := room_in_shaped s2 hu
  cases hl with
  | lst hs ha =>
    obtain ⟨its, rv, ⟨⟨cl, di, da, sls⟩, n, ho, hc, hdn, hdt⟩, hlen⟩ := I.list hs
    simp only at hc hdt
    subst hc hdt
    obtain ⟨as, r4⟩ := Dp.readsAll I ds _ its ha rv
    have hm : its.map (SeqAt.readOf s.heap) = ds := SeqAt.readsAll_map ds its as c1 r4
    refine call_meets PySem.F.slot_list_count ⟨_, ho, rfl⟩ PySem.F.entry_list_count (PySem.F.args_list_count_2 _ _)
      (SeqAt.list_countAt a its.toArray n di sls u (fun z => PyData.eqv (SeqAt.readOf s.heap z) d)) ⟨ho, SeqAt.items_eqAt (vs := its.toArray) (show ReadsAll s.heap its.toArray.toList ds as from r4) r1 c1 (SeqAt.canLay_of_shaped s2) room, ?_⟩
    refine ⟨.int ((ds.countP fun z => PyData.eqv z d : Nat) : Int), H, I.tok _, ⟨s.toks, ?_⟩, q⟩
    show Value.int ((its.toArray.toList.countP (fun z => PyData.eqv (SeqAt.readOf s.heap z) d) : Nat) : Int) s.toks = _
    rw [← hm, List.countP_map]
    rfl
/-! ### t[::-1] -/
theorem fm_congr {α β : Type} {f g : α → Option β} : ∀ {l : List α}, (∀ x ∈ l, f x = g x) → l.filterMap f = l.filterMap g
  | [], _ => rfl
  | x :: l, h => by
    rw [List.filterMap_cons, List.filterMap_cons, h x (List.mem_cons_self ..), fm_congr fun y hy => h y (List.mem_cons_of_mem _ hy)]
theorem vals_rev : ∀ {xs : List V} {us : List Value}, Vals xs us → Vals xs.reverse us.reverse
  | [], _, r => by
    cases r
    exact .nil
  | x :: xs, _, r => by
    cases r with
    | cons h t =>
      rw [List.reverse_cons, List.reverse_cons]
      exact (vals_rev t).append (.cons h .nil)
theorem rev_pick (l : List Value) : ((List.range l.length).filterMap fun (m : Nat) => l.toArray[(((l.length : Int) - 1) + (m : Int) * (-1)).toNat]?) = l.reverse := by
  have e : ∀ m, m ∈ List.range l.length → (fun (m : Nat) => l.toArray[(((l.length : Int) - 1) + (m : Int) * (-1)).toNat]?) m = l.reverse[m]? := fun m hm => by
    have hl := List.mem_range.mp hm
    show l.toArray[_]? = _
    rw [List.getElem?_toArray, List.getElem?_reverse hl]
    congr 1
    omega
  rw [fm_congr e]
  have z := List.length_reverse (as := l)
  generalize l.reverse = r at z ⊢
  rw [← z]
  clear z e
  have key : ∀ (r : List Value) (n : Nat), n ≤ r.length → (List.range n).filterMap (fun m => r[m]?) = r.take n := by
    intro r n
    induction n with
    | zero => intro _; simp
    | succ n ih =>
      intro hn
      rw [List.range_succ, List.filterMap_append, ih (by omega), List.take_add_one, List.getElem?_eq_getElem (show n < r.length by omega)]
      simp [List.getElem?_eq_getElem (show n < r.length by omega)]
  rw [key r r.length (Nat.le_refl _), List.take_length]
section
variable {prog : Program} {w : World} {A : Around} {E : Value → Shared → Prop} {s : Shared}
theorem rev_applied {sl : Addr} {t : Tok} {n : Nat} {Q : Int × Int × Nat → Shared → Prop} (hs : s.heap.IsSliceOf sl .none .none (.int (-1) t)) (h : Q ((n : Int) - 1, -1, n) s) :
    wpAny (model prog w) A (Builtin.Slice.sliceApplied (.ref sl) (pure (n : Int))) Q E s := by
  obtain ⟨os, hos, hcs, hds⟩ := id hs
  unfold Builtin.Slice.sliceApplied Builtin.Slice.sliceFields
  refine wpAny_bind (wpAny_bind (wpAny_field hos hds (x := .none) rfl (wpAny_bind (wpAny_field hos hds (x := .none) rfl (wpAny_bind (wpAny_field hos hds (x := .int (-1) t) rfl (wpAny_pure ?_)))))))
  refine wpAny_bind (slicePart_int ?_)
  show wpAny _ _ (if ((-1 : Int) == 0) = true then _ else _) _ _ s
  rw [if_neg (by decide)]
  refine wpAny_bind (slicePart_none (wpAny_bind (slicePart_none (wpAny_bind (wpAny_pure ?_)))))
  show wpAny _ _ (pure ((n : Int) - 1, (-1 : Int), Builtin.Slice.slicePlaces ((n : Int) - 1) (-1) (-1))) _ _ s
  have e : Builtin.Slice.slicePlaces ((n : Int) - 1) (-1) (-1) = n := by
    unfold Builtin.Slice.slicePlaces
    rw [if_neg (by decide)]
    show (if (n : Int) - 1 > -1 then ((n : Int) - 1 - -1 - 1) / 1 + 1 else 0).toNat = n
    rw [Int.ediv_one]
    split <;> omega
  rw [e]
  exact wpAny_pure h
theorem getItem_rev {t sl : Addr} {l : List Value} {tk : Tok} {Q : Value → Shared → Prop} (ht : IsTup s.heap t l.toArray) (hs : s.heap.IsSliceOf sl .none .none (.int (-1) tk))
    (h : Q (.ref s.heap.objs.size) { s with heap := s.heap.push { cls := .type "tuple", data := .seq l.reverse.toArray } }) (hsz : l.length ≤ sizeLine) : wpAny (model prog w) A (getItem (.ref t) (.ref sl)) Q E s := by
  have hz : sizeOk (.seq l.reverse.toArray) := by
    show l.reverse.toArray.size ≤ sizeLine
    rw [List.size_toArray, List.length_reverse]
    exact hsz
  obtain ⟨os, hos, hcs, hds⟩ := id hs
  have hTs : s.TypeIs (.ref sl) "slice" := ⟨os, hos, hcs⟩
  unfold getItem
  try with_reducible refine wpAny_holding ?_
  first | refine wpAny_bind (wpAny_pure ?_) | skip
  refine wpAny_bind (wpAny_sequenceKey ht.typeIs (by decide) ?_)
  refine wpAny_bind (wpAny_callSpecial?_slot (name := Str.ofString "__getitem__") ht.typeIs PyProof.Rows.slot_tuple_getitem
    (wpAny_call_entry PyProof.Rows.slot_tuple_getitem ht.typeIs entry_tuple_getitem ?_ (args_tuple_getitem _ _)))
  show wpAny _ _ (Builtin.Tuple.tupleItemsOf (.ref t) >>= _) _ _ s
  refine wpAny_bind (tupleItemsOf_ ht ?_)
  refine wpAny_bind (wpAny_typeOf hTs ?_)
  rw [if_pos (by decide)]
  rw [List.size_toArray]
  refine wpAny_bind (rev_applied hs ?_)
  have hno : ¬ ((((l.length : Int) - 1) == 0 && (-1 : Int) == 1 && l.length == l.toArray.size) = true) := by
    intro q
    rw [Bool.and_eq_true, Bool.and_eq_true] at q
    exact absurd q.1.2 (by decide)
  show wpAny _ _ (if (((l.length : Int) - 1) == 0 && (-1 : Int) == 1 && l.length == l.toArray.size) = true then _ else _) _ _ s
  rw [if_neg hno, rev_pick]
  first
    | exact wpAny_bind (m := Builtin.Tuple.tupleExact _) (wpAny_newObj_type (wpAny_pure ⟨_, rfl, wpAny_pure h⟩) hz)
    | exact wpAny_bind (m := Builtin.Tuple.tupleExact _) (wpAny_newObj_type (wpAny_bind (wpAny_pure (wpAny_pure ⟨_, rfl, wpAny_pure h⟩))) hz)
    | exact wpAny_bind (wpAny_bind (m := Builtin.Tuple.tupleExact _) (wpAny_newObj_type (wpAny_pure (wpAny_pure ⟨_, rfl, wpAny_pure h⟩)) hz))
    | exact wpAny_bind (wpAny_bind (m := Builtin.Tuple.tupleExact _) (wpAny_newObj_type (wpAny_pure ⟨_, rfl, wpAny_pure h⟩) hz))
end
def tRevT (K : PySem.W.Frag) (te ts : TE) : TE := fun σ H Q => te σ H fun x H1 => ts σ H1 fun y H2 => y = .int (-1) ∧ ∃ a xs, x = .ref a ∧ SqT K H2 a xs ∧ ∀ p, H2 p = none → Q (.ref p) (upd H2 p (.tup xs.reverse))
theorem pe_revT {e st : Expr} {te ts : TE} {p2 pos : Pos} (he : PE X e te) (hst : PE X st ts) (eK : X.K = K := by rfl) : PE X (.Subscript e (.Slice none none (some st) p2) pos) (tRevT K te ts) := by
  subst eK
  refine ⟨fun pins s σ H Q I h => ?_⟩
  refine Subscript_ (thn (he.run pins s σ H _ I h) fun v s1 ⟨x, H1, I1, r1, q1⟩ => ?_)
  refine wpAny_Slice ?_
  rw [evalPart_none]
  refine wpAny_pure ?_
  refine wpAny_pure ?_
  rw [evalPart_some]
  refine thn (hst.run pins s1 σ H1 _ I1 q1) fun vy s2 ⟨y, H2, I2, r2, ey, a, xs, ex, hx, q2⟩ => ?_
  subst ey ex
  obtain ⟨t, rfl⟩ := r2
  cases r1
  have I4 : Inv X pins σ H2 { s2 with heap := s2.heap.push { cls := .type "slice", data := .fields #[.none, .none, .int (-1) t] } } := I2.kept (t' := s2.toks) fun b ob q => Heap.get?_push_of_some _ q
  obtain ⟨its, r, ht, hz⟩ := I4.tuple hx
  refine tail_any (T := "tuple") (ops := [.ref a, .ref s2.heap.objs.size]) ht.typeIs PyProof.Rows.slot_tuple_getitem.lookup ?_ (by with_unfolding_all rfl)
  have hlen := r.length
  refine getItem_rev (l := its) ht (Heap.IsSliceOf.new ..) ?_ (by omega)
  refine ⟨.ref _, _, I4.laid (t' := s2.toks) (o := .tup xs.reverse) (fun b ob q => Heap.get?_push_of_some _ q) (Nat.le_refl _) ?_, rfl, q2 _ (I4.hok.fresh (Nat.le_refl _))⟩
  exact ⟨by rw [List.length_reverse]; exact hz, its.reverse, vals_rev r, IsTup.new _ _⟩
end
end Fm
/-! enumerate of a tuple. -/
namespace Fm
open PySem PySem.Spec PyProof.Rows L2
theorem enum_new_tup (l : Addr) (items : Array Value) (n : Nat) (dct : Option Addr) (sl : Array (Option Value)) :
    Meets (Builtin.«enumerate.__new__» ⟨[.type "enumerate", .ref l], []⟩) (fun _ R s => s.heap.get? l = some { cls := .type "tuple", dict := dct, data := .seq items n, slots := sl } ∧
      R (.ok (.ret (.ref (s.heap.push { cls := .type "tuple_iterator", data := .fields #[.ref l, .int 0 0] }).objs.size)))
        { s with heap := (s.heap.push { cls := .type "tuple_iterator", data := .fields #[.ref l, .int 0 0] }).push { cls := .type "enumerate", data := .fields #[.none, .bool false, .ref s.heap.objs.size, rawInt 0, .none, .none] } }) :=
  .of_wp fun prog w A R s h => by
    obtain ⟨hp, g, d, tk, os⟩ := s
    obtain ⟨hl, h⟩ := h
    have hsub := sub_enumerate
    have hL : Heap.IsTuple (Shared.heap ⟨hp, g, d, tk, os⟩) l items := ⟨_, hl, rfl, n, rfl⟩
    wp_walk using wpAny_loadPart' hl
    refine wpAny_stack_any fun st => wpAny_pure ?_
    split
    · rename_i c _ _ _ _ _
      cases (c == Value.type "enumerate")
      · wp_walk using wpAny_loadPart' hl, wpAny_pyIter_tuple hL
        exact ⟨_, rfl, h⟩
      · wp_walk using wpAny_loadPart' hl, wpAny_pyIter_tuple hL
        exact ⟨_, rfl, h⟩
    · wp_walk using wpAny_loadPart' hl, wpAny_pyIter_tuple hL
      exact ⟨_, rfl, h⟩
section
variable {prog : Program} {w : World} {A : Around} {E : Value → Shared → Prop} {s : Shared}
theorem call_enum_tup {l : Addr} {items : Array Value} {Q : Value → Shared → Prop} (hL : s.heap.IsTuple l items)
    (h : ∀ h', IsEnum h' (s.heap.objs.size + 1) s.heap.objs.size 0 .none → h'.IsTupleIter s.heap.objs.size l 0 → (∀ b o, s.heap.get? b = some o → h'.get? b = some o) → Q (.ref (s.heap.objs.size + 1)) { s with heap := h' }) :
    wpAny (model prog w) A (call (.type "enumerate") [.ref l]) Q E s := by
  obtain ⟨⟨c, dct, dt, sl⟩, hl, hc, n, hd⟩ := hL
  replace hc : c = .type "tuple" := hc
  replace hd : dt = .seq items n := hd
  subst hc hd
  refine callType_new F.called_enumerate (by decide) (F.typeCall_enumerate_1 _) (F.newCall_enumerate_1 _) (fun obj => F.args_object_init_2 obj _) F.entry_enumerate_new (enum_new_tup l items n dct sl) ⟨hl, ?_⟩
  have hz : (s.heap.push { cls := .type "tuple_iterator", data := .fields #[.ref l, .int 0 0] }).objs.size = s.heap.objs.size + 1 := Heap.size_push ..
  show _ ∧ _
  rw [hz]
  have he : IsEnum ((s.heap.push { cls := .type "tuple_iterator", data := .fields #[.ref l, .int 0 0] }).push
      { cls := .type "enumerate", data := .fields #[.none, .bool false, .ref s.heap.objs.size, rawInt 0, .none, .none] }) (s.heap.objs.size + 1) s.heap.objs.size 0 .none := by
    have t := Heap.get?_push_size (s.heap.push { cls := .type "tuple_iterator", data := .fields #[.ref l, .int 0 0] })
      (o := { cls := .type "enumerate", data := .fields #[.none, .bool false, .ref s.heap.objs.size, rawInt 0, .none, .none] }) rfl
    rw [hz] at t
    exact t
  exact ⟨⟨_, he, rfl⟩, h _ he ⟨_, Heap.get?_push_of_some _ (Heap.get?_push_size _ rfl), rfl, rfl⟩ fun b o x => Heap.get?_push_of_some _ (Heap.get?_push_of_some _ x)⟩
end
/-- the numbered items of a tuple -/
def ItE (K : PySem.W.Frag) (a : Addr) (xs : List V) : It where
  go := fun i H => SqT K H a xs ∧ i < xs.length
  yld := fun i H v H' => ∃ T x, v = .ref T ∧ H T = none ∧ H' = upd H T (.tup [.int (i : Nat), x]) ∧ xs[i]? = some x
  stop := fun i H => SqT K H a xs ∧ i = xs.length
theorem turn_e {P : Program} {w : World} {K : PySem.W.Frag} {elts : List Expr} {kk : Nat} {tp : Pos} {a e it : Addr} {xs : List V} (n1 : a ≠ it) (n2 : e ≠ it) (n3 : e ≠ a) :
    Turn P w K (.Tuple elts kk tp) (ItE K a xs) [e, it] e (fun i h => (∃ old, IsEnum h e it ((i : Nat) : Int) old) ∧ h.IsTupleIter it a i) where
  mem := List.mem_cons_self ..
  obj := by
    rintro i h ⟨⟨old, q1⟩, ⟨o, q2, _, d2⟩⟩ c hc
    rcases (show c = e ∨ c = it by simpa using hc) with z | z <;> subst z
    · exact ⟨_, q1, fun _ y => nomatch y⟩
    · exact ⟨o, q2, fun _ y => by rw [d2] at y; cases y⟩
  keep := by
    rintro i h h' ⟨⟨old, q1⟩, q2⟩ k
    exact ⟨⟨old, k _ (by simp) _ q1⟩, q2.at fun o z => k _ (by simp) o z⟩
  item := by
    intro X hP hw hK hc i pins s σ H E I hf st hg
    subst hP hw hK
    obtain ⟨hx, lx⟩ := hg
    obtain ⟨us, rx, px, _⟩ := I.tuple hx
    obtain ⟨⟨old, q1⟩, q2⟩ := st
    have hd : X.A.in1.handled = none := I.ok.hd hc
    have hel : e < s.heap.objs.size := Heap.lt_size q1
    have hil : it < s.heap.objs.size := by
      obtain ⟨_, q, _⟩ := id q2
      exact Heap.lt_size q
    refine wpAny_pyNext_enum_itemD (Draws.tuple (prog := X.prog) (w := X.w) hd it a n1 us.toArray) q1 ⟨q2, px⟩ (by rw [List.size_toArray, ← rx.length]; exact lx) n2 (by simp [n2, n3]) fun u h' tk hu ho st' hT hsz hk => ?_
    obtain ⟨x, ex, rxu⟩ := vals_at rx (show us[i]? = some u by simpa using hu)
    refine ⟨_, rfl, wpAny_letOwnedTupleGo_enum (s := { s with heap := h', toks := tk + 1 }) ho fun h'' he' sb => ?_⟩
    have hT2 := (sb.2 _ (Nat.ne_of_gt hel)).trans hT
    have new : ObjOk X.prog X.w (upd H s.heap.objs.size (.tup [.int (i : Nat), x])) h'' s.heap.objs.size (.tup [.int (i : Nat), x]) :=
      ⟨by show 2 ≤ sizeLine; decide, [.int i tk, u], .cons ⟨_, rfl⟩ (.cons rxu .nil), ⟨_, hT2, rfl, _, rfl⟩⟩
    have I1 : Inv X pins σ (upd H s.heap.objs.size (.tup [.int (i : Nat), x])) { s with heap := h'', toks := tk + 1 } :=
      I.turnedNew (t' := tk + 1) (ch := [e, it]) (fun b ob hb q => (sb.2 b (fun z => hb (by simp [z]))).trans (hk b ob (fun z => hb (by simp [z])) (fun z => hb (by simp [z])) q)) hf (Nat.le_refl _) new
    refine ⟨.ref s.heap.objs.size, _, I1, rfl, ⟨_, x, rfl, I.hok.fresh (Nat.le_refl _), rfl, ex⟩, ⟨⟨u, ?_⟩, st'.1.at fun o q => (sb.2 it (Ne.symm n2)).trans q⟩, fun b hb => ?_⟩
    · have e1 : ((i + 1 : Nat) : Int) = (i : Int) + 1 := by omega
      rw [e1]
      exact he'
    · have hb' : b < s.heap.objs.size := by
        rcases (show b = e ∨ b = it by simpa using hb) with z | z <;> subst z
        · exact hel
        · exact hil
      rw [upd_ne (Nat.ne_of_lt hb')]
      exact (hf b hb).1
  done := by
    intro X hP hw hK hc i pins s σ H E I hf st hg
    subst hP hw hK
    obtain ⟨hx, hi⟩ := hg
    obtain ⟨us, rx, px, _⟩ := I.tuple hx
    obtain ⟨⟨old, q1⟩, q2⟩ := st
    have hd : X.A.in1.handled = none := I.ok.hd hc
    have hn : i = us.toArray.size := by
      rw [List.size_toArray, ← rx.length]
      exact hi
    subst hn
    obtain ⟨f0, f1, f2, f3, f4, f5⟩ := hf it (by simp)
    exact wpAny_pyNext_enum_endD (Draws.tuple (prog := X.prog) (w := X.w) hd it a n1 us.toArray) q1 ⟨q2, px⟩ fun h' eb => ⟨rfl, I.turned (t' := s.toks) (fun b o hb q => eb b o hb q) f0 f1 f3 f4 f5⟩
  self := fun A i s Q E st q => by
    obtain ⟨⟨_, he⟩, _⟩ := st
    exact wpAny_pyIter_enum he q
def iEnumT (K : PySem.W.Frag) (ta : TA) : TI := fun σ H R => ta σ H fun vs H1 => ∃ a xs, vs = [.ref a] ∧ SqT K H1 a xs ∧ R (ItE K a xs) H1
theorem pi_enumT {X : Cx} {K : PySem.W.Frag} {e : Expr} {ta : TA} {p pos tpos : Pos} {elts : List Expr} {kk : Nat} (hg : Gl X "enumerate") (hm : X.mg "enumerate" = none) (ha : PA X [e] ta) (eK : X.K = K := by rfl) (hs : starEach [e] X.env = [(false, eval e X.env)] := by rfl) :
    PI X (.Tuple elts kk tpos) (.Call (.Name "enumerate" p) [e] [] pos) (iEnumT K ta) := by
  subst eK
  refine ⟨fun pins s σ H R I h => ?_⟩
  refine Call_ (ld_blt I hg hm boot_enumerate (PyProof.Rows.callWith_type1 (thn (ha.run pos pins s σ H _ I h) fun us s1 ⟨vs, H1, I1, r1, q1⟩ => ?_) hs rfl))
  obtain ⟨a, xs, ex, hq, q⟩ := q1
  subst ex
  cases r1 with
  | cons r rr =>
    cases rr
    cases r
    obtain ⟨its, rv, p', hz⟩ := I1.tuple hq
    have hal : a < s1.heap.objs.size := by
      obtain ⟨_, z, _⟩ := id p'
      exact Heap.lt_size z
    refine call_enum_tup p' fun h' he hit hk => wpAny_pyIter_enum he ?_
    have I2 : Inv X pins σ H1 { s1 with heap := h' } := I1.kept (t' := s1.toks) hk
    refine ⟨s1.heap.objs.size + 1, [s1.heap.objs.size + 1, s1.heap.objs.size], _, _, H1, rfl, I2, turn_e (xs := xs) (Nat.ne_of_lt hal) (Nat.succ_ne_self _) (Nat.ne_of_gt (Nat.lt_succ_of_lt hal)), ⟨⟨.none, he⟩, hit⟩, fun b hb => ?_, q⟩
    have hle : s1.heap.objs.size ≤ b := by
      rcases (show b = s1.heap.objs.size + 1 ∨ b = s1.heap.objs.size by simpa using hb) with z | z
      · rw [z]
        exact Nat.le_add_right _ _
      · rw [z]
        exact Nat.le_refl _
    exact I1.fpOk hle (I1.hok.fresh hle)
/-! ### by K -/
section
variable {X : Cx} {K : PySem.W.Frag}
theorem call_allK (hc : X.calm = true) (e : X.K = K := by rfl) : CallR X (.builtin "all") (rAll K) := e ▸ cr_all hc
theorem op_repTK (e : X.K = K := by rfl) : OpR X (binaryOp .Mult) (rRepT K) := e ▸ op_repT
theorem call_sortTsK (hu : X.A.units + 64 < PySem.cLine) (e : X.K = K := by rfl) : CallR X (.builtin "sorted") (rSortTs K) := e ▸ cr_sortTs hu
def rListOf (K : PySem.W.Frag) : List V → Hp → VK → Prop := fun xs H Q => ∃ p ys, xs = [.ref p] ∧ (SqL K H p ys ∨ SqT K H p ys) ∧ ∀ l, H l = none → Q (.ref l) (upd H l (.lst ys))
theorem call_listK (e : X.K = K := by rfl) : CallR X (.type "list") (rListOf K) := by
  subst e
  exact call_list_of
/-- isinstance(e, c), e the error that the suite holds, of a class that the reading tells -/
def rIsE2 (K : PySem.W.Frag) (cls : Value) (d : Option Addr) (a : Addr) : List V → Hp → VK → Prop := fun xs H Q => ∃ D : Addr, cls = .ref D ∧ d = none ∧ ExcC K D ∧ rIsE K D a xs H Q
theorem call_isE2 {a : Addr} {oe : Obj} {cls : Value} {d : Option Addr} {pn : List (Addr × Obj)} (hz : Zc cls d oe) (hf : ∃ vs, oe.data = .fields vs) (e : X.K = K := by rfl) : CallR (X.suite a ((a, oe) :: pn)) (.builtin "isinstance") (rIsE2 K cls d a) := by
  subst e
  intro pins s σ H xs us Q I r h
  obtain ⟨D, rfl, rfl, C, h⟩ := h
  exact call_isE C hz hf pins s σ H xs us Q I r h
end
end Fm
/-! A def that answers here and raises there. -/
namespace Fm
open PySem PySem.Spec PyProof.Rows L2
theorem FnOk.orX {P : Program} {w : World} {K : PySem.W.Frag} {mg : Str → Option Value} {base : Heap} {k : Nat} {f : Addr} {fd : FuncData} {ps : List Str} {sp sp2 : Sp} (F : FnOk P w K mg base L2.CX0 k f fd ps sp) (G : FnOk P w K mg base (L2.CX P w) k f fd ps sp2) :
    FnOk P w K mg base (L2.CX P w) k f fd ps (fun vs H Q E => sp vs H Q L2.E0 ∨ sp2 vs H Q E) := by
  refine ⟨fun vs H Q E h => ?_, fun A outer s H args us vs Q E hr he hb hv h => ?_⟩
  · rcases h with h | h
    · exact F.len _ _ _ _ h
    · exact G.len _ _ _ _ h
  · rcases h with h | h
    · refine codeAny_mono (F.run A outer s H args us vs Q L2.E0 hr he hb hv h) fun r s' q => ?_
      cases r with
      | error e => exact False.elim q
      | ok fl => cases fl <;> exact q
    · exact G.run A outer s H args us vs Q E hr he hb hv h
end Fm
namespace Fm
open PySem L2
theorem room65 {k : Nat} {A : Around} (r : Room k A) : A.units + 65 < cLine := by
  have := r.un
  omega
end Fm
namespace Fm
open PySem PySem.Spec PyProof.Rows L2
theorem for_enumT {K : PySem.W.Frag} {a : Addr} {xs : List V} {g : TG} {tb : TS} {D : Ends} {σ : L2.St} {H : Hp} (Pv : Nat → L2.St → Hp → Prop) (h0 : Pv 0 σ H) (hq : ∀ i σ H, Pv i σ H → SqT K H a xs)
    (hs : ∀ (i : Nat) (x : V) (T : Addr) (σ : L2.St) (H : Hp), xs[i]? = some x → Pv i σ H → H T = none → g (.ref T) σ (upd H T (.tup [.int (i : Nat), x])) fun σ2 H2 => tb { D with nx := Pv (i + 1), ct := Pv (i + 1), bk := D.nx } σ2 H2)
    (hd : ∀ σ H, Pv xs.length σ H → D.nx σ H) :
    ∃ W : Nat → Nat → L2.St → Hp → Prop, (∃ m, W 0 m σ H) ∧ ∀ i m σ H, W i m σ H →
      ((ItE K a xs).stop i H ∧ D.nx σ H) ∨ ((ItE K a xs).go i H ∧ ∃ N : L2.St → Hp → Prop, (∀ σ' H', N σ' H' → ∃ m', m' < m ∧ W (i + 1) m' σ' H') ∧ ∀ v H', (ItE K a xs).yld i H v H' → g v σ H' fun σ2 H2 => tb { D with nx := N, ct := N, bk := D.nx } σ2 H2) := by
  refine ⟨fun i m σ H => i + m = xs.length ∧ Pv i σ H, ⟨_, Nat.zero_add _, h0⟩, ?_⟩
  rintro i m σ H ⟨em, p⟩
  have qx := hq i σ H p
  cases m with
  | zero =>
    have ei : i = xs.length := em
    refine .inl ⟨⟨qx, ei⟩, hd σ H ?_⟩
    rw [← ei]
    exact p
  | succ m =>
    refine .inr ⟨⟨qx, by omega⟩, Pv (i + 1), fun σ' H' p' => ⟨m, Nat.lt_succ_self m, by omega, p'⟩, fun v H' y => ?_⟩
    obtain ⟨T, x, rfl, hT, rfl, f1⟩ := y
    exact hs i x T σ H f1 p hT
end Fm
namespace Fm
open PySem PySem.Spec PyProof.Rows L2
theorem pe_bmK {X : Cx} {K : PySem.W.Frag} {T id : String} {name : Str} {r : V → List V → Hp → VK → Prop} {o e : Expr} {es : List Expr} {to : TE} {t : TA} {apos cpos : Pos} (pa : PlainAttrs T) (slot : Slot T name id) (hty : typeOf (.builtin id) = pure (.type "method_descriptor")) (hm : MtR X id r) (ho : PE X o to) (ha : PA X (e :: es) t)
    (eK : X.K = K := by rfl) (hbase : attributeBase o name X.env (eval o X.env) = eval o X.env := by rfl)
    (hfew : ((backTo cpos (starEach (e :: es) X.env)).all (fun x => !x.1) && (backToKw cpos (keywordEach [] X.env)).all (fun x => x.1.isSome)
      && decide ((e :: es).length + ([] : List Keyword).length + (if ([] : List Keyword).isEmpty then 0 else 1) < 30)) = true := by rfl)
    (hline : (apos.endLine == cpos.line) = true := by rfl) (hs : starEach (e :: es) X.env = (false, eval e X.env) :: starEach es X.env := by rfl) (hplain : (backTo cpos (starEach es X.env)).any (·.1) = false := by rfl) :
    PE X (.Call (.Attribute o name apos) (e :: es) [] cpos) (tBM K T r to t) := by
  subst eK
  exact pe_bm pa slot hty hm ho ha hbase hfew hline hs hplain
end Fm
/-! == and != of instances by their own __eq__, any answer; sorted of a set of tuples of any lengths. -/
namespace Fm
open PySem PySem.Spec PyProof.Rows L2
/-- the other side of == of an own instance -/
inductive OTy (K : PySem.W.Frag) (H : Hp) : V → Value → Prop where
  | non : OTy K H .non (.type "NoneType")
  | int (i : Int) : OTy K H (.int i) (.type "int")
  | str (x : Str) : OTy K H (.str x) (.type "str")
  | tup {a : Addr} {xs : List V} (h : SqT K H a xs) : OTy K H (.ref a) (.type "tuple")
  | ins {a C dx : Addr} {fs : List (Str × V)} (h : H a = some (.ins C dx fs)) : OTy K H (.ref a) (.ref C)
section
variable {X : Cx} {n k : Nat}
theorem OTy.looks {pins : List (Addr × Obj)} {σ : L2.St} {H : Hp} {s : Shared} {y : V} {u t : Value} (I : Inv X pins σ H s) (r : RelV y u) (o : OTy X.K H y t) : PySem.W.Looks (model X.prog X.w) s.heap (typeOf u) t := by
  cases o with
  | non =>
    cases (show u = Value.none from r)
    exact .of_pure (by rfl)
  | int i =>
    obtain ⟨t, rfl⟩ := (show ∃ t, u = Value.int i t from r)
    exact .of_pure (by rfl)
  | str x =>
    obtain ⟨t, rfl⟩ := (show ∃ t, u = Value.str x t from r)
    exact .of_pure (by rfl)
  | tup h =>
    cases (show u = Value.ref _ from r)
    obtain ⟨its, rv, ⟨o, ho, hc, _⟩, _⟩ := I.tuple h
    have q : PySem.W.Looks (model X.prog X.w) s.heap (typeOf (.ref _)) o.cls := (PySem.W.Looks.ld ho).andThen .now
    rw [hc] at q
    exact q
  | ins h =>
    cases (show u = Value.ref _ from r)
    obtain ⟨mA, J, _⟩ := ins_get I.hok h
    obtain ⟨od, J, _⟩ := J.look
    exact J.type
/-- x == y, x an instance of the class at C, whose __eq__ keeps sp -/
def rEqO (K : PySem.W.Frag) (C : Addr) (sp : Sp) : R2 := fun x y H Q => ∃ a dx fs t, x = .ref a ∧ H a = some (.ins C dx fs) ∧ OTy K H y t ∧ PySem.W.notFirst K C t = true ∧ sp [.ref a, y] H (fun v H' => ∃ b, v = .bl b ∧ Q (.bl b) H') E0
def rNeO (K : PySem.W.Frag) (C : Addr) (sp : Sp) : R2 := fun x y H Q => ∃ a dx fs t, x = .ref a ∧ H a = some (.ins C dx fs) ∧ OTy K H y t ∧ PySem.W.notFirst K C t = true ∧ sp [.ref a, y] H (fun v H' => ∃ b, v = .bl b ∧ Q (.bl (!b)) H') E0
theorem own_run {f : Addr} {fd : FuncData} {ps : List Str} {sp : Sp} (F : FnOk X.prog X.w X.K X.mg X.base CX0 n f fd ps sp) (hb : Binds X.K fd ps []) {A : Around} (sb : Sub X n A) {pins : List (Addr × Obj)} {σ : L2.St} {H : Hp} {s : Shared} {a : Addr} {y : V} {u : Value} {R : Bool → Hp → Prop}
    (I : Inv X pins σ H s) (ry : RelV y u) (h : sp [.ref a, y] H (fun v H' => ∃ b, v = .bl b ∧ R b H') E0) (Q : Value → Shared → Prop) (E : Value → Shared → Prop) (q : ∀ b s' H', Inv X pins σ H' s' → R b H' → Q (.bool b) s') :
    wpAny (model X.prog X.w) A (call (.ref f) [.ref a, u]) Q E s := by
  have e0 : Env0 X.prog X.w X.K X.mg X.base A X.stack s H := by
    have e := I.env0
    exact ⟨by rw [sb.fr]; exact e.frames, e.mod, e.bs, e.bsz, e.funs, e.frf, e.hok, e.bare⟩
  have hl := F.len _ _ _ _ h
  have r2 : Vals [V.ref a, y] [Value.ref a, u] := .cons rfl (.cons ry .nil)
  refine wpAny_call (codeAny_mono (F.run A X.stack s H ⟨[.ref a, u], []⟩ [.ref a, u] [.ref a, y] _ E0 sb.room e0 (by
    have := hb s [.ref a, u] I.kIn (by simpa using hl)
    simpa using this) r2 h) fun r s' hq => ?_)
  cases r with
  | error e => exact False.elim hq
  | ok fl =>
    cases fl with
    | ret w =>
      obtain ⟨z, H', I', rz, b, ez, ex⟩ := I.after hq
      subst ez
      cases rz
      exact q b s' H' I' ex
    | next => exact False.elim hq
    | brk => exact False.elim hq
    | cont => exact False.elim hq
theorem op_eqO {f C : Addr} {fd : FuncData} {ps : List Str} {sp : Sp} {K : PySem.W.Frag} (F : FnOk X.prog X.w X.K X.mg X.base CX0 n f fd ps sp) (hs : PySem.W.findIn X.K (.ref C) "__eq__" = some (some (.ref f))) (hf : PySem.W.isFn X.K (.ref f) = true) (hb : Binds X.K fd ps []) (hr : Room n X.A)
    (eK : X.K = K := by rfl) : OpR X (compareOp .Eq) (rEqO K C sp) := by
  subst eK
  intro pins s σ H x y v u Q I rx ry hq
  obtain ⟨a, dx, fs, t, rfl, ha, ot, hn, h⟩ := hq
  cases rx
  obtain ⟨mA, J, _⟩ := ins_get I.hok ha
  obtain ⟨od, J, _⟩ := J.look
  have sb : Sub X n X.A := ⟨hr, rfl⟩
  obtain ⟨m, hF⟩ := I.fr
  show wpAny (model X.prog X.w) X.A (richCompare .Eq (.ref a) u) (EP X pins σ Q) X.xe s
  refine PySem.W.cmp_K (op := .Eq) hr.units0 hF I.ok.mod.kin J (ot.looks I ry) hn hs hf ?_
  exact own_run F hb sb I ry h _ _ fun b s' H' I' q => ⟨.bl b, H', I', rfl, q⟩
theorem ifBoundB {M : Model} {A : Around} {E : Value → Shared → Prop} {s : Shared} {K : PySem.W.Frag} {x C : Addr} {ox : Obj} {od : Option Obj} {name : Str} {id : String} {args : List Value} {Q : Option Value → Shared → Prop} (hK : K.In s.heap) (I : PySem.W.InstAt s.heap x ox C od)
    (hs : PySem.W.findIn K (.ref C) name = some (some (.builtin id))) (S : Slot "object" name id) (h : wpAny M A (call (.builtin id) (.ref x :: args)) (fun v => Q (some v)) E s) : wpAny M A (callSpecialIfBound? (.ref x) name args) Q E s := by
  simp only [callSpecialIfBound?, bindSpecialIfBound?]
  refine wpAny_holding (wpAny_bind (wpAny_bind (wpAny_bind (I.type.here ((PySem.W.looks_findIn hK hs).here ?_)))))
  simp only [S.bind]
  refine wpAny_bind (wpAny_askSetting (wpAny_ite ?_))
  have fin : wpAny M A (call (.builtin id) ([.ref x] ++ args) >>= fun v => pure (some v)) Q E s := wpAny_bind (wpAny_mono h (fun v s' h' => wpAny_pure h') fun _ _ h' => h')
  split
  · exact wpAny_bind (wpAny_pure (wpAny_pure fin))
  · exact wpAny_tryCatch (wpAny_bind (wpAny_pure (wpAny_pure fin)))
theorem op_neO {f C : Addr} {fd : FuncData} {ps : List Str} {sp : Sp} {K : PySem.W.Frag} (G : FnOk X.prog X.w X.K X.mg X.base CX0 n f fd ps sp) (hs : PySem.W.findIn X.K (.ref C) "__eq__" = some (some (.ref f))) (hf : PySem.W.isFn X.K (.ref f) = true) (hb : Binds X.K fd ps []) (hr : Room (n + 1) X.A)
    (hne : PySem.W.findIn X.K (.ref C) "__ne__" = some (some (.builtin "object.__ne__"))) (hm : PySem.W.mroIn X.K C (.type "object") = some true) (eK : X.K = K := by rfl) : OpR X (compareOp .NotEq) (rNeO K C sp) := by
  subst eK
  intro pins s σ H x y v u Q I rx ry hq
  obtain ⟨a, dx, fs, t, rfl, ha, ot, hn, h⟩ := hq
  cases rx
  obtain ⟨mA, J, _⟩ := ins_get I.hok ha
  obtain ⟨od, J, _⟩ := J.look
  have sb : Sub X (n + 1) X.A := ⟨hr, rfl⟩
  have hK := I.kIn
  have one : wpAny (model X.prog X.w) X.A (tryCompare (.ref a) "__ne__" u) (fun r s' => ∃ v, r = some v ∧ EP X pins σ Q v s') X.xe s := by
    unfold tryCompare
    refine wpAny_bind (ifBoundB hK J hne F.cmp_object.ne ?_)
    have sub : PySem.W.Looks (model X.prog X.w) s.heap (isInstance (.ref a) (.type "object")) true := J.type.andThen (PySem.W.looks_mroIn hK hm)
    refine wpAny_call (codeAny_call_builtin F.cmp_object.ne.plain F.cmpEntry_ne (PySem.W.check_slot F.cmpKind_ne F.cmpSplit_ne sub (F.cmpArgs_ne _ _) ?_))
    have hu : X.A.in1.units < cLine := sb.in1.room.units0
    unfold Builtin.«object.__ne__»
    refine wpAny_bind (m := slotArgs _ _ _) (wpAny_pure ?_)
    show wpAny _ _ (cRoomFor "comparison" [.ref a, u] >>= _) _ _ _
    refine wpAny_bind (wpAny_cRoomFor hu ?_)
    refine wpAny_bind (m := callSpecialIfBound? (.ref a) (Str.ofString "__eq__") [u]) (PySem.W.ifBound_K hK J hs hf (own_run G hb sb.in1 I ry h _ _ fun b s' H' I' q => ?_))
    refine wpAny_bind (m := truthy (.bool b)) (wpAny_truthy_bool ?_)
    exact wpAny_pure (wpAny_pure ⟨_, rfl, ⟨.bl (!b), H', I', rfl, q⟩⟩)
  show wpAny (model X.prog X.w) X.A (richCompare .NotEq (.ref a) u) (EP X pins σ Q) X.xe s
  unfold richCompare
  simp only [oneThing_ref]
  refine wpAny_holding (wpAny_bind (wpAny_cRoomFor hr.units0 ?_))
  refine wpAny_bind (J.type.here (wpAny_bind ((ot.looks I ry).here ?_)))
  split
  · rename_i q
    have e : PySem.W.subIn X.K t (.ref C) = some false := by
      rcases Bool.or_eq_true_iff.mp hn with e | e
      · rw [beq_iff_eq.mp e] at q; simp at q
      · exact beq_iff_eq.mp e
    refine wpAny_bind ((PySem.W.looks_subIn hK e).here ?_)
    simp only [Bool.false_eq_true, if_false]
    refine wpAny_bind (wpAny_mono one (fun r s' z => ?_) fun _ _ e => e)
    obtain ⟨v, rfl, hq⟩ := z
    exact wpAny_pure hq
  · refine wpAny_bind (wpAny_pure ?_)
    simp only [Bool.false_eq_true, if_false]
    refine wpAny_bind (wpAny_mono one (fun r s' z => ?_) fun _ _ e => e)
    obtain ⟨v, rfl, hq⟩ := z
    exact wpAny_pure hq
end
end Fm
/-! sorted of a set of tuples of ints of any lengths. -/
namespace Fm
open PySem PySem.Spec PyProof.Rows L2 PySem.W
theorem dataLt_tups (x y : List Int) : dataLt (.tuple (x.map .int)) (.tuple (y.map .int)) = decide (x < y) := by
  rw [dataLt_tuple]
  exact dataLt_ints x y
theorem dataLe_tups {β : Type} (x : β → List Int) : dataLe false (fun b => .tuple ((x b).map .int)) = fun p q => decide (x p ≤ x q) := by
  funext p q
  show (!dataLt (.tuple ((x q).map .int)) (.tuple ((x p).map .int))) = _
  rw [dataLt_tups]
  by_cases h : x q < x p
  · have h' : ¬ x p ≤ x q := fun r => List.not_lt.mpr r h
    simp [h, h']
  · have h' : x p ≤ x q := List.not_lt.mp h
    simp [h, h']
theorem lexLt_dec : ∀ x y : List Int, HT.lexLt x y = decide (x < y)
  | [], [] => by simp [HT.lexLt]
  | [], _ :: _ => by simp [HT.lexLt]
  | _ :: _, [] => by simp [HT.lexLt]
  | x :: xs, y :: ys => by
    rw [HT.lexLt_cons, lexLt_dec xs ys]
    by_cases h : x = y
    · simp [h, List.cons_lt_cons_iff]
    · simp [h, List.cons_lt_cons_iff]
theorem sorted_le {β : Type} (x : β → List Int) (l : List β) : (l.mergeSort (dataLe false (fun b => .tuple ((x b).map .int)))).Pairwise fun p q => x p ≤ x q := by
  rw [dataLe_tups]
  have h := List.pairwise_mergeSort (le := fun p q => decide (x p ≤ x q)) (fun a b c h1 h2 => decide_eq_true (List.le_trans (of_decide_eq_true h1) (of_decide_eq_true h2)))
    (fun a b => by
      rcases List.le_total (x a) (x b) with h | h
      · rw [decide_eq_true h]; rfl
      · rw [decide_eq_true h, Bool.or_true]) l
  exact h.imp fun h => of_decide_eq_true h
/-- distinct, so strictly -/
theorem sorted_lt {β : Type} (x : β → List Int) (l : List β) (hn : (l.map x).Nodup) : (l.mergeSort (dataLe false (fun b => .tuple ((x b).map .int)))).Pairwise fun p q => HT.lexLt (x p) (x q) = true := by
  have h1 := sorted_le x l
  have h2 : ((l.mergeSort (dataLe false (fun b => .tuple ((x b).map .int)))).map x).Nodup := ((List.mergeSort_perm l _).map x).nodup_iff.mpr hn
  have h3 := List.pairwise_map.mp h2
  refine (h1.and h3).imp fun {p q} h => ?_
  rw [lexLt_dec]
  refine decide_eq_true ?_
  rcases List.le_iff_lt_or_eq.mp h.1 with z | z
  · exact z
  · exact absurd z h.2
section
variable {P : Program} {w : World} {A : Around} {E : Value → Shared → Prop} {s : Shared}
theorem sorted_setU {a : Addr} {L : List (Addr × List Int)} {es : Array (Int × Value)} {ep : Nat} {t : SetTable} {Q : Value → Shared → Prop} (R : SetTR P w s.heap a L es ep t) (hh : A.handled = none) (hu : A.units + 64 < cLine)
    (hQ : ∀ s' p (out : Array Value) (c : Nat) (L' : List (Addr × List Int)), (∀ b o, s.heap.get? b = some o → s'.heap.get? b = some o) → s'.gens = s.gens → s'.os = s.os → s.heap.objs.size ≤ p →
      s'.heap.get? p = some (seqObj "list" out c) → out.toList = L'.map (fun q => Value.ref q.1) → L'.Perm L → L'.Pairwise (fun q r => HT.lexLt q.2 r.2 = true) → Q (.ref p) s') :
    wpAny (model P w) A (call (.builtin "sorted") [.ref a]) Q E s := by
  obtain ⟨o, ho, hex, hd⟩ := R.ob
  have hsz := R.size
  have hfew := R.few
  refine Calls.call_function_entry kind_sorted plain_sorted entry_sorted (args_sorted1 _) ?_
  unfold Builtin.«sorted»
  refine wpAny_bind (m := checkCount "sorted" 1 1 _) (wpAny_pure ?_)
  refine wpAny_bind (collect_set (A := A.in1) hh ⟨o, ho, hex.1, hd⟩ R.fits (by unfold scanBound; omega) R.tab.ris R.led fun s1 vs k1 hz g1 o1 pm => ?_)
  have hes : es.toList.map (·.2) = L.map fun q => Value.ref q.1 := by
    rw [R.rows]
    unfold L2.rowsOf
    rw [List.map_map] <;> rfl
  rw [hes] at pm
  have ord : ∀ vs : List Value, (∀ v ∈ vs, ∃ q ∈ L, v = Value.ref q.1) → ∃ L1 : List (Addr × List Int), vs = L1.map (fun q => Value.ref q.1) ∧ ∀ q ∈ L1, q ∈ L := by
    intro vs
    induction vs with
    | nil => intro _; exact ⟨[], rfl, fun q hq => (by cases hq)⟩
    | cons v vs ih =>
      intro hv
      obtain ⟨q, hq, e⟩ := hv v List.mem_cons_self
      obtain ⟨L1, e1, hs⟩ := ih fun u hu => hv u (List.mem_cons_of_mem _ hu)
      refine ⟨q :: L1, by rw [List.map_cons, e, e1], fun r hr => ?_⟩
      rcases List.mem_cons.mp hr with z | z
      · rw [z]; exact hq
      · exact hs r z
  have one : ∀ q ∈ L, ∀ r ∈ L, q.1 = r.1 → q = r := fun q hq r hr e => by
    have a1 := R.tup q hq
    have a2 := R.tup r hr
    rw [e] at a1
    have e2 : q.2 = r.2 := a1.inj a2
    exact Prod.ext e e2
  have perm_of : ∀ L1 : List (Addr × List Int), (∀ q ∈ L1, q ∈ L) → (L1.map (fun q => Value.ref q.1)).Perm (L.map fun q => Value.ref q.1) → L1.Perm L := by
    intro L1 hs pm1
    have nL : L.Nodup := nodup_of_map R.nd
    have nref : (L.map fun q => Value.ref q.1).Nodup := by
      refine List.pairwise_map.mpr (List.Pairwise.imp_of_mem (fun {q r} hq hr hne e => ?_) nL)
      injection e with e
      exact hne (one q hq r hr e)
    have n1 : L1.Nodup := nodup_of_map (pm1.nodup_iff.mpr nref)
    refine (List.perm_ext_iff_of_nodup n1 nL).mpr fun q => ⟨hs q, fun hq => ?_⟩
    have hm : Value.ref q.1 ∈ L1.map (fun q => Value.ref q.1) := pm1.mem_iff.mpr (List.mem_map.mpr ⟨q, hq, rfl⟩)
    obtain ⟨r, hr, e⟩ := List.mem_map.mp hm
    injection e with e
    rw [← one r (hs r hr) q hq e]
    exact hr
  have hvl : vs.length < 64 := by rw [pm.length_eq, List.length_map]; exact hfew
  obtain ⟨L1, e1, hs1⟩ := ord vs fun v hv => by
    obtain ⟨q, hq, e⟩ := List.mem_map.mp (pm.mem_iff.mp hv)
    exact ⟨q, hq, e.symm⟩
  have pL1 : L1.Perm L := perm_of L1 hs1 (by rw [← e1]; exact pm)
  refine wpAny_bind (wpAny_newList ?_ (by rw [sizeLine_eq]; omega))
  have hoL : (s1.heap.push (seqObj "list" vs.toArray 0)).get? s1.heap.objs.size = some (seqObj "list" vs.toArray 0) := Heap.get?_push_size _ rfl
  have keepT : ∀ q ∈ L, IsT P w (sortingHeap (s1.heap.push (seqObj "list" vs.toArray 0)) s1.heap.objs.size vs) q.2 q.1 := fun q hq => isT_keep (R.tup q hq) fun b u e => by
    have q1 := k1 b u e
    exact sortingHeap_old (Nat.ne_of_lt (Heap.lt_size q1)) (Heap.get?_push_of_some _ q1)
  have er : EachIs (fun (v : Value) (b : Addr × List Int) => ∃ as, Reads (sortingHeap (s1.heap.push (seqObj "list" vs.toArray 0)) s1.heap.objs.size vs) v (.tuple (b.2.map .int)) as) vs L1 := by
    have key : ∀ M : List (Addr × List Int), (∀ q ∈ M, q ∈ L) → EachIs (fun (v : Value) (b : Addr × List Int) => ∃ as, Reads (sortingHeap (s1.heap.push (seqObj "list" vs.toArray 0)) s1.heap.objs.size vs) v (.tuple (b.2.map .int)) as) (M.map fun q => Value.ref q.1) M := by
      intro M
      induction M with
      | nil => intro _; exact .nil
      | cons q M ih =>
        intro hM
        refine .cons ?_ (ih fun r hr => hM r (List.mem_cons_of_mem _ hr))
        obtain ⟨o, its, n, ho, hc, hd, hk⟩ := keepT q (hM q List.mem_cons_self)
        have r := ints_readAll (sortingHeap (s1.heap.push (seqObj "list" vs.toArray 0)) s1.heap.objs.size vs) (ints_of_items hk)
        exact ⟨_, .tuple ho hc hd r⟩
    have z := key L1 hs1
    rw [← e1] at z
    exact z
  have e0 : EachIs (fun (v : Value) (b : Addr × List Int) => v = Value.ref b.1) vs L1 := by
    have key : ∀ M : List (Addr × List Int), EachIs (fun (v : Value) (b : Addr × List Int) => v = Value.ref b.1) (M.map fun q => Value.ref q.1) M := by
      intro M
      induction M with
      | nil => exact .nil
      | cons q M ih => exact .cons rfl ih
    have z := key L1
    rw [← e1] at z
    exact z
  have hal : AllAlike (L1.map fun b => PyData.tuple (b.2.map .int)) := AllAlike.of fun b b' => by
    show alikeAll (b.2.map .int) (b'.2.map .int) = true
    exact alike_ints _ _
  have S := FmSort.sortsAt_tups (prog := P) (w := w) (A := A.in1.in1) (s := { s1 with heap := sortingHeap (s1.heap.push (seqObj "list" vs.toArray 0)) s1.heap.objs.size vs }) (each_map (R := fun v d => ∃ as, Reads (sortingHeap (s1.heap.push (seqObj "list" vs.toArray 0)) s1.heap.objs.size vs) v d as) (fun b : Addr × List Int => PyData.tuple (b.2.map .int)) er) hal (fun d hd => by
    obtain ⟨b, _, rfl⟩ := List.mem_map.mp hd
    exact ⟨_, rfl⟩) (fun d hd => by
    obtain ⟨b, _, rfl⟩ := List.mem_map.mp hd
    have z : (PyData.tuple (b.2.map .int)).depth = 1 := by
      show PyData.depthAll (b.2.map .int) + 1 = 1
      rw [depth_ints]
    show A.units + 1 + 1 + (PyData.tuple (b.2.map .int)).depth < cLine
    omega)
  refine wpAny_bind (wpAny_holding (wpAny_call_entry slot_list_sort ⟨_, hoL, rfl⟩ entry_list_sort (list_sort_vals (s := { s1 with heap := s1.heap.push (seqObj "list" vs.toArray 0) }) hoL S (by rw [sizeLine_eq]; omega) ⟨_, rfl, ?_⟩) (args_list_sort _)))
  have eo := sortVals_data (R := fun (v : Value) (b : Addr × List Int) => v = Value.ref b.1) false e0 er hal
  generalize sortVals (dataKind (sortingHeap (s1.heap.push (seqObj "list" vs.toArray 0)) s1.heap.objs.size vs) (L1.map fun b => PyData.tuple (b.2.map .int))) false vs vs = out at eo ⊢
  obtain ⟨c, hc⟩ := sortedHeap_at (vs := vs) (out := out.toArray) hoL
  have e' : out = (L1.mergeSort (dataLe false (fun b : Addr × List Int => PyData.tuple (b.2.map .int)))).map fun q => Value.ref q.1 := by
    have key : ∀ (us : List Value) (M : List (Addr × List Int)), EachIs (fun (v : Value) (b : Addr × List Int) => v = Value.ref b.1) us M → us = M.map fun q => Value.ref q.1 := by
      intro us M h
      induction h with
      | nil => rfl
      | cons h _ ih => rw [h, ih, List.map_cons]
    exact key _ _ eo
  refine wpAny_pure ⟨_, rfl, hQ _ s1.heap.objs.size out.toArray c _ (fun b u e => ?_) g1 o1 hz hc (by rw [List.toList_toArray]; exact e') ((List.mergeSort_perm _ _).trans pL1) (sorted_lt (fun b : Addr × List Int => b.2) L1 ((pL1.map _).nodup_iff.mpr R.nd))⟩
  have q := k1 b u e
  have hlt := Heap.lt_size q
  show (sortedHeap (s1.heap.push (seqObj "list" vs.toArray 0)) s1.heap.objs.size vs out.toArray).get? b = some u
  rw [sortedHeap_old (Nat.ne_of_lt hlt) (by rw [size_push']; exact Nat.lt_succ_of_lt hlt)]
  exact Heap.get?_push_of_some _ q
end
section
variable {X : Cx} {K : PySem.W.Frag} {P : Program} {w : World}
def rSortSU (K : PySem.W.Frag) (P : Program) (w : World) : List V → Hp → VK → Prop := fun vs H Q => ∃ (a : Addr) (L : List (Addr × List Int)), vs = [V.ref a] ∧ H a = some (SetTO P w a L) ∧ (∀ p ∈ L, SqT K H p.1 (p.2.map V.int)) ∧
  ∀ (L' : List (Addr × List Int)) (p : Addr), L'.Perm L → L'.length < 64 → L'.Pairwise (fun q r => HT.lexLt q.2 r.2 = true) → H p = none → Q (.ref p) (upd H p (.lst (L'.map fun q => V.ref q.1)))
theorem call_sortSU (hc : X.calm = true) (hu : X.A.units + 64 < cLine) (eK : X.K = K := by rfl) (eP : X.prog = P := by rfl) (ew : X.w = w := by rfl) : CallR X (.builtin "sorted") (rSortSU K P w) := by
  subst eK eP ew
  intro pins s σ H vs us Q I r h
  obtain ⟨a, L, rfl, ha, hk, q⟩ := h
  have R0 : SetT0 X.prog X.w s.heap a L := (I.hok a _ ha).1
  obtain ⟨es, ep, t, R⟩ := R0.full fun p hp => Inv.isT I (hk p hp)
  rw [Vals.ref1 r]
  refine sorted_setU R (I.ok.hd hc) hu fun s' p out c L' k g o hp hg hout pm pw => ?_
  have hfew : L'.length < 64 := by rw [pm.length_eq]; exact R.few
  have hlen : (L'.map fun q => V.ref q.1).length ≤ sizeLine := by rw [List.length_map, sizeLine_eq]; omega
  have hn : H p = none := I.hok.fresh hp
  have hv : Vals (L'.map fun q => V.ref q.1) out.toList := by rw [hout]; exact vals_of_refs L'
  have J : Inv X pins σ (upd H p (.lst (L'.map fun q => V.ref q.1))) { s with heap := s'.heap, gens := s'.gens, drawn := s'.drawn, toks := s'.toks } :=
    I.call (ch := []) (Un.laid k hp hn) (I.hok.laid k hp ⟨hlen, out.toList, c, hv, hg⟩) (by rw [g]; exact I.bare) (fun _ z => nomatch z)
  have e : s' = { s with heap := s'.heap, gens := s'.gens, drawn := s'.drawn, toks := s'.toks } := by
    cases s'
    cases s
    cases o
    rfl
  rw [e]
  exact ⟨.ref p, _, J, rfl, q L' p pm hfew pw hn⟩
theorem call_setOfTK (hc : X.calm = true) (hu : X.A.units + 64 < cLine) (eK : X.K = K := by rfl) (eP : X.prog = P := by rfl) (ew : X.w = w := by rfl) : CallR X (.type "set") (rSetOfT K P w) := by
  subst eK eP ew
  exact cr_setOfT hc hu
end
end Fm
/-! An own instance made within a try: what is raised is wished for at the slots. -/
namespace Fm
open PySem PySem.Spec PyProof.Rows L2
section
variable {X : Cx} {CX : CXT} {C f : Addr} {fd : FuncData} {ps : List Str} {sp : Sp} {ds : List Value} {dvs : List V} {k : Nat} {E : WX} {e : Expr} {es : List Expr} {t : TA} {x : Str} {p pos : Pos}
theorem run_makeS {E : XK} {pins : List (Addr × Obj)} {σ : L2.St} {H : Hp} {s : Shared} {Q : VK} {us : List Value} {vs : List V} (M : Mk X.K C f) (F : FnOk X.prog X.w X.K X.mg X.base CX k f fd ps sp) (hr : Room (k + 1) X.A) (hb : Binds X.K fd ps ds) (hd : Vals dvs ds)
    (hx : PassesAt CX X σ E) (I : Inv X pins σ H s) (r : Vals vs us)
    (h : ∀ x dx, H x = none → H dx = none → dx ≠ x → sp (.ref x :: (vs ++ dvs)) (upd (upd H dx (.own x)) x (.ins C dx [])) (fun v H2 => v = .non ∧ Q (.ref x) H2) E) :
    wpAny (model X.prog X.w) X.A (call (.ref C) us) (EP X pins σ Q) X.xe s := by
  have hq := h (s.heap.objs.size + 1) s.heap.objs.size (I.hok.fresh (Nat.le_succ _)) (I.hok.fresh (Nat.le_refl _)) (Nat.ne_of_lt (Nat.lt_succ_self _))
  have I2 := Inv.made (C := C) I
  have r2 : Vals (V.ref (s.heap.objs.size + 1) :: (vs ++ dvs)) (Value.ref (s.heap.objs.size + 1) :: (us ++ ds)) := .cons rfl (r.append hd)
  have hl : (Value.ref (s.heap.objs.size + 1) :: us ++ ds).length = ps.length := by
    have e := r2.length
    rw [F.len _ _ _ _ hq] at e
    exact e.symm
  refine wpAny_call (make_map (f := f) I.kIn M.makes M.init (beq_iff_eq.mp M.fn) (codeAny_mono (F.run _ X.stack _ _ ⟨Value.ref (s.heap.objs.size + 1) :: us, []⟩ (Value.ref (s.heap.objs.size + 1) :: (us ++ ds)) _ _ E (hr.make C us [])
    (I2.env0.make C us []) (hb _ (Value.ref (s.heap.objs.size + 1) :: us) I2.kIn hl) r2 hq) fun r s' hq' => ?_))
  cases r with
  | error e => exact hx pins _ _ e s' I2 hq'
  | ok fl =>
    cases fl with
    | ret u =>
      obtain ⟨v, H', I3, rv, ev, q3⟩ := I2.after hq'
      subst ev
      exact ⟨rv, ⟨V.ref (s.heap.objs.size + 1), H', I3, rfl, q3⟩⟩
    | next => exact False.elim hq'
    | brk => exact False.elim hq'
    | cont => exact False.elim hq'
def tMakeS (C : Addr) (sp : Sp) (E : L2.St → XK) (t : TA) : TE := fun σ H Q => t σ H fun vs H1 => ∀ x dx, H1 x = none → H1 dx = none → dx ≠ x → sp (.ref x :: vs) (upd (upd H1 dx (.own x)) x (.ins C dx [])) (fun v H2 => v = .non ∧ Q (.ref x) H2) (E σ)
theorem pe_makeS {E : L2.St → XK} (M : Mk X.K C f) (F : FnOk X.prog X.w X.K X.mg X.base CX k f fd ps sp) (hr : Room (k + 1) X.A) (hg : Gl X x) (hm : X.mg x = some (.ref C)) (hb : Binds X.K fd ps []) (hx : ∀ σ, PassesAt CX X σ (E σ))
    (ha : PA X (e :: es) t) (hdb : (x == ("__debug__" : Str)) = false := by decide) (he : starEach (e :: es) X.env = (false, eval e X.env) :: starEach es X.env := by rfl) (hpl : (backTo pos (starEach es X.env)).any (·.1) = false := by rfl) :
    PE X (.Call (.Name x p) (e :: es) [] pos) (tMakeS C sp E t) := by
  refine ⟨fun pins s σ H Q I h => ?_⟩
  refine wpAny_Call_Name_kw (ld_glob I hg hm ?_ hdb)
  refine PySem.W.callWith_K (h₀ := X.base) I.ok.mod.kin M.kp (thn (ha.run pos pins s σ H _ I h) fun us s1 ⟨vs, H1, I1, r, q⟩ => ⟨I1.kIn, ?_⟩) he hpl
  exact run_makeS (dvs := []) (ds := []) M F hr hb .nil (hx σ) I1 r fun x dx n1 n2 n3 => by
    rw [List.append_nil]
    exact q x dx n1 n2 n3
end
end Fm
/-! tuple * n from 1 on; tuple * 1 is the tuple itself. -/
namespace Fm
open PySem PySem.Spec PyProof.Rows L2
theorem tuple_mul1 (l : Addr) (items : Array Value) (n : Nat) (dd : Option Addr) (sl : Array (Option Value)) (u : Tok) :
    Meets (Builtin.«tuple.__mul__» ⟨[.ref l, .int 1 u], []⟩) (fun _ R s => s.heap.get? l = some { cls := .type "tuple", dict := dd, data := .seq items n, slots := sl } ∧ R (.ok (.ret (Value.ref l))) s) :=
  .of_wp fun prog w A R s h => by
    obtain ⟨hp, g, d, tk, os⟩ := s
    obtain ⟨hl, h⟩ := h
    have f1 := AutoSeq1.idx_int
    wp_walk using wpAny_loadPart' hl
    exact ⟨_, rfl, h⟩
def rRepU (K : PySem.W.Frag) : R2 := fun x y H Q => ∃ l k xs, x = .ref l ∧ y = .int k ∧ SqT K H l xs ∧ xs ≠ [] ∧ 1 ≤ k ∧ k ≤ 1000 ∧ xs.length ≤ 1000 ∧ (k = 1 → Q (.ref l) H) ∧ ∀ p, H p = none → Q (.ref p) (upd H p (.tup (List.replicate k.toNat xs).flatten))
theorem op_repU {X : Cx} {K : PySem.W.Frag} (eK : X.K = K := by rfl) : OpR X (binaryOp .Mult) (rRepU K) := by
  subst eK
  intro pins s σ H x y v u Q I rx ry h
  obtain ⟨l, k, xs, rfl, rfl, hT, hne, h1, h2, hz, q1, q⟩ := h
  by_cases hk : k = 1
  · subst hk
    cases rx
    obtain ⟨t, rfl⟩ := ry
    obtain ⟨its, r, ⟨⟨cls, dd, data, sl⟩, ho, hc, n, hd⟩, hs⟩ := I.tuple hT
    simp only at hc hd
    subst hc hd
    refine wpAny_binaryOp_repeat_ref (T := "tuple") (U := "int") (by decide) ⟨_, ho, rfl⟩ (fun s' => typeIs_int s' 1 t) noFill_tuple_mul F.fills_int_mul F.slot_int_rmul repeat_tuple F.slot_int_index.lookup
      (call_meets F.slot_int_rmul (typeIs_int s 1 t) F.entry_int_rmul (F.args_int_rmul_2 _ _) (int_rmul_tuple 1 t l its.toArray n dd sl)
        ⟨ho, rfl, ⟨_, ho, rfl⟩, call_meets F.slot_tuple_mul ⟨_, ho, rfl⟩ F.entry_tuple_mul (F.args_tuple_mul_2 _ _) (tuple_mul1 l its.toArray n dd sl t) ⟨ho, ?_⟩⟩)
    exact ⟨.ref l, H, I.tok _, rfl, q1 rfl⟩
  · exact op_repT pins s σ H _ _ v u Q I rx ry ⟨l, k, xs, rfl, rfl, hT, hne, by omega, h2, hz, q⟩
end Fm
/-! A set of tuples of ints: one put in; the comprehension of two clauses that makes it. -/
namespace Fm
open PySem PySem.Spec PyProof.Rows L2 PySem.W
section
variable {P : Program} {w : World} {A : Around} {E : Value → Shared → Prop} {s : Shared}
/-- add, seen from the heap -/
theorem add_raw {a x : Addr} {L : List (Addr × List Int)} {k : List Int} {es : Array (Int × Value)} {ep : Nat} {t : SetTable} {Q : Value → Shared → Prop} (R : SetTR P w s.heap a L es ep t) (hx : IsT P w s.heap k x) (hu : A.units + 2 < cLine) (few : L.length + 1 < 64)
    (q : ∀ h' L' es' ep' t' tk, Heap.SameBut a s.heap h' → SetTR P w h' a L' es' ep' t' → (k ∈ L.map (·.2) → L' = L) → (k ∉ L.map (·.2) → L'.Perm ((x, k) :: L)) → Q .none { s with heap := h', toks := tk }) :
    wpAny (model P w) A (call (.builtin "set.add") [.ref a, .ref x]) Q E s := by
  obtain ⟨o, ho, hex, hd⟩ := R.ob
  refine wpAny_call_entry F.slot_set_add (⟨o, ho, hex.1⟩ : s.TypeIs (.ref a) "set") F.entry_set_add ?_ (F.args_set_add_2 _ _)
  unfold Builtin.«set.add» Builtin.Frozenset.oneOther Builtin.Frozenset.addrOf setAdd
  simp only [List.isEmpty_nil, bind_assoc]
  refine wpAny_bind (wpAny_pure ?_)
  try dsimp only
  refine wpAny_bind (wpAny_pure ?_)
  try dsimp only
  refine wpAny_bind (wpAny_holding (wpAny_bind (wpAny_pyHash_tuple (A := A.in1) (by show A.units + 1 < cLine; omega) hx ?_)))
  have R' : SetTR P w ({ s with toks := s.toks + (k.length + 1) } : Shared).heap a L es ep t := R
  refine add_at (s := { s with toks := s.toks + (k.length + 1) }) R' hx (by show A.units + 1 < cLine; omega) few fun b h' L' es' ep' t' sb R2 c1 c2 => ?_
  show wpAny _ _ (ret Value.none) _ _ _
  exact wpAny_pure ⟨_, rfl, q h' L' es' ep' t' _ sb R2 c1 c2⟩
end
section
variable {X : Cx} {K : PySem.W.Frag} {P : Program} {w : World} {pins : List (Addr × Obj)} {σ : L2.St} {H : Hp} {s : Shared}
/-- the tuples of L are there -/
def TupsAt (K : PySem.W.Frag) (H : Hp) (L : List (Addr × List Int)) : Prop := ∀ p ∈ L, SqT K H p.1 (p.2.map V.int)
/-- L' is L with (b, k) put in -/
def PutIn (L : List (Addr × List Int)) (b : Addr) (k : List Int) (L' : List (Addr × List Int)) : Prop := (k ∈ L.map (·.2) → L' = L) ∧ (k ∉ L.map (·.2) → L'.Perm ((b, k) :: L))
theorem add_inv {A : Around} {E : Value → Shared → Prop} {D b : Addr} {k : List Int} {L : List (Addr × List Int)} {Q : Value → Shared → Prop} (I : Inv X pins σ H s) (hD : H D = some (SetTO X.prog X.w D L)) (hL : TupsAt X.K H L) (hb : SqT X.K H b (k.map V.int))
    (hu : A.units + 2 < cLine) (few : L.length + 1 < 64) (q : ∀ L' s', PutIn L b k L' → Inv X pins σ (upd H D (SetTO X.prog X.w D L')) s' → Q .none s') :
    wpAny (model X.prog X.w) A (call (.builtin "set.add") [.ref D, .ref b]) Q E s := by
  have R0 : SetT0 X.prog X.w s.heap D L := (I.hok D _ hD).1
  obtain ⟨es, ep, t, R⟩ := R0.full fun p hp => I.isT (hL p hp)
  refine add_raw R (I.isT hb) hu few fun h' L' es' ep' t' tk sb R2 c1 c2 => q L' _ ⟨c1, c2⟩ ?_
  have he : ∃ u, h'.get? D = some u := by
    obtain ⟨o, ho, _⟩ := R2.ob
    exact ⟨o, ho⟩
  exact I.write (e := D) (t' := tk) (by rw [hD]; trivial) (.inl rfl) (fun c u hc hu => (sb.2 c hc).trans hu) he (setTO_new R2.t0)
def rSAddT (K : PySem.W.Frag) (P : Program) (w : World) : V → List V → Hp → VK → Prop := fun x xs H Q => ∃ (a b : Addr) (k : List Int) (L : List (Addr × List Int)), x = V.ref a ∧ xs = [V.ref b] ∧ H a = some (SetTO P w a L) ∧ TupsAt K H L ∧ SqT K H b (k.map V.int) ∧ L.length + 1 < 64 ∧
  ∀ L', PutIn L b k L' → Q .non (upd H a (SetTO P w a L'))
theorem mt_saddT (hu : X.A.units + 64 < cLine) (eK : X.K = K := by rfl) (eP : X.prog = P := by rfl) (ew : X.w = w := by rfl) : MtR X "set.add" (rSAddT K P w) := by
  subst eK eP ew
  intro pins s σ H x xs v us Q I rx rxs h
  obtain ⟨a, b, k, L, rfl, rfl, ha, hL, hb, few, q⟩ := h
  cases rx
  rw [Vals.ref1 rxs]
  exact add_inv I ha hL hb (by show X.A.units + 2 < cLine; omega) few fun L' s' p I' => ⟨.non, _, I', rfl, q L' p⟩
def tSAddT (K : PySem.W.Frag) (P : Program) (w : World) (to : TE) (t : TA) : TE := fun σ H Q => to σ H fun x H1 => (∃ a L, x = V.ref a ∧ H1 a = some (SetTO P w a L)) ∧ t σ H1 fun xs H2 => rSAddT K P w x xs H2 Q
theorem pe_saddT {K : PySem.W.Frag} {P : Program} {w : World} {o e : Expr} {to : TE} {t : TA} {apos cpos : Pos} (hu : X.A.units + 64 < cLine) (ho : PE X o to) (ha : PA X [e] t)
    (b1 : attributeBase o "add" X.env (eval o X.env) = eval o X.env := by rfl)
    (b2 : ((backTo cpos (starEach [e] X.env)).all (fun x => !x.1) && (backToKw cpos (keywordEach [] X.env)).all (fun x => x.1.isSome) && decide (([e] : List Expr).length + ([] : List Keyword).length + (if ([] : List Keyword).isEmpty then 0 else 1) < 30)) = true := by rfl)
    (b3 : (apos.endLine == cpos.line) = true := by rfl) (b4 : starEach [e] X.env = [(false, eval e X.env)] := by rfl) (eK : X.K = K := by rfl) (eP : X.prog = P := by rfl) (ew : X.w = w := by rfl) :
    PE X (.Call (.Attribute o "add" apos) [e] [] cpos) (tSAddT K P w to t) := by
  subst eK eP ew
  refine ⟨fun pins s σ H Q I h => ?_⟩
  refine wpAny_Call_method_late b1 b2 b3 rfl (thn (ho.run pins s σ H _ I h) fun v s1 ⟨x, H1, I1, r1, ty, q1⟩ => ?_)
  obtain ⟨a, L, rfl, hka⟩ := ty
  cases r1
  have R0 : SetT0 X.prog X.w s1.heap a L := (I1.hok a _ hka).1
  obtain ⟨es, ep, t, ⟨ob, h1, h2, h3⟩, _⟩ := R0.ex
  refine ⟨"set", "set.add", F.plainAttrs_set, F.slot_set_add, F.type_set_add, ⟨ob, h1, h2.1⟩, fun c e => (by cases e; exact ⟨ob, h1, h2.2.1⟩), ?_⟩
  have hA := ha.run cpos pins s1 σ H1 _ I1 q1
  rw [b4] at hA ⊢
  refine Calls.callWith_builtin rfl (Calls.evalArgs_plain (thn hA fun us s2 ⟨vs, H2, I2, r2, q2⟩ => (mt_saddT hu) pins s2 σ H2 (.ref a) vs (.ref a) us Q I2 rfl r2 q2))
end
end Fm
/-! The comprehension of two clauses, without tests, that makes a set of tuples of ints. -/
namespace Fm
open PySem PySem.Spec PyProof.Rows L2 PySem.W
/-- {el for ta in ea for tb in eb} -/
abbrev sc2 (el ta ea tb eb : Expr) (sc : Scope) (ps : Pos) : Expr := .SetComp el [⟨ta, ea, [], 0⟩, ⟨tb, eb, [], 0⟩] sc ps
theorem turn_outer (el ta ea tb eb : Expr) (sc : Scope) (ps : Pos) (it D : Value) (ev : Env) : compTurn (sc2 el ta ea tb eb sc ps) 0 it D ev = (do
      standAt ea.pos
      match ← pyNext it with
      | none => pure (.done .next)
      | some got =>
        letOwnedTupleGo ta it got
        assign ta ev got
        let mut good := true
        for f in ([] : List Expr) do
          if good then good ← isTrue f ev (eval f ev)
        if good then
          let y ← eval eb ev
          standAt eb.pos
          let y ← foldedSetIterable eb ev y
          let _ ← runOwn (.compStart (sc2 el ta ea tb eb sc ps) 1 (← holding [y] (pyIter y)) D ev) ev
        again (.compLoop (sc2 el ta ea tb eb sc ps) 0 it D ev)) := by rfl
theorem turn_inner (el ta ea tb eb : Expr) (sc : Scope) (ps : Pos) (it D : Value) (ev : Env) : compTurn (sc2 el ta ea tb eb sc ps) 1 it D ev = (do
      standAt eb.pos
      match ← pyNext it with
      | none => pure (.done .next)
      | some got =>
        letOwnedTupleGo tb it got
        assign tb ev got
        let mut good := true
        for f in ([] : List Expr) do
          if good then good ← isTrue f ev (eval f ev)
        if good then
          (do let y ← eval el ev; standAt el.pos; let _ ← call (.builtin "set.add") [D, y])
        again (.compLoop (sc2 el ta ea tb eb sc ps) 1 it D ev)) := by rfl
section
variable {P : Program} {w : World} {A : Around} {R : Result → Shared → Prop} {s : Shared} {el ta ea tb eb : Expr} {sc : Scope} {ps : Pos} {it D : Value} {ev : Env}
theorem loop_outer (hf : ∀ y, foldedSetIterable eb ev y = pure y) (J : Nat → Shared → Prop)
    (step : ∀ m u, J m u → wpAny (model P w) A (pyNext it) (fun r u1 => match r with
      | none => R (.ok .next) u1
      | some got => wpAny (model P w) A (letOwnedTupleGo ta it got) (fun _ u2 => wpAny (model P w) A (assign ta ev got) (fun _ u3 => wpAny (model P w) A (eval eb ev) (fun y u4 => wpAny (model P w) A (pyIter y) (fun jt u5 =>
          codeAny (model P w) A (.compStart (sc2 el ta ea tb eb sc ps) 1 jt D ev) (fun r u6 => match r with
            | .ok _ => ∃ m', m' < m ∧ J m' u6
            | .error _ => False) u5) (notedBy (model P w) A ev fun x u => R (.error x) u) u4) (notedBy (model P w) A ev fun x u => R (.error x) u) u3) (notedBy (model P w) A ev fun x u => R (.error x) u) u2)
          (notedBy (model P w) A ev fun x u => R (.error x) u) u1) (notedBy (model P w) A ev fun x u => R (.error x) u) u)
    (m : Nat) (h : J m s) : codeAny (model P w) A (.compLoop (sc2 el ta ea tb eb sc ps) 0 it D ev) R s := by
  refine codeAny_loop rfl J (fun m u hJ => ?_) m h
  show wpAny _ A ((compTurn (sc2 el ta ea tb eb sc ps) 0 it D ev).onRaise (fun x => do noteFrame x ev; theTreesLotGoes x)) _ _ u
  refine wpAny_noted ?_
  rw [turn_outer]
  refine wpAny_bind (wpAny_standAt (wpAny_bind (wpAny_mono (step m u hJ) (fun r u1 h1 => ?_) fun _ _ z => z)))
  cases r with
  | none => exact wpAny_pure h1
  | some got =>
    refine wpAny_bind (wpAny_mono h1 (fun _ u2 h2 => wpAny_bind (wpAny_mono h2 (fun _ u3 h3 => ?_) fun _ _ z => z)) fun _ _ z => z)
    refine wpAny_bind (wpAny_pure ?_)
    refine wpAny_bind (wpAny_mono h3 (fun y u4 h4 => ?_) fun _ _ z => z)
    refine wpAny_bind (wpAny_standAt (wpAny_bind (wpAny_of_eq (hf y) (wpAny_bind (wpAny_holding (wpAny_mono h4 (fun jt u5 h5 => ?_) fun _ _ z => z))))))
    refine wpAny_bind (wpAny_runOwn ?_)
    rw [Around.mark_none]
    refine codeAny_mono h5 fun r u6 hres => ?_
    cases r with
    | ok f =>
      first
        | exact wpAny_pure ⟨rfl, hres⟩
        | exact wpAny_bind (wpAny_pure (wpAny_pure ⟨rfl, hres⟩))
    | error x => exact hres.elim
theorem loop_inner (J : Nat → Shared → Prop)
    (step : ∀ m u, J m u → wpAny (model P w) A (pyNext it) (fun r u1 => match r with
      | none => R (.ok .next) u1
      | some got => wpAny (model P w) A (letOwnedTupleGo tb it got) (fun _ u2 => wpAny (model P w) A (assign tb ev got) (fun _ u3 => wpAny (model P w) A (eval el ev) (fun y u4 =>
          wpAny (model P w) A (call (.builtin "set.add") [D, y]) (fun _ u5 => ∃ m', m' < m ∧ J m' u5) (notedBy (model P w) A ev fun x u => R (.error x) u) u4) (notedBy (model P w) A ev fun x u => R (.error x) u) u3)
          (notedBy (model P w) A ev fun x u => R (.error x) u) u2) (notedBy (model P w) A ev fun x u => R (.error x) u) u1) (notedBy (model P w) A ev fun x u => R (.error x) u) u)
    (m : Nat) (h : J m s) : codeAny (model P w) A (.compLoop (sc2 el ta ea tb eb sc ps) 1 it D ev) R s := by
  refine codeAny_loop rfl J (fun m u hJ => ?_) m h
  show wpAny _ A ((compTurn (sc2 el ta ea tb eb sc ps) 1 it D ev).onRaise (fun x => do noteFrame x ev; theTreesLotGoes x)) _ _ u
  refine wpAny_noted ?_
  rw [turn_inner]
  refine wpAny_bind (wpAny_standAt (wpAny_bind (wpAny_mono (step m u hJ) (fun r u1 h1 => ?_) fun _ _ z => z)))
  cases r with
  | none => exact wpAny_pure h1
  | some got =>
    refine wpAny_bind (wpAny_mono h1 (fun _ u2 h2 => wpAny_bind (wpAny_mono h2 (fun _ u3 h3 => ?_) fun _ _ z => z)) fun _ _ z => z)
    refine wpAny_bind (wpAny_pure ?_)
    exact wpAny_bind (wpAny_bind (wpAny_mono h3 (fun y u4 h4 => wpAny_bind (wpAny_standAt (wpAny_bind (wpAny_mono h4 (fun _ u5 h5 => wpAny_pure (wpAny_pure ⟨rfl, h5⟩)) fun _ _ z => z)))) fun _ _ z => z))
theorem start_inner (hz : codeAny (model P w) A (.compLoop (sc2 el ta ea tb eb sc ps) 1 it D ev) R s)
    (h : wpAny (model P w) A (pyIter it) (fun jt u => codeAny (model P w) A (.compLoop (sc2 el ta ea tb eb sc ps) 1 jt D ev) R u) (notedBy (model P w) A ev fun x u => R (.error x) u) s) :
    codeAny (model P w) A (.compStart (sc2 el ta ea tb eb sc ps) 1 it D ev) R s := by
  refine codeAny_of_tree ?_
  show wpAny _ _ ((compStart (sc2 el ta ea tb eb sc ps) 1 it D ev).onRaise (fun x => do noteFrame x ev; standAt theWindowsPlace)) _ _ s
  refine wpAny_notedAt ?_
  unfold compStart
  show wpAny _ _ (ask >>= _) _ _ s
  refine wpAny_bind (wpAny_askSetting (wpAny_ite ?_))
  split
  · first
      | exact wpAny_bind (wpAny_pure (wpAny_pure ⟨rfl, hz⟩))
      | exact wpAny_pure ⟨rfl, hz⟩
  · refine wpAny_bind (wpAny_rule ?_)
    show wpAny _ _ (standAt eb.pos >>= _) _ _ s
    exact wpAny_bind (wpAny_standAt (wpAny_bind (wpAny_mono h (fun jt u hn => wpAny_pure (And.intro rfl hn)) fun _ _ z => z)))
end
end Fm
namespace Fm
open PySem PySem.Spec PyProof.Rows L2 PySem.W
section
variable {X : Cx} {K : PySem.W.Frag} {P : Program} {w : World}
/-- the set's making: the outer source's loop by W, the inner one's by V -/
def tSc2 (K : PySem.W.Frag) (P : Program) (w : World) (wa : TI) (ga : TG) (wb : TI) (gb : TG) (te : TE) (vs vs1 : List Nat) : TE := fun σ H Q => wa σ H fun J H1 => ∀ D, H1 D = none → ∃ W : Nat → Nat → Hp → Prop, (∃ m, W 0 m (upd H1 D (SetTO P w D []))) ∧ ∀ i m H, W i m H →
  (J.stop i H ∧ Q (.ref D) H) ∨ (J.go i H ∧ ∃ Nx : Hp → Prop, (∀ H', Nx H' → ∃ m', m' < m ∧ W (i + 1) m' H') ∧ ∀ x H', J.yld i H x H' → ga x (wipe σ vs) H' fun σ2 H2 => wipe σ2 vs = wipe σ vs ∧ wb σ2 H2 fun J1 H4 => ∃ Wb : Nat → Nat → Hp → Prop, (∃ m, Wb 0 m H4) ∧ ∀ j k H, Wb j k H →
    (J1.stop j H ∧ Nx H) ∨ (J1.go j H ∧ ∃ Ny : Hp → Prop, (∀ H', Ny H' → ∃ k', k' < k ∧ Wb (j + 1) k' H') ∧ ∀ x H', J1.yld j H x H' → gb x (wipe σ2 vs1) H' fun σ3 H5 => wipe σ3 vs1 = wipe σ2 vs1 ∧ te σ3 H5 fun y H7 =>
      ∃ (b : Addr) (q : List Int) (L : List (Addr × List Int)), y = .ref b ∧ SqT K H7 b (q.map V.int) ∧ H7 D = some (SetTO P w D L) ∧ TupsAt K H7 L ∧ L.length + 1 < 64 ∧ ∀ L', PutIn L b q L' → Ny (upd H7 D (SetTO P w D L'))))
theorem sc2_all {pins : List (Addr × Obj)} {s : Shared} {σ : L2.St} {H : Hp} {Q : VK} {el ta ea tb eb : Expr} {sc : Scope} {own : List (Str × Nat)} {vs1 : List Nat} {ps qs : Pos} {wa wb : TI} {ga gb : TG} {te : TE} {use : Option (Value → Sem Unit)} {Qf : Value → Shared → Prop}
    (hc : X.calm = true) (hu : X.A.units + 64 < cLine) (hN : X.N.Nodup) (I : Inv X pins σ H s) (pa : PI X ta ea wa) (ok : BlkOk X.N X.env.scope sc own) (hv : ∀ i ∈ vs1, i ∈ own.map (·.2))
    (pga : ∀ (s : Shared) (H : Hp) (C : Addr) (cl : List (Str × Addr)) (fp : List Addr), PG (X.blk s H sc (compEnvC sc cl C X.env) fp) ta ga)
    (pe : ∀ (s : Shared) (H : Hp) (C : Addr) (cl : List (Str × Addr)) (fp : List Addr), PE (X.blk s H sc (compEnvC sc cl C X.env) fp) el te)
    (pb : ∀ (s : Shared) (H : Hp) (C : Addr) (cl : List (Str × Addr)) (fp : List Addr), PI (X.blk s H sc (compEnvC sc cl C X.env) fp) tb eb wb)
    (pgb : ∀ (s : Shared) (H : Hp) (C : Addr) (cl : List (Str × Addr)) (fp : List Addr), PG (X.blk s H sc (compEnvC sc cl C X.env) fp) tb gb)
    (fa : ∀ x, foldedSetIterable ea X.env x = pure x) (fb : ∀ ev x, foldedSetIterable eb ev x = pure x) (eK : X.K = K) (eP : X.prog = P) (ew : X.w = w)
    (h : tSc2 K P w wa ga wb gb te (own.map (·.2)) vs1 σ H Q)
    (post : ∀ D C u m H', Inv X pins σ H' u → Q (.ref D) H' → u.heap.Ns C m → FpOk X pins H' C → compPost (model X.prog X.w) X.A X.xe use Qf (.ref D) C (.ok .next) u) :
    wpAny (model X.prog X.w) X.A (comprehension (sc2 el ta ea tb eb sc ps) sc X.env qs (newSet (.type "set")) false (eval ea X.env) use) Qf X.xe s := by
  subst eK eP ew
  have hfree : ∀ y ∈ sc.names, y.2 = .free → ∃ c, X.env.cells.lookup y.1 = some c := fun y hy e => (ok.free y hy e).elim (fun z => I.ok.has _ (.inl z)) fun z => I.ok.has _ (.inr z)
  refine wpAny_comprehension_free (use := use) rfl fa (closure_ok hfree) ok.kind (fun y hy e => by rw [ok.uniq y hy, e]) (thn (pa.run pins s σ H _ I h) fun xv s1 hx => thn hx fun itv s2 h2 => ?_)
  obtain ⟨it, fp, tn, J, H2, e, I2, T, st2, f2, q⟩ := h2
  subst e
  refine wpAny_newSet_raw fun led hled => newEnv_comp ?_
  subst hled
  generalize hD : s2.heap.objs.size = D
  have hDn : H2 D = none := I2.hok.fresh (Nat.le_of_eq hD)
  obtain ⟨W, ⟨m0, w0⟩, turn⟩ := q D hDn
  generalize hob : ({ cls := .type "set", dict := none, data := .set #[] 0 (.fresh 0 0 (!X.w.params.followText "set-order")) } : Obj) = ob
  generalize hs3 : ({ s2 with heap := s2.heap.push ob } : Shared) = s3
  have h3 : s3.heap = s2.heap.push ob := by rw [← hs3]
  have gD : s3.heap.get? D = some ob := by
    rw [h3, ← hD]
    exact Heap.get?_push_size _ (by rw [← hob] <;> rfl)
  have old3 : ∀ b o, s2.heap.get? b = some o → s3.heap.get? b = some o := fun b o z => by
    rw [h3]
    exact Heap.get?_push_of_some _ z
  have I3 : Inv X pins σ (upd H2 D (SetTO X.prog X.w D [])) s3 := by
    have t0 : SetT0 X.prog X.w s3.heap D [] := (setTR_fresh (P := X.prog) (w := X.w) (by rw [gD, ← hob])).t0
    have := I2.laid (a := D) (o := SetTO X.prog X.w D []) (h' := s3.heap) (t' := s2.toks) old3 (Nat.le_of_eq hD) (setTO_new t0)
    rw [← hs3] at this ⊢
    exact this
  have lo : ∀ b ∈ fp, b < s2.heap.objs.size := fun b hb => by
    obtain ⟨o, z, _⟩ := T.obj _ _ st2 b hb
    exact Heap.lt_size z
  have f3 : ∀ b ∈ fp, FpOk X pins (upd H2 D (SetTO X.prog X.w D [])) b ∧ b < s3.heap.objs.size := fun b hb => by
    have l := lo b hb
    have ne : b ≠ D := by
      rw [← hD]
      exact Nat.ne_of_lt l
    exact ⟨⟨by rw [upd_ne ne]; exact (f2 b hb).1, (f2 b hb).2⟩, by rw [h3, Heap.size_push]; exact Nat.lt_succ_of_lt l⟩
  have st3 : tn 0 s3.heap := T.keep _ _ _ st2 fun b _ o z => old3 b o z
  have I4 := block_start I3 ok hN f3
  generalize hH3 : upd H2 D (SetTO X.prog X.w D []) = H3 at I3 I4 f3 w0
  generalize hcl : cellsFrom (s3.heap.objs.size + 1) sc.names (cloFrom X.env.cells sc.names []) = cl at I4
  have gA := pga s3 H3 s3.heap.objs.size cl fp
  have gE := pe s3 H3 s3.heap.objs.size cl fp
  have gI := pb s3 H3 s3.heap.objs.size cl fp
  have gB := pgb s3 H3 s3.heap.objs.size cl fp
  show codeAny _ _ (.compStart (sc2 el ta ea tb eb sc ps) 0 (.ref it) (.ref D) (compEnvC sc cl s3.heap.objs.size X.env)) (compPost (model X.prog X.w) X.A X.xe use Qf (.ref D) s3.heap.objs.size) { s3 with heap := pushCells (s3.heap.push { cls := .type "dict", data := .dict #[] }) sc.names }
  generalize hce : compEnvC sc cl s3.heap.objs.size X.env = ce at I4 gA gE gI gB ⊢
  have cL : ce.locals = s3.heap.objs.size := by subst hce; rfl
  generalize hs4 : ({ s3 with heap := pushCells (s3.heap.push { cls := .type "dict", data := .dict #[] }) sc.names } : Shared) = s4 at I4 ⊢
  have st4 : tn 0 s4.heap := T.keep _ _ _ st3 fun b _ o z => by rw [← hs4]; exact pushCells_keeps _ _ _ _ (Heap.get?_push_of_some _ z)
  have nfp : ∀ b ∈ fp, H3 b = none := fun b hb => (f3 b hb).1.1
  have stand : ∀ {τ : L2.St} {G : Hp} {u : Shared}, Inv (X.blk s3 H3 sc ce fp) [] τ G u → (∀ b ∈ fp, G b = none) → ∀ b ∈ fp, FpOk (X.blk s3 H3 sc ce fp) [] G b := fun I' hn b hb =>
    ⟨hn b hb, (I'.ok.exf b hb).1, I'.ok.exfs b hb, .inl hb, fun x c z => (I'.ok.exf b hb).2 x c z, fun p hp => absurd (show p ∈ ([] : List (Addr × Obj)) ++ [] from hp) (by simp)⟩
  have loop : codeAny (model X.prog X.w) X.A (.compLoop (sc2 el ta ea tb eb sc ps) 0 (.ref it) (.ref D) ce) (compPost (model X.prog X.w) X.A X.xe use Qf (.ref D) s3.heap.objs.size) s4 := by
    refine loop_outer (fb ce) (fun m u => ∃ i G, Inv (X.blk s3 H3 sc ce fp) [] (wipe σ (own.map (·.2))) G u ∧ tn i u.heap ∧ (∀ b ∈ fp, G b = none) ∧ W i m G) ?_ m0 ⟨0, H3, I4, st4, nfp, w0⟩
    rintro m u5 ⟨i, G5, I5, st5, n5, w5⟩
    rcases turn i m G5 w5 with ⟨stop, qq⟩ | ⟨go, Nx, hNx, step⟩
    · refine thnF (T.done (X.blk s3 H3 sc ce fp) rfl rfl rfl hc i [] u5 _ G5 (fun _ _ => False) I5 (stand I5 n5) st5 stop) fun r u6 ⟨hr, I6⟩ => ?_
      subst hr
      have I7 : Inv X pins σ G5 u6 := I3.call' (ch := fp) I6.os I6.base I6.hok I6.bare fun b hb => ⟨(f3 b hb).1.2.2.2.1, (f3 b hb).1.2.1, (f3 b hb).1.2.2.2.2.1, (f3 b hb).1.2.2.2.2.2⟩
      have nC : G5 ce.locals = none := I6.free
      obtain ⟨mm, hn, _⟩ := I6.loc
      have hn : u6.heap.Ns ce.locals mm := hn
      rw [cL] at hn nC
      exact post D s3.heap.objs.size u6 mm G5 I7 qq hn (I3.fpOk (Nat.le_refl _) nC)
    · refine thnF (T.item (X.blk s3 H3 sc ce fp) rfl rfl rfl hc i [] u5 _ G5 (fun _ _ => False) I5 (stand I5 n5) st5 go) fun r u6 ⟨got, hr, h6⟩ => ?_
      subst hr
      refine thnF h6 fun _ u7 ⟨x, G7, I7, r7, y7, st7, n7⟩ => ?_
      have I7' := I7.pinned (stand I7 n7) (T.obj _ _ st7)
      refine thnF (gA.run _ u7 _ G7 x got _ I7' r7 (step x G7 y7)) fun _ u8 ⟨σ8, G8, I8, hw8, q8⟩ => ?_
      have fin : ∀ {τ : L2.St} {u : Shared} {G : Hp}, Inv (X.blk s3 H3 sc ce fp) ([] ++ pinsAt fp u7.heap) τ G u → (wipe σ (own.map (·.2))).length = τ.length → (∀ (j : Nat) v, (wipe σ (own.map (·.2)))[j]? = some (some v) → τ[j]? = some (some v)) → Nx G →
          ∃ m', m' < m ∧ ∃ i G, Inv (X.blk s3 H3 sc ce fp) [] (wipe σ (own.map (·.2))) G u ∧ tn i u.heap ∧ (∀ b ∈ fp, G b = none) ∧ W i m' G := fun {τ u G} I' hl hk nx => by
        obtain ⟨m', hm, w'⟩ := hNx G nx
        have pin' : ∀ b ∈ fp, ∀ o, u7.heap.get? b = some o → u.heap.get? b = some o ∧ G b = none := fun b hb o z =>
          have zz := I'.pin (b, o) (List.mem_append_right _ (List.mem_append_right _ (mem_pinsAt hb z)))
          ⟨zz.1, zz.2.1⟩
        refine ⟨m', hm, i + 1, G, (I'.unpinned (pins := [])).weak hl hk, T.keep _ _ _ st7 fun b hb o z => (pin' b hb o z).1, fun b hb => ?_, w'⟩
        obtain ⟨o, z, _⟩ := T.obj _ _ st7 b hb
        exact (pin' b hb o z).2
      have l8 : (wipe σ (own.map (·.2))).length = σ8.length := by rw [← hw8, wipe_length]
      have k8 : ∀ (j : Nat) v, (wipe σ (own.map (·.2)))[j]? = some (some v) → (wipe σ8 vs1)[j]? = some (some v) := fun j v z => by
        rw [← hw8] at z
        obtain ⟨z1, z2⟩ := wipe_some z
        rw [wipe_out fun zz => z2 (hv j zz)]
        exact z1
      refine thnF (gI.run _ u8 σ8 G8 _ I8 q8) fun xv u10 hx => thnF hx fun itv u11 h11 => ?_
      obtain ⟨it1, fp1, tn1, J1, G11, e1, I11, T1, st11, f11, Wb, ⟨k0, v0⟩, turn1⟩ := h11
      subst e1
      have stand1 : ∀ {G : Hp}, (∀ b ∈ fp1, G b = none) → ∀ b ∈ fp1, FpOk (X.blk s3 H3 sc ce fp) ([] ++ pinsAt fp u7.heap) G b := fun hn b hb => ⟨hn b hb, (f11 b hb).2⟩
      have loop1 : codeAny (model X.prog X.w) X.A (.compLoop (sc2 el ta ea tb eb sc ps) 1 (.ref it1) (.ref D) ce)
          (fun r u => match r with
            | .ok _ => ∃ m', m' < m ∧ ∃ i G, Inv (X.blk s3 H3 sc ce fp) [] (wipe σ (own.map (·.2))) G u ∧ tn i u.heap ∧ (∀ b ∈ fp, G b = none) ∧ W i m' G
            | .error _ => False) u11 := by
        refine loop_inner (fun k u => ∃ j G, Inv (X.blk s3 H3 sc ce fp) ([] ++ pinsAt fp u7.heap) (wipe σ8 vs1) G u ∧ tn1 j u.heap ∧ (∀ b ∈ fp1, G b = none) ∧ Wb j k G) ?_ k0 ⟨0, G11, I11.weak (wipe_length _ _) (fun j v z => (wipe_some z).1), st11, fun b hb => (f11 b hb).1, v0⟩
        rintro k u12 ⟨j, G12, I12, st12, n12, w12⟩
        rcases turn1 j k G12 w12 with ⟨stop1, nx1⟩ | ⟨go1, Ny, hNy, step1⟩
        · refine thnF (T1.done (X.blk s3 H3 sc ce fp) rfl rfl rfl hc j _ u12 (wipe σ8 vs1) G12 (fun _ _ => False) I12 (stand1 n12) st12 stop1) fun r u13 ⟨hr, I13⟩ => ?_
          subst hr
          exact fin I13 (l8.trans (wipe_length σ8 vs1).symm) k8 nx1
        · refine thnF (T1.item (X.blk s3 H3 sc ce fp) rfl rfl rfl hc j _ u12 (wipe σ8 vs1) G12 (fun _ _ => False) I12 (stand1 n12) st12 go1) fun r u13 ⟨got1, hr, h13⟩ => ?_
          subst hr
          refine thnF h13 fun _ u14 ⟨x1, G14, I14, r14, y14, st14, n14⟩ => ?_
          have I14' := I14.pinned (stand1 n14) (T1.obj _ _ st14)
          refine thnF (gB.run _ u14 (wipe σ8 vs1) G14 x1 got1 _ I14' r14 (step1 x1 G14 y14)) fun _ u15 ⟨σ15, G15, I15, hw15, q15⟩ => ?_
          have fin1 : ∀ {u : Shared} {G : Hp}, Inv (X.blk s3 H3 sc ce fp) (([] ++ pinsAt fp u7.heap) ++ pinsAt fp1 u14.heap) σ15 G u → Ny G → ∃ k', k' < k ∧ ∃ j G, Inv (X.blk s3 H3 sc ce fp) ([] ++ pinsAt fp u7.heap) (wipe σ8 vs1) G u ∧ tn1 j u.heap ∧ (∀ b ∈ fp1, G b = none) ∧ Wb j k' G := fun {u G} I' nx => by
            obtain ⟨k', hk', w'⟩ := hNy G nx
            have pin' : ∀ b ∈ fp1, ∀ o, u14.heap.get? b = some o → u.heap.get? b = some o ∧ G b = none := fun b hb o z =>
              have zz := I'.pin (b, o) (List.mem_append_right _ (List.mem_append_right _ (mem_pinsAt hb z)))
              ⟨zz.1, zz.2.1⟩
            refine ⟨k', hk', j + 1, G, I'.unpinned.weak (by rw [← hw15, wipe_length]) (fun j v z => by rw [← hw15] at z; exact (wipe_some z).1), T1.keep _ _ _ st14 fun b hb o z => (pin' b hb o z).1, fun b hb => ?_, w'⟩
            obtain ⟨o, z, _⟩ := T1.obj _ _ st14 b hb
            exact (pin' b hb o z).2
          refine thnF (gE.run _ u15 σ15 G15 _ I15 q15) fun z u17 ⟨yv, G17, I17, r17, b, kk, L, ey, hb, hDL, hL, few, nx⟩ => ?_
          subst ey
          cases r17
          exact add_inv (X := X.blk s3 H3 sc ce fp) I17 hDL hL hb (by show X.A.units + 2 < cLine; omega) few fun L' u18 p I18 => fin1 I18 (nx L' p)
      exact start_inner loop1 (T1.self X.A 0 _ _ _ st11 loop1)
  exact codeAny_compStart_set loop (T.self X.A 0 _ _ _ st4 loop)
theorem pe_sc2 {el ta ea tb eb : Expr} {sc : Scope} {own : List (Str × Nat)} {vs1 : List Nat} {ps : Pos} {wa wb : TI} {ga gb : TG} {te : TE} (hc : X.calm = true) (hu : X.A.units + 64 < cLine) (hN : X.N.Nodup) (pa : PI X ta ea wa) (ok : BlkOk X.N X.env.scope sc own) (hv : ∀ i ∈ vs1, i ∈ own.map (·.2))
    (pga : ∀ (s : Shared) (H : Hp) (C : Addr) (cl : List (Str × Addr)) (fp : List Addr), PG (X.blk s H sc (compEnvC sc cl C X.env) fp) ta ga)
    (pb : ∀ (s : Shared) (H : Hp) (C : Addr) (cl : List (Str × Addr)) (fp : List Addr), PI (X.blk s H sc (compEnvC sc cl C X.env) fp) tb eb wb)
    (pgb : ∀ (s : Shared) (H : Hp) (C : Addr) (cl : List (Str × Addr)) (fp : List Addr), PG (X.blk s H sc (compEnvC sc cl C X.env) fp) tb gb)
    (pe : ∀ (s : Shared) (H : Hp) (C : Addr) (cl : List (Str × Addr)) (fp : List Addr), PE (X.blk s H sc (compEnvC sc cl C X.env) fp) el te)
    (fa : ∀ x, foldedSetIterable ea X.env x = pure x := by intro _; rfl) (fb : ∀ ev x, foldedSetIterable eb ev x = pure x := by intro _ _; rfl) (eK : X.K = K := by rfl) (eP : X.prog = P := by rfl) (ew : X.w = w := by rfl) :
    PE X (sc2 el ta ea tb eb sc ps) (tSc2 K P w wa ga wb gb te (own.map (·.2)) vs1) := by
  refine ⟨fun pins s σ H Q I h => ?_⟩
  rw [arm_eval_SetComp]
  refine sc2_all hc hu hN I pa ok hv pga pe pb pgb fa fb eK eP ew h fun D C u m H' I' q hn f => ⟨m, hn, fun g sb => ?_⟩
  obtain ⟨f0, f1, f2, f3, f4, f5⟩ := f
  exact ⟨.ref D, H', I'.turned (t' := u.toks) (fun b o hb z => (sb.2 b hb).trans z) f0 f1 f3 f4 f5, rfl, q⟩
theorem ps_setSc2 {i : Nat} {y : Str} {py : Pos} {el ta ea tb eb : Expr} {sc : Scope} {own : List (Str × Nat)} {vs1 : List Nat} {ps sp : Pos} {wa wb : TI} {ga gb : TG} {te : TE} (hc : X.calm = true) (hu : X.A.units + 64 < cLine) (hN : X.N.Nodup) (hy : X.N[i]? = some y) (hyl : X.env.scope.names.lookup y = some .local)
    (hsw : swapsWith (sc2 el ta ea tb eb sc ps) (some (.Name y py)) sp.line X.env = pure true) (pa : PI X ta ea wa) (ok : BlkOk X.N X.env.scope sc own) (hv : ∀ i ∈ vs1, i ∈ own.map (·.2))
    (pga : ∀ (s : Shared) (H : Hp) (C : Addr) (cl : List (Str × Addr)) (fp : List Addr), PG (X.blk s H sc (compEnvC sc cl C X.env) fp) ta ga)
    (pb : ∀ (s : Shared) (H : Hp) (C : Addr) (cl : List (Str × Addr)) (fp : List Addr), PI (X.blk s H sc (compEnvC sc cl C X.env) fp) tb eb wb)
    (pgb : ∀ (s : Shared) (H : Hp) (C : Addr) (cl : List (Str × Addr)) (fp : List Addr), PG (X.blk s H sc (compEnvC sc cl C X.env) fp) tb gb)
    (pe : ∀ (s : Shared) (H : Hp) (C : Addr) (cl : List (Str × Addr)) (fp : List Addr), PE (X.blk s H sc (compEnvC sc cl C X.env) fp) el te)
    (fa : ∀ x, foldedSetIterable ea X.env x = pure x := by intro _; rfl) (fb : ∀ ev x, foldedSetIterable eb ev x = pure x := by intro _ _; rfl) (eK : X.K = K := by rfl) (eP : X.prog = P := by rfl) (ew : X.w = w := by rfl) :
    PS X (.Assign [.Name y py] (sc2 el ta ea tb eb sc ps) sp) (tAsg (tSc2 K P w wa ga wb gb te (own.map (·.2)) vs1) (gName i)) := by
  refine ⟨fun pins s σ H D I h => ?_⟩
  rw [exec_Assign_Name_used _ _ _ _ hsw]
  refine wpAny_bind (wpAny_standAt (wpAny_bind ?_))
  show wpAny _ X.A (do let _ ← comprehension (sc2 el ta ea tb eb sc ps) sc X.env (firstIterPos [⟨ta, ea, [], 0⟩, ⟨tb, eb, [], 0⟩] ps) (newSet (.type "set")) false (eval ea X.env) (some (assign (.Name y py) X.env))) _ _ s
  have h : tSc2 K P w wa ga wb gb te (own.map (·.2)) vs1 σ H (fun x H1 => gName i x σ H1 D.nx) := h
  refine wpAny_bind (thn (sc2_all (Qf := fun _ u => SP X pins D .next u) hc hu hN I pa ok hv pga pe pb pgb fa fb eK eP ew h fun L C u m H' I' q hn f => ?_) fun _ u hq => wpAny_pure (wpAny_pure hq))
  show wpAny _ _ (assign (.Name y py) X.env (.ref L)) _ _ _
  refine wpAny_assign_Name (store_ok2 (v := V.ref L) I' hN hy (.inl hyl) rfl (fun s2 I2 ⟨a, sb, ha⟩ => ?_) (.inr hyl))
  obtain ⟨f0, f1, f2, f3, f4, f5⟩ := f
  have haC : C ≠ a := ha.elim (fun z => by rw [z]; exact f1) fun z e => f4 y a z e.symm
  exact ⟨m, hn.sameBut sb haC, fun g sb3 => ⟨_, H', I2.turned (t' := s2.toks) (fun b o hb z => (sb3.2 b hb).trans z) f0 f1 f3 f4 f5, q⟩⟩
end
end Fm
/-! Dicts whose keys are tuples of ints (of any make: SqT): made of a row, displayed, asked, walked, told more, sorted. -/
namespace Fm
open PySem PySem.Spec PyProof.Rows L2 PySem.W
abbrev Ent := List Int × Addr × Value
section
variable {P : Program} {w : World} {h h' : Heap} {a : Addr} {xs : List Ent}
/-- the object at a, its keys' own tuples aside -/
def DRaw (P : Program) (w : World) (h : Heap) (a : Addr) (xs : List Ent) : Prop := (a == sysModules) = false ∧ (xs.map (·.1)).Nodup ∧ ∃ o es ep, h.get? a = some o ∧ o.ExactDict ∧ o.data = .dict es ep ∧ es.toList = xs.map (entryOfKey (TK P w))
def DTO (P : Program) (w : World) (a : Addr) (F : List Ent → Prop) : HO := .ext fun h => ∃ xs, F xs ∧ DRaw P w h a xs
theorem DRaw.full (d : DRaw P w h a xs) (ht : ∀ x ∈ xs, IsT P w h x.1 x.2.1) : h.DictOfH (TK P w) a xs := by
  obtain ⟨_, nd, o, es, ep, h1, h2, h3, h4⟩ := d
  exact ⟨o, es, ep, h1, h2, h3, h4, ht, nd⟩
theorem raw_of (m : h.DictOfH (TK P w) a xs) (hs : (a == sysModules) = false) : DRaw P w h a xs := by
  obtain ⟨o, es, ep, h1, h2, h3, h4, _, nd⟩ := m
  exact ⟨hs, nd, o, es, ep, h1, h2, h3, h4⟩
theorem dto_ok {F : List Ent → Prop} {H : Hp} (hF : F xs) (d : DRaw P w h a xs) : ObjOk P w H h a (DTO P w a F) := by
  have ⟨_, _, o, es, ep, h1, _⟩ := d
  refine ⟨⟨xs, hF, d⟩, ⟨o, h1⟩, fun g1 g2 p k => ?_⟩
  have ⟨ys, hy, hs, nd, o', es', ep', k1, r⟩ := p
  exact ⟨ys, hy, hs, nd, o', es', ep', k _ k1, r⟩
/-- its keys, where they stand -/
def KeyF (L : List (Addr × List Int)) : List Ent → Prop := fun xs => xs.map (fun x => (x.2.1, x.1)) = L
/-- its keys and what they have -/
def ValF (L : List (Addr × List Int × V)) : List Ent → Prop := fun xs => Paired (fun p (x : Ent) => x.2.1 = p.1 ∧ x.1 = p.2.1 ∧ RelV p.2.2 x.2.2) L xs
theorem ValF.keys {L : List (Addr × List Int × V)} {xs : List Ent} (h : ValF L xs) : xs.map (fun x => (x.2.1, x.1)) = L.map fun p => (p.1, p.2.1) := by
  unfold ValF at h
  induction h with
  | nil => rfl
  | cons r _ ih => rw [List.map_cons, List.map_cons, ih, r.1, r.2.1]
theorem ValF.find {L : List (Addr × List Int × V)} {xs : List Ent} (h : ValF L xs) (k : List Int) : RelO ((L.find? fun p => decide (p.2.1 = k)).map (·.2.2)) ((atKey xs k).map (·.2)) := by
  unfold ValF at h
  induction h with
  | nil => exact True.intro
  | @cons p x ps qs r _ ih =>
    obtain ⟨_, r2, r3⟩ := r
    by_cases e : p.2.1 = k
    · have b : atKey (x :: qs) k = some x.2 := by simp [atKey, List.find?_cons, r2, e]
      rw [b, List.find?_cons]
      simp only [e, decide_true, Option.map_some]
      exact r3
    · have b : atKey (x :: qs) k = atKey qs k := by simp [atKey, List.find?_cons, r2, e]
      rw [b, List.find?_cons]
      simp only [e, decide_false]
      exact ih
end
section
variable {X : Cx} {K : PySem.W.Frag} {P : Program} {w : World} {pins : List (Addr × Obj)} {σ : L2.St} {H : Hp} {s : Shared}
theorem Inv.dto {F : List Ent → Prop} {a : Addr} (I : Inv X pins σ H s) (h : Rd H a (DTO X.prog X.w a F)) : ∃ xs, F xs ∧ DRaw X.prog X.w s.heap a xs := (h.ok I.hok).1
/-- tuple(l), the new tuple's object known to have no dict -/
def rTupF (K : PySem.W.Frag) : List V → Hp → VK → Prop := fun xs H Q => ∃ p ys, xs = [.ref p] ∧ SqL K H p ys ∧ ∀ l o, H l = none → o.dict = none → Q (.ref l) (upd H l (.frz o (.tup ys)))
theorem call_tupF (eK : X.K = K := by rfl) : CallR X (.type "tuple") (rTupF K) := by
  subst eK
  intro pins s σ H xs us Q I r h
  obtain ⟨p, ys, rfl, hq, q⟩ := h
  rw [Vals.ref1 r]
  obtain ⟨its, r', pl, hz⟩ := I.list hq
  have hlen := r'.length
  refine call_tuple_list pl.isList (fun h' kp => ?_) (by simp only [List.size_toArray] <;> omega)
  have I1 : Inv X pins σ H { s with heap := h' } := I.kept (t' := s.toks) kp
  refine ⟨.ref h'.objs.size, upd H h'.objs.size (.frz { cls := .type "tuple", data := .seq its.toArray } (.tup ys)), I1.laid (t' := s.toks) (fun b o e => Heap.get?_push_of_some _ e) (Nat.le_refl _) ?_, rfl, q _ _ (I1.hok.fresh (Nat.le_refl _)) rfl⟩
  exact ⟨Heap.get?_push_size _ rfl, hz, its, r', IsTup.new _ _⟩
/-- what a row of pairs holds: the pair's address, the key's, the key, the value -/
abbrev Prs := List (Addr × Addr × List Int × V)
def PrsAt (K : PySem.W.Frag) (H : Hp) (M : Prs) : Prop := ∀ m ∈ M, SqT K H m.1 [.ref m.2.1, m.2.2.2] ∧ SqT K H m.2.1 (m.2.2.1.map V.int)
theorem prs_vals (I : Inv X pins σ H s) : ∀ {M : Prs}, PrsAt X.K H M → ∃ N : List ((Addr × Addr × List Int × V) × Value), N.map (·.1) = M ∧ ∀ n ∈ N, RelV n.1.2.2.2 n.2 ∧ IsTup s.heap n.1.1 #[.ref n.1.2.1, n.2] ∧ IsT X.prog X.w s.heap n.1.2.2.1 n.1.2.1
  | [], _ => ⟨[], rfl, fun n hn => (by cases hn)⟩
  | m :: M, h => by
    obtain ⟨N, e, hN⟩ := prs_vals I (M := M) fun z hz => h z (List.mem_cons_of_mem _ hz)
    obtain ⟨h1, h2⟩ := h m List.mem_cons_self
    obtain ⟨its, rv, pt, _⟩ := I.tuple h1
    cases rv with
    | cons r1 rr =>
      cases rr with
      | cons r2 rn =>
        cases rn
        cases r1
        rename_i u
        refine ⟨(m, u) :: N, by rw [List.map_cons, e], fun n hn => ?_⟩
        rcases List.mem_cons.mp hn with z | z
        · rw [z]
          exact ⟨r2, pt, Inv.isT I h2⟩
        · exact hN n z
theorem refs_vals {α : Type} {f : α → Addr} : ∀ {M : List α} {us : List Value}, Vals (M.map fun m => V.ref (f m)) us → us = M.map fun m => Value.ref (f m)
  | [], _, .nil => rfl
  | _ :: _, _, .cons r t => by
    cases r
    rw [refs_vals t] <;> rfl
theorem nodup_ent {M : Prs} {N : List ((Addr × Addr × List Int × V) × Value)} (e : N.map (·.1) = M) : ((N.map fun n => ((n.1.2.2.1, n.1.2.1, n.2) : Ent)).map (·.1)) = M.map fun m => m.2.2.1 := by
  rw [← e, List.map_map, List.map_map]
  rfl
theorem valF_of {M : Prs} {N : List ((Addr × Addr × List Int × V) × Value)} (e : N.map (·.1) = M) (hN : ∀ n ∈ N, RelV n.1.2.2.2 n.2) : ValF (M.map (·.2)) (N.map fun n => ((n.1.2.2.1, n.1.2.1, n.2) : Ent)) := by
  subst e
  unfold ValF
  induction N with
  | nil => exact .nil
  | cons n N ih =>
    rw [List.map_cons, List.map_cons, List.map_cons]
    exact .cons ⟨rfl, rfl, hN n List.mem_cons_self⟩ (ih fun z hz => hN z (List.mem_cons_of_mem _ hz))
theorem tsAt {N : List ((Addr × Addr × List Int × V) × Value)} {j : Nat} {n : (Addr × Addr × List Int × V) × Value} (h : N[j]? = some n) : ((N[j]?).map (·.1.1)).getD 0 = n.1.1 := by rw [h] <;> rfl
theorem prs_items {h : Heap} {N : List ((Addr × Addr × List Int × V) × Value)} {its : List Value} (e : its = N.map fun n => Value.ref n.1.1) (hN : ∀ n ∈ N, IsTup h n.1.1 #[.ref n.1.2.1, n.2]) :
    PairItems h its.toArray (fun j => ((N[j]?).map (·.1.1)).getD 0) (N.map fun n => (Value.ref n.1.2.1, n.2)) := by
  refine ⟨by rw [e] <;> simp, fun j k v hj => ?_⟩
  rw [List.getElem?_map] at hj
  obtain ⟨n, hn, en⟩ := Option.map_eq_some_iff.mp hj
  cases en
  refine ⟨?_, ?_⟩
  · rw [e]
    simp [hn]
  · show PairAt h (((N[j]?).map (·.1.1)).getD 0) _ _
    rw [tsAt hn]
    exact .inl (hN n (List.mem_of_getElem? hn))
theorem prs_have {N : List ((Addr × Addr × List Int × V) × Value)} : PairsHaveH (TK P w) (N.map fun n => (Value.ref n.1.2.1, n.2)).length (PairRel (N.map fun n => (Value.ref n.1.2.1, n.2))) (N.map fun n => ((n.1.2.2.1, n.1.2.1, n.2) : Ent)) := by
  refine ⟨by simp, fun i key v hi => ?_⟩
  have hi' : (N.map fun n => (Value.ref n.1.2.1, n.2))[i]? = some (key, v) := hi
  rw [List.getElem?_map] at hi'
  obtain ⟨n, hn, en⟩ := Option.map_eq_some_iff.mp hi'
  cases en
  exact ⟨n.1.2.2.1, n.1.2.1, by rw [List.getElem?_map, hn] <;> rfl, rfl⟩
/-- dict(row) -/
def rDictT (K : PySem.W.Frag) (P : Program) (w : World) : List V → Hp → VK → Prop := fun xs H Q => ∃ (a : Addr) (o : Obj) (M : Prs), xs = [V.ref a] ∧ H a = some (.frz o (.tup (M.map fun m => V.ref m.1))) ∧ o.dict = none ∧ PrsAt K H M ∧ (M.map fun m => m.2.2.1).Nodup ∧ M.length ≤ 1000 ∧
  ∀ d, H d = none → Q (.ref d) (upd H d (DTO P w d (ValF (M.map (·.2)))))
theorem call_dictT (hc : X.calm = true) (hu : X.A.units + 64 < cLine) (eK : X.K = K := by rfl) (eP : X.prog = P := by rfl) (ew : X.w = w := by rfl) : CallR X (.type "dict") (rDictT K P w) := by
  subst eK eP ew
  intro pins s σ H xs us Q I r h
  obtain ⟨a, o, M, rfl, ha, od, hM, nd, few, q⟩ := h
  rw [Vals.ref1 r]
  obtain ⟨N, e, hN⟩ := prs_vals I hM
  obtain ⟨hget, hz, its, rv, ob, hob, hcls, n, hdat⟩ := I.hok a _ ha
  rw [hget] at hob
  cases hob
  have hi : its = N.map fun n => Value.ref n.1.1 := by
    have := refs_vals rv
    rw [this, ← e, List.map_map]
    rfl
  have ok : PlainSeq "tuple" s.heap a its.toArray ∧ PairItems s.heap its.toArray (fun j => ((N[j]?).map (·.1.1)).getD 0) (N.map fun n => (Value.ref n.1.2.1, n.2)) := ⟨⟨o, n, hget, hcls, od, hdat⟩, prs_items hi fun n hn => (hN n hn).2.1⟩
  have hlen : N.length = M.length := by rw [← e, List.length_map]
  refine call_dict_pairsH (PairArg.tuple a its.toArray _ _) (I.ok.hd hc) (show X.A.units + 1 + 1 < cLine by omega) ok prs_have (fun g hk x hx => ?_) (by rw [List.length_map, sizeLine_eq]; omega) fun g tk hd hk => ?_
  · obtain ⟨n, hn, ex⟩ := List.mem_map.mp hx
    subst ex
    obtain ⟨ob, it, m, k1, r⟩ := (hN n hn).2.2
    exact ⟨ob, it, m, hk _ _ (Nat.ne_of_lt (Heap.lt_size k1)) (by simp) k1, r⟩
  · rw [storedAllH_nil_of_nodup _ (by rw [nodup_ent e]; exact nd)] at hd
    have hn : H s.heap.objs.size = none := I.hok.fresh (Nat.le_refl _)
    exact ⟨.ref s.heap.objs.size, _, I.laid (a := s.heap.objs.size) (t' := tk) (fun b ob z => hk b ob (by simp) z) (Nat.le_refl _) (dto_ok (valF_of e fun n hn => (hN n hn).1) (raw_of hd (beq_eq_false_iff_ne.mpr (Ne.symm (Nat.ne_of_lt I.big))))), rfl, q _ hn⟩
end
end Fm
namespace Fm
open PySem PySem.Spec PyProof.Rows L2 PySem.W
section
variable {X : Cx} {K : PySem.W.Frag} {P : Program} {w : World} {pins : List (Addr × Obj)} {σ : L2.St} {H : Hp} {s : Shared}
/-! ### {k: v}, k a tuple of ints -/
def tDispT (K : PySem.W.Frag) (P : Program) (w : World) (tk tv : TE) : TE := fun σ H Q => ∀ p, H p = none → tk σ (upd H p (DTO P w p (KeyF []))) fun x H1 => tv σ H1 fun y H2 => ∃ (b : Addr) (q : List Int) (z : V), [(x, y)] = [(V.ref b, z)] ∧ H2 p = some (DTO P w p (KeyF [])) ∧
  SqT K H2 b (q.map V.int) ∧ Q (.ref p) (upd H2 p (DTO P w p (KeyF [(b, q)])))
theorem keyF_nil {xs : List Ent} (h : KeyF [] xs) : xs = [] := List.map_eq_nil_iff.mp h
theorem pe_dispT {pos : Pos} {k v : Expr} {tk tv : TE} (hu : X.A.units + 64 < cLine) (hk : PE X k tk) (hv : PE X v tv) (hshape : (evalEachOpt [some k] X.env).zip ((evalEach [v] X.env).map fun z => do let y ← z; standAt pos; pure y) = (pairTrees [some k] [v] X.env pos).map fun p => (some p.1, p.2) := by rfl)
    (hl : (pairTrees [some k] [v] X.env pos).length ≤ 15 := by decide) (h0 : pairTrees [some k] [v] X.env pos ≠ [] := by intro z; cases z) (eK : X.K = K := by rfl) (eP : X.prog = P := by rfl) (ew : X.w = w := by rfl) :
    PE X (.Dict [some k] [v] pos) (tDispT K P w tk tv) := by
  subst eK eP ew
  refine ⟨fun pins s σ H Q I h => ?_⟩
  have hn := I.hok.fresh (Nat.le_refl s.heap.objs.size)
  have hs : (s.heap.objs.size == sysModules) = false := beq_eq_false_iff_ne.mpr (Ne.symm (Nat.ne_of_lt I.big))
  have I1 : Inv X pins σ (upd H s.heap.objs.size (DTO X.prog X.w s.heap.objs.size (KeyF []))) { s with heap := s.heap.push { cls := .type "dict", data := .dict #[] } } :=
    I.laid (t' := s.toks) (fun _ _ z => Heap.get?_push_of_some _ z) (Nat.le_refl _) (dto_ok (xs := []) rfl (raw_of (Heap.DictOfH.new s.heap) hs))
  have run : PPs X pos [some k] [v] [(tk, tv)] := pps_cons hk hv pps_nil
  rw [arm_eval_Dict, hshape, dictDisplay_pairs _ h0 (by omega)]
  refine wpAny_bind (wpAny_standAt (wpAny_bind (wpAny_subDictH (knd := TK X.prog X.w) (Q := fun d u => wpAny (model X.prog X.w) X.A (pure (Value.ref d)) (fun v s' => EP X pins σ Q v s') X.xe u) (show X.A.units < cLine by omega) hl
    (thn (run.run pins _ σ _ (fun ps H2 => ∃ (b : Addr) (q : List Int) (z : V), ps = [(V.ref b, z)] ∧ H2 s.heap.objs.size = some (DTO X.prog X.w s.heap.objs.size (KeyF [])) ∧ SqT X.K H2 b (q.map V.int) ∧ Q (.ref s.heap.objs.size) (upd H2 s.heap.objs.size (DTO X.prog X.w s.heap.objs.size (KeyF [(b, q)])))) I1 ?_) fun ws s2 ⟨ps, H2, I2, rel, b, q, z, ep, hp, hb, qq⟩ => ?_))))
  · show tk _ _ _
    exact h _ hn
  · subst ep
    cases rel with
    | @cons p kv ps qs r t =>
      cases t
      obtain ⟨k1, v1⟩ := kv
      obtain ⟨r1, r2⟩ := r
      cases r1
      obtain ⟨xs, hF, hd⟩ := Inv.dto I2 (.inl hp)
      rw [keyF_nil hF] at hd
      have hk1 : IsT X.prog X.w s2.heap q b := Inv.isT I2 hb
      refine ⟨[(q, b, v1)], ⟨rfl, rfl, hk1, trivial⟩, hd.full fun z hz => (by cases hz), fun h' tk' hm hs' => wpAny_pure ?_⟩
      have he : ∃ u, h'.get? s.heap.objs.size = some u := by
        obtain ⟨o, es, ep, z, _⟩ := hm
        exact ⟨o, z⟩
      exact ⟨.ref s.heap.objs.size, _, I2.write (e := s.heap.objs.size) (t' := tk') (by rw [hp]; trivial) (.inl rfl) (fun c u hc hu => (hs'.2 c hc).trans hu) he (dto_ok (F := KeyF [(b, q)]) (xs := [(q, b, v1)]) rfl (raw_of hm hs)), rfl, qq⟩
/-! ### d.get(k, z) -/
def tDGetT (K : PySem.W.Frag) (P : Program) (w : World) (td ty tx : TE) : TE := fun σ H Q => td σ H fun x H1 => (∃ a F, x = .ref a ∧ H1 a = some (DTO P w a F)) ∧ ty σ H1 fun y H2 => tx σ H2 fun z H3 =>
  ∃ (a b : Addr) (L : List (Addr × List Int × V)) (q : List Int), x = .ref a ∧ y = .ref b ∧ H3 a = some (DTO P w a (ValF L)) ∧ (∀ p ∈ L, SqT K H3 p.1 (p.2.1.map V.int)) ∧ SqT K H3 b (q.map V.int) ∧ Q (((L.find? fun p => decide (p.2.1 = q)).map (·.2.2)).getD z) H3
theorem valF_mem {L : List (Addr × List Int × V)} {xs : List Ent} (h : ValF L xs) : ∀ x ∈ xs, ∃ p ∈ L, x.2.1 = p.1 ∧ x.1 = p.2.1 := by
  unfold ValF at h
  induction h with
  | nil => intro x hx; cases hx
  | @cons p x ps qs r _ ih =>
    intro z hz
    rcases List.mem_cons.mp hz with e | e
    · rw [e]
      exact ⟨p, List.mem_cons_self, r.1, r.2.1⟩
    · obtain ⟨p', hp', r'⟩ := ih z e
      exact ⟨p', List.mem_cons_of_mem _ hp', r'⟩
theorem pe_dgetT {o e f : Expr} {apos cpos : Pos} {td ty tx : TE} (hu : X.A.units + 64 < cLine) (ho : PE X o td) (he : PE X e ty) (hf : PE X f tx) (m : M2 X o "get" apos e f cpos) (eK : X.K = K := by rfl) (eP : X.prog = P := by rfl) (ew : X.w = w := by rfl) :
    PE X (.Call (.Attribute o "get" apos) [e, f] [] cpos) (tDGetT K P w td ty tx) := by
  subst eK eP ew
  refine ⟨fun pins s σ H Q I h => ?_⟩
  refine wpAny_Call_method m.base m.few m.line F.plainAttrs_dict F.slot_dict_get F.type_dict_get (thn (ho.run pins s σ H _ I h) fun u s1 ⟨x, H1, I1, rx, ⟨a, G, ex, hd⟩, q1⟩ => ?_)
  subst ex
  cases rx
  obtain ⟨xs, _, sysm, _, ob, es, ep, g1, g2, _⟩ := Inv.dto I1 (.inl hd)
  refine ⟨⟨ob, g1, g2.1⟩, fun c z => (by cases z; exact ⟨ob, g1, g2.2.1⟩), ?_⟩
  rw [m.trees]
  refine Calls.callWith_builtin rfl (Calls.evalArgs_plain (Calls.spliced_cons (thn (he.run pins s1 σ H1 _ I1 q1) fun iv s2 ⟨y, H2, I2, ry, q2⟩ =>
    Calls.spliced_cons (thn (hf.run pins s2 σ H2 _ I2 q2) fun fv s3 ⟨z, H3, I3, rz, a', b, L, q, ea, eb, hd3, hL, hb, q3⟩ => Calls.spliced_nil ?_))))
  cases ea
  subst eb
  cases ry
  obtain ⟨ys, hF, hraw⟩ := Inv.dto I3 (.inl hd3)
  have hkeys : ∀ x ∈ ys, IsT X.prog X.w s3.heap x.1 x.2.1 := fun x hx => by
    obtain ⟨p, hp, e1, e2⟩ := valF_mem hF x hx
    rw [e1, e2]
    exact Inv.isT I3 (hL p hp)
  have dd := hraw.full hkeys
  refine call_meetsIn F.slot_dict_get dd.typeIs F.entry_dict_get (F.args_dict_get_3 _ _ _) (meetsH_dict_get_default (TK X.prog X.w) a b hraw.1 fv) ⟨show X.A.units + 1 < cLine by omega, q, ys, Inv.isT I3 hb, dd, ?_⟩
  exact ⟨_, H3, I3.tok _, (hF.find q).getD rz, q3⟩
/-! ### for k in d -/
def ItkO (P : Program) (w : World) (d : Addr) (o : Obj) (G : List Ent → Prop) (L : List Addr) : It := ⟨fun i H => H d = some (.frz o (DTO P w d G)) ∧ i < L.length, fun i H x H' => H' = H ∧ ∃ a, L[i]? = some a ∧ x = .ref a, fun i H => H d = some (.frz o (DTO P w d G)) ∧ L.length ≤ i⟩
theorem Inv.frzO {G : List Ent → Prop} {d : Addr} {o : Obj} {L : List Addr} (I : Inv X pins σ H s) (h : H d = some (.frz o (DTO X.prog X.w d G))) (hG : ∀ xs, G xs → xs.map (·.2.1) = L) :
    (d == sysModules) = false ∧ s.heap.get? d = some o ∧ o.ExactDict ∧ ∃ (es : Array DictEntry) (ep : Nat), o.data = .dict es ep ∧ es.size = L.length ∧ ∀ (i : Nat) a, L[i]? = some a → ∃ en, es[i]? = some en ∧ en.key = .ref a := by
  obtain ⟨g0, ⟨xs, hx, sy, _, o', es, ep, g1, g2, g3, g4⟩, _⟩ := I.hok d _ h
  rw [g0] at g1
  cases g1
  have e := hG xs hx
  refine ⟨sy, g0, g2, es, ep, g3, by rw [size_of_entries g4, ← e, List.length_map], fun i a hi => ?_⟩
  rw [← e, List.getElem?_map] at hi
  obtain ⟨x, hx, rfl⟩ := Option.map_eq_some_iff.mp hi
  exact ⟨_, by rw [entry_at g4, hx] <;> rfl, rfl⟩
theorem turn_keysO {tg : Expr} {d : Addr} {o : Obj} {G : List Ent → Prop} {L : List Addr} {es : Array DictEntry} {ep : Nat} (it : Addr) (hod : o.data = .dict es ep) (hG : ∀ xs, G xs → xs.map (·.2.1) = L) : Turn P w K tg (ItkO P w d o G L) [it] it (fun i h => h.IsKeyIter it d i L.length ep) where
  mem := List.mem_singleton.mpr rfl
  obj := fun i h st b hb => by
    rw [List.mem_singleton.mp hb]
    obtain ⟨oi, e, c, dd⟩ := st
    exact ⟨oi, e, fun v z => by rw [dd] at z; cases z⟩
  keep := fun i h h' st k => st.at fun oi e => k it (List.mem_singleton.mpr rfl) oi e
  item := by
    intro X hP hw hK hc i pins s σ H E I hf st hg
    subst hP hw hK
    obtain ⟨hd, hi⟩ := hg
    obtain ⟨f0, f1, f2, f3, f4, f5⟩ := hf it (List.mem_singleton.mpr rfl)
    obtain ⟨_, g0, _, es', ep', hdt, hsz, ent⟩ := Inv.frzO I hd hG
    obtain ⟨rfl, rfl⟩ := dict_ep hod hdt
    obtain ⟨en, hen, hkey⟩ := ent i _ (List.getElem?_eq_getElem hi)
    refine next_key_item st g0 hdt hsz hen fun h' st' sb => ?_
    have I1 : Inv X pins σ H { s with heap := h' } := I.turned (t' := s.toks) (fun b ob hb e => (sb.2 b hb).trans e) f0 f1 f3 f4 f5
    obtain ⟨oi, e, c, dd⟩ := id st'
    rw [hkey]
    exact ⟨_, rfl, go_of (s := { s with heap := h' }) e c dd (by decide) ⟨.ref _, H, I1, rfl, ⟨rfl, _, List.getElem?_eq_getElem hi, rfl⟩, st', fun b hb => (hf b hb).1⟩⟩
  done := by
    intro X hP hw hK hc i pins s σ H E I hf st hg
    subst hP hw hK
    obtain ⟨hd, hi⟩ := hg
    obtain ⟨f0, f1, f2, f3, f4, f5⟩ := hf it (List.mem_singleton.mpr rfl)
    obtain ⟨_, g0, _, es', ep', hdt, hsz, _⟩ := Inv.frzO I hd hG
    obtain ⟨rfl, rfl⟩ := dict_ep hod hdt
    exact next_key_end (I.ok.hd hc) st g0 hdt hsz hi fun h' eb => ⟨rfl, I.turned (t' := s.toks) (fun b ob hb e => eb b ob hb e) f0 f1 f3 f4 f5⟩
  self := fun A i s Q E st h => wpAny_pyIter_keyiter st h
def iKeysO (P : Program) (w : World) (td : TE) : TI := fun σ H R => td σ H fun x H1 => ∃ d o G L, x = .ref d ∧ H1 d = some (.frz o (DTO P w d G)) ∧ (∀ xs, G xs → xs.map (·.2.1) = L) ∧ R (ItkO P w d o G L) H1
theorem pi_keysO {tg e : Expr} {td : TE} (he : PE X e td) (eP : X.prog = P := by rfl) (ew : X.w = w := by rfl) : PI X tg e (iKeysO P w td) := by
  subst eP ew
  refine ⟨fun pins s σ H R I h => ?_⟩
  refine thn (he.run pins s σ H _ I h) fun u s1 ⟨x, H1, I1, rx, d, o, G, L, ex, hd, hG, q⟩ => ?_
  subst ex
  cases rx
  obtain ⟨sy, g0, g1, es, ep, hdt, hsz, _⟩ := Inv.frzO I1 hd hG
  refine iter_keys sy g0 g1 hdt (pi_one (tk := s1.toks) I1 _ (turn_keysO _ hdt hG) ⟨_, Heap.get?_push_size _ rfl, rfl, ?_⟩ q)
  rw [hsz] <;> rfl
/-! ### d.update(l), l a list of pairs -/
theorem stored_keys {xs : List Ent} {k : List Int} {a : Addr} {v : Value} (q : List Int) : q ∈ (storedH xs k a v).map (·.1) ↔ q ∈ xs.map (·.1) ∨ q = k := by
  unfold storedH
  by_cases h : (atKey xs k).isSome = true
  · rw [if_pos h]
    have e : (xs.map (putAt k v)).map (·.1) = xs.map (·.1) := by
      rw [List.map_map]
      refine List.map_congr_left fun x _ => ?_
      show (putAt k v x).1 = x.1
      unfold putAt
      split <;> rfl
    rw [e]
    refine ⟨.inl, fun z => z.elim id fun z => ?_⟩
    rw [z]
    unfold atKey at h
    rw [Option.isSome_map] at h
    obtain ⟨x, hx⟩ := Option.isSome_iff_exists.mp h
    have h1 := List.mem_of_find?_eq_some hx
    have h2 := List.find?_some hx
    exact List.mem_map.mpr ⟨x, h1, by simpa using h2⟩
  · rw [if_neg h]
    simp
theorem storedAll_keys : ∀ {ps xs : List Ent} (q : List Int), q ∈ (storedAllH xs ps).map (·.1) ↔ q ∈ xs.map (·.1) ∨ q ∈ ps.map (·.1)
  | [], xs, q => by
    show q ∈ xs.map (·.1) ↔ _
    simp
  | p :: ps, xs, q => by
    have := storedAll_keys (ps := ps) (xs := storedH xs p.1 p.2.1 p.2.2) q
    show q ∈ (storedAllH (storedH xs p.1 p.2.1 p.2.2) ps).map (·.1) ↔ _
    rw [this, stored_keys, List.map_cons, List.mem_cons]
    constructor
    · rintro ((h | h) | h)
      · exact .inl h
      · exact .inr (.inl h)
      · exact .inr (.inr h)
    · rintro (h | h | h)
      · exact .inl (.inl h)
      · exact .inl (.inr h)
      · exact .inr h
def rUpdT (K : PySem.W.Frag) (P : Program) (w : World) : V → List V → Hp → VK → Prop := fun x xs H Q => ∃ (d l : Addr) (L : List (Addr × List Int)) (M : Prs), x = .ref d ∧ xs = [.ref l] ∧ H d = some (DTO P w d (KeyF L)) ∧ SqL K H l (M.map fun m => V.ref m.1) ∧ PrsAt K H M ∧ TupsAt K H L ∧ L.length + M.length ≤ 1000 ∧
  ∀ L', (∀ p ∈ L', p ∈ L ∨ p ∈ M.map fun m => (m.2.1, m.2.2.1)) → (∀ q, q ∈ L'.map (·.2) ↔ q ∈ L.map (·.2) ∨ q ∈ M.map fun m => m.2.2.1) → (L'.map (·.2)).Nodup → Q .non (upd H d (DTO P w d (KeyF L')))
theorem mt_updT (hc : X.calm = true) (hu : X.A.units + 64 < cLine) (eK : X.K = K := by rfl) (eP : X.prog = P := by rfl) (ew : X.w = w := by rfl) : MtR X "dict.update" (rUpdT K P w) := by
  subst eK eP ew
  intro pins s σ H x xs v us Q I rx rxs h
  obtain ⟨d, l, L, M, rfl, rfl, hd, hl, hM, hL, few, q⟩ := h
  cases rx
  rw [Vals.ref1 rxs]
  obtain ⟨N, e, hN⟩ := prs_vals I hM
  obtain ⟨its, rv, pl, hz⟩ := I.list hl
  have hi : its = N.map fun n => Value.ref n.1.1 := by
    have := refs_vals rv
    rw [this, ← e, List.map_map]
    rfl
  obtain ⟨ol, nl, g0, gc, gd, gdat⟩ := pl
  obtain ⟨ys, hF, hraw⟩ := Inv.dto I (.inl hd)
  have hyl : ys.length = L.length := by
    have := congrArg List.length hF
    rwa [List.length_map] at this
  have hkeys : ∀ x ∈ ys, IsT X.prog X.w s.heap x.1 x.2.1 := fun x hx => by
    have : (x.2.1, x.1) ∈ L := by
      rw [← hF]
      exact List.mem_map.mpr ⟨x, hx, rfl⟩
    exact Inv.isT I (hL _ this)
  have hlen : N.length = M.length := by rw [← e, List.length_map]
  obtain ⟨sy, nd, od, es, ep, k1, k2, k3, k4⟩ := id hraw
  have ok : PlainSeq "list" s.heap l its.toArray ∧ PairItems s.heap its.toArray (fun j => ((N[j]?).map (·.1.1)).getD 0) (N.map fun n => (Value.ref n.1.2.1, n.2)) := ⟨⟨ol, nl, g0, gc, gd, gdat⟩, prs_items hi fun n hn => (hN n hn).2.1⟩
  have off : d ∉ l :: (List.range (N.map fun n => (Value.ref n.1.2.1, n.2)).length).map fun j => ((N[j]?).map (·.1.1)).getD 0 := by
    intro z
    rcases List.mem_cons.mp z with z | z
    · rw [z, g0] at k1
      cases k1
      rw [gdat] at k3
      cases k3
    · obtain ⟨j, hj, ej⟩ := List.mem_map.mp z
      rw [List.length_map] at hj
      have hj' : N[j]? = some (N[j]'(List.mem_range.mp hj)) := List.getElem?_eq_getElem _
      rw [tsAt hj'] at ej
      obtain ⟨o2, m1, _, n2, m3⟩ := (hN _ (List.getElem_mem (List.mem_range.mp hj))).2.1
      rw [ej, k1] at m1
      cases m1
      rw [k3] at m3
      cases m3
  have stay : ∀ {g : Heap} {k : List Int} {b : Addr}, (∀ b o, b ≠ d → b ∉ ([] : List Addr) → s.heap.get? b = some o → g.get? b = some o) → IsT X.prog X.w s.heap k b → IsT X.prog X.w g k b := fun {g k b} hk x => by
    obtain ⟨ob, it, m, z1, z2, z3, r⟩ := x
    refine ⟨ob, it, m, hk _ _ (fun z => ?_) (by simp) z1, z2, z3, r⟩
    rw [z, k1] at z1
    cases z1
    rw [k3] at z3
    cases z3
  refine call_update_pairsH (PairArg.list l its.toArray _ _) (I.ok.hd hc) (show X.A.units + 1 < cLine by omega) ok off prs_have (fun g hk x hx => ?_) (hraw.full hkeys) (by rw [List.length_map, hyl, sizeLine_eq]; omega) fun g tk hd' hk => ?_
  · rcases List.mem_append.mp hx with z | z
    · exact stay hk (hkeys x z)
    · obtain ⟨n, hn, ex⟩ := List.mem_map.mp z
      subst ex
      exact stay hk (hN n hn).2.2
  · generalize hzs : storedAllH ys (N.map fun n => ((n.1.2.2.1, n.1.2.1, n.2) : Ent)) = zs at hd'
    have he : ∃ u, g.get? d = some u := by
      obtain ⟨o, _, _, z, _⟩ := hd'
      exact ⟨o, z⟩
    have I' : Inv X pins σ (upd H d (DTO X.prog X.w d (KeyF (zs.map fun x => (x.2.1, x.1))))) { s with heap := g, toks := tk } :=
      I.write (e := d) (t' := tk) (by rw [hd]; trivial) (.inl rfl) (fun c u hc hu => hk c u hc (by simp) hu) he (dto_ok rfl (raw_of hd' sy))
    have e1 : (zs.map fun x => (x.2.1, x.1)).map (·.2) = zs.map (·.1) := by rw [List.map_map] <;> rfl
    have e2 : (N.map fun n => ((n.1.2.2.1, n.1.2.1, n.2) : Ent)).map (·.1) = M.map fun m => m.2.2.1 := nodup_ent e
    have e3 : ys.map (·.1) = L.map (·.2) := by rw [← hF, List.map_map] <;> rfl
    refine ⟨.non, _, I', rfl, q _ (fun p hp => ?_) (fun k => ?_) ?_⟩
    · obtain ⟨x, hx, rfl⟩ := List.mem_map.mp hp
      rw [← hzs] at hx
      exact storedAllH_keys (P := fun k a => (a, k) ∈ L ∨ (a, k) ∈ M.map fun m => (m.2.1, m.2.2.1)) (fun x hx => .inl (by rw [← hF]; exact List.mem_map.mpr ⟨x, hx, rfl⟩)) (fun x hx => .inr (by
        obtain ⟨n, hn, ex⟩ := List.mem_map.mp hx
        subst ex
        rw [← e, List.map_map]
        exact List.mem_map.mpr ⟨n, hn, rfl⟩)) x hx
    · rw [e1, ← hzs, storedAll_keys, e2, e3]
    · rw [e1]
      exact hd'.nodup
end
end Fm
/-! sorted of a dict whose keys are tuples of ints of any lengths. -/
namespace Fm
open PySem PySem.Spec PyProof.Rows L2 PySem.W
section
variable {P : Program} {w : World} {A : Around} {E : Value → Shared → Prop} {s : Shared}
theorem refs_each {h : Heap} : ∀ M : List (Addr × List Int), (∀ q ∈ M, IsT P w h q.2 q.1) → EachIs (fun (v : Value) (b : Addr × List Int) => ∃ as, Reads h v (.tuple (b.2.map .int)) as) (M.map fun q => Value.ref q.1) M
  | [], _ => .nil
  | q :: M, h => .cons (by
      obtain ⟨o, its, n, ho, hc, hd, hk⟩ := h q List.mem_cons_self
      exact ⟨_, .tuple ho hc hd (ints_readAll _ (ints_of_items hk))⟩) (refs_each M fun r hr => h r (List.mem_cons_of_mem _ hr))
theorem refs_self : ∀ M : List (Addr × List Int), EachIs (fun (v : Value) (b : Addr × List Int) => v = Value.ref b.1) (M.map fun q => Value.ref q.1) M
  | [] => .nil
  | _ :: M => .cons rfl (refs_self M)
theorem each_refs : ∀ {us : List Value} {M : List (Addr × List Int)}, EachIs (fun (v : Value) (b : Addr × List Int) => v = Value.ref b.1) us M → us = M.map fun q => Value.ref q.1
  | _, _, .nil => rfl
  | _, _, .cons e t => by rw [e, each_refs t, List.map_cons]
theorem sorted_seen {a : Addr} {L : List (Addr × List Int)} {Q : Value → Shared → Prop} (ht : ∀ p ∈ L, IsT P w s.heap p.2 p.1) (nd : (L.map (·.2)).Nodup) (few : L.length < 64) (hu : A.units + 64 < cLine)
    (col : ∀ (E' : Value → Shared → Prop) (R : List Value → Shared → Prop), (∀ h' tk, (∀ b o, s.heap.get? b = some o → h'.get? b = some o) → R (L.map fun p => Value.ref p.1) { s with heap := h', toks := tk }) → wpAny (model P w) A.in1 (collect (.ref a)) R E' s)
    (hQ : ∀ (h1 h' : Heap) (tk : Nat) p (out : Array Value) (c : Nat) (L' : List (Addr × List Int)), (∀ b o, s.heap.get? b = some o → h1.get? b = some o) → (∀ b o, h1.get? b = some o → h'.get? b = some o) → h1.objs.size ≤ p →
      h'.get? p = some (seqObj "list" out c) → out.toList = L'.map (fun q => Value.ref q.1) → L'.Perm L → L'.Pairwise (fun q r => HT.lexLt q.2 r.2 = true) → Q (.ref p) { s with heap := h', toks := tk }) :
    wpAny (model P w) A (call (.builtin "sorted") [.ref a]) Q E s := by
  refine Calls.call_function_entry kind_sorted plain_sorted entry_sorted (args_sorted1 _) ?_
  unfold Builtin.«sorted»
  refine wpAny_bind (m := checkCount "sorted" 1 1 _) (wpAny_pure ?_)
  refine wpAny_bind (col _ _ fun h1 tk1 k1 => ?_)
  obtain ⟨vs, hvs⟩ : ∃ vs, vs = L.map fun p => Value.ref p.1 := ⟨_, rfl⟩
  rw [← hvs]
  have hvl : vs.length < 64 := by rw [hvs, List.length_map]; exact few
  refine wpAny_bind (wpAny_newList ?_ (by rw [sizeLine_eq]; omega))
  have hoL : (h1.push (seqObj "list" vs.toArray 0)).get? h1.objs.size = some (seqObj "list" vs.toArray 0) := Heap.get?_push_size _ rfl
  have up : ∀ b u, s.heap.get? b = some u → (sortingHeap (h1.push (seqObj "list" vs.toArray 0)) h1.objs.size vs).get? b = some u := fun b u z => by
    have q1 := k1 b u z
    exact sortingHeap_old (Nat.ne_of_lt (Heap.lt_size q1)) (Heap.get?_push_of_some _ q1)
  have er := refs_each (P := P) (w := w) (h := sortingHeap (h1.push (seqObj "list" vs.toArray 0)) h1.objs.size vs) L fun q hq => isT_keep (ht q hq) up
  have e0 := refs_self L
  rw [← hvs] at er e0
  have hal : AllAlike (L.map fun b => PyData.tuple (b.2.map .int)) := AllAlike.of fun b b' => by
    show alikeAll (b.2.map .int) (b'.2.map .int) = true
    exact alike_ints _ _
  have S := FmSort.sortsAt_tups (prog := P) (w := w) (A := A.in1.in1) (s := { s with heap := sortingHeap (h1.push (seqObj "list" vs.toArray 0)) h1.objs.size vs, toks := tk1 }) (each_map (R := fun v d => ∃ as, Reads (sortingHeap (h1.push (seqObj "list" vs.toArray 0)) h1.objs.size vs) v d as) (fun b : Addr × List Int => PyData.tuple (b.2.map .int)) er) hal (fun d hd => by
    obtain ⟨b, _, rfl⟩ := List.mem_map.mp hd
    exact ⟨_, rfl⟩) (fun d hd => by
    obtain ⟨b, _, rfl⟩ := List.mem_map.mp hd
    have z : (PyData.tuple (b.2.map .int)).depth = 1 := by
      show PyData.depthAll (b.2.map .int) + 1 = 1
      rw [depth_ints]
    show A.units + 1 + 1 + (PyData.tuple (b.2.map .int)).depth < cLine
    omega)
  refine wpAny_bind (wpAny_holding (wpAny_call_entry slot_list_sort ⟨_, hoL, rfl⟩ entry_list_sort (list_sort_vals (s := { s with heap := h1.push (seqObj "list" vs.toArray 0), toks := tk1 }) hoL S (by rw [sizeLine_eq]; omega) ⟨_, rfl, ?_⟩) (args_list_sort _)))
  have eo := sortVals_data (R := fun (v : Value) (b : Addr × List Int) => v = Value.ref b.1) false e0 er hal
  generalize sortVals (dataKind (sortingHeap (h1.push (seqObj "list" vs.toArray 0)) h1.objs.size vs) (L.map fun b => PyData.tuple (b.2.map .int))) false vs vs = out at eo ⊢
  obtain ⟨c, hc⟩ := sortedHeap_at (vs := vs) (out := out.toArray) hoL
  refine wpAny_pure ⟨_, rfl, hQ h1 _ tk1 h1.objs.size out.toArray c _ k1 (fun b u z => ?_) (Nat.le_refl _) hc (by rw [List.toList_toArray]; exact each_refs eo) (List.mergeSort_perm _ _) (sorted_lt (fun b : Addr × List Int => b.2) L nd)⟩
  have hlt := Heap.lt_size z
  show (sortedHeap (h1.push (seqObj "list" vs.toArray 0)) h1.objs.size vs out.toArray).get? b = some u
  rw [sortedHeap_old (Nat.ne_of_lt hlt) (by rw [size_push']; exact Nat.lt_succ_of_lt hlt)]
  exact Heap.get?_push_of_some _ z
end
section
variable {X : Cx} {K : PySem.W.Frag} {P : Program} {w : World}
def rSortDK (K : PySem.W.Frag) (P : Program) (w : World) : List V → Hp → VK → Prop := fun vs H Q => ∃ (a : Addr) (L : List (Addr × List Int)), vs = [V.ref a] ∧ H a = some (DTO P w a (KeyF L)) ∧ TupsAt K H L ∧ L.length < 64 ∧
  ∀ (L' : List (Addr × List Int)) (p : Addr), L'.Perm L → L'.Pairwise (fun q r => HT.lexLt q.2 r.2 = true) → H p = none → Q (.ref p) (upd H p (.lst (L'.map fun q => V.ref q.1)))
theorem call_sortDK (hc : X.calm = true) (hu : X.A.units + 64 < cLine) (eK : X.K = K := by rfl) (eP : X.prog = P := by rfl) (ew : X.w = w := by rfl) : CallR X (.builtin "sorted") (rSortDK K P w) := by
  subst eK eP ew
  intro pins s σ H vs us Q I r h
  obtain ⟨a, L, rfl, ha, hk, few, q⟩ := h
  rw [Vals.ref1 r]
  obtain ⟨xs, hF, hraw⟩ := Inv.dto I (.inl ha)
  have hT : ∀ p ∈ L, IsT X.prog X.w s.heap p.2 p.1 := fun p hp => Inv.isT I (hk p hp)
  have nd : (L.map (·.2)).Nodup := by
    have e : L.map (·.2) = xs.map (·.1) := by
      rw [← hF, List.map_map]
      rfl
    rw [e]
    exact hraw.2.1
  obtain ⟨sy, _, o, es, ep, k1, k2, k3, k4⟩ := id hraw
  have hxl : xs.length = L.length := by
    rw [← hF, List.length_map]
  have hes : es.size = xs.length := size_of_entries k4
  have dr : s.heap.DictRaw a es ep := ⟨o, k1, k2, k3⟩
  refine sorted_seen hT nd few hu (fun E' R hR => ?_) fun h1 h' tk p out c L' kA kB hp hg hout pm pw => ?_
  · refine kdu_collect (A := X.A.in1) (KdlSrc.rawDict (es := es) (ep := ep) sy) (I.ok.hd hc) dr (by rw [hes, hxl, sizeLine_eq]; omega) fun h' tk acc hk' hacc => ?_
    have e : acc.toList = L.map fun p => Value.ref p.1 := by
      refine List.ext_getElem? fun j => ?_
      rw [← hF, List.map_map, List.getElem?_map]
      cases hx : xs[j]? with
      | none =>
        have hj : xs.length ≤ j := List.getElem?_eq_none_iff.mp hx
        rw [List.getElem?_eq_none (by rw [Array.length_toList, hacc.1, hes]; exact hj)] <;> rfl
      | some x =>
        have hj : j < es.size := by
          rw [hes]
          exact (List.getElem?_eq_some_iff.mp hx).1
        have hj2 : j < acc.size := by rw [hacc.1]; exact hj
        have ha2 : acc[j]? = some acc[j] := Array.getElem?_eq_getElem hj2
        obtain ⟨hi, hv⟩ := hacc.2 j _ ha2
        have he := entry_at k4 j
        rw [hx, Array.getElem?_eq_getElem hi] at he
        have he' := Option.some.inj he
        rw [Array.getElem?_toList, ha2, hv, he'] <;> rfl
    rw [e]
    exact hR h' tk hk'
  · have hfew : L'.length < 64 := by rw [pm.length_eq]; exact few
    have I1 : Inv X pins σ H { s with heap := h1 } := I.kept (t' := s.toks) kA
    have hn : H p = none := I1.hok.fresh hp
    have hlen : (L'.map fun q => V.ref q.1).length ≤ sizeLine := by rw [List.length_map, sizeLine_eq]; omega
    have hv : Vals (L'.map fun q => V.ref q.1) out.toList := by rw [hout]; exact vals_of_refs L'
    exact ⟨.ref p, _, I1.laid (t' := tk) kB hp (show ObjOk X.prog X.w _ h' p (.lst (L'.map fun q => V.ref q.1)) from ⟨hlen, out.toList, c, hv, hg⟩), rfl, q L' p pm pw hn⟩
end
end Fm
namespace Fm
open PySem PySem.Spec PyProof.Rows L2 PySem.W
section
variable {X : Cx} {K : PySem.W.Frag} {P : Program} {w : World}
def tUpdT (K : PySem.W.Frag) (P : Program) (w : World) (to : TE) (t : TA) : TE := fun σ H Q => to σ H fun x H1 => (∃ a G, x = V.ref a ∧ H1 a = some (DTO P w a G)) ∧ t σ H1 fun xs H2 => rUpdT K P w x xs H2 Q
theorem pe_updT {o e : Expr} {to : TE} {t : TA} {apos cpos : Pos} (hc : X.calm = true) (hu : X.A.units + 64 < cLine) (ho : PE X o to) (ha : PA X [e] t)
    (b1 : attributeBase o "update" X.env (eval o X.env) = eval o X.env := by rfl)
    (b2 : ((backTo cpos (starEach [e] X.env)).all (fun x => !x.1) && (backToKw cpos (keywordEach [] X.env)).all (fun x => x.1.isSome) && decide (([e] : List Expr).length + ([] : List Keyword).length + (if ([] : List Keyword).isEmpty then 0 else 1) < 30)) = true := by rfl)
    (b3 : (apos.endLine == cpos.line) = true := by rfl) (b4 : starEach [e] X.env = [(false, eval e X.env)] := by rfl) (eK : X.K = K := by rfl) (eP : X.prog = P := by rfl) (ew : X.w = w := by rfl) :
    PE X (.Call (.Attribute o "update" apos) [e] [] cpos) (tUpdT K P w to t) := by
  subst eK eP ew
  refine ⟨fun pins s σ H Q I h => ?_⟩
  refine wpAny_Call_method_late b1 b2 b3 rfl (thn (ho.run pins s σ H _ I h) fun v s1 ⟨x, H1, I1, r1, ty, q1⟩ => ?_)
  obtain ⟨a, G, rfl, hka⟩ := ty
  cases r1
  obtain ⟨xs, _, _, _, ob, es, ep, g1, g2, _⟩ := Inv.dto I1 (.inl hka)
  refine ⟨"dict", "dict.update", F.plainAttrs_dict, F.slot_dict_update, F.type_dict_update, ⟨ob, g1, g2.1⟩, fun c e => (by cases e; exact ⟨ob, g1, g2.2.1⟩), ?_⟩
  have hA := ha.run cpos pins s1 σ H1 _ I1 q1
  rw [b4] at hA ⊢
  refine Calls.callWith_builtin rfl (Calls.evalArgs_plain (thn hA fun us s2 ⟨vs, H2, I2, r2, q2⟩ => (mt_updT hc hu) pins s2 σ H2 (.ref a) vs (.ref a) us Q I2 rfl r2 q2))
end
end Fm
/-! Dicts whose keys are boxes: pairs of tuples of ints, wherever these stand. -/
namespace Fm
open PySem PySem.Spec PyProof.Rows L2 PySem.W
/-- the key of a box -/
def bk (q : List Int × List Int) : NestedKey := .tup [.tup (q.1.map NestedKey.num), .tup (q.2.map NestedKey.num)]
theorem num_inj : ∀ {a b : List Int}, a.map NestedKey.num = b.map NestedKey.num → a = b
  | [], [], _ => rfl
  | x :: a, y :: b, h => by
    rw [List.map_cons, List.map_cons] at h
    injection h with h1 h2
    injection h1 with h1
    rw [h1, num_inj h2]
  | [], _ :: _, h => by cases h
  | _ :: _, [], h => by cases h
theorem bk_inj {p q : List Int × List Int} (h : bk p = bk q) : p = q := by
  unfold bk at h
  injection h with h
  injection h with h1 h2
  injection h1 with h1
  injection h2 with h2 _
  injection h2 with h2
  exact Prod.ext (num_inj h1) (num_inj h2)
abbrev NK (P : Program) (w : World) : HeapKind P w NestedKey := nestedKind P w
abbrev EntB := NestedKey × Addr × Value
abbrev BoxL := List (Addr × (List Int × List Int) × V)
section
variable {P : Program} {w : World} {h h' : Heap} {a : Addr} {xs : List EntB}
def BRaw (P : Program) (w : World) (h : Heap) (a : Addr) (xs : List EntB) : Prop := (a == sysModules) = false ∧ (xs.map (·.1)).Nodup ∧ ∃ o es ep, h.get? a = some o ∧ o.ExactDict ∧ o.data = .dict es ep ∧ es.toList = xs.map (entryOfKey (NK P w))
def ValB (L : BoxL) : List EntB → Prop := fun xs => Paired (fun p (x : EntB) => x.2.1 = p.1 ∧ x.1 = bk p.2.1 ∧ RelV p.2.2 x.2.2) L xs
def DBO (P : Program) (w : World) (a : Addr) (L : BoxL) : HO := .ext fun h => ∃ xs, ValB L xs ∧ BRaw P w h a xs
theorem BRaw.full (d : BRaw P w h a xs) (ht : ∀ x ∈ xs, (NK P w).is h x.1 x.2.1) : h.DictOfH (NK P w) a xs := by
  obtain ⟨_, nd, o, es, ep, h1, h2, h3, h4⟩ := d
  exact ⟨o, es, ep, h1, h2, h3, h4, ht, nd⟩
theorem braw_of (m : h.DictOfH (NK P w) a xs) (hs : (a == sysModules) = false) : BRaw P w h a xs := by
  obtain ⟨o, es, ep, h1, h2, h3, h4, _, nd⟩ := m
  exact ⟨hs, nd, o, es, ep, h1, h2, h3, h4⟩
theorem dbo_ok {L : BoxL} {H : Hp} (hF : ValB L xs) (d : BRaw P w h a xs) : ObjOk P w H h a (DBO P w a L) := by
  have ⟨_, _, o, es, ep, h1, _⟩ := d
  refine ⟨⟨xs, hF, d⟩, ⟨o, h1⟩, fun g1 g2 p k => ?_⟩
  have ⟨ys, hy, hs, nd, o', es', ep', k1, r⟩ := p
  exact ⟨ys, hy, hs, nd, o', es', ep', k _ k1, r⟩
/-- what the dict has for a box -/
def findB (L : BoxL) (q : List Int × List Int) : Option V := (L.find? fun p => decide (p.2.1 = q)).map (·.2.2)
theorem ValB.find {L : BoxL} {xs : List EntB} (h : ValB L xs) (q : List Int × List Int) : RelO (findB L q) ((atKey xs (bk q)).map (·.2)) := by
  unfold ValB at h
  unfold findB
  induction h with
  | nil => exact True.intro
  | @cons p x ps qs r _ ih =>
    obtain ⟨_, r2, r3⟩ := r
    by_cases e : p.2.1 = q
    · have b : atKey (x :: qs) (bk q) = some x.2 := by simp [atKey, List.find?_cons, r2, e]
      rw [b, List.find?_cons]
      simp only [e, decide_true, Option.map_some]
      exact r3
    · have e' : ¬ bk p.2.1 = bk q := fun z => e (bk_inj z)
      have b : atKey (x :: qs) (bk q) = atKey qs (bk q) := by simp [atKey, List.find?_cons, r2, e']
      rw [b, List.find?_cons]
      simp only [e, decide_false]
      exact ih
theorem valB_mem {L : BoxL} {xs : List EntB} (h : ValB L xs) : ∀ x ∈ xs, ∃ p ∈ L, x.2.1 = p.1 ∧ x.1 = bk p.2.1 := by
  unfold ValB at h
  induction h with
  | nil => intro x hx; cases hx
  | @cons p x ps qs r _ ih =>
    intro z hz
    rcases List.mem_cons.mp hz with e | e
    · rw [e]
      exact ⟨p, List.mem_cons_self, r.1, r.2.1⟩
    · obtain ⟨p', hp', r'⟩ := ih z e
      exact ⟨p', List.mem_cons_of_mem _ hp', r'⟩
theorem valB_addrs {L : BoxL} {xs : List EntB} (h : ValB L xs) : xs.map (·.2.1) = L.map (·.1) := by
  unfold ValB at h
  induction h with
  | nil => rfl
  | cons r _ ih => rw [List.map_cons, List.map_cons, ih, r.1]
end
section
variable {X : Cx} {K : PySem.W.Frag} {P : Program} {w : World} {pins : List (Addr × Obj)} {σ : L2.St} {H : Hp} {s : Shared}
/-- at b: the box q -/
def BoxAt (K : PySem.W.Frag) (H : Hp) (b : Addr) (q : List Int × List Int) : Prop := ∃ pa wa, SqT K H b [.ref pa, .ref wa] ∧ SqT K H pa (q.1.map V.int) ∧ SqT K H wa (q.2.map V.int)
theorem num_all {h : Heap} : ∀ {c : List Int} {us : List Value}, Vals (c.map V.int) us → NestedAll h (c.map NestedKey.num) us
  | [], _, .nil => .nil
  | _ :: _, _, .cons r t => by
    obtain ⟨u, rfl⟩ := r
    exact .cons (.int _ u) (num_all t)
theorem num_key {H : Hp} (I : Inv X pins σ H s) {a : Addr} {c : List Int} (h : SqT X.K H a (c.map V.int)) : NestedIs s.heap (.tup (c.map NestedKey.num)) (.ref a) := by
  obtain ⟨its, r, ⟨o, ho, hc, n, hd⟩, _⟩ := I.tuple h
  exact .tup ho hc hd (by simpa using num_all r)
theorem num_depth : ∀ c : List Int, NestedKey.depthAll (c.map NestedKey.num) = 0
  | [] => rfl
  | x :: c => by
    rw [List.map_cons]
    unfold NestedKey.depthAll
    rw [num_depth c]
    rfl
theorem Inv.boxKey (I : Inv X pins σ H s) {b : Addr} {q : List Int × List Int} (h : BoxAt X.K H b q) : (NK X.prog X.w).is s.heap (bk q) b := by
  obtain ⟨pa, wa, h1, h2, h3⟩ := h
  obtain ⟨its, r, ⟨o, ho, hc, n, hd⟩, _⟩ := I.tuple h1
  refine ⟨.tup ho hc hd ?_, ?_⟩
  · cases r with
    | cons r1 rr =>
      cases rr with
      | cons r2 rn =>
        cases rn
        cases r1
        cases r2
        exact .cons (num_key I h2) (.cons (num_key I h3) .nil)
  · show NestedKey.depth (.tup [.tup (q.1.map NestedKey.num), .tup (q.2.map NestedKey.num)]) ≤ 8
    simp [NestedKey.depth, NestedKey.depthAll, num_depth]
theorem Inv.dbo {L : BoxL} {a : Addr} (I : Inv X pins σ H s) (h : Rd H a (DBO X.prog X.w a L)) : ∃ xs, ValB L xs ∧ BRaw X.prog X.w s.heap a xs := (h.ok I.hok).1
def BoxesAt (K : PySem.W.Frag) (H : Hp) (L : BoxL) : Prop := ∀ p ∈ L, BoxAt K H p.1 p.2.1
theorem boxes_full (I : Inv X pins σ H s) {L : BoxL} {a : Addr} {xs : List EntB} (hF : ValB L xs) (d : BRaw X.prog X.w s.heap a xs) (h : BoxesAt X.K H L) : s.heap.DictOfH (NK X.prog X.w) a xs := d.full fun x hx => by
  obtain ⟨p, hp, e1, e2⟩ := valB_mem hF x hx
  rw [e1, e2]
  exact Inv.boxKey I (h p hp)
/-- {} -/
def tDNewB (P : Program) (w : World) : TE := fun _ H Q => ∀ p, H p = none → Q (.ref p) (upd H p (DBO P w p []))
theorem pe_dnewB {pos : Pos} (eP : X.prog = P := by rfl) (ew : X.w = w := by rfl) : PE X (.Dict [] [] pos) (tDNewB P w) := by
  subst eP ew
  refine ⟨fun pins s σ H Q I h => ?_⟩
  have hs : (s.heap.objs.size == sysModules) = false := beq_eq_false_iff_ne.mpr (Ne.symm (Nat.ne_of_lt I.big))
  exact wpAny_Dict_empty ⟨.ref s.heap.objs.size, _, I.laid (a := s.heap.objs.size) (o := DBO X.prog X.w s.heap.objs.size []) (t' := s.toks) (fun _ _ q => Heap.get?_push_of_some _ q) (Nat.le_refl _) (dbo_ok (xs := []) .nil (braw_of (Heap.DictOfH.new s.heap) hs)), rfl, h _ (I.hok.fresh (Nat.le_refl _))⟩
/-- b not in d -/
def rNotInB (K : PySem.W.Frag) (P : Program) (w : World) : R2 := fun x y H Q => ∃ (b a : Addr) (q : List Int × List Int) (L : BoxL), x = .ref b ∧ y = .ref a ∧ H a = some (DBO P w a L) ∧ BoxesAt K H L ∧ BoxAt K H b q ∧ Q (.bl (!(findB L q).isSome)) H
theorem op_notinB (hu : X.A.units + 64 < cLine) (eK : X.K = K := by rfl) (eP : X.prog = P := by rfl) (ew : X.w = w := by rfl) : OpR X (compareOp .NotIn) (rNotInB K P w) := by
  subst eK eP ew
  intro pins s σ H x y v u Q I rx ry h
  obtain ⟨b, a, q, L, rfl, rfl, ha, hL, hb, hq⟩ := h
  cases rx
  cases ry
  obtain ⟨xs, hF, hd⟩ := Inv.dbo I (.inl ha)
  refine wpAny_notIn_heap (knd := NK X.prog X.w) (show X.A.units + 1 + 8 < cLine by omega) (Inv.boxKey I hb) hd.1 (boxes_full I hF hd hL) ?_
  have e : (findB L q).isSome = (atKey xs (bk q)).isSome := by
    rw [(hF.find q).isSome_eq, Option.isSome_map]
  rw [e] at hq
  exact ⟨.bl (!(atKey xs (bk q)).isSome), H, I.tok _, rfl, hq⟩
/-- d[b] = v, b a new key -/
def sDPutB (K : PySem.W.Frag) (P : Program) (w : World) (td ty tv : TE) : TS := fun D σ H => tv σ H fun v H1 => td σ H1 fun x H2 => ty σ H2 fun y H3 => ∃ (a b : Addr) (q : List Int × List Int) (L : BoxL), x = .ref a ∧ y = .ref b ∧ H3 a = some (DBO P w a L) ∧ BoxesAt K H3 L ∧ BoxAt K H3 b q ∧ findB L q = none ∧ L.length ≤ 100000 ∧
  D.nx σ (upd H3 a (DBO P w a (L ++ [(b, q, v)])))
theorem ps_dputB {o i value : Expr} {pos pos' : Pos} {td ty tv : TE} (hu : X.A.units + 64 < cLine) (ho : PE X o td) (hi : PE X i ty) (hv : PE X value tv) (hs : swapsWith value (some (.Subscript o i pos')) pos.line X.env = pure false) (eK : X.K = K := by rfl) (eP : X.prog = P := by rfl) (ew : X.w = w := by rfl) :
    PS X (.Assign [.Subscript o i pos'] value pos) (sDPutB K P w td ty tv) := by
  subst eK eP ew
  refine ⟨fun pins s σ H D I h => ?_⟩
  refine wpAny_Assign_Subscript (thn (hv.run pins s σ H _ I h) fun r s1 ⟨v, H1, I1, rv, q1⟩ => thn (ho.run pins s1 σ H1 _ I1 q1) fun u s2 ⟨x, H2, I2, rx, q2⟩ => thn (hi.run pins s2 σ H2 _ I2 q2) fun iv s3 ⟨y, H3, I3, ry, a, b, q, L, ex, ey, ha, hL, hb, hn, hl, q3⟩ => ?_) hs
  subst ex ey
  cases rx
  cases ry
  obtain ⟨xs, hF, hd⟩ := Inv.dbo I3 (.inl ha)
  have hxl : xs.length = L.length := (Paired.length hF).symm
  refine wpAny_setItem_heap (knd := NK X.prog X.w) (hsz := by rw [hxl, sizeLine_eq]; omega) (show X.A.units + 1 + 8 < cLine by omega) (Inv.boxKey I3 hb) (boxes_full I3 hF hd hL) fun h' hm sb => ?_
  have he : ∃ u, h'.get? a = some u := by
    obtain ⟨o, _, _, z, _⟩ := hm
    exact ⟨o, z⟩
  have hno : ¬ (atKey xs (bk q)).isSome = true := by
    have e : (findB L q).isSome = (atKey xs (bk q)).isSome := by
      rw [(hF.find q).isSome_eq, Option.isSome_map]
    rw [← e, hn]
    exact Bool.false_ne_true
  have es : storedH xs (bk q) b r = xs ++ [(bk q, b, r)] := by
    unfold storedH
    rw [if_neg hno]
  rw [es] at hm
  exact ⟨σ, _, I3.write (e := a) (t' := s3.toks + (NK X.prog X.w).draws (bk q)) (by rw [ha]; trivial) (.inl rfl) (fun c u hc hu => (sb.2 c hc).trans hu) he (dbo_ok (Paired.snoc hF ⟨rfl, rfl, rv⟩) (braw_of hm hd.1)), q3⟩
/-- d[b] -/
def tDGetB (K : PySem.W.Frag) (P : Program) (w : World) (td ty : TE) : TE := fun σ H Q => td σ H fun x H1 => ty σ H1 fun y H2 => ∃ (a b : Addr) (q : List Int × List Int) (L : BoxL) (v : V), x = .ref a ∧ y = .ref b ∧ H2 a = some (DBO P w a L) ∧ BoxesAt K H2 L ∧ BoxAt K H2 b q ∧ findB L q = some v ∧ Q v H2
theorem pe_dgetB {o i : Expr} {pos : Pos} {td ty : TE} (hu : X.A.units + 64 < cLine) (ho : PE X o td) (hi : PE X i ty) (hs : NoSl i) (eK : X.K = K := by rfl) (eP : X.prog = P := by rfl) (ew : X.w = w := by rfl) : PE X (.Subscript o i pos) (tDGetB K P w td ty) := by
  subst eK eP ew
  refine ⟨fun pins s σ H Q I h => ?_⟩
  refine subD_of PySem.F.slot_dict_getitem.lookup hs (thn (ho.run pins s σ H _ I h) fun u s1 ⟨x, H1, I1, rx, q1⟩ => thn (hi.run pins s1 σ H1 _ I1 q1) fun iv s2 ⟨y, H2, I2, ry, a, b, q, L, v, ex, ey, ha, hL, hb, hv, q2⟩ => ?_)
  subst ex ey
  cases rx
  cases ry
  obtain ⟨xs, hF, hd⟩ := Inv.dbo I2 (.inl ha)
  have dd := boxes_full I2 hF hd hL
  have rl := hF.find q
  rw [hv] at rl
  cases hz : atKey xs (bk q) with
  | none =>
    rw [hz] at rl
    exact (show False from rl).elim
  | some p =>
    rw [hz] at rl
    exact ⟨dd.typeIs, wpAny_getItem_heap (knd := NK X.prog X.w) (show X.A.units + 1 + 8 < cLine by omega) (Inv.boxKey I2 hb) dd hz ⟨_, H2, I2.tok _, rl, q2⟩⟩
/-! ### for b in d -/
def ItkB (P : Program) (w : World) (d : Addr) (o : Obj) (L : BoxL) : It := ⟨fun i H => H d = some (.frz o (DBO P w d L)) ∧ i < L.length, fun i H x H' => H' = H ∧ ∃ p, L[i]? = some p ∧ x = .ref p.1, fun i H => H d = some (.frz o (DBO P w d L)) ∧ L.length ≤ i⟩
theorem Inv.frzB {d : Addr} {o : Obj} {L : BoxL} (I : Inv X pins σ H s) (h : H d = some (.frz o (DBO X.prog X.w d L))) :
    (d == sysModules) = false ∧ s.heap.get? d = some o ∧ o.ExactDict ∧ ∃ (es : Array DictEntry) (ep : Nat), o.data = .dict es ep ∧ es.size = L.length ∧ ∀ (i : Nat) p, L[i]? = some p → ∃ en, es[i]? = some en ∧ en.key = .ref p.1 := by
  obtain ⟨g0, ⟨xs, hx, sy, _, o', es, ep, g1, g2, g3, g4⟩, _⟩ := I.hok d _ h
  rw [g0] at g1
  cases g1
  have e := valB_addrs hx
  refine ⟨sy, g0, g2, es, ep, g3, by rw [size_of_entries g4, ← Paired.length hx], fun i p hi => ?_⟩
  have hi2 : (xs.map (·.2.1))[i]? = some p.1 := by
    rw [e, List.getElem?_map, hi] <;> rfl
  rw [List.getElem?_map] at hi2
  obtain ⟨x, hx, e2⟩ := Option.map_eq_some_iff.mp hi2
  refine ⟨_, by rw [entry_at g4, hx] <;> rfl, ?_⟩
  rw [← e2]
  rfl
theorem turn_keysB {tg : Expr} {d : Addr} {o : Obj} {L : BoxL} {es : Array DictEntry} {ep : Nat} (it : Addr) (hod : o.data = .dict es ep) : Turn P w K tg (ItkB P w d o L) [it] it (fun i h => h.IsKeyIter it d i L.length ep) where
  mem := List.mem_singleton.mpr rfl
  obj := fun i h st b hb => by
    rw [List.mem_singleton.mp hb]
    obtain ⟨oi, e, c, dd⟩ := st
    exact ⟨oi, e, fun v z => by rw [dd] at z; cases z⟩
  keep := fun i h h' st k => st.at fun oi e => k it (List.mem_singleton.mpr rfl) oi e
  item := by
    intro X hP hw hK hc i pins s σ H E I hf st hg
    subst hP hw hK
    obtain ⟨hd, hi⟩ := hg
    obtain ⟨f0, f1, f2, f3, f4, f5⟩ := hf it (List.mem_singleton.mpr rfl)
    obtain ⟨_, g0, _, es', ep', hdt, hsz, ent⟩ := Inv.frzB I hd
    obtain ⟨rfl, rfl⟩ := dict_ep hod hdt
    obtain ⟨en, hen, hkey⟩ := ent i _ (List.getElem?_eq_getElem hi)
    refine next_key_item st g0 hdt hsz hen fun h' st' sb => ?_
    have I1 : Inv X pins σ H { s with heap := h' } := I.turned (t' := s.toks) (fun b ob hb e => (sb.2 b hb).trans e) f0 f1 f3 f4 f5
    obtain ⟨oi, e, c, dd⟩ := id st'
    rw [hkey]
    exact ⟨_, rfl, go_of (s := { s with heap := h' }) e c dd (by decide) ⟨.ref _, H, I1, rfl, ⟨rfl, _, List.getElem?_eq_getElem hi, rfl⟩, st', fun b hb => (hf b hb).1⟩⟩
  done := by
    intro X hP hw hK hc i pins s σ H E I hf st hg
    subst hP hw hK
    obtain ⟨hd, hi⟩ := hg
    obtain ⟨f0, f1, f2, f3, f4, f5⟩ := hf it (List.mem_singleton.mpr rfl)
    obtain ⟨_, g0, _, es', ep', hdt, hsz, _⟩ := Inv.frzB I hd
    obtain ⟨rfl, rfl⟩ := dict_ep hod hdt
    exact next_key_end (I.ok.hd hc) st g0 hdt hsz hi fun h' eb => ⟨rfl, I.turned (t' := s.toks) (fun b ob hb e => eb b ob hb e) f0 f1 f3 f4 f5⟩
  self := fun A i s Q E st h => wpAny_pyIter_keyiter st h
def iKeysB (P : Program) (w : World) (td : TE) : TI := fun σ H R => td σ H fun x H1 => ∃ d o L, x = .ref d ∧ H1 d = some (.frz o (DBO P w d L)) ∧ R (ItkB P w d o L) H1
theorem pi_keysB {tg e : Expr} {td : TE} (he : PE X e td) (eP : X.prog = P := by rfl) (ew : X.w = w := by rfl) : PI X tg e (iKeysB P w td) := by
  subst eP ew
  refine ⟨fun pins s σ H R I h => ?_⟩
  refine thn (he.run pins s σ H _ I h) fun u s1 ⟨x, H1, I1, rx, d, o, L, ex, hd, q⟩ => ?_
  subst ex
  cases rx
  obtain ⟨sy, g0, g1, es, ep, hdt, hsz, _⟩ := Inv.frzB I1 hd
  refine iter_keys sy g0 g1 hdt (pi_one (tk := s1.toks) I1 _ (turn_keysB _ hdt) ⟨_, Heap.get?_push_size _ rfl, rfl, ?_⟩ q)
  rw [hsz] <;> rfl
end
end Fm
/-! A dict comprehension whose keys are tuples of ints (also within another comprehension); setdefault with such keys. -/
namespace Fm
open PySem PySem.Spec PyProof.Rows L2 PySem.W
/-- a block that captures nothing -/
theorem blkOk_nf {N : List Str} {sc scope : Scope} {own : List (Str × Nat)} (h1 : scope.kind = .function) (h2 : (scope.names.all fun y => decide (scope.names.lookup y.1 = some y.2)) = true) (h3 : (own.all fun p => decide (N[p.2]? = some p.1)) = true)
    (h4 : (scope.names.all fun y => !(y.2 == .free)) = true) (h5 : (scope.names.all fun y => (!(y.2 == .local || y.2 == .cell)) || ((own.map (·.1)).contains y.1 || !(N.contains y.1))) = true) : BlkOk N sc scope own where
  kind := h1
  uniq := fun y hy => of_decide_eq_true (List.all_eq_true.mp h2 y hy)
  ix := fun p hp => of_decide_eq_true (List.all_eq_true.mp h3 p hp)
  free := fun y hy e => by
    have z := List.all_eq_true.mp h4 y hy
    rw [e] at z
    cases z
  own := fun y hy e => by
    have z := List.all_eq_true.mp h5 y hy
    have e2 : (y.2 == NameKind.local || y.2 == NameKind.cell) = true := by
      rcases e with e | e <;> (rw [e]; rfl)
    rw [e2] at z
    simp only [Bool.not_true, Bool.false_or, Bool.or_eq_true] at z
    rcases z with z | z
    · exact .inl (by simpa using z)
    · exact .inr (by simpa using z)
section
variable {X : Cx} {K : PySem.W.Frag} {P : Program} {w : World}
def tDcT (K : PySem.W.Frag) (P : Program) (w : World) (wa : TI) (ga : TG) (tk tv : TE) (vs : List Nat) : TE := fun σ H Q => wa σ H fun J H1 => ∀ D, H1 D = none → ∃ W : Nat → Nat → Hp → Prop, (∃ m, W 0 m (upd H1 D (DTO P w D (ValF [])))) ∧ ∀ i m H, W i m H →
  (J.stop i H ∧ Q (.ref D) H) ∨ (J.go i H ∧ ∃ Nx : Hp → Prop, (∀ H', Nx H' → ∃ m', m' < m ∧ W (i + 1) m' H') ∧ ∀ x H', J.yld i H x H' → ga x (wipe σ vs) H' fun σ2 H2 => wipe σ2 vs = wipe σ vs ∧ tk σ2 H2 fun y H3 => tv σ2 H3 fun z H4 =>
    ∃ (b : Addr) (q : List Int) (L : List (Addr × List Int × L2.V)), y = .ref b ∧ SqT K H4 b (q.map V.int) ∧ H4 D = some (DTO P w D (ValF L)) ∧ (∀ p ∈ L, SqT K H4 p.1 (p.2.1.map V.int)) ∧ (∀ p ∈ L, p.2.1 ≠ q) ∧ L.length ≤ 1000 ∧ Nx (upd H4 D (DTO P w D (ValF (L ++ [(b, q, z)])))))
theorem dset_inv {pins : List (Addr × Obj)} {s : Shared} {σ : L2.St} {H : Hp} {A : Around} {E : Value → Shared → Prop} {D b : Addr} {q : List Int} {L : List (Addr × List Int × L2.V)} {z : L2.V} {r : Value} {Q : Unit → Shared → Prop} (I : Inv X pins σ H s) (hD : H D = some (DTO X.prog X.w D (ValF L)))
    (hL : ∀ p ∈ L, SqT X.K H p.1 (p.2.1.map V.int)) (hb : SqT X.K H b (q.map V.int)) (hne : ∀ p ∈ L, p.2.1 ≠ q) (few : L.length ≤ 1000) (rz : RelV z r) (hu : A.units < cLine) (h : ∀ s', Inv X pins σ (upd H D (DTO X.prog X.w D (ValF (L ++ [(b, q, z)])))) s' → Q () s') :
    wpAny (model X.prog X.w) A (dictSet D (.ref b) r) Q E s := by
  obtain ⟨xs, hF, hd⟩ := Inv.dto I (.inl hD)
  have hxl : xs.length = L.length := (Paired.length hF).symm
  have hk : ∀ x ∈ xs, IsT X.prog X.w s.heap x.1 x.2.1 := fun x hx => by
    obtain ⟨p, hp, e1, e2⟩ := valF_mem hF x hx
    rw [e1, e2]
    exact Inv.isT I (hL p hp)
  refine wpAny_dictSet_heap (knd := TK X.prog X.w) (hsz := by rw [hxl, sizeLine_eq]; omega) hu (Inv.isT I hb) (hd.full hk) fun h' hm sb => h _ ?_
  have he : ∃ u, h'.get? D = some u := by
    obtain ⟨o, _, _, y, _⟩ := hm
    exact ⟨o, y⟩
  have hno : ¬ (atKey xs q).isSome = true := by
    intro y
    unfold atKey at y
    rw [Option.isSome_map] at y
    obtain ⟨x, hx⟩ := Option.isSome_iff_exists.mp y
    have h1 := List.mem_of_find?_eq_some hx
    have h2 := List.find?_some hx
    obtain ⟨p, hp, _, e2⟩ := valF_mem hF x h1
    exact hne p hp (by rw [← e2]; simpa using h2)
  have es : storedH xs q b r = xs ++ [(q, b, r)] := by
    unfold storedH
    rw [if_neg hno]
  rw [es] at hm
  exact I.write (e := D) (by rw [hD]; trivial) (.inl rfl) (fun c u hc hu => (sb.2 c hc).trans hu) he (dto_ok (F := ValF (L ++ [(b, q, z)])) (Paired.snoc hF ⟨rfl, rfl, rz⟩) (raw_of hm hd.1))
theorem pe_dcT {kx vx ta ea : Expr} {sc : Scope} {own : List (Str × Nat)} {ps : Pos} {wa : TI} {ga : TG} {tk tv : TE} (hc : X.calm = true) (hu : X.A.units + 64 < cLine) (hN : X.N.Nodup) (pa : PI X ta ea wa) (ok : BlkOk X.N X.env.scope sc own)
    (pga : ∀ (s : Shared) (H : Hp) (C : Addr) (cl : List (Str × Addr)) (fp : List Addr), PG (X.blk s H sc (compEnvC sc cl C X.env) fp) ta ga)
    (pk : ∀ (s : Shared) (H : Hp) (C : Addr) (cl : List (Str × Addr)) (fp : List Addr), PE (X.blk s H sc (compEnvC sc cl C X.env) fp) kx tk)
    (pv : ∀ (s : Shared) (H : Hp) (C : Addr) (cl : List (Str × Addr)) (fp : List Addr), PE (X.blk s H sc (compEnvC sc cl C X.env) fp) vx tv)
    (fa : ∀ x, foldedSetIterable ea X.env x = pure x := by intro _; rfl) (eK : X.K = K := by rfl) (eP : X.prog = P := by rfl) (ew : X.w = w := by rfl) :
    PE X (.DictComp kx vx [⟨ta, ea, [], 0⟩] sc ps) (tDcT K P w wa ga tk tv (own.map (·.2))) := by
  subst eK eP ew
  refine ⟨fun pins s σ H Q I h => ?_⟩
  rw [arm_eval_DictComp]
  have hfree : ∀ y ∈ sc.names, y.2 = .free → ∃ c, X.env.cells.lookup y.1 = some c := fun y hy e => (ok.free y hy e).elim (fun z => I.ok.has _ (.inl z)) fun z => I.ok.has _ (.inr z)
  refine wpAny_comprehension_free (use := none) rfl fa (closure_ok hfree) ok.kind (fun y hy e => by rw [ok.uniq y hy, e]) (thn (pa.run pins s σ H _ I h) fun xv s1 hx => thn hx fun itv s2 h2 => ?_)
  obtain ⟨it, fp, tn, J, H2, e, I2, T, st2, f2, q⟩ := h2
  subst e
  refine wpAny_newObj_type (newEnv_comp ?_)
  generalize hD : s2.heap.objs.size = D
  have hDn : H2 D = none := I2.hok.fresh (Nat.le_of_eq hD)
  obtain ⟨W, ⟨m0, w0⟩, turn⟩ := q D hDn
  have hsys : (D == sysModules) = false := by
    rw [← hD]
    exact beq_eq_false_iff_ne.mpr (Ne.symm (Nat.ne_of_lt I2.big))
  generalize hs3 : ({ s2 with heap := s2.heap.push { cls := .type "dict", data := .dict #[] } } : Shared) = s3
  have h3 : s3.heap = s2.heap.push { cls := .type "dict", data := .dict #[] } := by rw [← hs3]
  have old3 : ∀ b o, s2.heap.get? b = some o → s3.heap.get? b = some o := fun b o z => by
    rw [h3]
    exact Heap.get?_push_of_some _ z
  have I3 : Inv X pins σ (upd H2 D (DTO X.prog X.w D (ValF []))) s3 := by
    have d0 : DRaw X.prog X.w s3.heap D [] := by
      rw [h3, ← hD]
      exact raw_of (Heap.DictOfH.new s2.heap) (by rw [hD]; exact hsys)
    have := I2.laid (a := D) (o := DTO X.prog X.w D (ValF [])) (h' := s3.heap) (t' := s2.toks) old3 (Nat.le_of_eq hD) (dto_ok (F := ValF []) .nil d0)
    rw [← hs3] at this ⊢
    exact this
  have lo : ∀ b ∈ fp, b < s2.heap.objs.size := fun b hb => by
    obtain ⟨o, z, _⟩ := T.obj _ _ st2 b hb
    exact Heap.lt_size z
  have f3 : ∀ b ∈ fp, FpOk X pins (upd H2 D (DTO X.prog X.w D (ValF []))) b ∧ b < s3.heap.objs.size := fun b hb => by
    have l := lo b hb
    have ne : b ≠ D := by
      rw [← hD]
      exact Nat.ne_of_lt l
    exact ⟨⟨by rw [upd_ne ne]; exact (f2 b hb).1, (f2 b hb).2⟩, by rw [h3, Heap.size_push]; exact Nat.lt_succ_of_lt l⟩
  have st3 : tn 0 s3.heap := T.keep _ _ _ st2 fun b _ o z => old3 b o z
  have I4 := block_start I3 ok hN f3
  generalize hH3 : upd H2 D (DTO X.prog X.w D (ValF [])) = H3 at I3 I4 f3 w0
  generalize hcl : cellsFrom (s3.heap.objs.size + 1) sc.names (cloFrom X.env.cells sc.names []) = cl at I4
  have gA := pga s3 H3 s3.heap.objs.size cl fp
  have gK := pk s3 H3 s3.heap.objs.size cl fp
  have gV := pv s3 H3 s3.heap.objs.size cl fp
  show codeAny _ _ (.compStart (.DictComp kx vx [⟨ta, ea, [], 0⟩] sc ps) 0 (.ref it) (.ref D) (compEnvC sc cl s3.heap.objs.size X.env)) (compPost (model X.prog X.w) X.A X.xe none _ (.ref D) s3.heap.objs.size) { s3 with heap := pushCells (s3.heap.push { cls := .type "dict", data := .dict #[] }) sc.names }
  generalize hce : compEnvC sc cl s3.heap.objs.size X.env = ce at I4 gA gK gV ⊢
  have cL : ce.locals = s3.heap.objs.size := by subst hce; rfl
  generalize hs4 : ({ s3 with heap := pushCells (s3.heap.push { cls := .type "dict", data := .dict #[] }) sc.names } : Shared) = s4 at I4 ⊢
  have st4 : tn 0 s4.heap := T.keep _ _ _ st3 fun b _ o z => by rw [← hs4]; exact pushCells_keeps _ _ _ _ (Heap.get?_push_of_some _ z)
  have nfp : ∀ b ∈ fp, H3 b = none := fun b hb => (f3 b hb).1.1
  have stand : ∀ {τ : L2.St} {G : Hp} {u : Shared}, Inv (X.blk s3 H3 sc ce fp) [] τ G u → (∀ b ∈ fp, G b = none) → ∀ b ∈ fp, FpOk (X.blk s3 H3 sc ce fp) [] G b := fun I' hn b hb =>
    ⟨hn b hb, (I'.ok.exf b hb).1, I'.ok.exfs b hb, .inl hb, fun x c z => (I'.ok.exf b hb).2 x c z, fun p hp => absurd (show p ∈ ([] : List (Addr × Obj)) ++ [] from hp) (by simp)⟩
  have loop : codeAny (model X.prog X.w) X.A (.compLoop (.DictComp kx vx [⟨ta, ea, [], 0⟩] sc ps) 0 (.ref it) (.ref D) ce) (compPost (model X.prog X.w) X.A X.xe none (fun v s' => EP X pins σ Q v s') (.ref D) s3.heap.objs.size) s4 := by
    refine compLoop_anyD (fun m u => ∃ i G, Inv (X.blk s3 H3 sc ce fp) [] (wipe σ (own.map (·.2))) G u ∧ tn i u.heap ∧ (∀ b ∈ fp, G b = none) ∧ W i m G) ?_ m0 ⟨0, H3, I4, st4, nfp, w0⟩
    rintro m u5 ⟨i, G5, I5, st5, n5, w5⟩
    rcases turn i m G5 w5 with ⟨stop, qq⟩ | ⟨go, Nx, hNx, step⟩
    · refine thnF (T.done (X.blk s3 H3 sc ce fp) rfl rfl rfl hc i [] u5 _ G5 (fun _ _ => False) I5 (stand I5 n5) st5 stop) fun r u6 ⟨hr, I6⟩ => ?_
      subst hr
      have I7 : Inv X pins σ G5 u6 := I3.call' (ch := fp) I6.os I6.base I6.hok I6.bare fun b hb => ⟨(f3 b hb).1.2.2.2.1, (f3 b hb).1.2.1, (f3 b hb).1.2.2.2.2.1, (f3 b hb).1.2.2.2.2.2⟩
      have nC : G5 ce.locals = none := I6.free
      obtain ⟨mm, hn, _⟩ := I6.loc
      have hn : u6.heap.Ns ce.locals mm := hn
      rw [cL] at hn nC
      refine ⟨mm, hn, fun g sb => ?_⟩
      obtain ⟨f0, f1, f2', f3', f4, f5⟩ := I3.fpOk (Nat.le_refl _) nC
      exact ⟨.ref D, G5, I7.turned (t' := u6.toks) (fun b o hb z => (sb.2 b hb).trans z) f0 f1 f3' f4 f5, rfl, qq⟩
    · refine thnF (T.item (X.blk s3 H3 sc ce fp) rfl rfl rfl hc i [] u5 _ G5 (fun _ _ => False) I5 (stand I5 n5) st5 go) fun r u6 ⟨got, hr, h6⟩ => ?_
      subst hr
      refine thnF h6 fun _ u7 ⟨x, G7, I7, r7, y7, st7, n7⟩ => ?_
      have I7' := I7.pinned (stand I7 n7) (T.obj _ _ st7)
      refine thnF (gA.run _ u7 _ G7 x got _ I7' r7 (step x G7 y7)) fun _ u8 ⟨σ8, G8, I8, hw8, q8⟩ => ?_
      refine wpAny_pure ?_
      simp only [if_true]
      have fin : ∀ {u : Shared} {G : Hp}, Inv (X.blk s3 H3 sc ce fp) ([] ++ pinsAt fp u7.heap) σ8 G u → Nx G → ∃ m', m' < m ∧ ∃ i G, Inv (X.blk s3 H3 sc ce fp) [] (wipe σ (own.map (·.2))) G u ∧ tn i u.heap ∧ (∀ b ∈ fp, G b = none) ∧ W i m' G := fun {u G} I' nx => by
        obtain ⟨m', hm, w'⟩ := hNx G nx
        have pin' : ∀ b ∈ fp, ∀ o, u7.heap.get? b = some o → u.heap.get? b = some o ∧ G b = none := fun b hb o z =>
          have zz := I'.pin (b, o) (List.mem_append_right _ (List.mem_append_right _ (mem_pinsAt hb z)))
          ⟨zz.1, zz.2.1⟩
        have hl : (wipe σ (own.map (·.2))).length = σ8.length := by rw [← hw8, wipe_length]
        refine ⟨m', hm, i + 1, G, (I'.unpinned (pins := [])).weak hl (fun j v z => ?_), T.keep _ _ _ st7 fun b hb o z => (pin' b hb o z).1, fun b hb => ?_, w'⟩
        · rw [← hw8] at z
          exact (wipe_some z).1
        · obtain ⟨o, z, _⟩ := T.obj _ _ st7 b hb
          exact (pin' b hb o z).2
      refine thnF (gK.run _ u8 σ8 G8 _ I8 q8) fun z u10 ⟨yk, G10, I10, r10, q10⟩ => ?_
      refine thnF (gV.run _ u10 σ8 G10 _ I10 q10) fun z2 u11 ⟨yv, G11, I11, r11, b, qk, L, ek, hb, hDL, hL, hne, few, nx⟩ => ?_
      subst ek
      cases r10
      exact dset_inv (X := X.blk s3 H3 sc ce fp) I11 hDL hL hb hne few r11 (show X.A.units < cLine by omega) fun u12 I12 => fin I12 nx
  exact codeAny_compStart_dict loop (T.self X.A 0 _ _ _ st4 loop)
end
end Fm
namespace Fm
open PySem PySem.Spec PyProof.Rows L2 PySem.W
section
variable {X : Cx} {K : PySem.W.Frag} {P : Program} {w : World}
/-- what the dict has for a tuple of ints -/
def findT (L : List (Addr × List Int × L2.V)) (q : List Int) : Option L2.V := (L.find? fun p => decide (p.2.1 = q)).map (·.2.2)
/-- d.setdefault(k, z) -/
def tDSetT (K : PySem.W.Frag) (P : Program) (w : World) (td ty tx : TE) : TE := fun σ H Q => td σ H fun x H1 => (∃ a F, x = .ref a ∧ H1 a = some (DTO P w a F)) ∧ ty σ H1 fun y H2 => tx σ H2 fun z H3 =>
  ∃ (a b : Addr) (L : List (Addr × List Int × L2.V)) (q : List Int), x = .ref a ∧ y = .ref b ∧ H3 a = some (DTO P w a (ValF L)) ∧ (∀ p ∈ L, SqT K H3 p.1 (p.2.1.map V.int)) ∧ SqT K H3 b (q.map V.int) ∧ L.length ≤ 100000 ∧
    (∀ v, findT L q = some v → Q v H3) ∧ (findT L q = none → Q z (upd H3 a (DTO P w a (ValF (L ++ [(b, q, z)])))))
theorem pe_dsetT {o e f : Expr} {apos cpos : Pos} {td ty tx : TE} (hu : X.A.units + 64 < cLine) (ho : PE X o td) (he : PE X e ty) (hf : PE X f tx) (m : M2 X o "setdefault" apos e f cpos) (eK : X.K = K := by rfl) (eP : X.prog = P := by rfl) (ew : X.w = w := by rfl) :
    PE X (.Call (.Attribute o "setdefault" apos) [e, f] [] cpos) (tDSetT K P w td ty tx) := by
  subst eK eP ew
  refine ⟨fun pins s σ H Q I h => ?_⟩
  refine wpAny_Call_method m.base m.few m.line F.plainAttrs_dict F.slot_dict_setdefault F.type_dict_setdefault (thn (ho.run pins s σ H _ I h) fun u s1 ⟨x, H1, I1, rx, ⟨a, G, ex, hd⟩, q1⟩ => ?_)
  subst ex
  cases rx
  obtain ⟨xs, _, sysm, _, ob, es, ep, g1, g2, _⟩ := Inv.dto I1 (.inl hd)
  refine ⟨⟨ob, g1, g2.1⟩, fun c z => (by cases z; exact ⟨ob, g1, g2.2.1⟩), ?_⟩
  rw [m.trees]
  refine Calls.callWith_builtin rfl (Calls.evalArgs_plain (Calls.spliced_cons (thn (he.run pins s1 σ H1 _ I1 q1) fun iv s2 ⟨y, H2, I2, ry, q2⟩ =>
    Calls.spliced_cons (thn (hf.run pins s2 σ H2 _ I2 q2) fun fv s3 ⟨z, H3, I3, rz, a', b, L, q, ea, eb, hd3, hL, hb, hl, q3, q4⟩ => Calls.spliced_nil ?_))))
  cases ea
  subst eb
  cases ry
  obtain ⟨ys, hF, hraw⟩ := Inv.dto I3 (.inl hd3)
  have hyl : ys.length = L.length := (Paired.length hF).symm
  have hkeys : ∀ x ∈ ys, IsT X.prog X.w s3.heap x.1 x.2.1 := fun x hx => by
    obtain ⟨p, hp, e1, e2⟩ := valF_mem hF x hx
    rw [e1, e2]
    exact Inv.isT I3 (hL p hp)
  have rl : RelO (findT L q) ((atKey ys q).map (·.2)) := hF.find q
  refine call_setdefault_heap (knd := TK X.prog X.w) (hsz := by rw [hyl, sizeLine_eq]; omega) (show X.A.units + 1 < cLine by omega) (Inv.isT I3 hb) hraw.1 (hraw.full hkeys) (fun p hp => ?_) fun hn h' hm sb => ?_
  · rw [hp] at rl
    cases hv : findT L q with
    | none =>
      rw [hv] at rl
      exact (show False from rl).elim
    | some v =>
      rw [hv] at rl
      exact ⟨v, H3, I3.tok _, rl, q3 v hv⟩
  · have hnone : findT L q = none := by
      rw [hn] at rl
      cases hv : findT L q with
      | none => rfl
      | some v =>
        rw [hv] at rl
        exact (show False from rl).elim
    have es' : storedH ys q b fv = ys ++ [(q, b, fv)] := by
      unfold storedH
      rw [if_neg (by rw [hn]; exact Bool.false_ne_true)]
    rw [es'] at hm
    have he : ∃ u, h'.get? a = some u := by
      obtain ⟨o, _, _, y, _⟩ := hm
      exact ⟨o, y⟩
    exact ⟨z, _, I3.write (e := a) (t' := s3.toks + (TK X.prog X.w).draws q) (by rw [hd3]; trivial) (.inl rfl) (fun c u hc hu => (sb.2 c hc).trans hu) he (dto_ok (F := ValF (L ++ [(b, q, z)])) (Paired.snoc hF ⟨rfl, rfl, rz⟩) (raw_of hm hraw.1)), rz, q4 hnone⟩
/-- {}, to be a dict with such keys -/
def tDNewT (P : Program) (w : World) : TE := fun _ H Q => ∀ p, H p = none → Q (.ref p) (upd H p (DTO P w p (ValF [])))
theorem pe_dnewT {pos : Pos} (eP : X.prog = P := by rfl) (ew : X.w = w := by rfl) : PE X (.Dict [] [] pos) (tDNewT P w) := by
  subst eP ew
  refine ⟨fun pins s σ H Q I h => ?_⟩
  have hs : (s.heap.objs.size == sysModules) = false := beq_eq_false_iff_ne.mpr (Ne.symm (Nat.ne_of_lt I.big))
  exact wpAny_Dict_empty ⟨.ref s.heap.objs.size, _, I.laid (a := s.heap.objs.size) (o := DTO X.prog X.w s.heap.objs.size (ValF [])) (t' := s.toks) (fun _ _ q => Heap.get?_push_of_some _ q) (Nat.le_refl _) (dto_ok (F := ValF []) (xs := []) .nil (raw_of (Heap.DictOfH.new s.heap) hs)), rfl, h _ (I.hok.fresh (Nat.le_refl _))⟩
end
end Fm
/-! Dicts whose keys are boxes: compared, copied, cleared, made of pairs, asked, told anew. -/
namespace Fm
open PySem PySem.Spec PyProof.Rows L2 PySem.W
open PySem.SeqAt (EqIn EqAt)
section
variable {prog : Program} {w : World} {K : Type} [DecidableEq K] {knd : HeapKind prog w K} {A : Around} {E : Value → Shared → Prop} {s : Shared}
def HitsH (prog : Program) (w : World) {K : Type} [DecidableEq K] (A : Around) (s : Shared) (kb ks : List (K × Addr × Value)) : Prop := ∀ x ∈ ks, ∃ p, atKey kb x.1 = some p ∧ EqIn prog w A s x.2.2 p.2 true
theorem samePairsH {nm : String} {a b : Addr} {ka kb : List (K × Addr × Value)} {Q : Bool → Shared → Prop} (hu : knd.room A) (ha : (a == sysModules) = false) (hb : (b == sysModules) = false)
    (da : s.heap.DictOfH knd a ka) (db : s.heap.DictOfH knd b kb) (hl : ka.length = kb.length) (hits : HitsH prog w A s kb ka) (h : Q true s) :
    wpAny (model prog w) A (Builtin.Dict.samePairs nm a b) Q E s := by
  obtain ⟨oa, es, ep, hoa, _, hda, hea, hia, hna⟩ := da
  obtain ⟨ob, es', ep', hob, _, hdb, heb, hib, hnb⟩ := db
  have hla : es.size = ka.length := size_of_entries hea
  have hlb : es'.size = kb.length := size_of_entries heb
  have hsz : es.size = es'.size := by omega
  unfold Builtin.Dict.samePairs Builtin.Dict.showsAll
  rw [if_neg (show ¬ (a == sysModules) = true by rw [ha]; exact Bool.false_ne_true), if_neg (show ¬ (b == sysModules) = true by rw [hb]; exact Bool.false_ne_true)]
  refine wpAny_bind (wpAny_pure (wpAny_bind (wpAny_pure ?_)))
  refine wpAny_bind (wpAny_dictEntries hoa hda ?_)
  dsimp only
  refine wpAny_bind (wpAny_dictEntries hob hdb ?_)
  rw [if_neg (by rw [hsz]; simp)]
  refine wpAny_bind (wpAny_dictEpoch hoa hda ?_)
  refine wpAny_bind ?_
  rw [Std.Legacy.Range.forIn_eq_forIn_range']
  simp only [Std.Legacy.Range.size, Nat.sub_zero, Nat.add_sub_cancel, Nat.div_one]
  refine wpAny_forIn_list _
    (fun rest q s' => s' = s ∧ q = (none, ()) ∧ ∃ i, rest = List.range' i (es.size - i) ∧ i ≤ es.size)
    _ ?_ ?_ _ _ ⟨rfl, rfl, 0, by simp, Nat.zero_le _⟩
  · rintro x rest q s' ⟨rfl, rfl, i, hr, hi⟩
    have hlt : i < es.size := by
      rcases Nat.lt_or_ge i es.size with h | h
      · exact h
      · rw [Nat.sub_eq_zero_of_le h] at hr; simp at hr
    obtain ⟨rfl, hrest⟩ : x = i ∧ rest = List.range' (i + 1) (es.size - (i + 1)) := by
      have e : es.size - i = (es.size - (i + 1)) + 1 := by omega
      rw [e, List.range'_succ] at hr
      injection hr with h1 h2
      exact ⟨h1, h2⟩
    refine wpAny_bind (wpAny_dictEntries hoa hda ?_)
    have hlt' : x < ka.length := by omega
    have hx := List.getElem?_eq_getElem hlt'
    generalize ka[x] = kx at hx
    obtain ⟨k, ak, v⟩ := kx
    have hmem := List.mem_of_getElem? hx
    obtain ⟨p, hp, heq⟩ := hits _ hmem
    rw [entry_at hea x, hx]
    show wpAny _ _ (holding [Value.ref ak, v] _ >>= _) _ _ _
    refine wpAny_bind (wpAny_holding (wpAny_bind (wpAny_dictFind_heap hu (hia _ hmem) hob hdb heb hib hnb (fun hnone => ?_) fun j pj hj => ?_)))
    · rw [atKey_none_of_get hnone] at hp
      cases hp
    · have hpj := atKey_of_get hnb hj
      rw [hpj] at hp
      have ep := Option.some.inj hp
      subst ep
      refine wpAny_bind (wpAny_dictEntries hob hdb ?_)
      rw [entry_at heb j, hj]
      refine wpAny_holding (heq _ _ ?_)
      show wpAny _ _ (if (!true) = true then _ else _) _ _ _
      rw [if_neg (by decide)]
      refine wpAny_bind (wpAny_dictEpoch hoa hda ?_)
      rw [if_neg (by simp)]
      exact wpAny_pure ⟨rfl, rfl, x + 1, hrest, hlt⟩
  · rintro q s' ⟨rfl, rfl, i, hr, hi⟩
    exact wpAny_pure h
theorem keqH_ne {a b : Addr} {ka kb : List (K × Addr × Value)} {Q : Value → Shared → Prop} (hr : knd.room A.in1) (ha : (a == sysModules) = false) (hb : (b == sysModules) = false)
    (da : s.heap.DictOfH knd a ka) (db : s.heap.DictOfH knd b kb) (hu : A.units < cLine) (hl : ka.length = kb.length) (hits : HitsH prog w A.in1 s kb ka) (h : Q (.bool false) s) :
    wpAny (model prog w) A (compareOp .NotEq (.ref a) (.ref b)) Q E s := by
  refine wpAny_richCompare_same_room (op := .NotEq) da.typeIs db.typeIs PySem.F.slot_dict_ne (wpAny_call_entry PySem.F.slot_dict_ne da.typeIs PySem.F.entry_dict_ne ?_ (PySem.F.args_dict_ne_2 _ _)) hu
  show wpAny _ _ (Builtin.Dict.dictSlotArgs "__ne__" ⟨[.ref a, .ref b], []⟩ >>= _) _ _ s
  refine wpAny_bind ?_
  unfold Builtin.Dict.dictSlotArgs
  refine wpAny_bind (wpAny_notOrdered_dict da.typeIs ?_)
  show wpAny _ _ (pure (Value.ref a, Value.ref b)) _ _ s
  refine wpAny_pure ?_
  refine wpAny_bind (wpAny_isInstance (T := "dict") db.typeIs PySem.F.sub_dict_dict ?_)
  simp only [Bool.not_true, Bool.false_eq_true, if_false]
  refine wpAny_bind (wpAny_pure (wpAny_bind (wpAny_pure ?_)))
  refine wpAny_bind (samePairsH hr ha hb da db hl hits ?_)
  refine wpAny_pure ⟨_, rfl, ?_, ?_⟩
  · exact fun x => nomatch x
  · simpa using h
/-- dict(o) -/
theorem call_dictH {o : Addr} {more : List (K × Addr × Value)} {Q : Value → Shared → Prop} (hu : knd.room A.in1.in1) (hoS : (o == sysModules) = false) (ho : s.heap.DictOfH knd o more)
    (ho' : ∀ x, (s.heap.push x).DictOfH knd o more) (hty : ∀ x ∈ more, ∀ y, ({ s with heap := s.heap.push y } : Shared).TypeIs (.ref x.2.1) "tuple") (hap : (more.map fun x => knd.hash x.1).Nodup) (hsz : more.length ≤ sizeLine)
    (h : ∀ h', h'.DictOfH knd s.heap.objs.size more → Heap.SameBut s.heap.objs.size (s.heap.push { cls := .type "dict", data := .dict #[] }) h' → Q (.ref s.heap.objs.size) { s with heap := h' }) :
    wpAny (model prog w) A (call (.type "dict") [.ref o]) Q E s := by
  refine callType_codes (Q₁ := fun obj s₁ => obj = .ref s.heap.objs.size ∧ s₁ = { s with heap := s.heap.push { cls := .type "dict", data := .dict #[] } }) F.kt_called_dict (F.kt_typeCall_dict_1 _) F.entry_dict_init (kt_code_dict_new _ ⟨rfl, rfl⟩) ?_
  rintro obj s₁ ⟨rfl, rfl⟩
  have hnew : (s.heap.push { cls := .type "dict", data := .dict #[] }).DictOfH knd s.heap.objs.size [] := Heap.DictOfH.new s.heap
  have ho2 := ho' { cls := .type "dict", data := .dict #[] }
  have hn : (more.map (·.1)).Nodup := ho.nodup
  have hdo : s.heap.objs.size ≠ o := by
    obtain ⟨_, _, _, hg, _⟩ := ho
    exact fun e => absurd (Heap.lt_size hg) (by rw [e]; exact Nat.lt_irrefl _)
  refine ⟨hnew.typeIs, F.args_dict_init_2 _ _, ?_⟩
  unfold Builtin.«dict.__init__»
  refine wpAny_bind ?_
  unfold Builtin.Dict.selfAndRest
  refine wpAny_bind (wpAny_notOrdered_dict hnew.typeIs ?_)
  show wpAny _ _ (pure (s.heap.objs.size, [Value.ref o])) _ _ _
  refine wpAny_pure ?_
  show wpAny _ _ (Builtin.Dict.updateFrom "dict.__init__" s.heap.objs.size (.ref o) [] .none) _ _ _
  refine updateFrom_dictH .none hu hdo hoS hnew ho2 (.inr ⟨fun x hx => hty x hx _, hap⟩) (by simpa using hsz) fun h' hd' _ hs' => ?_
  rw [storedAllH_nil_of_nodup _ hn] at hd'
  exact ⟨rfl, h h' hd' hs'⟩
end
section
variable {X : Cx} {K : PySem.W.Frag} {P : Program} {w : World} {pins : List (Addr × Obj)} {σ : L2.St} {H : Hp} {s : Shared}
/-- a == b, a != b: what both have is alike -/
def BoxEq (K : PySem.W.Frag) (H : Hp) (L1 L2 : BoxL) : Prop := L1.length = L2.length ∧ ∀ p ∈ L1, ∃ v, findB L2 p.2.1 = some v ∧ ∃ c : List Int, Dp K H p.2.2 (.tuple (c.map PyData.int)) ∧ Dp K H v (.tuple (c.map PyData.int))
def rNeB (K : PySem.W.Frag) (P : Program) (w : World) : R2 := fun x y H Q => ∃ (a b : Addr) (L1 L2 : BoxL), x = .ref a ∧ y = .ref b ∧ Rd H a (DBO P w a L1) ∧ Rd H b (DBO P w b L2) ∧ BoxesAt K H L1 ∧ BoxesAt K H L2 ∧ BoxEq K H L1 L2 ∧ Q (.bl false) H
theorem depth_ints : ∀ c : List Int, PyData.depthAll (c.map PyData.int) = 0
  | [] => rfl
  | i :: c => by
    rw [List.map_cons]
    show max 0 (PyData.depthAll (c.map PyData.int)) = 0
    rw [depth_ints c]
    rfl
theorem eqv_intsT (c : List Int) : PyData.eqv (.tuple (c.map PyData.int)) (.tuple (c.map PyData.int)) = true := by
  rw [PyData.eqv]
  induction c with
  | nil => rfl
  | cons x c ih =>
    rw [List.map_cons, PyData.eqvAll, ih, PyData.eqv]
    simp
theorem op_neB (hu : X.A.units + 64 < cLine) (eK : X.K = K := by rfl) (eP : X.prog = P := by rfl) (ew : X.w = w := by rfl) : OpR X (compareOp .NotEq) (rNeB K P w) := by
  subst eK eP ew
  intro pins s σ H x y v u Q I rx ry h
  obtain ⟨a, b, L1, L2, rfl, rfl, ha, hb, h1, h2, ⟨hl, he⟩, q⟩ := h
  cases rx
  cases ry
  obtain ⟨xs, hF, hd⟩ := Inv.dbo I ha
  obtain ⟨ys, hG, hd2⟩ := Inv.dbo I hb
  have lx : xs.length = L1.length := (Paired.length hF).symm
  have ly : ys.length = L2.length := (Paired.length hG).symm
  refine keqH_ne (knd := NK X.prog X.w) (show X.A.units + 1 + 8 < cLine by omega) hd.1 hd2.1 (boxes_full I hF hd h1) (boxes_full I hG hd2 h2) (show X.A.units < cLine by omega) (by omega) (fun x hx => ?_) ⟨.bl false, H, I, rfl, q⟩
  obtain ⟨i, hi, ei⟩ := List.mem_iff_getElem.mp hx
  have hxi : xs[i]? = some x := by rw [← ei]; exact List.getElem?_eq_getElem hi
  have hpi : L1[i]? = some (L1[i]'(by omega)) := List.getElem?_eq_getElem (by omega)
  obtain ⟨r1, r2, r3⟩ : x.2.1 = (L1[i]'(by omega)).1 ∧ x.1 = bk (L1[i]'(by omega)).2.1 ∧ RelV (L1[i]'(by omega)).2.2 x.2.2 := by
    obtain ⟨y, hy, r⟩ := _root_.L2.paired_get hF hpi
    rw [hxi] at hy
    cases hy
    exact r
  generalize L1[i]'(by omega) = p at hpi r1 r2 r3
  obtain ⟨v, hv, c, d1, d2⟩ := he p (List.mem_of_getElem? hpi)
  have rl := hG.find p.2.1
  rw [hv, ← r2] at rl
  cases hz : atKey ys x.1 with
  | none =>
    rw [hz] at rl
    exact (show False from rl).elim
  | some z =>
    rw [hz] at rl
    refine ⟨z, rfl, ?_⟩
    obtain ⟨as, q1⟩ := Dp.reads I _ _ x.2.2 d1 r3
    obtain ⟨bs, q2⟩ := Dp.reads I _ _ z.2 d2 rl
    have y := eqAt_alike (.tuple (c.map PyData.int)) (.tuple (c.map PyData.int)) X.A.in1 s x.2.2 z.2 as bs q1 q2 (show alikeAll _ _ = true from alike_ints c c) (by
      show X.A.units + 1 + min (PyData.depthAll (c.map PyData.int) + 1) (PyData.depthAll (c.map PyData.int) + 1) < cLine
      rw [depth_ints]
      show X.A.units + 1 + min 1 1 < cLine
      omega)
    rw [eqv_intsT] at y
    exact y.inModel _ _
/-- dict(d) -/
def rDictCB (K : PySem.W.Frag) (P : Program) (w : World) : List V → Hp → VK → Prop := fun xs H Q => ∃ (a : Addr) (L : BoxL), xs = [V.ref a] ∧ Rd H a (DBO P w a L) ∧ BoxesAt K H L ∧ (L.map fun p => (bk p.2.1).hash w).Nodup ∧ L.length ≤ 100000 ∧ ∀ d, H d = none → Q (.ref d) (upd H d (DBO P w d L))
theorem call_dictCB (hu : X.A.units + 64 < cLine) (eK : X.K = K := by rfl) (eP : X.prog = P := by rfl) (ew : X.w = w := by rfl) : CallR X (.type "dict") (rDictCB K P w) := by
  subst eK eP ew
  intro pins s σ H xs us Q I r h
  obtain ⟨a, L, rfl, ha, hL, hh, few, q⟩ := h
  rw [Vals.ref1 r]
  obtain ⟨xs, hF, hd⟩ := Inv.dbo I ha
  have lx : xs.length = L.length := (Paired.length hF).symm
  have dd := boxes_full I hF hd hL
  have key : ∀ x ∈ xs, NestedIs s.heap x.1 (.ref x.2.1) := fun x hx => by
    obtain ⟨p, hp, e1, e2⟩ := valB_mem hF x hx
    rw [e1, e2]
    exact (Inv.boxKey I (hL p hp)).1
  refine call_dictH (knd := NK X.prog X.w) (show X.A.units + 1 + 1 + 8 < cLine by omega) hd.1 dd (fun x => ?_) (fun x hx y => ?_) ?_ (by rw [lx, sizeLine_eq]; omega) fun h' hd' hs => ?_
  · have sb : ∀ b o, s.heap.get? b = some o → (s.heap.push x).get? b = some o := fun b o e => Heap.get?_push_of_some _ e
    obtain ⟨o, es, ep, g1, g2, g3, g4, g5, g6⟩ := dd
    exact ⟨o, es, ep, sb _ _ g1, g2, g3, g4, fun z hz => nestedKind_stays.stays (fun b o vs n e _ => sb b o e) (g5 z hz), g6⟩
  · have k := key x hx
    obtain ⟨p, hp, e1, e2⟩ := valB_mem hF x hx
    rw [e2] at k
    unfold bk at k
    cases k with
    | tup h1 h2 _ _ => exact ⟨_, Heap.get?_push_of_some _ h1, h2⟩
  · have e : (xs.map fun x => (NK X.prog X.w).hash x.1) = L.map fun p => (bk p.2.1).hash X.w := by
      have : xs.map (fun x => x.1) = L.map fun p => bk p.2.1 := by
        clear key dd hd lx ha hL hh few q
        unfold ValB at hF
        induction hF with
        | nil => rfl
        | cons r _ ih => rw [List.map_cons, List.map_cons, ih, r.2.1]
      have e2 := congrArg (List.map fun k => NestedKey.hash X.w k) this
      rw [List.map_map, List.map_map] at e2
      exact e2
    rw [e]
    exact hh
  · have hm : (s.heap.objs.size == sysModules) = false := beq_eq_false_iff_ne.mpr (Nat.ne_of_gt I.big)
    exact ⟨.ref s.heap.objs.size, _, I.laid (a := s.heap.objs.size) (t' := s.toks) (fun b u e => (hs.2 b (Nat.ne_of_lt (Heap.lt_size e))).trans (Heap.get?_push_of_some _ e)) (Nat.le_refl _) (dbo_ok hF (braw_of hd' hm)), rfl, q _ (I.hok.fresh (Nat.le_refl _))⟩
/-- isinstance(d, dict) -/
def rIsiB (P : Program) (w : World) : List V → Hp → VK → Prop := fun xs H Q => ∃ (a : Addr) (L : BoxL), xs = [.ref a, .ty "dict"] ∧ Rd H a (DBO P w a L) ∧ Q (.bl true) H
theorem call_isiB (eP : X.prog = P := by rfl) (ew : X.w = w := by rfl) : CallR X (.builtin "isinstance") (rIsiB P w) := by
  subst eP ew
  intro pins s σ H xs us Q I r h
  obtain ⟨a, L, rfl, ha, q⟩ := h
  obtain ⟨u1, u2, rfl, r1, r2⟩ := vals2 r
  cases (show u1 = Value.ref a from r1)
  cases (show u2 = Value.type "dict" from r2)
  obtain ⟨xs, _, _, _, o, es, ep, g1, g2, _⟩ := Inv.dbo I ha
  exact PySem.W.kia_one PySem.W.kitx_dict I.kIn ⟨o, g1, g2.1⟩ (show PySem.W.kitOne X.K (.type "dict") (.type "dict") = some true from if_pos (beq_self_eq_true _)) (fun z => nomatch z) fun tk => ⟨.bl true, H, I.tok tk, rfl, q⟩
end
end Fm
namespace Fm
open PySem PySem.Spec PyProof.Rows L2 PySem.W
section
variable {X : Cx} {K : PySem.W.Frag} {P : Program} {w : World} {pins : List (Addr × Obj)} {σ : L2.St} {H : Hp} {s : Shared}
/-! ### d.clear() -/
def tClearB (P : Program) (w : World) (to : TE) : TE := fun σ H Q => to σ H fun x H1 => ∃ (a : Addr) (L : BoxL), x = .ref a ∧ H1 a = some (DBO P w a L) ∧ L.length ≤ 100000 ∧ Q .non (upd H1 a (DBO P w a []))
theorem pe_clearB {o : Expr} {to : TE} {apos cpos : Pos} (ho : PE X o to) (hbase : attributeBase o "clear" X.env (eval o X.env) = eval o X.env := by rfl) (hline : (apos.endLine == cpos.line) = true := by rfl) (eP : X.prog = P := by rfl) (ew : X.w = w := by rfl) :
    PE X (.Call (.Attribute o "clear" apos) [] [] cpos) (tClearB P w to) := by
  subst eP ew
  refine ⟨fun pins s σ H Q I h => ?_⟩
  refine wpAny_Call_method0_late hbase hline (thn (ho.run pins s σ H _ I h) fun v s1 ⟨x, H1, I1, r1, a, L, ex, hd, hl, q⟩ => ?_)
  subst ex
  cases r1
  obtain ⟨xs, hF, sysm, _, ob, es, ep, g1, g2, g3, g4⟩ := Inv.dbo I1 (.inl hd)
  have lx : xs.length = L.length := (Paired.length hF).symm
  refine ⟨"dict", "dict.clear", F.plainAttrs_dict, F.slot_dict_clear, F.type_dict_clear, ⟨ob, g1, g2.1⟩, fun c e => (by cases e; exact ⟨ob, g1, g2.2.1⟩), Calls.callWith_builtin rfl (PySem.evalArgs_none ?_)⟩
  have hr : s1.heap.DictRaw a es ep := ⟨ob, g1, g2, g3⟩
  refine call_meetsIn F.slot_dict_clear hr.typeIs F.entry_dict_clear (F.args_dict_clear_1 _) (meets_dict_clear_raw a) ⟨es, ep, hr, by rw [size_of_entries g4, lx, sizeLine_eq]; omega, fun h' hr' hs' => ?_⟩
  obtain ⟨o', ho', hc', hd'⟩ := hr'
  exact ⟨.non, _, I1.write (e := a) (t' := s1.toks) (by rw [hd]; trivial) (.inl rfl) (fun c u hc hu => (hs'.2 c hc).trans hu) ⟨_, ho'⟩ (dbo_ok (xs := []) .nil ⟨sysm, List.nodup_nil, o', #[], ep + 1, ho', hc', hd', rfl⟩), rfl, q⟩
/-! ### dict(list of pairs) -/
abbrev PrB := List (Addr × Addr × (List Int × List Int) × V)
def PrBAt (K : PySem.W.Frag) (H : Hp) (M : PrB) : Prop := ∀ m ∈ M, SqT K H m.1 [.ref m.2.1, m.2.2.2] ∧ BoxAt K H m.2.1 m.2.2.1
abbrev NB := List ((Addr × Addr × (List Int × List Int) × V) × Value)
theorem prb_vals (I : Inv X pins σ H s) : ∀ {M : PrB}, PrBAt X.K H M → ∃ N : NB, N.map (·.1) = M ∧ ∀ n ∈ N, RelV n.1.2.2.2 n.2 ∧ IsTup s.heap n.1.1 #[.ref n.1.2.1, n.2] ∧ (NK X.prog X.w).is s.heap (bk n.1.2.2.1) n.1.2.1
  | [], _ => ⟨[], rfl, fun n hn => (by cases hn)⟩
  | m :: M, h => by
    obtain ⟨N, e, hN⟩ := prb_vals I (M := M) fun z hz => h z (List.mem_cons_of_mem _ hz)
    obtain ⟨h1, h2⟩ := h m List.mem_cons_self
    obtain ⟨its, rv, pt, _⟩ := I.tuple h1
    cases rv with
    | cons r1 rr =>
      cases rr with
      | cons r2 rn =>
        cases rn
        cases r1
        rename_i u
        refine ⟨(m, u) :: N, by rw [List.map_cons, e], fun n hn => ?_⟩
        rcases List.mem_cons.mp hn with z | z
        · rw [z]
          exact ⟨r2, pt, Inv.boxKey I h2⟩
        · exact hN n z
theorem tsB {N : NB} {j : Nat} {n : (Addr × Addr × (List Int × List Int) × V) × Value} (h : N[j]? = some n) : ((N[j]?).map (·.1.1)).getD 0 = n.1.1 := by rw [h] <;> rfl
theorem prb_items {h : Heap} {N : NB} {its : List Value} (e : its = N.map fun n => Value.ref n.1.1) (hN : ∀ n ∈ N, IsTup h n.1.1 #[.ref n.1.2.1, n.2]) :
    PairItems h its.toArray (fun j => ((N[j]?).map (·.1.1)).getD 0) (N.map fun n => (Value.ref n.1.2.1, n.2)) := by
  refine ⟨by rw [e] <;> simp, fun j k v hj => ?_⟩
  rw [List.getElem?_map] at hj
  obtain ⟨n, hn, en⟩ := Option.map_eq_some_iff.mp hj
  cases en
  refine ⟨?_, ?_⟩
  · rw [e]
    simp [hn]
  · show PairAt h (((N[j]?).map (·.1.1)).getD 0) _ _
    rw [tsB hn]
    exact .inl (hN n (List.mem_of_getElem? hn))
def entB (n : (Addr × Addr × (List Int × List Int) × V) × Value) : EntB := (bk n.1.2.2.1, n.1.2.1, n.2)
theorem prb_have {N : NB} : PairsHaveH (NK P w) (N.map fun n => (Value.ref n.1.2.1, n.2)).length (PairRel (N.map fun n => (Value.ref n.1.2.1, n.2))) (N.map entB) := by
  refine ⟨by simp, fun i key v hi => ?_⟩
  have hi' : (N.map fun n => (Value.ref n.1.2.1, n.2))[i]? = some (key, v) := hi
  rw [List.getElem?_map] at hi'
  obtain ⟨n, hn, en⟩ := Option.map_eq_some_iff.mp hi'
  cases en
  exact ⟨bk n.1.2.2.1, n.1.2.1, by rw [List.getElem?_map, hn] <;> rfl, rfl⟩
theorem valB_of {M : PrB} {N : NB} (e : N.map (·.1) = M) (hN : ∀ n ∈ N, RelV n.1.2.2.2 n.2) : ValB (M.map (·.2)) (N.map entB) := by
  subst e
  unfold ValB
  induction N with
  | nil => exact .nil
  | cons n N ih =>
    rw [List.map_cons, List.map_cons, List.map_cons]
    exact .cons ⟨rfl, rfl, hN n List.mem_cons_self⟩ (ih fun z hz => hN z (List.mem_cons_of_mem _ hz))
theorem nodup_bk : ∀ {qs : List (List Int × List Int)}, qs.Nodup → (qs.map bk).Nodup
  | [], _ => List.nodup_nil
  | q :: qs, h => by
    rw [List.nodup_cons] at h
    rw [List.map_cons, List.nodup_cons]
    refine ⟨fun hm => ?_, nodup_bk h.2⟩
    obtain ⟨z, hz, e⟩ := List.mem_map.mp hm
    exact h.1 (by rw [← bk_inj e]; exact hz)
def rDictLB (K : PySem.W.Frag) (P : Program) (w : World) : List V → Hp → VK → Prop := fun xs H Q => ∃ (a : Addr) (M : PrB), xs = [V.ref a] ∧ SqL K H a (M.map fun m => V.ref m.1) ∧ PrBAt K H M ∧ (M.map fun m => m.2.2.1).Nodup ∧ M.length ≤ 100000 ∧
  ∀ d, H d = none → Q (.ref d) (upd H d (DBO P w d (M.map (·.2))))
theorem call_dictLB (hc : X.calm = true) (hu : X.A.units + 64 < cLine) (eK : X.K = K := by rfl) (eP : X.prog = P := by rfl) (ew : X.w = w := by rfl) : CallR X (.type "dict") (rDictLB K P w) := by
  subst eK eP ew
  intro pins s σ H xs us Q I r h
  obtain ⟨a, M, rfl, ha, hM, nd, few, q⟩ := h
  rw [Vals.ref1 r]
  obtain ⟨N, e, hN⟩ := prb_vals I hM
  obtain ⟨its, rv, pl, hz⟩ := I.list ha
  have hi : its = N.map fun n => Value.ref n.1.1 := by
    have := refs_vals rv
    rw [this, ← e, List.map_map]
    rfl
  obtain ⟨ol, nl, g0, gc, gd, gdat⟩ := pl
  have ok : PlainSeq "list" s.heap a its.toArray ∧ PairItems s.heap its.toArray (fun j => ((N[j]?).map (·.1.1)).getD 0) (N.map fun n => (Value.ref n.1.2.1, n.2)) := ⟨⟨ol, nl, g0, gc, gd, gdat⟩, prb_items hi fun n hn => (hN n hn).2.1⟩
  have hlen : N.length = M.length := by rw [← e, List.length_map]
  have ndN : ((N.map entB).map (·.1)).Nodup := by
    have e1 : (N.map entB).map (·.1) = (M.map fun m => m.2.2.1).map bk := by
      rw [← e, List.map_map, List.map_map, List.map_map]
      rfl
    rw [e1]
    exact nodup_bk nd
  refine call_dict_pairsH (knd := NK X.prog X.w) (PairArg.list a its.toArray _ _) (I.ok.hd hc) (show X.A.units + 1 + 1 + 8 < cLine by omega) ok prb_have (fun g hk x hx => ?_) (by rw [List.length_map, sizeLine_eq]; omega) fun g tk hd hk => ?_
  · obtain ⟨n, hn, ex⟩ := List.mem_map.mp hx
    subst ex
    obtain ⟨k1, k2⟩ := (hN n hn).2.2
    exact ⟨NestedIs.at (fun b o vs m e _ => hk b o (Nat.ne_of_lt (Heap.lt_size e)) (by simp) e) _ _ k1, k2⟩
  · rw [storedAllH_nil_of_nodup _ ndN] at hd
    have hn : H s.heap.objs.size = none := I.hok.fresh (Nat.le_refl _)
    exact ⟨.ref s.heap.objs.size, _, I.laid (a := s.heap.objs.size) (t' := tk) (fun b ob z => hk b ob (by simp) z) (Nat.le_refl _) (dbo_ok (valB_of e fun n hn => (hN n hn).1) (braw_of hd (beq_eq_false_iff_ne.mpr (Ne.symm (Nat.ne_of_lt I.big))))), rfl, q _ hn⟩
/-! ### d.get(b, z) -/
def tDGetZ (K : PySem.W.Frag) (P : Program) (w : World) (td ty tx : TE) : TE := fun σ H Q => td σ H fun x H1 => (∃ a L, x = .ref a ∧ H1 a = some (DBO P w a L)) ∧ ty σ H1 fun y H2 => tx σ H2 fun z H3 =>
  ∃ (a b : Addr) (L : BoxL) (q : List Int × List Int), x = .ref a ∧ y = .ref b ∧ H3 a = some (DBO P w a L) ∧ BoxesAt K H3 L ∧ BoxAt K H3 b q ∧ Q ((findB L q).getD z) H3
theorem pe_dgetZ {o e f : Expr} {apos cpos : Pos} {td ty tx : TE} (hu : X.A.units + 64 < cLine) (ho : PE X o td) (he : PE X e ty) (hf : PE X f tx) (m : M2 X o "get" apos e f cpos) (eK : X.K = K := by rfl) (eP : X.prog = P := by rfl) (ew : X.w = w := by rfl) :
    PE X (.Call (.Attribute o "get" apos) [e, f] [] cpos) (tDGetZ K P w td ty tx) := by
  subst eK eP ew
  refine ⟨fun pins s σ H Q I h => ?_⟩
  refine wpAny_Call_method m.base m.few m.line F.plainAttrs_dict F.slot_dict_get F.type_dict_get (thn (ho.run pins s σ H _ I h) fun u s1 ⟨x, H1, I1, rx, ⟨a, G, ex, hd⟩, q1⟩ => ?_)
  subst ex
  cases rx
  obtain ⟨xs, _, sysm, _, ob, es, ep, g1, g2, _⟩ := Inv.dbo I1 (.inl hd)
  refine ⟨⟨ob, g1, g2.1⟩, fun c z => (by cases z; exact ⟨ob, g1, g2.2.1⟩), ?_⟩
  rw [m.trees]
  refine Calls.callWith_builtin rfl (Calls.evalArgs_plain (Calls.spliced_cons (thn (he.run pins s1 σ H1 _ I1 q1) fun iv s2 ⟨y, H2, I2, ry, q2⟩ =>
    Calls.spliced_cons (thn (hf.run pins s2 σ H2 _ I2 q2) fun fv s3 ⟨z, H3, I3, rz, a', b, L, q, ea, eb, hd3, hL, hb, q3⟩ => Calls.spliced_nil ?_))))
  cases ea
  subst eb
  cases ry
  obtain ⟨ys, hF, hraw⟩ := Inv.dbo I3 (.inl hd3)
  have dd := boxes_full I3 hF hraw hL
  refine call_meetsIn F.slot_dict_get dd.typeIs F.entry_dict_get (F.args_dict_get_3 _ _ _) (meetsH_dict_get_default (NK X.prog X.w) a b hraw.1 fv) ⟨show X.A.units + 1 + 8 < cLine by omega, bk q, ys, Inv.boxKey I3 hb, dd, ?_⟩
  exact ⟨_, H3, I3.tok _, (hF.find q).getD rz, q3⟩
/-! ### d[b] = v, whether b is there or not -/
def storeB (L : BoxL) (b : Addr) (q : List Int × List Int) (v : V) : BoxL := if (findB L q).isSome then L.map (fun p => if p.2.1 = q then (p.1, p.2.1, v) else p) else L ++ [(b, q, v)]
theorem valB_put {L : BoxL} {xs : List EntB} {q : List Int × List Int} {v : V} {r : Value} (h : ValB L xs) (rv : RelV v r) : ValB (L.map fun p => if p.2.1 = q then (p.1, p.2.1, v) else p) (xs.map (putAt (bk q) r)) := by
  unfold ValB at h ⊢
  induction h with
  | nil => exact .nil
  | @cons p x ps qs r1 _ ih =>
    rw [List.map_cons, List.map_cons]
    refine .cons ?_ ih
    obtain ⟨a1, a2, a3⟩ := r1
    unfold putAt
    by_cases e : p.2.1 = q
    · rw [if_pos e, if_pos (by rw [a2, e])]
      exact ⟨a1, a2, rv⟩
    · rw [if_neg e, if_neg (fun z => e (bk_inj (a2.symm.trans z)))]
      exact ⟨a1, a2, a3⟩
def sDPutR (K : PySem.W.Frag) (P : Program) (w : World) (td ty tv : TE) : TS := fun D σ H => tv σ H fun v H1 => td σ H1 fun x H2 => ty σ H2 fun y H3 => ∃ (a b : Addr) (q : List Int × List Int) (L : BoxL), x = .ref a ∧ y = .ref b ∧ H3 a = some (DBO P w a L) ∧ BoxesAt K H3 L ∧ BoxAt K H3 b q ∧ L.length ≤ 100000 ∧
  D.nx σ (upd H3 a (DBO P w a (storeB L b q v)))
theorem ps_dputR {o i value : Expr} {pos pos' : Pos} {td ty tv : TE} (hu : X.A.units + 64 < cLine) (ho : PE X o td) (hi : PE X i ty) (hv : PE X value tv) (hs : swapsWith value (some (.Subscript o i pos')) pos.line X.env = pure false) (eK : X.K = K := by rfl) (eP : X.prog = P := by rfl) (ew : X.w = w := by rfl) :
    PS X (.Assign [.Subscript o i pos'] value pos) (sDPutR K P w td ty tv) := by
  subst eK eP ew
  refine ⟨fun pins s σ H D I h => ?_⟩
  refine wpAny_Assign_Subscript (thn (hv.run pins s σ H _ I h) fun r s1 ⟨v, H1, I1, rv, q1⟩ => thn (ho.run pins s1 σ H1 _ I1 q1) fun u s2 ⟨x, H2, I2, rx, q2⟩ => thn (hi.run pins s2 σ H2 _ I2 q2) fun iv s3 ⟨y, H3, I3, ry, a, b, q, L, ex, ey, ha, hL, hb, hl, q3⟩ => ?_) hs
  subst ex ey
  cases rx
  cases ry
  obtain ⟨xs, hF, hd⟩ := Inv.dbo I3 (.inl ha)
  have hxl : xs.length = L.length := (Paired.length hF).symm
  refine wpAny_setItem_heap (knd := NK X.prog X.w) (hsz := by rw [hxl, sizeLine_eq]; omega) (show X.A.units + 1 + 8 < cLine by omega) (Inv.boxKey I3 hb) (boxes_full I3 hF hd hL) fun h' hm sb => ?_
  have he : ∃ u, h'.get? a = some u := by
    obtain ⟨o, _, _, z, _⟩ := hm
    exact ⟨o, z⟩
  have e : (findB L q).isSome = (atKey xs (bk q)).isSome := by
    rw [(hF.find q).isSome_eq, Option.isSome_map]
  have hF2 : ValB (storeB L b q v) (storedH xs (bk q) b r) := by
    unfold storeB storedH
    rw [e]
    by_cases z : (atKey xs (bk q)).isSome = true
    · rw [if_pos z, if_pos z]
      exact valB_put hF rv
    · rw [if_neg z, if_neg z]
      exact Paired.snoc hF ⟨rfl, rfl, rv⟩
  exact ⟨σ, _, I3.write (e := a) (t' := s3.toks + (NK X.prog X.w).draws (bk q)) (by rw [ha]; trivial) (.inl rfl) (fun c u hc hu => (sb.2 c hc).trans hu) he (dbo_ok hF2 (braw_of hm hd.1)), q3⟩
/-! ### for b, v in d.items() -/
def ItiB (P : Program) (w : World) (d : Addr) (o : Obj) (L : BoxL) : It := ⟨fun i H => H d = some (.frz o (DBO P w d L)) ∧ i < L.length, fun i H x H' => ∃ T p, L[i]? = some p ∧ x = .ref T ∧ H T = none ∧ H' = upd H T (.tup [.ref p.1, p.2.2]), fun i H => H d = some (.frz o (DBO P w d L)) ∧ L.length ≤ i⟩
theorem Inv.frzB2 {d : Addr} {o : Obj} {L : BoxL} (I : Inv X pins σ H s) (h : H d = some (.frz o (DBO X.prog X.w d L))) :
    (d == sysModules) = false ∧ s.heap.get? d = some o ∧ o.ExactDict ∧ ∃ (es : Array DictEntry) (ep : Nat), o.data = .dict es ep ∧ es.size = L.length ∧ ∀ (i : Nat) p, L[i]? = some p → ∃ en, es[i]? = some en ∧ en.key = .ref p.1 ∧ RelV p.2.2 en.val := by
  obtain ⟨g0, ⟨xs, hx, sy, _, o', es, ep, g1, g2, g3, g4⟩, _⟩ := I.hok d _ h
  rw [g0] at g1
  cases g1
  refine ⟨sy, g0, g2, es, ep, g3, by rw [size_of_entries g4, ← Paired.length hx], fun i p hi => ?_⟩
  obtain ⟨y, hy, r1, _, r3⟩ := _root_.L2.paired_get hx hi
  refine ⟨_, by rw [entry_at g4, hy] <;> rfl, ?_, r3⟩
  rw [← r1]
  rfl
theorem turn_itemsB {elts : List Expr} {kk : Nat} {tpos : Pos} {d : Addr} {o : Obj} {L : BoxL} {es : Array DictEntry} {ep : Nat} (it : Addr) (hod : o.data = .dict es ep) : Turn P w K (.Tuple elts kk tpos) (ItiB P w d o L) [it] it (fun i h => ∃ ok ov, IsItemIter h it d i L.length ep ok ov) where
  mem := List.mem_singleton.mpr rfl
  obj := fun i h st b hb => by
    rw [List.mem_singleton.mp hb]
    obtain ⟨ok, ov, e⟩ := st
    exact ⟨_, e, fun v z => nomatch z⟩
  keep := fun i h h' st k => let ⟨ok, ov, e⟩ := st; ⟨ok, ov, k it (by simp) _ e⟩
  item := by
    intro X hP hw hK hc i pins s σ H E I hf st hg
    subst hP hw hK
    obtain ⟨hd, hi⟩ := hg
    obtain ⟨hs, g0, hx, es', ep', hdt, hsz, ent⟩ := Inv.frzB2 I hd
    obtain ⟨rfl, rfl⟩ := dict_ep hod hdt
    obtain ⟨p, hp⟩ : ∃ p, L[i]? = some p := ⟨_, List.getElem?_eq_getElem hi⟩
    obtain ⟨en, hen, hk, hv⟩ := ent i p hp
    obtain ⟨ok, ov, he⟩ := st
    rw [← hsz] at he
    have hlt : it < s.heap.objs.size := Heap.lt_size he
    have hi' : i < es'.size := by omega
    have een : es'[i] = en := by
      rw [Array.getElem?_eq_getElem hi'] at hen
      exact Option.some.inj hen
    refine wpAny_pyNext_items_item_raw he ⟨o, g0, hx, hod⟩ hi' fun h' ho hT hz hk' => ?_
    rw [een] at ho hT
    refine ⟨_, rfl, wpAny_letOwnedTupleGo_items (s := { s with heap := h' }) ho fun h'' he' sb => ?_⟩
    have hT2 : h''.get? s.heap.objs.size = some { cls := .type "tuple", data := .seq #[en.key, en.val] } := (sb.2 _ (Nat.ne_of_gt hlt)).trans hT
    have new : ObjOk X.prog X.w (upd H s.heap.objs.size (.tup [.ref p.1, p.2.2])) h'' s.heap.objs.size (.tup [.ref p.1, p.2.2]) :=
      ⟨by show 2 ≤ sizeLine; decide, [en.key, en.val], .cons (by rw [hk]; exact rfl) (.cons hv .nil), ⟨_, hT2, rfl, _, rfl⟩⟩
    have I1 : Inv X pins σ (upd H s.heap.objs.size (.tup [.ref p.1, p.2.2])) { s with heap := h'' } :=
      I.turnedNew (t' := s.toks) (ch := [it]) (fun b ob hb e => (sb.2 b (by simpa using hb)).trans (hk' b ob (by simpa using hb) e)) hf (Nat.le_refl _) new
    refine ⟨.ref s.heap.objs.size, _, I1, rfl, ⟨_, p, hp, rfl, I.hok.fresh (Nat.le_refl _), rfl⟩, ⟨en.key, en.val, ?_⟩, fun b hb => ?_⟩
    · rw [← hsz]; exact he'
    · have e : b = it := by simpa using hb
      rw [e, upd_ne (Nat.ne_of_lt hlt)]
      exact (hf it (by simp)).1
  done := by
    intro X hP hw hK hc i pins s σ H E I hf st hg
    subst hP hw hK
    obtain ⟨hd, hi⟩ := hg
    obtain ⟨f0, f1, f2, f3, f4, f5⟩ := hf it (by simp)
    obtain ⟨hs, g0, hx, es', ep', hdt, hsz, ent⟩ := Inv.frzB2 I hd
    obtain ⟨rfl, rfl⟩ := dict_ep hod hdt
    obtain ⟨ok, ov, he⟩ := st
    rw [← hsz] at he
    exact wpAny_pyNext_items_end_raw (I.ok.hd hc) he ⟨o, g0, hx, hod⟩ (by omega) fun h' eb => ⟨rfl, I.turned (t' := s.toks) (fun b ob hb e => eb b ob hb e) f0 f1 f3 f4 f5⟩
  self := fun A i s Q E st h => let ⟨_, _, e⟩ := st; PySem.W.kcp_self e h
def iItemsB (P : Program) (w : World) (td : TE) : TI := fun σ H R => td σ H fun x H1 => ∃ d o L, x = .ref d ∧ H1 d = some (.frz o (DBO P w d L)) ∧ R (ItiB P w d o L) H1
theorem pi_itemsB {e : Expr} {td : TE} {apos cpos : Pos} {elts : List Expr} {kk : Nat} {tpos : Pos} (he : PE X e td) (hbase : attributeBase e "items" X.env (eval e X.env) = eval e X.env := by rfl) (hline : (apos.endLine == cpos.line) = true := by rfl) (eP : X.prog = P := by rfl) (ew : X.w = w := by rfl) :
    PI X (.Tuple elts kk tpos) (.Call (.Attribute e "items" apos) [] [] cpos) (iItemsB P w td) := by
  subst eP ew
  refine ⟨fun pins s σ H R I h => ?_⟩
  refine wpAny_Call_method (T := "dict") (id := "dict.items") hbase rfl hline F.plainAttrs_dict F.slot_dict_items F.type_dict_items (thn (he.run pins s σ H _ I h) fun u s1 ⟨x, H1, I1, rx, d, o, L, ex, hd, q⟩ => ?_)
  subst ex
  obtain rfl : u = Value.ref d := rx
  obtain ⟨hs, g0, hx, es, ep, hdt, hsz, ent⟩ := Inv.frzB2 I1 hd
  have hr : s1.heap.DictRaw d es ep := ⟨o, g0, hx, hdt⟩
  refine ⟨hr.typeIs, fun c e => (by cases e; exact ⟨o, g0, hx.2.1⟩), ?_⟩
  have I2 : Inv X pins σ H1 { s1 with heap := s1.heap.push { cls := .type "dict_items", data := .fields #[.ref d] } } := I1.kept (t' := s1.toks) fun b ob q => Heap.get?_push_of_some _ q
  have fin : wpAny (model X.prog X.w) X.A (pyIter (.ref s1.heap.objs.size)) (PIE X pins σ (.Tuple elts kk tpos) R) X.xe { s1 with heap := s1.heap.push { cls := .type "dict_items", data := .fields #[.ref d] } } := by
    refine wpAny_pyIter_items_raw (d := d) ⟨_, Heap.get?_push_size _ rfl, rfl, rfl⟩ (hr.at fun o' z => Heap.get?_push_of_some _ z) (pi_one (tk := s1.toks) I2 _ (turn_itemsB _ hdt) ⟨.none, .none, ?_⟩ q)
    rw [← hsz]
    exact Heap.get?_push_size _ rfl
  show wpAny _ _ (callWith cpos (.builtin "dict.items") [.ref d] [] []) _ X.xe s1
  exact method_meetsIn F.slot_dict_items F.entry_dict_items rfl (PySem.evalArgs_none ⟨rfl, hr.typeIs, F.args_dict_items_1 _, _, meets_dict_items_raw d hs, ⟨es, ep, hr⟩, fin⟩)
end
end Fm
/-! {p for .. in ..}: a set comprehension of one for, its members tuples of ints. -/
namespace Fm
open PySem PySem.Spec PyProof.Rows L2 PySem.W
abbrev sc1 (el ta ea : Expr) (sc : Scope) (ps : Pos) : Expr := .SetComp el [⟨ta, ea, [], 0⟩] sc ps
section
variable {X : Cx} {K : PySem.W.Frag} {P : Program} {w : World}
def tSc1 (K : PySem.W.Frag) (P : Program) (w : World) (wa : TI) (ga : TG) (te : TE) (vs : List Nat) : TE := fun σ H Q => wa σ H fun J H1 => ∀ D, H1 D = none → ∃ W : Nat → Nat → Hp → Prop, (∃ m, W 0 m (upd H1 D (SetTO P w D []))) ∧ ∀ i m H, W i m H →
  (J.stop i H ∧ Q (.ref D) H) ∨ (J.go i H ∧ ∃ Nx : Hp → Prop, (∀ H', Nx H' → ∃ m', m' < m ∧ W (i + 1) m' H') ∧ ∀ x H', J.yld i H x H' → ga x (wipe σ vs) H' fun σ2 H2 => wipe σ2 vs = wipe σ vs ∧ te σ2 H2 fun y H7 =>
      ∃ (b : Addr) (q : List Int) (L : List (Addr × List Int)), y = .ref b ∧ SqT K H7 b (q.map V.int) ∧ H7 D = some (SetTO P w D L) ∧ TupsAt K H7 L ∧ L.length + 1 < 64 ∧ ∀ L', PutIn L b q L' → Nx (upd H7 D (SetTO P w D L')))
theorem sc1_all {pins : List (Addr × Obj)} {s : Shared} {σ : L2.St} {H : Hp} {Q : VK} {el ta ea : Expr} {sc : Scope} {own : List (Str × Nat)} {ps qs : Pos} {wa : TI} {ga : TG} {te : TE} {use : Option (Value → Sem Unit)} {Qf : Value → Shared → Prop}
    (hc : X.calm = true) (hu : X.A.units + 64 < cLine) (hN : X.N.Nodup) (I : Inv X pins σ H s) (pa : PI X ta ea wa) (ok : BlkOk X.N X.env.scope sc own)
    (pga : ∀ (s : Shared) (H : Hp) (C : Addr) (cl : List (Str × Addr)) (fp : List Addr), PG (X.blk s H sc (compEnvC sc cl C X.env) fp) ta ga)
    (pe : ∀ (s : Shared) (H : Hp) (C : Addr) (cl : List (Str × Addr)) (fp : List Addr), PE (X.blk s H sc (compEnvC sc cl C X.env) fp) el te)
    (fa : ∀ x, foldedSetIterable ea X.env x = pure x) (eK : X.K = K) (eP : X.prog = P) (ew : X.w = w)
    (h : tSc1 K P w wa ga te (own.map (·.2)) σ H Q)
    (post : ∀ D C u m H', Inv X pins σ H' u → Q (.ref D) H' → u.heap.Ns C m → FpOk X pins H' C → compPost (model X.prog X.w) X.A X.xe use Qf (.ref D) C (.ok .next) u) :
    wpAny (model X.prog X.w) X.A (comprehension (sc1 el ta ea sc ps) sc X.env qs (newSet (.type "set")) false (eval ea X.env) use) Qf X.xe s := by
  subst eK eP ew
  have hfree : ∀ y ∈ sc.names, y.2 = .free → ∃ c, X.env.cells.lookup y.1 = some c := fun y hy e => (ok.free y hy e).elim (fun z => I.ok.has _ (.inl z)) fun z => I.ok.has _ (.inr z)
  refine wpAny_comprehension_free (use := use) rfl fa (closure_ok hfree) ok.kind (fun y hy e => by rw [ok.uniq y hy, e]) (thn (pa.run pins s σ H _ I h) fun xv s1 hx => thn hx fun itv s2 h2 => ?_)
  obtain ⟨it, fp, tn, J, H2, e, I2, T, st2, f2, q⟩ := h2
  subst e
  refine wpAny_newSet_raw fun led hled => newEnv_comp ?_
  subst hled
  generalize hD : s2.heap.objs.size = D
  have hDn : H2 D = none := I2.hok.fresh (Nat.le_of_eq hD)
  obtain ⟨W, ⟨m0, w0⟩, turn⟩ := q D hDn
  generalize hob : ({ cls := .type "set", dict := none, data := .set #[] 0 (.fresh 0 0 (!X.w.params.followText "set-order")) } : Obj) = ob
  generalize hs3 : ({ s2 with heap := s2.heap.push ob } : Shared) = s3
  have h3 : s3.heap = s2.heap.push ob := by rw [← hs3]
  have gD : s3.heap.get? D = some ob := by
    rw [h3, ← hD]
    exact Heap.get?_push_size _ (by rw [← hob] <;> rfl)
  have old3 : ∀ b o, s2.heap.get? b = some o → s3.heap.get? b = some o := fun b o z => by
    rw [h3]
    exact Heap.get?_push_of_some _ z
  have I3 : Inv X pins σ (upd H2 D (SetTO X.prog X.w D [])) s3 := by
    have t0 : SetT0 X.prog X.w s3.heap D [] := (setTR_fresh (P := X.prog) (w := X.w) (by rw [gD, ← hob])).t0
    have := I2.laid (a := D) (o := SetTO X.prog X.w D []) (h' := s3.heap) (t' := s2.toks) old3 (Nat.le_of_eq hD) (setTO_new t0)
    rw [← hs3] at this ⊢
    exact this
  have lo : ∀ b ∈ fp, b < s2.heap.objs.size := fun b hb => by
    obtain ⟨o, z, _⟩ := T.obj _ _ st2 b hb
    exact Heap.lt_size z
  have f3 : ∀ b ∈ fp, FpOk X pins (upd H2 D (SetTO X.prog X.w D [])) b ∧ b < s3.heap.objs.size := fun b hb => by
    have l := lo b hb
    have ne : b ≠ D := by
      rw [← hD]
      exact Nat.ne_of_lt l
    exact ⟨⟨by rw [upd_ne ne]; exact (f2 b hb).1, (f2 b hb).2⟩, by rw [h3, Heap.size_push]; exact Nat.lt_succ_of_lt l⟩
  have st3 : tn 0 s3.heap := T.keep _ _ _ st2 fun b _ o z => old3 b o z
  have I4 := block_start I3 ok hN f3
  generalize hH3 : upd H2 D (SetTO X.prog X.w D []) = H3 at I3 I4 f3 w0
  generalize hcl : cellsFrom (s3.heap.objs.size + 1) sc.names (cloFrom X.env.cells sc.names []) = cl at I4
  have gA := pga s3 H3 s3.heap.objs.size cl fp
  have gE := pe s3 H3 s3.heap.objs.size cl fp
  show codeAny _ _ (.compStart (sc1 el ta ea sc ps) 0 (.ref it) (.ref D) (compEnvC sc cl s3.heap.objs.size X.env)) (compPost (model X.prog X.w) X.A X.xe use Qf (.ref D) s3.heap.objs.size) { s3 with heap := pushCells (s3.heap.push { cls := .type "dict", data := .dict #[] }) sc.names }
  generalize hce : compEnvC sc cl s3.heap.objs.size X.env = ce at I4 gA gE ⊢
  have cL : ce.locals = s3.heap.objs.size := by subst hce; rfl
  generalize hs4 : ({ s3 with heap := pushCells (s3.heap.push { cls := .type "dict", data := .dict #[] }) sc.names } : Shared) = s4 at I4 ⊢
  have st4 : tn 0 s4.heap := T.keep _ _ _ st3 fun b _ o z => by rw [← hs4]; exact pushCells_keeps _ _ _ _ (Heap.get?_push_of_some _ z)
  have nfp : ∀ b ∈ fp, H3 b = none := fun b hb => (f3 b hb).1.1
  have stand : ∀ {τ : L2.St} {G : Hp} {u : Shared}, Inv (X.blk s3 H3 sc ce fp) [] τ G u → (∀ b ∈ fp, G b = none) → ∀ b ∈ fp, FpOk (X.blk s3 H3 sc ce fp) [] G b := fun I' hn b hb =>
    ⟨hn b hb, (I'.ok.exf b hb).1, I'.ok.exfs b hb, .inl hb, fun x c z => (I'.ok.exf b hb).2 x c z, fun p hp => absurd (show p ∈ ([] : List (Addr × Obj)) ++ [] from hp) (by simp)⟩
  have loop : codeAny (model X.prog X.w) X.A (.compLoop (sc1 el ta ea sc ps) 0 (.ref it) (.ref D) ce) (compPost (model X.prog X.w) X.A X.xe use Qf (.ref D) s3.heap.objs.size) s4 := by
    refine PpSet.compLoopS_any (fun m u => ∃ i G, Inv (X.blk s3 H3 sc ce fp) [] (wipe σ (own.map (·.2))) G u ∧ tn i u.heap ∧ (∀ b ∈ fp, G b = none) ∧ W i m G) ?_ m0 ⟨0, H3, I4, st4, nfp, w0⟩
    rintro m u5 ⟨i, G5, I5, st5, n5, w5⟩
    rcases turn i m G5 w5 with ⟨stop, qq⟩ | ⟨go, Nx, hNx, step⟩
    · refine thnF (T.done (X.blk s3 H3 sc ce fp) rfl rfl rfl hc i [] u5 _ G5 (fun _ _ => False) I5 (stand I5 n5) st5 stop) fun r u6 ⟨hr, I6⟩ => ?_
      subst hr
      have I7 : Inv X pins σ G5 u6 := I3.call' (ch := fp) I6.os I6.base I6.hok I6.bare fun b hb => ⟨(f3 b hb).1.2.2.2.1, (f3 b hb).1.2.1, (f3 b hb).1.2.2.2.2.1, (f3 b hb).1.2.2.2.2.2⟩
      have nC : G5 ce.locals = none := I6.free
      obtain ⟨mm, hn, _⟩ := I6.loc
      have hn : u6.heap.Ns ce.locals mm := hn
      rw [cL] at hn nC
      exact post D s3.heap.objs.size u6 mm G5 I7 qq hn (I3.fpOk (Nat.le_refl _) nC)
    · refine thnF (T.item (X.blk s3 H3 sc ce fp) rfl rfl rfl hc i [] u5 _ G5 (fun _ _ => False) I5 (stand I5 n5) st5 go) fun r u6 ⟨got, hr, h6⟩ => ?_
      subst hr
      refine thnF h6 fun _ u7 ⟨x, G7, I7, r7, y7, st7, n7⟩ => ?_
      have I7' := I7.pinned (stand I7 n7) (T.obj _ _ st7)
      refine thnF (gA.run _ u7 _ G7 x got _ I7' r7 (step x G7 y7)) fun _ u8 ⟨σ8, G8, I8, hw8, q8⟩ => ?_
      refine wpAny_pure ?_
      simp only [if_true]
      have fin : ∀ {u : Shared} {G : Hp}, Inv (X.blk s3 H3 sc ce fp) ([] ++ pinsAt fp u7.heap) σ8 G u → Nx G → ∃ m', m' < m ∧ ∃ i G, Inv (X.blk s3 H3 sc ce fp) [] (wipe σ (own.map (·.2))) G u ∧ tn i u.heap ∧ (∀ b ∈ fp, G b = none) ∧ W i m' G := fun {u G} I' nx => by
        obtain ⟨m', hm, w'⟩ := hNx G nx
        have pin' : ∀ b ∈ fp, ∀ o, u7.heap.get? b = some o → u.heap.get? b = some o ∧ G b = none := fun b hb o z =>
          have zz := I'.pin (b, o) (List.mem_append_right _ (List.mem_append_right _ (mem_pinsAt hb z)))
          ⟨zz.1, zz.2.1⟩
        have hl : (wipe σ (own.map (·.2))).length = σ8.length := by rw [← hw8, wipe_length]
        refine ⟨m', hm, i + 1, G, (I'.unpinned (pins := [])).weak hl (fun j v z => ?_), T.keep _ _ _ st7 fun b hb o z => (pin' b hb o z).1, fun b hb => ?_, w'⟩
        · rw [← hw8] at z
          exact (wipe_some z).1
        · obtain ⟨o, z, _⟩ := T.obj _ _ st7 b hb
          exact (pin' b hb o z).2
      refine thnF (gE.run _ u8 σ8 G8 _ I8 q8) fun z u17 ⟨yv, G17, I17, r17, b, kk, L, ey, hb, hDL, hL, few, nx⟩ => ?_
      subst ey
      cases r17
      exact add_inv (X := X.blk s3 H3 sc ce fp) I17 hDL hL hb (by show X.A.units + 2 < cLine; omega) few fun L' u18 p I18 => fin I18 (nx L' p)
  exact codeAny_compStart_set loop (T.self X.A 0 _ _ _ st4 loop)
theorem pe_sc1 {el ta ea : Expr} {sc : Scope} {own : List (Str × Nat)} {ps : Pos} {wa : TI} {ga : TG} {te : TE} (hc : X.calm = true) (hu : X.A.units + 64 < cLine) (hN : X.N.Nodup) (pa : PI X ta ea wa) (ok : BlkOk X.N X.env.scope sc own)
    (pga : ∀ (s : Shared) (H : Hp) (C : Addr) (cl : List (Str × Addr)) (fp : List Addr), PG (X.blk s H sc (compEnvC sc cl C X.env) fp) ta ga)
    (pe : ∀ (s : Shared) (H : Hp) (C : Addr) (cl : List (Str × Addr)) (fp : List Addr), PE (X.blk s H sc (compEnvC sc cl C X.env) fp) el te)
    (fa : ∀ x, foldedSetIterable ea X.env x = pure x := by intro _; rfl) (eK : X.K = K := by rfl) (eP : X.prog = P := by rfl) (ew : X.w = w := by rfl) :
    PE X (sc1 el ta ea sc ps) (tSc1 K P w wa ga te (own.map (·.2))) := by
  refine ⟨fun pins s σ H Q I h => ?_⟩
  rw [arm_eval_SetComp]
  refine sc1_all hc hu hN I pa ok pga pe fa eK eP ew h fun D C u m H' I' q hn f => ⟨m, hn, fun g sb => ?_⟩
  obtain ⟨f0, f1, f2, f3, f4, f5⟩ := f
  exact ⟨.ref D, H', I'.turned (t' := u.toks) (fun b o hb z => (sb.2 b hb).trans z) f0 f1 f3 f4 f5, rfl, q⟩
end
end Fm
/-! sorted(list of tuples, key=len) -/
namespace Fm
open PySem PySem.Spec PyProof.Rows L2
theorem perm_map_inv {α β : Type} {f : α → β} {l l2 : List β} (h : l.Perm l2) : ∀ M : List α, l2 = M.map f → ∃ M' : List α, M'.Perm M ∧ l = M'.map f := by
  induction h with
  | nil => intro M e; exact ⟨M, .refl _, e⟩
  | cons x h ih =>
    intro M e
    cases M with
    | nil => cases e
    | cons a M =>
      rw [List.map_cons] at e
      injection e with e1 e2
      obtain ⟨M', p, e3⟩ := ih M e2
      exact ⟨a :: M', .cons a p, by rw [List.map_cons, ← e3, e1]⟩
  | swap x y l =>
    intro M e
    match M, e with
    | [], e => cases e
    | [_], e => cases e
    | a :: b :: M, e =>
      rw [List.map_cons, List.map_cons] at e
      injection e with e1 e2
      injection e2 with e2 e3
      exact ⟨b :: a :: M, .swap a b M, by rw [List.map_cons, List.map_cons, ← e1, ← e2, ← e3]⟩
  | trans h1 h2 ih1 ih2 =>
    intro M e
    obtain ⟨M1, p1, e1⟩ := ih2 M e
    obtain ⟨M2, p2, e2⟩ := ih1 M1 e1
    exact ⟨M2, p2.trans p1, e2⟩
theorem objOk_there {P : Program} {w : World} {H : Hp} {h : Heap} {a : Addr} {o : HO} (x : ObjOk P w H h a o) : h.get? a ≠ none := by
  have key : ∀ {u : Obj}, h.get? a = some u → h.get? a ≠ none := fun e z => by
    rw [e] at z
    cases z
  cases o with
  | lst xs => obtain ⟨_, _, _, _, e⟩ := x; exact key e
  | tup xs => obtain ⟨_, _, _, ⟨_, e, _⟩⟩ := x; exact key e
  | dK kvs => obtain ⟨_, _, _, _, o, _, _, e, _⟩ := x; exact key e
  | dT kvs => obtain ⟨_, _, _, _, o, _, _, e, _⟩ := x; exact key e
  | set S n => obtain ⟨o, _, _, _, e, _⟩ := x; exact key e
  | ins C dx fs => obtain ⟨_, _, _, e, _⟩ := x; exact key e
  | own y => obtain ⟨_, e⟩ := x; exact key e
  | xd fs => obtain ⟨_, ⟨_, _, _, e, _⟩, _⟩ := x; exact key e
  | rng lo hi => obtain ⟨_, _, _, e⟩ := x; exact key e
  | frz ob u => obtain ⟨e, _⟩ := x; exact key e
  | tbl ps => exact key (show h.get? a = some _ from x)
  | met f y => exact key (show h.get? a = some _ from x)
  | ext φ => obtain ⟨_, ⟨_, e⟩, _⟩ := x; exact key e
section
variable {X : Cx} {pins : List (Addr × Obj)} {σ : L2.St} {H : Hp} {s : Shared}
theorem inv_news {h' : Heap} {m : Str → Option Value} {D : Addr} {o : HO} {t' : Nat} (I : Inv X pins σ H s) (F : Fr X.base X.env.locals h' m) (hm : s.heap.Ns X.env.locals m) (kept : ∀ b u, b ≠ X.env.locals → s.heap.get? b = some u → h'.get? b = some u) (hD : s.heap.get? D = none) (hn : H D = none)
    (new : ObjOk X.prog X.w (upd H D o) h' D o) : Inv X pins σ (upd H D o) { s with heap := h', toks := t' } := by
  refine I.step (g' := s.gens) (d' := s.drawn) (ch := []) (fun b hb => by cases hb) (fun b u hL _ _ e _ => kept b u hL e) (fun b u hL _ _ e _ => ⟨u.slots, kept b u hL e⟩) (fun b u _ e n => ?_) (fun b u _ e => ?_)
    (fun b xs e => by rw [upd_ne (ne_of_none e hn)]; exact e) (fun b u v e => by rw [upd_ne (ne_of_none e hn)]; exact e) (fun b ps e => ⟨#[], by rw [upd_ne (ne_of_none e hn), e]; simp⟩) (fun m' hm' => by rw [SlX.ns_only hm' hm]; exact F.ns) (fun b u e => ?_) I.bare
  · rw [upd_ne (fun z => by rw [z, hD] at e; cases e)]
    exact n
  · by_cases z : b = X.env.locals
    · obtain ⟨o', _, _, ho, _⟩ := F.ns
      exact ⟨o', by rw [z]; exact ho⟩
    · exact ⟨u, kept b u z e⟩
  · by_cases hb : b = D
    · subst hb
      rw [upd_same] at e
      cases e
      exact new
    · rw [upd_ne hb] at e
      have own : ∀ c, (c = b ∨ H c = some (.own b)) → c ≠ X.env.locals := fun c hc z => by
        rcases hc with y | y
        · rw [← y, z, I.free] at e
          cases e
        · rw [z, I.free] at y
          cases y
      exact (I.hok b u e).stay (fun c v hc q => kept c v (own c hc) q) (fun c q => by rw [upd_ne (ne_of_none q hn)]; exact q) fun c xs q => by rw [upd_ne (ne_of_none q hn)]; exact q
end
section
variable {X : Cx} {K : PySem.W.Frag} {e : Expr} {ta : TA} {p p2 kpos pos : Pos}
def tSortLen (K : PySem.W.Frag) (ta : TA) : TE := fun σ H Q => ta σ H fun vs H1 => ∃ (a : Addr) (M : List (Addr × List V)), vs = [.ref a] ∧ SqL K H1 a (M.map fun m => V.ref m.1) ∧ (∀ m ∈ M, SqT K H1 m.1 m.2) ∧
  ∀ (M' : List (Addr × List V)) d, M'.Perm M → M'.Pairwise (fun x y => x.2.length ≤ y.2.length) → H1 d = none → Q (.ref d) (upd H1 d (.lst (M'.map fun m => V.ref m.1)))
theorem vals_refs {M : List (Addr × List V)} {us : List Value} (r : Vals (M.map fun m => V.ref m.1) us) : us = M.map fun m => Value.ref m.1 := by
  induction M generalizing us with
  | nil => cases r; rfl
  | cons m M ih =>
    cases r with
    | cons h t =>
      cases h
      rw [List.map_cons, ← ih t]
theorem pe_sortLen (hg : Gl X "sorted") (hm : X.mg "sorted" = none) (hg2 : Gl X "len") (hm2 : X.mg "len" = none) (ha : PA X [e] ta) (eK : X.K = K := by rfl)
    (hen : backTo pos (starEach [e] X.env) = (false, eval e X.env) :: backTo pos (starEach [] X.env) := by rfl) (hpl : (backTo pos (starEach [e] X.env)).any (·.1) = false := by rfl) :
    PE X (.Call (.Name "sorted" p) [e] [⟨some "key", .Name "len" p2, kpos⟩] pos) (tSortLen K ta) := by
  subst eK
  refine ⟨fun pins s σ H Q I h => ?_⟩
  refine wpAny_Call_Name_kw (ld_blt I hg hm (by decide +kernel : bootBuiltins "sorted" = some (.builtin "sorted")) ?_)
  refine PyProof.Rows.callWith_kw (thn (ha.run pos pins s σ H _ I h) fun us s1 ⟨vs, H1, I1, r1, q1⟩ => ?_) hen hpl rfl rfl
  obtain ⟨a, M, rfl, hl, ht, q⟩ := q1
  refine wpAny_evalAll_cons (wpAny_bind (ld_blt I1 hg2 hm2 PySem.boot_len (wpAny_bind (wpAny_standAt (wpAny_pure (wpAny_evalAll_nil ?_))))))
  obtain ⟨u, rfl, hu⟩ := r1.one
  cases hu
  obtain ⟨its, rv, pl, hz⟩ := I1.list hl
  have eit := vals_refs rv
  subst eit
  obtain ⟨ol, nl, hol, hcl, hdl, hdt⟩ := pl
  obtain ⟨m, hns, _⟩ := I1.loc
  have F : Fr X.base X.env.locals s1.heap m := ⟨hns, I1.bk, Nat.le_trans I1.ok.bsz I1.ok.above⟩
  have tupL : ∀ k ∈ M, k.1 ≠ X.env.locals := fun k hk z => by
    obtain ⟨its, _, ⟨o, ho, _, n, hd⟩, _⟩ := I1.tuple (ht k hk)
    obtain ⟨o', es, ep, ho', hd', _⟩ := hns
    rw [z, ho'] at ho
    cases ho
    rw [hd'] at hd
    cases hd
  have keptOf : ∀ {h' : Heap} {own : List (Addr × Obj)}, Fr X.base X.env.locals h' m → News X.base X.env.locals h' (allNews X.base s1.heap X.env.locals ++ own) → ∀ b u, b ≠ X.env.locals → s1.heap.get? b = some u → h'.get? b = some u := fun {h' own} F' N' b u hb e => by
    cases q0 : X.base.get? b with
    | some v =>
      have := I1.bk b v q0
      rw [e] at this
      cases this
      exact F'.keep b _ q0
    | none => exact (N' (b, u) (List.mem_append_left _ (mem_allNews hb q0 e))).1
  refine ksk_sortedAny (b := false) (kz := M.map fun m => (m.2.length : Int)) (vs := M.map fun m => Value.ref m.1) F news_all ⟨ol, hol, hcl, nl, hdt⟩ (by rw [List.length_map, List.length_map]) (by rw [List.length_map]; rw [List.length_map] at hz; exact hz)
    (ksk_s1 _ _) (fun x => ksk_l1 _ _) (fun x => ksk_t4 _ _) (fun i v k hv hk h tk own F' N' => ?turn) (fun D h' tk out c F' N' l1 ko => ?done)
  case turn =>
    rw [List.getElem?_map] at hv hk
    cases hi : M[i]? with
    | none =>
      rw [hi] at hv
      cases hv
    | some k0 =>
      rw [hi] at hv hk
      cases hv
      cases hk
      have hk0 := List.mem_of_getElem? hi
      obtain ⟨its, r0, ⟨o, ho, hc, n, hd⟩, hz0⟩ := I1.tuple (ht k0 hk0)
      have el := r0.length
      refine PyProof.Rows.len_tuple (items := its.toArray) ⟨o, keptOf F' N' _ _ (tupL k0 hk0) ho, hc, n, hd⟩ ?_ ?_
      · rw [List.size_toArray]
        rw [sizeLine_eq] at hz0
        omega
      · rw [List.size_toArray, ← el]
        exact ⟨h, _, _, rfl, rfl, F', N'⟩
  case done =>
    obtain ⟨ps, hp, eout, pw⟩ := ko
    rw [List.zip_map'] at hp
    obtain ⟨M', pM, rfl⟩ := perm_map_inv hp M rfl
    have nD := N' (D, seqObj "list" out c) (List.mem_cons_self ..)
    have N2 : News X.base X.env.locals h' (allNews X.base s1.heap X.env.locals ++ []) := fun z hz => N' z (by rw [List.append_nil] at hz; exact List.mem_cons_of_mem _ hz)
    have kept := keptOf F' N2
    have hD0 : s1.heap.get? D = none := by
      cases e0 : s1.heap.get? D with
      | none => rfl
      | some u => exact absurd (l1 (D, u) (mem_allNews nD.2.1 nD.2.2 e0)) (Nat.lt_irrefl D)
    have hn : H1 D = none := by
      cases e0 : H1 D with
      | none => rfl
      | some o => exact absurd hD0 (objOk_there (I1.hok D o e0))
    have lens : M'.length ≤ sizeLine := by
      rw [pM.length_eq]
      rw [List.length_map] at hz
      exact hz
    have eo : out = (M'.map fun m => Value.ref m.1).toArray := by
      rw [← (Array.toArray_toList : out.toList.toArray = out), eout, List.map_map]
      rfl
    refine ⟨.ref D, upd H1 D (.lst (M'.map fun m => V.ref m.1)), inv_news I1 F' hns kept hD0 hn ⟨by rw [List.length_map]; exact lens, M'.map (fun m => Value.ref m.1), c, ?_, ?_⟩, rfl, q M' D pM ?_ hn⟩
    · clear pM pw eout eo lens hp
      have key : ∀ N : List (Addr × List V), Vals (N.map fun m => V.ref m.1) (N.map fun m => Value.ref m.1) := fun N => by
        induction N with
        | nil => exact Paired.nil
        | cons k N ih => exact Paired.cons rfl ih
      exact key M'
    · rw [← eo]
      exact nD.1
    · rw [List.pairwise_map] at pw
      refine pw.imp fun {x y} h => ?_
      have h : (x.2.length : Int) ≤ (y.2.length : Int) := h
      omega
end
end Fm
/-! not in of a tuple; min of a list of tuples of ints -/
namespace Fm
open PySem PySem.Spec PyProof.Rows L2 PySem.W
theorem dp_intsF {K : PySem.W.Frag} {H : Hp} : ∀ c : List Int, DpAll K H (c.map V.int) (c.map PyData.int)
  | [] => .nil
  | _ :: r => .cons (.int _) (dp_intsF r)
section
variable {X : Cx} {K : PySem.W.Frag}
def rNotInT (K : PySem.W.Frag) : R2 := fun x y H Q => ∃ d ds, Dp K H x d ∧ Dp K H y (.tuple ds) ∧ SeqAt.shaped d = true ∧ SeqAt.shaped (.tuple ds) = true ∧ Q (.bl (!ds.any fun z => PyData.eqv z d)) H
theorem op_notinT (hu : X.A.units + 65 < cLine) (e : X.K = K := by rfl) : OpR X (compareOp .NotIn) (rNotInT K) := by
  subst e
  intro pins s σ H x y v u Q I rx ry h
  obtain ⟨d, ds, h1, h2, s1, s2, q⟩ := h
  obtain ⟨as, r1⟩ := Dp.reads I d x v h1 rx
  obtain ⟨bs, r2⟩ := Dp.reads I (.tuple ds) y u h2 ry
  exact SeqAt.notIn_tuple_reads r2 r1 (SeqAt.canLay_of_shaped s2) (SeqAt.canLay_of_shaped s1) (room_in_shaped s1 hu) ⟨.bl _, H, I, rfl, q⟩
theorem op_notinLK (hu : X.A.units + 65 < cLine) (e : X.K = K := by rfl) : OpR X (compareOp .NotIn) (rNotInD K) := e ▸ op_notInD hu
def intP (c : List Int) : PyData := .tuple (c.map PyData.int)
theorem alike_ints : ∀ (x y : List Int), alikeAll (x.map PyData.int) (y.map PyData.int) = true
  | [], _ => by cases ‹List Int› <;> rfl
  | _ :: _, [] => rfl
  | a :: x, b :: y => by
    rw [List.map_cons, List.map_cons, alikeAll, alike_ints x y, alike]
    rfl
theorem minD_first : ∀ (ys : List (List Int)) (x : List Int), (∀ y ∈ ys, decide (y < x) = false) → minD (intP x) (ys.map intP) = intP x
  | [], _, _ => rfl
  | y :: ys, x, h => by
    unfold minD
    rw [List.map_cons, List.foldl_cons]
    have e : dataLt (intP y) (intP x) = false := by
      unfold intP
      rw [dataLt_tups]
      exact h y (List.mem_cons_self ..)
    rw [e]
    exact minD_first ys x fun z hz => h z (List.mem_cons_of_mem _ hz)
def rMinT (K : PySem.W.Frag) : List V → Hp → VK → Prop := fun vs H Q => ∃ (a : Addr) (m : Addr × List Int) (M : List (Addr × List Int)), vs = [V.ref a] ∧ SqL K H a ((m :: M).map fun m => V.ref m.1) ∧ (∀ k ∈ m :: M, SqT K H k.1 (k.2.map V.int)) ∧
  (∀ k ∈ M, decide (k.2 < m.2) = false) ∧ ∀ k ∈ m :: M, k.2 = m.2 → Q (.ref k.1) H
theorem call_minT (hc : X.calm = true) (hu : X.A.units + 64 < cLine) (e : X.K = K := by rfl) : CallR X (.builtin "min") (rMinT K) := by
  subst e
  intro pins s σ H vs us Q I r h
  obtain ⟨a, m, M, rfl, hl, ht, hm, q⟩ := h
  obtain ⟨its, rv, pl, hz⟩ := I.list hl
  rw [Vals.ref1 r]
  have eit : its = (m :: M).map fun m => Value.ref m.1 := by
    have := vals_refs (M := (m :: M).map fun k => (k.1, k.2.map V.int)) (us := its) (by rw [List.map_map]; exact rv)
    rw [this, List.map_map]
    rfl
  have da : DpAll X.K H ((m :: M).map fun m => V.ref m.1) ((m :: M).map fun k => intP k.2) := by
    have key : ∀ N : List (Addr × List Int), (∀ k ∈ N, SqT X.K H k.1 (k.2.map V.int)) → DpAll X.K H (N.map fun m => V.ref m.1) (N.map fun k => intP k.2) := fun N => by
      induction N with
      | nil => intro _; exact .nil
      | cons k N ih => exact fun h => .cons (.tup (h k (List.mem_cons_self ..)) (dp_intsF k.2)) (ih fun z hz => h z (List.mem_cons_of_mem _ hz))
    exact key _ ht
  obtain ⟨as, r4⟩ := Dp.readsAll I ((m :: M).map fun k => intP k.2) _ its da rv
  have hal : AlikeAll ((m :: M).map fun k => intP k.2) := ⟨fun x hx y hy => by
    obtain ⟨k, _, rfl⟩ := List.mem_map.mp hx
    obtain ⟨k', _, rfl⟩ := List.mem_map.mp hy
    show alike (.tuple _) (.tuple _) = true
    rw [alike]
    exact alike_ints _ _, fun x hx z => by
    obtain ⟨k, _, rfl⟩ := List.mem_map.mp hx
    cases z⟩
  have hd1 : ∀ N : List (Addr × List Int), PyData.depthAll (N.map fun k => intP k.2) ≤ 1 := fun N => by
    induction N with
    | nil => exact Nat.zero_le _
    | cons k N ih =>
      have z : (intP k.2).depth = 1 := by
        unfold intP
        rw [PyData.depth, depth_ints]
      rw [List.map_cons, PyData.depthAll, z]
      omega
  have r6 : ReadsAll s.heap its.toArray.toList (intP m.2 :: M.map fun k : Addr × List Int => intP k.2) as := r4
  have hal : AlikeAll (intP m.2 :: M.map fun k : Addr × List Int => intP k.2) := hal
  refine min_list_data (vs := its.toArray) (I.ok.hd hc) pl.isList r6 hal (by have := hd1 (m :: M); rw [List.map_cons] at this; omega) fun i v h' tk bs hv hr hk => ?_
  have hv : its[i]? = some v := by simpa using hv
  rw [eit, List.getElem?_map] at hv
  obtain ⟨k, hk0, rfl⟩ := Option.map_eq_some_iff.mp hv
  have hkm := List.mem_of_getElem? hk0
  obtain ⟨bs2, r5⟩ := Dp.reads I (intP k.2) (.ref k.1) (Value.ref k.1) (.tup (ht k hkm) (dp_intsF k.2)) rfl
  obtain ⟨e1, _⟩ := reads_det (fun b o e _ => hk b o e) r5 hr
  have e2 := minD_first (M.map fun k => k.2) m.2 fun y hy => by
    obtain ⟨z, hz, rfl⟩ := List.mem_map.mp hy
    exact hm z hz
  rw [List.map_map] at e2
  have e3 : intP m.2 = intP k.2 := e2.symm.trans e1
  have e4 : m.2 = k.2 := by
    unfold intP at e3
    injection e3 with e3
    exact (List.map_inj_right fun a b e => by injection e).mp e3
  exact ⟨.ref k.1, H, I.kept hk, rfl, q k hkm e4.symm⟩
end
end Fm
/-! > of tuples of ints; any; d[k] = v and d[k] of a dict whose keys are tuples of ints; a list or a tuple gone through. -/
namespace Fm
open PySem PySem.Spec PyProof.Rows L2 PySem.W
section
variable {X : Cx} {K : PySem.W.Frag} {P : Program} {w : World}
def rGtT (K : PySem.W.Frag) : R2 := fun x y H Q => ∃ (ns ms : List Int), Dp K H x (intP ns) ∧ Dp K H y (intP ms) ∧ Q (.bl (decide (ms < ns))) H
theorem op_gtTK (hu : X.A.units + 65 < cLine) (e : X.K = K := by rfl) : OpR X (compareOp .Gt) (rGtT K) := by
  subst e
  intro pins s σ H x y v u Q I rx ry h
  obtain ⟨ns, ms, h1, h2, q⟩ := h
  obtain ⟨as, r1⟩ := Dp.reads I _ x v h1 rx
  obtain ⟨bs, r2⟩ := Dp.reads I _ y u h2 ry
  refine gt_data r1 r2 ?_ (by intro z; cases z) ?_ ⟨.bl _, H, I, rfl, ?_⟩
  · show alike (.tuple _) (.tuple _) = true
    rw [alike]
    exact alike_ints _ _
  · have z : (intP ns).depth = 1 := by
      unfold intP
      rw [PyData.depth, depth_ints]
    omega
  · have e : dataLt (intP ms) (intP ns) = decide (ms < ns) := by
      unfold intP
      exact dataLt_tups ms ns
    rw [e]
    exact q
theorem call_anyK (hc : X.calm = true) (e : X.K = K := by rfl) : CallR X (.builtin "any") (rAny K) := e ▸ cr_any hc
/-! ### a list or a tuple gone through -/
def iSeq (K : PySem.W.Frag) (tl : TE) : TI := fun σ H R => tl σ H fun x H1 => ∃ a L xs, x = .ref a ∧ SqA L K H1 a xs ∧ R (if L = true then Itl K a else Itt K a) H1
theorem pi_seqK {tg l : Expr} {tl : TE} (hl : PE X l tl) (eK : X.K = K := by rfl) : PI X tg l (iSeq K tl) := by
  subst eK
  refine ⟨fun pins s σ H R I h => ?_⟩
  refine thn (hl.run pins s σ H _ I h) fun v s1 ⟨x, H1, I1, r1, a, L, xs, e, hq, q⟩ => ?_
  subst e
  cases r1
  have I2 : ∀ (o : Obj), Inv X pins σ H1 { s1 with heap := s1.heap.push o } := fun o => I1.kept (t' := s1.toks) fun b u e => Heap.get?_push_of_some _ e
  have fp : ∀ b ∈ [s1.heap.objs.size], FpOk X pins H1 b := fun b hb => by
    rw [List.mem_singleton.mp hb]
    exact I1.fpOk (Nat.le_refl _) (I1.hok.fresh (Nat.le_refl _))
  cases L with
  | true =>
    obtain ⟨its, rv, p, hz⟩ := I1.list (show SqL X.K H1 a xs from hq)
    exact wpAny_pyIter_list p.isList ⟨_, _, _, _, H1, rfl, I2 _, turn_list a _, ⟨_, Heap.get?_push_size _ rfl, rfl, rfl⟩, fp, q⟩
  | false =>
    obtain ⟨its, rv, p, hz⟩ := I1.tuple (show SqT X.K H1 a xs from hq)
    exact wpAny_pyIter_tuple (show s1.heap.IsTuple a its.toArray from p) ⟨_, _, _, _, H1, rfl, I2 _, turn_tuple a _, ⟨_, Heap.get?_push_size _ rfl, rfl, rfl⟩, fp, q⟩
theorem lc_seq {a : Addr} {L : Bool} {xs : List L2.V} {g : TG} {tt : TT} {te : TE} {vs : List Nat} {σ : L2.St} {H1 : Hp} {D : Addr} {Qd : Hp → Prop} (Pv : Nat → Hp → Prop) (h0 : Pv 0 (upd H1 D (.lst []))) (hl : ∀ i H, i ≤ xs.length → Pv i H → SqA L K H a xs)
    (hs : ∀ (i : Nat) (x : L2.V) (H : Hp), xs[i]? = some x → Pv i H → g x (wipe σ vs) H fun σ2 H2 => wipe σ2 vs = wipe σ vs ∧ tt σ2 H2 fun b H3 => if b = true then te σ2 H3 fun y H4 => ∃ acc, H4 D = some (.lst acc) ∧ acc.length < sizeLine ∧ Pv (i + 1) (upd H4 D (.lst (acc ++ [y]))) else Pv (i + 1) H3)
    (hd : ∀ H, Pv xs.length H → Qd H) :
    ∃ W : Nat → Nat → Hp → Prop, (∃ m, W 0 m (upd H1 D (.lst []))) ∧ ∀ i m H, W i m H →
      ((if L = true then Itl K a else Itt K a).stop i H ∧ Qd H) ∨ ((if L = true then Itl K a else Itt K a).go i H ∧ ∃ Nx : Hp → Prop, (∀ H', Nx H' → ∃ m', m' < m ∧ W (i + 1) m' H') ∧ ∀ x H', (if L = true then Itl K a else Itt K a).yld i H x H' → g x (wipe σ vs) H' fun σ2 H2 => wipe σ2 vs = wipe σ vs ∧ tt σ2 H2 fun b H3 =>
        if b = true then te σ2 H3 fun y H4 => ∃ acc, H4 D = some (.lst acc) ∧ acc.length < sizeLine ∧ Nx (upd H4 D (.lst (acc ++ [y]))) else Nx H3) := by
  cases L with
  | true => exact lc_list (K := K) (xs := xs) Pv h0 hl hs hd
  | false => exact lc_tup (K := K) (xs := xs) Pv h0 hl hs hd
/-! ### d[k] = v, d[k] -/
abbrev TupL := List (Addr × List Int × L2.V)
def KeysT (K : PySem.W.Frag) (H : Hp) (L : TupL) : Prop := ∀ p ∈ L, SqT K H p.1 (p.2.1.map V.int)
def storeT (L : TupL) (b : Addr) (q : List Int) (v : L2.V) : TupL := if (findT L q).isSome then L.map (fun p => if p.2.1 = q then (p.1, p.2.1, v) else p) else L ++ [(b, q, v)]
theorem valF_put {L : TupL} {xs : List Ent} {q : List Int} {v : L2.V} {r : Value} (h : ValF L xs) (rv : RelV v r) : ValF (L.map fun p => if p.2.1 = q then (p.1, p.2.1, v) else p) (xs.map (putAt q r)) := by
  unfold ValF at h ⊢
  induction h with
  | nil => exact .nil
  | @cons p x ps qs r1 _ ih =>
    rw [List.map_cons, List.map_cons]
    refine .cons ?_ ih
    obtain ⟨a1, a2, a3⟩ := r1
    unfold putAt
    by_cases e : p.2.1 = q
    · rw [if_pos e, if_pos (by rw [a2, e])]
      exact ⟨a1, a2, rv⟩
    · rw [if_neg e, if_neg (fun z => e (a2.symm.trans z))]
      exact ⟨a1, a2, a3⟩
def sDPutT (K : PySem.W.Frag) (P : Program) (w : World) (td ty tv : TE) : TS := fun D σ H => tv σ H fun v H1 => td σ H1 fun x H2 => ty σ H2 fun y H3 => ∃ (a b : Addr) (q : List Int) (L : TupL), x = .ref a ∧ y = .ref b ∧ H3 a = some (DTO P w a (ValF L)) ∧ KeysT K H3 L ∧ SqT K H3 b (q.map V.int) ∧ L.length ≤ 100000 ∧
  D.nx σ (upd H3 a (DTO P w a (ValF (storeT L b q v))))
theorem ps_dputT {o i value : Expr} {pos pos' : Pos} {td ty tv : TE} (hu : X.A.units + 64 < cLine) (ho : PE X o td) (hi : PE X i ty) (hv : PE X value tv) (hs : swapsWith value (some (.Subscript o i pos')) pos.line X.env = pure false) (eK : X.K = K := by rfl) (eP : X.prog = P := by rfl) (ew : X.w = w := by rfl) :
    PS X (.Assign [.Subscript o i pos'] value pos) (sDPutT K P w td ty tv) := by
  subst eK eP ew
  refine ⟨fun pins s σ H D I h => ?_⟩
  refine wpAny_Assign_Subscript (thn (hv.run pins s σ H _ I h) fun r s1 ⟨v, H1, I1, rv, q1⟩ => thn (ho.run pins s1 σ H1 _ I1 q1) fun u s2 ⟨x, H2, I2, rx, q2⟩ => thn (hi.run pins s2 σ H2 _ I2 q2) fun iv s3 ⟨y, H3, I3, ry, a, b, q, L, ex, ey, ha, hL, hb, hl, q3⟩ => ?_) hs
  subst ex ey
  cases rx
  cases ry
  obtain ⟨xs, hF, hd⟩ := Inv.dto I3 (.inl ha)
  have hxl : xs.length = L.length := (Paired.length hF).symm
  have hk : ∀ x ∈ xs, IsT X.prog X.w s3.heap x.1 x.2.1 := fun x hx => by
    obtain ⟨p, hp, e1, e2⟩ := valF_mem hF x hx
    rw [e1, e2]
    exact Inv.isT I3 (hL p hp)
  refine wpAny_setItem_heap (knd := TK X.prog X.w) (hsz := by rw [hxl, sizeLine_eq]; omega) (show X.A.units + 1 < cLine by omega) (Inv.isT I3 hb) (hd.full hk) fun h' hm sb => ?_
  have he : ∃ u, h'.get? a = some u := by
    obtain ⟨o, _, _, z, _⟩ := hm
    exact ⟨o, z⟩
  have e : (findT L q).isSome = (atKey xs q).isSome := by
    have z : RelO (findT L q) ((atKey xs q).map (·.2)) := hF.find q
    rw [z.isSome_eq, Option.isSome_map]
  have hF2 : ValF (storeT L b q v) (storedH xs q b r) := by
    unfold storeT storedH
    rw [e]
    by_cases z : (atKey xs q).isSome = true
    · rw [if_pos z, if_pos z]
      exact valF_put hF rv
    · rw [if_neg z, if_neg z]
      exact Paired.snoc hF ⟨rfl, rfl, rv⟩
  exact ⟨σ, _, I3.write (e := a) (t' := s3.toks + (TK X.prog X.w).draws q) (by rw [ha]; trivial) (.inl rfl) (fun c u hc hu => (sb.2 c hc).trans hu) he (dto_ok hF2 (raw_of hm hd.1)), q3⟩
def tDGetK (K : PySem.W.Frag) (P : Program) (w : World) (td ty : TE) : TE := fun σ H Q => td σ H fun x H1 => ty σ H1 fun y H2 => ∃ (a b : Addr) (q : List Int) (L : TupL) (v : L2.V), x = .ref a ∧ y = .ref b ∧ H2 a = some (DTO P w a (ValF L)) ∧ KeysT K H2 L ∧ SqT K H2 b (q.map V.int) ∧ findT L q = some v ∧ Q v H2
theorem pe_dgetK {o i : Expr} {pos : Pos} {td ty : TE} (hu : X.A.units + 64 < cLine) (ho : PE X o td) (hi : PE X i ty) (hs : NoSl i) (eK : X.K = K := by rfl) (eP : X.prog = P := by rfl) (ew : X.w = w := by rfl) : PE X (.Subscript o i pos) (tDGetK K P w td ty) := by
  subst eK eP ew
  refine ⟨fun pins s σ H Q I h => ?_⟩
  refine subD_of PySem.F.slot_dict_getitem.lookup hs (thn (ho.run pins s σ H _ I h) fun u s1 ⟨x, H1, I1, rx, q1⟩ => thn (hi.run pins s1 σ H1 _ I1 q1) fun iv s2 ⟨y, H2, I2, ry, a, b, q, L, v, ex, ey, ha, hL, hb, hv, q2⟩ => ?_)
  subst ex ey
  cases rx
  cases ry
  obtain ⟨xs, hF, hd⟩ := Inv.dto I2 (.inl ha)
  have dd := hd.full fun x hx => by
    obtain ⟨p, hp, e1, e2⟩ := valF_mem hF x hx
    rw [e1, e2]
    exact Inv.isT I2 (hL p hp)
  have rl : RelO (findT L q) ((atKey xs q).map (·.2)) := hF.find q
  rw [hv] at rl
  cases hz : atKey xs q with
  | none =>
    rw [hz] at rl
    exact (show False from rl).elim
  | some p =>
    rw [hz] at rl
    exact ⟨dd.typeIs, wpAny_getItem_heap (knd := TK X.prog X.w) (show X.A.units + 1 < cLine by omega) (Inv.isT I2 hb) dd hz ⟨_, H2, I2.tok _, rl, q2⟩⟩
/-! ### what a store makes of what is found -/
theorem findT_store {L : TupL} {b : Addr} {q k : List Int} {v : L2.V} : findT (storeT L b q v) k = if k = q then some v else findT L k := by
  have key : ∀ L : TupL, findT (L.map fun p => if p.2.1 = q then (p.1, p.2.1, v) else p) k = if k = q then (findT L k).map (fun _ => v) else findT L k := by
    intro L
    induction L with
    | nil => by_cases e : k = q <;> simp [findT, e]
    | cons p L ih =>
      have c : ∀ (p : Addr × List Int × L2.V) (L : TupL), findT (p :: L) k = if p.2.1 = k then some p.2.2 else findT L k := fun p L => by
        unfold findT
        rw [List.find?_cons]
        by_cases e : p.2.1 = k <;> simp [e]
      rw [List.map_cons, c, c, ih]
      by_cases e1 : p.2.1 = q
      · rw [if_pos e1]
        by_cases e2 : k = q
        · rw [if_pos e2, if_pos (by rw [e2]; exact e1), if_pos e2, if_pos (by rw [e2]; exact e1)] <;> rfl
        · rw [if_neg e2, if_neg (fun z => e2 (by rw [← z]; exact e1)), if_neg e2, if_neg (fun z => e2 (by rw [← z]; exact e1))]
      · rw [if_neg e1]
        by_cases e2 : k = q
        · have n : ¬ p.2.1 = k := fun z => e1 (by rw [z, e2])
          rw [if_neg n, if_neg n]
        · by_cases e3 : p.2.1 = k
          · rw [if_pos e3, if_neg e2, if_pos e3]
          · rw [if_neg e3, if_neg e3]
  unfold storeT
  by_cases h : (findT L q).isSome = true
  · rw [if_pos h, key]
    by_cases e : k = q
    · subst e
      rw [if_pos rfl, if_pos rfl]
      obtain ⟨x, hx⟩ := Option.isSome_iff_exists.mp h
      rw [hx]
      rfl
    · rw [if_neg e, if_neg e]
  · rw [if_neg h]
    have hn : findT L q = none := by
      cases z : findT L q with
      | none => rfl
      | some x => exact absurd (by rw [z]; rfl) h
    unfold findT at hn ⊢
    rw [List.find?_append]
    have hn2 := Option.map_eq_none_iff.mp hn
    by_cases e : k = q
    · subst e
      rw [if_pos rfl, hn2]
      simp
    · rw [if_neg e]
      cases z : L.find? (fun p => decide (p.2.1 = k)) with
      | none => simp [Ne.symm e]
      | some x => rfl
theorem storeT_keys {L : TupL} {b : Addr} {q : List Int} {v : L2.V} : ∀ p ∈ storeT L b q v, (∃ p' ∈ L, p.1 = p'.1 ∧ p.2.1 = p'.2.1) ∨ (p.1 = b ∧ p.2.1 = q) := fun p hp => by
  unfold storeT at hp
  by_cases h : (findT L q).isSome = true
  · rw [if_pos h] at hp
    obtain ⟨x, hx, rfl⟩ := List.mem_map.mp hp
    refine .inl ⟨x, hx, ?_⟩
    by_cases e : x.2.1 = q
    · rw [if_pos e]
      exact ⟨rfl, rfl⟩
    · rw [if_neg e]
      exact ⟨rfl, rfl⟩
  · rw [if_neg h] at hp
    rcases List.mem_append.mp hp with z | z
    · exact .inl ⟨p, z, rfl, rfl⟩
    · rw [List.mem_singleton.mp z]
      exact .inr ⟨rfl, rfl⟩
theorem storeT_len {L : TupL} {b : Addr} {q : List Int} {v : L2.V} : (storeT L b q v).length ≤ L.length + 1 := by
  unfold storeT
  by_cases h : (findT L q).isSome = true
  · rw [if_pos h, List.length_map]
    omega
  · rw [if_neg h, List.length_append]
    exact Nat.le_refl _
end
end Fm
/-! Dicts with keys of more than one kind: looked up, stored into, gone through, told a dict. -/
namespace Fm
open PySem PySem.Spec PyProof.Rows L2 PySem.W
open PySem.SeqAt (EqAt)
abbrev EntM := NestedKey × Value × Value
def entM (w : World) (x : EntM) : DictEntry := ⟨x.1.hash w, x.2.1, x.2.2⟩
section
variable {prog : Program} {w : World} {A : Around} {E : Value → Shared → Prop} {s : Shared}
theorem mayTell_no {v : Value} {st : List Value} {Q : Bool → Shared → Prop} (hv : QuietAt prog w 8 s v) (hs : ∀ u ∈ st, QuietAt prog w 8 s u) (q : Q false s) : wpAny (model prog w) A (tableMayTell v st) Q E s := by
  unfold tableMayTell
  by_cases e : st.isEmpty = true
  · rw [if_pos e]
    exact wpAny_pure q
  · rw [if_neg e]
    refine wpAny_bind (hv _ _ _ ?_)
    simp only [Bool.not_true, Bool.false_eq_true, if_false]
    refine wpAny_bind (wpAny_forIn_list _ (fun left r t => t = s ∧ r = (none, ()) ∧ ∀ u ∈ left, QuietAt prog w 8 s u) _ ?_ ?_ _ _ ⟨rfl, rfl, hs⟩)
    · rintro u left r t ⟨rfl, rfl, hl⟩
      refine wpAny_bind (hl u (List.mem_cons_self ..) _ _ _ ?_)
      simp only [Bool.not_true, Bool.false_eq_true, if_false]
      exact wpAny_pure ⟨rfl, rfl, fun z hz => hl z (List.mem_cons_of_mem _ hz)⟩
    · rintro r t ⟨rfl, rfl, _⟩
      exact wpAny_pure q
theorem entM_at {es : Array DictEntry} {xs : List EntM} (he : es.toList = xs.map (entM w)) (j : Nat) : es[j]? = (xs[j]?).map (entM w) := by
  rw [← Array.getElem?_toList, he, List.getElem?_map]
theorem entM_size {es : Array DictEntry} {xs : List EntM} (he : es.toList = xs.map (entM w)) : es.size = xs.length := by
  rw [← Array.length_toList, he, List.length_map]
theorem mix_ix {xs : List EntM} (nd : (xs.map (·.1)).Nodup) {i j : Nat} {k : NestedKey} {p r : Value × Value} (hi : xs[i]? = some (k, p)) (hj : xs[j]? = some (k, r)) : i = j := by
  have li := (List.getElem?_eq_some_iff.mp hi).1
  have lj := (List.getElem?_eq_some_iff.mp hj).1
  have e1 : (xs.map (·.1))[i]? = some k := by rw [List.getElem?_map, hi]; rfl
  have e2 : (xs.map (·.1))[j]? = some k := by rw [List.getElem?_map, hj]; rfl
  exact (List.getElem?_inj (by rw [List.length_map]; exact li) nd).mp (e1.trans e2.symm)
/-- looking for a key, whatever stands in the dict -/
theorem find_mix {d : Addr} {kv : Value} {o : Obj} {es : Array DictEntry} {ep : Nat} {xs : List EntM} {k : NestedKey} {Q : Option Nat → Shared → Prop} (hu : A.units + 8 < cLine) (hk : NestedIs s.heap k kv) (k8 : k.depth ≤ 8)
    (ho : s.heap.get? d = some o) (hd : o.data = .dict es ep) (he : es.toList = xs.map (entM w)) (his : ∀ x ∈ xs, NestedIs s.heap x.1 x.2.1 ∧ x.1.depth ≤ 8) (nd : (xs.map (·.1)).Nodup)
    (mix : (∃ a, kv = .ref a) ∨ ∀ x ∈ xs, ∃ a, x.2.1 = .ref a) (ne : xs ≠ [])
    (hnone : (∀ (j : Nat) (p : Value × Value), xs[j]? ≠ some (k, p)) → Q none s) (hsome : ∀ (j : Nat) (p : Value × Value), xs[j]? = some (k, p) → Q (some j) s) :
    wpAny (model prog w) A (dictFind d kv (k.hash w)) Q E s := by
  have sz := entM_size he
  have ea := entM_at he
  generalize hP : placesWithHash es.size (fun i => es[i]?.map (·.hash)) (k.hash w) = pl
  have inP : ∀ j, j ∈ pl ↔ ∃ x, xs[j]? = some x ∧ x.1.hash w = k.hash w := fun j => by
    rw [← hP]
    unfold placesWithHash
    rw [List.mem_filter, List.mem_range]
    simp only [ea]
    constructor
    · rintro ⟨h1, h2⟩
      obtain ⟨x, hx⟩ : ∃ x, xs[j]? = some x := ⟨_, List.getElem?_eq_getElem (by omega)⟩
      rw [hx] at h2
      exact ⟨x, hx, by simpa [entM] using h2⟩
    · rintro ⟨x, hx, e⟩
      have := (List.getElem?_eq_some_iff.mp hx).1
      rw [hx]
      exact ⟨by omega, by simp [entM, e]⟩
  have ndP : pl.Nodup := by
    rw [← hP]
    unfold placesWithHash
    exact List.nodup_range.sublist List.filter_sublist
  generalize hS : pl.filterMap (fun i => es[i]?.map (·.key)) = st
  have inS : ∀ u ∈ st, ∃ x ∈ xs, u = x.2.1 := fun u hu' => by
    rw [← hS] at hu'
    obtain ⟨i, _, hi⟩ := List.mem_filterMap.mp hu'
    rw [ea i] at hi
    obtain ⟨e, h1, h2⟩ := Option.map_eq_some_iff.mp hi
    obtain ⟨x, hx, h3⟩ := Option.map_eq_some_iff.mp h1
    refine ⟨x, List.mem_of_getElem? hx, ?_⟩
    rw [← h2, ← h3]
    rfl
  unfold dictFind
  try with_reducible refine wpAny_holding ?_
  refine wpAny_bind (wpAny_dictEntries ho hd ?_)
  have st_of : ∀ j ∈ pl, ∃ x, xs[j]? = some x ∧ x.2.1 ∈ st := fun j hj => by
    obtain ⟨x, hx, _⟩ := (inP j).mp hj
    refine ⟨x, hx, ?_⟩
    rw [← hS]
    exact List.mem_filterMap.mpr ⟨j, hj, by rw [ea j, hx]; rfl⟩
  have quk : QuietAt prog w 8 s kv := quiet_key k kv 8 s hk k8
  have qus : ∀ u ∈ st, QuietAt prog w 8 s u := fun u hu' => by
    obtain ⟨x, hx, rfl⟩ := inS u hu'
    exact quiet_key _ _ 8 s (his x hx).1 (his x hx).2
  have none_of : ¬ (∃ a, kv = .ref a) → (kv :: st).all carriedByValue = true → Q none s := fun hno hst => hnone fun j p hj => by
    obtain ⟨x, _, hx⟩ := st_of j ((inP j).mpr ⟨_, hj, rfl⟩)
    obtain ⟨y, hy, e⟩ := inS _ hx
    rcases mix with z | mix
    · exact hno z
    · obtain ⟨a, ha⟩ := mix y hy
      rw [List.all_cons, Bool.and_eq_true] at hst
      have := List.all_eq_true.mp hst.2 _ hx
      rw [e, ha] at this
      cases this
  have pl_nil : ¬ (∃ a, kv = .ref a) → (kv :: st).all carriedByValue = true → pl = [] := fun hno hst => by
    cases pl with
    | nil => rfl
    | cons j r =>
      obtain ⟨x, hx0, hx⟩ := st_of j (List.mem_cons_self ..)
      rcases mix with z | mix
      · exact absurd z hno
      · obtain ⟨a, ha⟩ := mix x (List.mem_of_getElem? hx0)
        rw [List.all_cons, Bool.and_eq_true] at hst
        have := List.all_eq_true.mp hst.2 _ hx
        rw [ha] at this
        cases this
  have hany : ¬ (es.any fun e => e.key == kv && e.hash != k.hash w) = true := by
    rw [← Array.any_toList, he, List.any_eq_true]
    rintro ⟨e, hm, hc⟩
    obtain ⟨x, hx, rfl⟩ := List.mem_map.mp hm
    simp only [entM, Bool.and_eq_true, beq_iff_eq, bne_iff_ne] at hc
    have := (his x hx).1
    rw [hc.1] at this
    exact hc.2 (by rw [NestedIs.inj _ _ _ this hk])
  have step : ∀ (x : EntM) (j : Nat), xs[j]? = some x → EqAt A s x.2.1 kv (decide (x.1 = k)) := fun x j hx => by
    rw [NestedKey.decide_eq]
    have z := his x (List.mem_of_getElem? hx)
    exact eqAt_key _ _ _ _ _ _ z.1 hk (by omega)
  have allstr : ∀ x t, kv = .str x t → ¬ (es.all fun e => isExactStrKey e.key) = true := fun x t e => by
    rcases mix with ⟨a, z⟩ | mix
    · rw [e] at z
      cases z
    · cases xs with
      | nil => exact absurd rfl ne
      | cons y r =>
        rw [← Array.all_toList, he, List.map_cons, List.all_cons, Bool.and_eq_true]
        rintro ⟨h1, _⟩
        obtain ⟨a, ha⟩ := mix y (List.mem_cons_self ..)
        unfold entM at h1
        rw [ha] at h1
        cases h1
  obtain ⟨Hit, eH⟩ : ∃ Hit : Nat → Value × Value → Prop, ∀ j p, Hit j p ↔ xs[j]? = some (k, p) := ⟨_, fun _ _ => Iff.rfl⟩
  have hitP : ∀ j p, Hit j p → j ∈ pl := fun j p h => (inP j).mpr ⟨_, (eH j p).mp h, rfl⟩
  have hit1 : ∀ i j p r, Hit i p → Hit j r → i = j := fun i j p r h1 h2 => mix_ix nd ((eH i p).mp h1) ((eH j r).mp h2)
  have at1 : ∀ j ∈ pl, ∃ (x : EntM) (b : Bool), es[j]? = some (entM w x) ∧ x.1.hash w = k.hash w ∧ EqAt A s x.2.1 kv b ∧ (b = true → ∃ p, Hit j p) ∧ (b = false → ∀ p, ¬ Hit j p) := fun j hj => by
    obtain ⟨x, hx, e⟩ := (inP j).mp hj
    refine ⟨x, _, by rw [ea j, hx]; rfl, e, step x j hx, fun h => ?_, fun h p hp => ?_⟩
    · have := of_decide_eq_true h
      exact ⟨x.2, (eH j _).mpr (by rw [hx, ← this])⟩
    · rw [eH, hx] at hp
      have := of_decide_eq_false h
      cases hp
      exact this rfl
  have qn : (∀ j p, ¬ Hit j p) → Q none s := fun h => hnone fun j p e => h j p ((eH j p).mpr e)
  have qs : ∀ j p, Hit j p → Q (some j) s := fun j p h => hsome j p ((eH j p).mp h)
  clear hnone hsome step eH
  have hdis := Classical.em ((kv :: st).all carriedByValue = true)
  have hone := Classical.em ((st == [kv]) = true)
  cases hk <;> (dsimp only; rw [hP, hS]; try rw [if_neg (allstr _ _ rfl)])
  all_goals (
    first
      | rw [if_neg (show ¬ (Value.ref _ :: st).all carriedByValue = true by simp [carriedByValue]), if_neg hany]
      | (rcases hdis with hst | hst
         · rw [if_pos hst, pl_nil (fun ⟨_, z⟩ => nomatch z) hst]
           exact wpAny_bind (wpAny_pure (wpAny_pure (none_of (fun ⟨_, z⟩ => nomatch z) hst)))
         rw [if_neg hst]))
  all_goals (
    rcases hone with hone | hone <;> (first | rw [if_pos hone] | rw [if_neg hone]) <;> (first | refine wpAny_bind (wpAny_pure ?_) | refine wpAny_bind (mayTell_no quk qus ?_)))
  all_goals rw [if_neg (by simp)]
  all_goals refine wpAny_bind ?_
  all_goals (
    refine wpAny_forIn_list _ (fun left b t => t = s ∧ ∃ hit, b = (none, hit) ∧ left.Nodup ∧ (∀ j ∈ left, j ∈ pl) ∧ ((hit = none ∧ ∀ j p, Hit j p → j ∈ left) ∨ ∃ j p, hit = some j ∧ Hit j p ∧ j ∉ left)) _ ?_ ?_ _ _
      ⟨rfl, none, rfl, ndP, fun j hj => hj, .inl ⟨rfl, hitP⟩⟩)
  all_goals first
    | (rintro j left b t ⟨rfl, hit, rfl, ndl, inl, hH⟩
       obtain ⟨nl, ndl⟩ := List.nodup_cons.mp ndl
       obtain ⟨x, eq, e1, e2, e3, e4, e5⟩ := at1 j (inl j (List.mem_cons_self ..))
       have inl' : ∀ i ∈ left, i ∈ pl := fun i hi => inl i (List.mem_cons_of_mem _ hi)
       rw [e1]
       dsimp only [entM]
       rw [if_pos (show (_ == _) = true by rw [e2]; exact beq_self_eq_true _)]
       refine wpAny_bind (wpAny_dictEpoch ho hd (wpAny_bind (e3 _ _ _ _ (wpAny_bind (wpAny_dictEpoch ho hd ?_)))))
       rw [if_neg (by simp)]
       cases eq with
       | true =>
         obtain ⟨p, hp⟩ := e4 rfl
         have hn : hit = none := by
           rcases hH with ⟨h, _⟩ | ⟨i, r, _, h2, h3⟩
           · exact h
           · exact absurd (List.mem_cons.mpr (.inl (hit1 i j r p h2 hp))) h3
         subst hn
         rw [if_pos rfl, if_neg (by simp)]
         refine wpAny_bind (wpAny_rule ?_)
         split
         · exact wpAny_pure (wpAny_pure (qs j p hp))
         · exact wpAny_pure ⟨rfl, some j, rfl, ndl, inl', .inr ⟨j, p, rfl, hp, nl⟩⟩
       | false =>
         rw [if_neg (by simp)]
         refine wpAny_bind (wpAny_rule ?_)
         rw [if_neg (by simp)]
         refine wpAny_pure ⟨rfl, hit, rfl, ndl, inl', ?_⟩
         rcases hH with ⟨h, h2⟩ | ⟨i, r, h1, h2, h3⟩
         · refine .inl ⟨h, fun i r hr => ?_⟩
           rcases List.mem_cons.mp (h2 i r hr) with z | z
           · rw [z] at hr
             exact absurd hr (e5 rfl r)
           · exact z
         · exact .inr ⟨i, r, h1, h2, fun z => h3 (List.mem_cons_of_mem _ z)⟩)
    | (rintro b t ⟨rfl, hit, rfl, _, _, hH⟩
       dsimp only
       rcases hH with ⟨rfl, hno⟩ | ⟨j, p, rfl, hj, _⟩
       · exact wpAny_pure (qn fun j p h => nomatch hno j p h)
       · exact wpAny_pure (qs j p hj))
/-- what the entries of a dict are -/
def MRaw (w : World) (h : Heap) (d : Addr) (xs : List EntM) : Prop := (d == sysModules) = false ∧ (xs.map (·.1)).Nodup ∧ ∃ o es ep, h.get? d = some o ∧ o.ExactDict ∧ o.data = .dict es ep ∧ es.toList = xs.map (entM w)
def KeysIs (h : Heap) (xs : List EntM) : Prop := ∀ x ∈ xs, NestedIs h x.1 x.2.1 ∧ x.1.depth ≤ 8
/-- d[k] = v, k new -/
theorem set_mix {d : Addr} {kv v : Value} {xs : List EntM} {k : NestedKey} {Q : Unit → Shared → Prop} (hu : A.units + 9 < cLine) (hk : NestedIs s.heap k kv) (k8 : k.depth ≤ 8) (raw : MRaw w s.heap d xs) (his : KeysIs s.heap xs)
    (mix : (∃ a, kv = .ref a) ∨ ∀ x ∈ xs, ∃ a, x.2.1 = .ref a) (ne : xs ≠ []) (hno : ∀ x ∈ xs, x.1 ≠ k) (hz : xs.length ≤ 100000)
    (h : ∀ h', MRaw w h' d (xs ++ [(k, kv, v)]) → Heap.SameBut d s.heap h' → Q () { s with heap := h', toks := s.toks + k.draws }) : wpAny (model prog w) A (setItem (.ref d) kv v) Q E s := by
  obtain ⟨sy, nd, o, es, ep, ho, ex, hd, he⟩ := raw
  have ty : s.TypeIs (.ref d) "dict" := ⟨o, ho, ex.1⟩
  have sz := entM_size he
  unfold setItem
  try with_reducible (refine wpAny_holding ?_)
  refine wpAny_bind (wpAny_sequenceKey ty (by decide) ?_)
  refine wpAny_bind (wpAny_callSpecial?_slot (name := Str.ofString "__setitem__") ty PySem.F.slot_dict_setitem (wpAny_call_entry PySem.F.slot_dict_setitem ty PySem.F.entry_dict_setitem ?_ (args_dict_setitem _ _ _)))
  show wpAny _ _ (Builtin.Dict.notOrdered "__setitem__" ⟨[.ref d, kv, v], []⟩ >>= _) _ _ s
  refine wpAny_bind (wpAny_notOrdered_dict ty ?_)
  show wpAny _ _ (dictSet d kv v >>= _) _ _ s
  refine wpAny_bind ?_
  unfold dictSet
  try with_reducible (refine wpAny_holding ?_)
  refine wpAny_bind (pyHash_key k kv _ s _ hk (show A.units + 1 + k.depth < cLine by omega) ?_)
  unfold dictSetHashed
  try with_reducible (refine wpAny_holding ?_)
  refine wpAny_bind (find_mix (s := { s with toks := s.toks + k.draws }) (show A.units + 1 + 8 < cLine by omega) hk k8 ho hd he his nd mix ne (fun _ => ?_) fun j p hj => absurd rfl (hno _ (List.mem_of_getElem? hj)))
  refine wpAny_bind (wpAny_rule (wpAny_updateDictKeys (hz := by rw [sz, sizeLine_eq]; omega) (s := { s with toks := s.toks + k.draws }) ho hd (wpAny_pure ⟨.none, rfl, wpAny_pure (h _ ⟨sy, ?_, _, _, ep + 1, Heap.get?_update_self _ ho (Obj.isFreed_of_dict (Obj.data_mapDictKeys hd _)), ex.mapDictKeys _, Obj.data_mapDictKeys hd _, ?_⟩ (Heap.SameBut.update ..))⟩)))
  · rw [List.map_append, List.nodup_append]
    refine ⟨nd, by simp, fun x hx y hy e => ?_⟩
    have ey : y = k := by simpa using hy
    obtain ⟨z, hz, rfl⟩ := List.mem_map.mp hx
    exact hno z hz (e.trans ey)
  · rw [List.map_append]
    simp [he, entM]
/-- d[k], k there -/
theorem get_mix {d : Addr} {kv : Value} {xs : List EntM} {k : NestedKey} {p : Value × Value} {Q : Value → Shared → Prop} (hu : A.units + 9 < cLine) (hk : NestedIs s.heap k kv) (k8 : k.depth ≤ 8) (raw : MRaw w s.heap d xs) (his : KeysIs s.heap xs)
    (mix : ∃ a, kv = .ref a) (hp : (k, p) ∈ xs) (h : Q p.2 { s with toks := s.toks + k.draws }) : wpAny (model prog w) A (getItem (.ref d) kv) Q E s := by
  obtain ⟨sy, nd, o, es, ep, ho, ex, hd, he⟩ := raw
  have ty : s.TypeIs (.ref d) "dict" := ⟨o, ho, ex.1⟩
  obtain ⟨i, hi, ei⟩ := List.mem_iff_getElem.mp hp
  have hi2 : xs[i]? = some (k, p) := by rw [List.getElem?_eq_getElem hi, ei]
  unfold getItem
  try with_reducible (refine wpAny_holding ?_)
  refine wpAny_bind (wpAny_sequenceKey ty (by decide) ?_)
  refine wpAny_bind (wpAny_callSpecial?_slot (name := Str.ofString "__getitem__") ty PySem.F.slot_dict_getitem (wpAny_call_entry PySem.F.slot_dict_getitem ty PySem.F.entry_dict_getitem ?_ (args_dict_getitem _ _)))
  show wpAny _ _ (dictGet d kv >>= _) _ _ s
  refine wpAny_bind ?_
  unfold dictGet
  try with_reducible (refine wpAny_holding ?_)
  refine wpAny_bind (pyHash_key k kv _ s _ hk (show A.units + 1 + k.depth < cLine by omega) (wpAny_bind (find_mix (s := { s with toks := s.toks + k.draws }) (show A.units + 1 + 8 < cLine by omega) hk k8 ho hd he his nd (.inl mix) (List.ne_nil_of_mem hp) (fun hno => absurd hi2 (hno i p)) fun j p' hj => ?_)))
  have ej : j = i := mix_ix nd hj hi2
  subst ej
  rw [hi2] at hj
  cases hj
  refine wpAny_bind (wpAny_dictEntries (s := { s with toks := s.toks + k.draws }) ho hd ?_)
  rw [entM_at he j, hi2]
  exact wpAny_pure (wpAny_pure ⟨p.2, rfl, wpAny_pure h⟩)
end
/-! ### such dicts, tracked -/
abbrev MixL := List (L2.V × NestedKey × L2.V)
def ValM (M : MixL) : List EntM → Prop := fun xs => Paired (fun p (x : EntM) => RelV p.1 x.2.1 ∧ x.1 = p.2.1 ∧ RelV p.2.2 x.2.2) M xs
def DMO (w : World) (a : Addr) (M : MixL) : HO := .ext fun h => ∃ xs, ValM M xs ∧ MRaw w h a xs
theorem dmo_ok {P : Program} {w : World} {H : Hp} {h : Heap} {a : Addr} {M : MixL} {xs : List EntM} (hF : ValM M xs) (d : MRaw w h a xs) : ObjOk P w H h a (DMO w a M) := by
  have ⟨_, _, o, es, ep, h1, _⟩ := d
  refine ⟨⟨xs, hF, d⟩, ⟨o, h1⟩, fun g1 g2 p k => ?_⟩
  have ⟨ys, hy, hs, nd, o', es', ep', k1, r⟩ := p
  exact ⟨ys, hy, hs, nd, o', es', ep', k _ k1, r⟩
/-- an HO that is a dict with these entries -/
def IsD (P : Program) (w : World) (a : Addr) (X : HO) (M : MixL) : Prop := ∀ (H : Hp) (h : Heap), ObjOk P w H h a X → ∃ xs, ValM M xs ∧ MRaw w h a xs
theorem isD_mix {P : Program} {w : World} {a : Addr} {M : MixL} : IsD P w a (DMO w a M) M := fun _ _ o => o.1
def mixB (L : BoxL) : MixL := L.map fun e => (.ref e.1, bk e.2.1, e.2.2)
theorem valM_box {L : BoxL} : ∀ {xs : List EntB}, ValB L xs → ValM (mixB L) (xs.map fun x => (x.1, .ref x.2.1, x.2.2)) := fun {xs} h => by
  unfold ValB at h
  unfold ValM mixB
  induction h with
  | nil => exact .nil
  | @cons p x ps qs r _ ih =>
    rw [List.map_cons, List.map_cons]
    obtain ⟨r1, r2, r3⟩ := r
    exact .cons ⟨show Value.ref x.2.1 = Value.ref p.1 by rw [r1], r2, r3⟩ ih
theorem mraw_box {P : Program} {w : World} {h : Heap} {a : Addr} {xs : List EntB} (d : BRaw P w h a xs) : MRaw w h a (xs.map fun x => (x.1, .ref x.2.1, x.2.2)) := by
  obtain ⟨sy, nd, o, es, ep, h1, h2, h3, h4⟩ := d
  refine ⟨sy, ?_, o, es, ep, h1, h2, h3, ?_⟩
  · rw [List.map_map]
    exact nd
  · rw [h4, List.map_map]
    rfl
theorem isD_box {P : Program} {w : World} {a : Addr} {L : BoxL} : IsD P w a (DBO P w a L) (mixB L) := fun _ _ o => by
  obtain ⟨xs, hx, d⟩ := o.1
  exact ⟨_, valM_box hx, mraw_box d⟩
end Fm
/-! Rules for dicts with keys of more than one kind. -/
namespace Fm
open PySem PySem.Spec PyProof.Rows L2 PySem.W
section
variable {X : Cx} {K : PySem.W.Frag} {P : Program} {w : World} {pins : List (Addr × Obj)} {σ : L2.St} {H : Hp} {s : Shared}
/-- what may be a key -/
inductive KeyV (K : PySem.W.Frag) (H : Hp) : L2.V → NestedKey → Prop
  | int (i : Int) : KeyV K H (.int i) (.num i)
  | str (x : Str) : KeyV K H (.str x) (.text x)
  | non : KeyV K H .non .none
  | box {b : Addr} {q : List Int × List Int} (h : BoxAt K H b q) : KeyV K H (.ref b) (bk q)
  | nil {b : Addr} (h : SqT K H b []) : KeyV K H (.ref b) (.tup [])
theorem KeyV.is (I : Inv X pins σ H s) {v : L2.V} {k : NestedKey} {u : Value} (h : KeyV X.K H v k) (r : RelV v u) : NestedIs s.heap k u ∧ k.depth ≤ 8 := by
  cases h with
  | int i =>
    obtain ⟨t, rfl⟩ := (show ∃ t, u = Value.int i t from r)
    exact ⟨.int i t, Nat.zero_le _⟩
  | str x =>
    obtain ⟨t, rfl⟩ := (show ∃ t, u = Value.str x t from r)
    exact ⟨.text x t, Nat.zero_le _⟩
  | non =>
    cases (show u = Value.none from r)
    exact ⟨.none, by decide⟩
  | box h =>
    rename_i b q
    cases (show u = Value.ref b from r)
    exact Inv.boxKey I h
  | nil h =>
    rename_i b
    cases (show u = Value.ref b from r)
    obtain ⟨its, r2, ⟨o, ho, hc, n, hd⟩, _⟩ := I.tuple h
    cases r2
    exact ⟨.tup ho hc hd .nil, by decide⟩
def KeysAt (K : PySem.W.Frag) (H : Hp) (M : MixL) : Prop := ∀ e ∈ M, KeyV K H e.1 e.2.1
theorem valM_mem {M : MixL} {xs : List EntM} (h : ValM M xs) : (∀ x ∈ xs, ∃ p ∈ M, RelV p.1 x.2.1 ∧ x.1 = p.2.1 ∧ RelV p.2.2 x.2.2) ∧ ∀ p ∈ M, ∃ x ∈ xs, RelV p.1 x.2.1 ∧ x.1 = p.2.1 ∧ RelV p.2.2 x.2.2 := by
  unfold ValM at h
  induction h with
  | nil => exact ⟨(fun x hx => by cases hx), (fun x hx => by cases hx)⟩
  | @cons p x ps qs r _ ih =>
    refine ⟨fun z hz => ?_, fun z hz => ?_⟩
    · rcases List.mem_cons.mp hz with e | e
      · rw [e]
        exact ⟨p, List.mem_cons_self, r⟩
      · obtain ⟨p', hp', r'⟩ := ih.1 z e
        exact ⟨p', List.mem_cons_of_mem _ hp', r'⟩
    · rcases List.mem_cons.mp hz with e | e
      · rw [e]
        exact ⟨x, List.mem_cons_self, r⟩
      · obtain ⟨p', hp', r'⟩ := ih.2 z e
        exact ⟨p', List.mem_cons_of_mem _ hp', r'⟩
theorem keys_is (I : Inv X pins σ H s) {M : MixL} {xs : List EntM} (hF : ValM M xs) (h : KeysAt X.K H M) : KeysIs s.heap xs := fun x hx => by
  obtain ⟨p, hp, r1, r2, _⟩ := (valM_mem hF).1 x hx
  rw [r2]
  exact (h p hp).is I r1
theorem KeyV.ext {H H' : Hp} (e : Ext H H') {v : L2.V} {k : NestedKey} (h : KeyV K H v k) : KeyV K H' v k := by
  cases h with
  | int i => exact .int i
  | str x => exact .str x
  | non => exact .non
  | box h =>
    obtain ⟨pa, wa, h1, h2, h3⟩ := h
    exact .box ⟨pa, wa, e.sqT h1, e.sqT h2, e.sqT h3⟩
  | nil h => exact .nil (e.sqT h)
/-- d[k] = v, d a dict of boxes; k a box, or what is none -/
def sDPutX (K : PySem.W.Frag) (P : Program) (w : World) (td ty tv : TE) : TS := fun D σ H => tv σ H fun v H1 => td σ H1 fun x H2 => ty σ H2 fun y H3 => ∃ (a : Addr) (L : BoxL), x = .ref a ∧ H3 a = some (DBO P w a L) ∧ BoxesAt K H3 L ∧ L.length ≤ 90000 ∧
  ((∃ (b : Addr) (q : List Int × List Int), y = .ref b ∧ BoxAt K H3 b q ∧ D.nx σ (upd H3 a (DBO P w a (storeB L b q v)))) ∨ ∃ k : NestedKey, KeyV K H3 y k ∧ L ≠ [] ∧ (∀ e ∈ L, bk e.2.1 ≠ k) ∧ D.nx σ (upd H3 a (DMO w a (mixB L ++ [(y, k, v)]))))
theorem ps_dputX {o i value : Expr} {pos pos' : Pos} {td ty tv : TE} (hu : X.A.units + 64 < cLine) (ho : PE X o td) (hi : PE X i ty) (hv : PE X value tv) (hs : swapsWith value (some (.Subscript o i pos')) pos.line X.env = pure false) (eK : X.K = K := by rfl) (eP : X.prog = P := by rfl) (ew : X.w = w := by rfl) :
    PS X (.Assign [.Subscript o i pos'] value pos) (sDPutX K P w td ty tv) := by
  subst eK eP ew
  refine ⟨fun pins s σ H D I h => ?_⟩
  refine wpAny_Assign_Subscript (thn (hv.run pins s σ H _ I h) fun r s1 ⟨v, H1, I1, rv, q1⟩ => thn (ho.run pins s1 σ H1 _ I1 q1) fun u s2 ⟨x, H2, I2, rx, q2⟩ => thn (hi.run pins s2 σ H2 _ I2 q2) fun iv s3 ⟨y, H3, I3, ry, a, L, ex, ha, hL, hl, q3⟩ => ?_) hs
  subst ex
  cases rx
  obtain ⟨xs, hF, hd⟩ := Inv.dbo I3 (.inl ha)
  have hxl : xs.length = L.length := (Paired.length hF).symm
  rcases q3 with ⟨b, q, ey, hb, q3⟩ | ⟨k, hk, ne, hno, q3⟩
  · subst ey
    cases ry
    refine wpAny_setItem_heap (knd := NK X.prog X.w) (hsz := by rw [hxl, sizeLine_eq]; omega) (show X.A.units + 1 + 8 < cLine by omega) (Inv.boxKey I3 hb) (boxes_full I3 hF hd hL) fun h' hm sb => ?_
    have he : ∃ u, h'.get? a = some u := by
      obtain ⟨o, _, _, z, _⟩ := hm
      exact ⟨o, z⟩
    have e : (findB L q).isSome = (atKey xs (bk q)).isSome := by
      rw [(hF.find q).isSome_eq, Option.isSome_map]
    have hF2 : ValB (storeB L b q v) (storedH xs (bk q) b r) := by
      unfold storeB storedH
      rw [e]
      by_cases z : (atKey xs (bk q)).isSome = true
      · rw [if_pos z, if_pos z]
        exact valB_put hF rv
      · rw [if_neg z, if_neg z]
        exact Paired.snoc hF ⟨rfl, rfl, rv⟩
    exact ⟨σ, _, I3.write (e := a) (t' := s3.toks + (NK X.prog X.w).draws (bk q)) (by rw [ha]; trivial) (.inl rfl) (fun c u hc hu => (sb.2 c hc).trans hu) he (dbo_ok hF2 (braw_of hm hd.1)), q3⟩
  · obtain ⟨hk1, hk8⟩ := hk.is I3 ry
    have hM := valM_box hF
    have his : KeysIs s3.heap (xs.map fun x => (x.1, .ref x.2.1, x.2.2)) := keys_is I3 hM fun e he => by
      obtain ⟨p, hp, rfl⟩ := List.mem_map.mp he
      exact .box (hL p hp)
    refine set_mix (show X.A.units + 9 < cLine by omega) hk1 hk8 (mraw_box hd) his (.inr fun x hx => ?_) (fun z => ?_) (fun x hx e => ?_) (by rw [List.length_map]; omega) fun h' hm sb => ?_
    · obtain ⟨z, _, rfl⟩ := List.mem_map.mp hx
      exact ⟨_, rfl⟩
    · rw [List.map_eq_nil_iff] at z
      rw [z] at hxl
      exact ne (List.eq_nil_of_length_eq_zero hxl.symm)
    · obtain ⟨z, hz, rfl⟩ := List.mem_map.mp hx
      obtain ⟨p, hp, _, e2⟩ := valB_mem hF z hz
      exact hno p hp (e2.symm.trans e)
    · have he : ∃ u, h'.get? a = some u := by
        obtain ⟨_, _, o, _, _, z, _⟩ := hm
        exact ⟨o, z⟩
      exact ⟨σ, _, I3.write (e := a) (t' := s3.toks + k.draws) (by rw [ha]; trivial) (.inl rfl) (fun c u hc hu => (sb.2 c hc).trans hu) he (dmo_ok (Paired.snoc hM ⟨ry, rfl, rv⟩) hm), q3⟩
/-- d[b], b a box that is there -/
def tDGetX (K : PySem.W.Frag) (P : Program) (w : World) (td ty : TE) : TE := fun σ H Q => td σ H fun x H1 => ty σ H1 fun y H2 => ∃ (a b : Addr) (q : List Int × List Int) (Y : HO) (M : MixL) (v : L2.V), x = .ref a ∧ y = .ref b ∧ Rd H2 a Y ∧ IsD P w a Y M ∧ KeysAt K H2 M ∧ BoxAt K H2 b q ∧ (∃ kv, (kv, bk q, v) ∈ M) ∧ (∀ e ∈ M, e.2.1 = bk q → e.2.2 = v) ∧ Q v H2
theorem pe_dgetX {o i : Expr} {pos : Pos} {td ty : TE} (hu : X.A.units + 64 < cLine) (ho : PE X o td) (hi : PE X i ty) (hs : NoSl i) (eK : X.K = K := by rfl) (eP : X.prog = P := by rfl) (ew : X.w = w := by rfl) : PE X (.Subscript o i pos) (tDGetX K P w td ty) := by
  subst eK eP ew
  refine ⟨fun pins s σ H Q I h => ?_⟩
  refine subD_of PySem.F.slot_dict_getitem.lookup hs (thn (ho.run pins s σ H _ I h) fun u s1 ⟨x, H1, I1, rx, q1⟩ => thn (hi.run pins s1 σ H1 _ I1 q1) fun iv s2 ⟨y, H2, I2, ry, a, b, q, Y, M, v, ex, ey, ha, hY, hK, hb, ⟨kv, hv⟩, hone, q2⟩ => ?_)
  subst ex ey
  cases rx
  cases ry
  obtain ⟨xs, hF, hd⟩ := hY _ _ (ha.ok I2.hok)
  obtain ⟨x, hx, r1, r2, r3⟩ := (valM_mem hF).2 _ hv
  obtain ⟨k8, kd⟩ := Inv.boxKey I2 hb
  have ty : s2.TypeIs (.ref a) "dict" := by
    obtain ⟨_, _, o, _, _, g, ge, _⟩ := id hd
    exact ⟨o, g, ge.1⟩
  obtain ⟨k, p⟩ := x
  obtain rfl : k = bk q := r2
  exact ⟨ty, get_mix (show X.A.units + 9 < cLine by omega) k8 kd hd (keys_is I2 hF hK) ⟨_, rfl⟩ hx ⟨v, H2, I2.tok _, r3, q2⟩⟩
/-! ### entries -/
def IsE (P : Program) (w : World) (a : Addr) (Y : HO) (N : List (L2.V × L2.V)) : Prop := ∀ (H : Hp) (h : Heap), ObjOk P w H h a Y → (a == sysModules) = false ∧ ∃ o es ep, h.get? a = some o ∧ o.ExactDict ∧ o.data = .dict es ep ∧ es.size = N.length ∧ ∀ (i : Nat) (p : L2.V × L2.V), N[i]? = some p → ∃ en : DictEntry, es[i]? = some en ∧ RelV p.1 en.key ∧ RelV p.2 en.val
theorem IsD.e {a : Addr} {Y : HO} {M : MixL} (h : IsD P w a Y M) : IsE P w a Y (M.map fun e => (e.1, e.2.2)) := fun G g ok => by
  obtain ⟨xs, hF, sy, nd, o, es, ep, h1, h2, h3, h4⟩ := h G g ok
  refine ⟨sy, o, es, ep, h1, h2, h3, by rw [entM_size h4, List.length_map]; exact (Paired.length hF).symm, fun i p hp => ?_⟩
  obtain ⟨e, he, rfl⟩ := by
    rw [List.getElem?_map] at hp
    exact Option.map_eq_some_iff.mp hp
  obtain ⟨y, hy, r1, _, r3⟩ := _root_.L2.paired_get hF he
  exact ⟨entM w y, by rw [entM_at h4 i, hy] <;> rfl, r1, r3⟩
theorem pairs_at {knd : KeyKind P w Key} : ∀ {l : List DictEntry} {kvs : List (Key × Value)}, Pairs knd l kvs → ∀ {i : Nat} {y : Key × Value}, kvs[i]? = some y → ∃ en, l[i]? = some en ∧ knd.is y.1 en.key = true ∧ en.val = y.2
  | _, _, .nil, i, y, h => by simp at h
  | _, _, .cons h1 h2 r, 0, y, h => by
    have e := Option.some.inj h
    subst e
    exact ⟨_, rfl, h1, h2⟩
  | _, _, .cons h1 h2 r, i + 1, y, h => pairs_at r (i := i) h
theorem isE_dK {a : Addr} {kvs : List (Key × L2.V)} : IsE P w a (.dK kvs) (kvs.map fun e => (kV e.1, e.2)) := fun G g ok => by
  obtain ⟨_, sy, vs, hF, o, es, ep, h1, h2, h3, h4, h5, _⟩ := (show ObjOk P w G g a (.dK kvs) from ok)
  have e1 : es.size = vs.length := by rw [← Array.length_toList]; exact h5.length
  have e2 : kvs.length = vs.length := Paired.length hF
  refine ⟨sy, o, es, ep, h1, h2, h3, by rw [List.length_map]; omega, fun i p hp => ?_⟩
  rw [List.getElem?_map] at hp
  obtain ⟨e, he, rfl⟩ := Option.map_eq_some_iff.mp hp
  obtain ⟨y, hy, r1, r3⟩ := _root_.L2.paired_get hF he
  obtain ⟨en, h8, h9, h10⟩ := pairs_at h5 hy
  refine ⟨en, by rw [← Array.getElem?_toList, h8], ?_, ?_⟩
  · show RelV (kV e.1) en.key
    rw [r1]
    exact keyIs_rel h9
  · show RelV e.2 en.val
    rw [h10]
    exact r3
theorem Inv.frzE {d : Addr} {o : Obj} {Y : HO} {N : List (L2.V × L2.V)} (I : Inv X pins σ H s) (h : H d = some (.frz o Y)) (hY : IsE X.prog X.w d Y N) :
    (d == sysModules) = false ∧ s.heap.get? d = some o ∧ o.ExactDict ∧ ∃ (es : Array DictEntry) (ep : Nat), o.data = .dict es ep ∧ es.size = N.length ∧ ∀ (i : Nat) p, N[i]? = some p → ∃ en, es[i]? = some en ∧ RelV p.1 en.key ∧ RelV p.2 en.val := by
  obtain ⟨g0, ok⟩ := (show ObjOk X.prog X.w H s.heap d (.frz o Y) from I.hok d _ h)
  obtain ⟨sy, o', es, ep, g1, g2, g3, g4, g5⟩ := hY _ _ ok
  rw [g0] at g1
  cases g1
  exact ⟨sy, g0, g2, es, ep, g3, g4, g5⟩
/-- for k in d -/
def ItkE (P : Program) (w : World) (d : Addr) (o : Obj) (Y : HO) (N : List (L2.V × L2.V)) : It := ⟨fun i H => (H d = some (.frz o Y) ∧ IsE P w d Y N) ∧ i < N.length, fun i H x H' => H' = H ∧ ∃ p, N[i]? = some p ∧ x = p.1, fun i H => (H d = some (.frz o Y) ∧ IsE P w d Y N) ∧ N.length ≤ i⟩
theorem turn_keysE {tg : Expr} {d : Addr} {o : Obj} {Y : HO} {N : List (L2.V × L2.V)} {es : Array DictEntry} {ep : Nat} (it : Addr) (hod : o.data = .dict es ep) : Turn P w K tg (ItkE P w d o Y N) [it] it (fun i h => h.IsKeyIter it d i N.length ep) where
  mem := List.mem_singleton.mpr rfl
  obj := fun i h st b hb => by
    rw [List.mem_singleton.mp hb]
    obtain ⟨oi, e, c, dd⟩ := st
    exact ⟨oi, e, fun v z => by rw [dd] at z; cases z⟩
  keep := fun i h h' st k => st.at fun oi e => k it (List.mem_singleton.mpr rfl) oi e
  item := by
    intro X hP hw hK hc i pins s σ H E I hf st hg
    subst hP hw hK
    obtain ⟨⟨hd, hY⟩, hi⟩ := hg
    obtain ⟨f0, f1, f2, f3, f4, f5⟩ := hf it (List.mem_singleton.mpr rfl)
    obtain ⟨_, g0, _, es', ep', hdt, hsz, ent⟩ := Inv.frzE I hd hY
    obtain ⟨rfl, rfl⟩ := dict_ep hod hdt
    obtain ⟨en, hen, hkey, _⟩ := ent i _ (List.getElem?_eq_getElem hi)
    refine next_key_item st g0 hdt hsz hen fun h' st' sb => ?_
    have I1 : Inv X pins σ H { s with heap := h' } := I.turned (t' := s.toks) (fun b ob hb e => (sb.2 b hb).trans e) f0 f1 f3 f4 f5
    obtain ⟨oi, e, c, dd⟩ := id st'
    exact ⟨en.key, rfl, go_of (s := { s with heap := h' }) e c dd (by decide) ⟨_, H, I1, hkey, ⟨rfl, _, List.getElem?_eq_getElem hi, rfl⟩, st', fun b hb => (hf b hb).1⟩⟩
  done := by
    intro X hP hw hK hc i pins s σ H E I hf st hg
    subst hP hw hK
    obtain ⟨⟨hd, hY⟩, hi⟩ := hg
    obtain ⟨f0, f1, f2, f3, f4, f5⟩ := hf it (List.mem_singleton.mpr rfl)
    obtain ⟨_, g0, _, es', ep', hdt, hsz, _⟩ := Inv.frzE I hd hY
    obtain ⟨rfl, rfl⟩ := dict_ep hod hdt
    exact next_key_end (I.ok.hd hc) st g0 hdt hsz hi fun h' eb => ⟨rfl, I.turned (t' := s.toks) (fun b ob hb e => eb b ob hb e) f0 f1 f3 f4 f5⟩
  self := fun A i s Q E st h => wpAny_pyIter_keyiter st h
def iKeysE (P : Program) (w : World) (td : TE) : TI := fun σ H R => td σ H fun x H1 => ∃ d o Y N, x = .ref d ∧ H1 d = some (.frz o Y) ∧ IsE P w d Y N ∧ R (ItkE P w d o Y N) H1
theorem pi_keysE {tg e : Expr} {td : TE} (he : PE X e td) (eP : X.prog = P := by rfl) (ew : X.w = w := by rfl) : PI X tg e (iKeysE P w td) := by
  subst eP ew
  refine ⟨fun pins s σ H R I h => ?_⟩
  refine thn (he.run pins s σ H _ I h) fun u s1 ⟨x, H1, I1, rx, d, o, Y, N, ex, hd, hY, q⟩ => ?_
  subst ex
  cases rx
  obtain ⟨sy, g0, g1, es, ep, hdt, hsz, _⟩ := Inv.frzE I1 hd hY
  refine iter_keys sy g0 g1 hdt (pi_one (tk := s1.toks) I1 _ (turn_keysE _ hdt) ⟨_, Heap.get?_push_size _ rfl, rfl, ?_⟩ q)
  rw [hsz] <;> rfl
/-- for k, v in d.items() -/
def ItiE (P : Program) (w : World) (d : Addr) (o : Obj) (Y : HO) (N : List (L2.V × L2.V)) : It := ⟨fun i H => (H d = some (.frz o Y) ∧ IsE P w d Y N) ∧ i < N.length, fun i H x H' => ∃ T p, N[i]? = some p ∧ x = .ref T ∧ H T = none ∧ H' = upd H T (.tup [p.1, p.2]), fun i H => (H d = some (.frz o Y) ∧ IsE P w d Y N) ∧ N.length ≤ i⟩
theorem turn_itemsE {elts : List Expr} {kk : Nat} {tpos : Pos} {d : Addr} {o : Obj} {Y : HO} {N : List (L2.V × L2.V)} {es : Array DictEntry} {ep : Nat} (it : Addr) (hod : o.data = .dict es ep) : Turn P w K (.Tuple elts kk tpos) (ItiE P w d o Y N) [it] it (fun i h => ∃ ok ov, IsItemIter h it d i N.length ep ok ov) where
  mem := List.mem_singleton.mpr rfl
  obj := fun i h st b hb => by
    rw [List.mem_singleton.mp hb]
    obtain ⟨ok, ov, e⟩ := st
    exact ⟨_, e, fun v z => nomatch z⟩
  keep := fun i h h' st k => let ⟨ok, ov, e⟩ := st; ⟨ok, ov, k it (by simp) _ e⟩
  item := by
    intro X hP hw hK hc i pins s σ H E I hf st hg
    subst hP hw hK
    obtain ⟨⟨hd, hY⟩, hi⟩ := hg
    obtain ⟨hs, g0, hx, es', ep', hdt, hsz, ent⟩ := Inv.frzE I hd hY
    obtain ⟨rfl, rfl⟩ := dict_ep hod hdt
    obtain ⟨p, hp⟩ : ∃ p, N[i]? = some p := ⟨_, List.getElem?_eq_getElem hi⟩
    obtain ⟨en, hen, hk, hv⟩ := ent i p hp
    obtain ⟨ok, ov, he⟩ := st
    rw [← hsz] at he
    have hlt : it < s.heap.objs.size := Heap.lt_size he
    have hi' : i < es'.size := by omega
    have een : es'[i] = en := by
      rw [Array.getElem?_eq_getElem hi'] at hen
      exact Option.some.inj hen
    refine wpAny_pyNext_items_item_raw he ⟨o, g0, hx, hod⟩ hi' fun h' ho hT hz hk' => ?_
    rw [een] at ho hT
    refine ⟨_, rfl, wpAny_letOwnedTupleGo_items (s := { s with heap := h' }) ho fun h'' he' sb => ?_⟩
    have hT2 : h''.get? s.heap.objs.size = some { cls := .type "tuple", data := .seq #[en.key, en.val] } := (sb.2 _ (Nat.ne_of_gt hlt)).trans hT
    have new : ObjOk X.prog X.w (upd H s.heap.objs.size (.tup [p.1, p.2])) h'' s.heap.objs.size (.tup [p.1, p.2]) :=
      ⟨by show 2 ≤ sizeLine; decide, [en.key, en.val], .cons hk (.cons hv .nil), ⟨_, hT2, rfl, _, rfl⟩⟩
    have I1 : Inv X pins σ (upd H s.heap.objs.size (.tup [p.1, p.2])) { s with heap := h'' } :=
      I.turnedNew (t' := s.toks) (ch := [it]) (fun b ob hb e => (sb.2 b (by simpa using hb)).trans (hk' b ob (by simpa using hb) e)) hf (Nat.le_refl _) new
    refine ⟨.ref s.heap.objs.size, _, I1, rfl, ⟨_, p, hp, rfl, I.hok.fresh (Nat.le_refl _), rfl⟩, ⟨en.key, en.val, ?_⟩, fun b hb => ?_⟩
    · rw [← hsz]; exact he'
    · have e : b = it := by simpa using hb
      rw [e, upd_ne (Nat.ne_of_lt hlt)]
      exact (hf it (by simp)).1
  done := by
    intro X hP hw hK hc i pins s σ H E I hf st hg
    subst hP hw hK
    obtain ⟨⟨hd, hY⟩, hi⟩ := hg
    obtain ⟨f0, f1, f2, f3, f4, f5⟩ := hf it (by simp)
    obtain ⟨hs, g0, hx, es', ep', hdt, hsz, ent⟩ := Inv.frzE I hd hY
    obtain ⟨rfl, rfl⟩ := dict_ep hod hdt
    obtain ⟨ok, ov, he⟩ := st
    rw [← hsz] at he
    exact wpAny_pyNext_items_end_raw (I.ok.hd hc) he ⟨o, g0, hx, hod⟩ (by omega) fun h' eb => ⟨rfl, I.turned (t' := s.toks) (fun b ob hb e => eb b ob hb e) f0 f1 f3 f4 f5⟩
  self := fun A i s Q E st h => let ⟨_, _, e⟩ := st; PySem.W.kcp_self e h
def iItemsE (P : Program) (w : World) (td : TE) : TI := fun σ H R => td σ H fun x H1 => ∃ d o Y N, x = .ref d ∧ H1 d = some (.frz o Y) ∧ IsE P w d Y N ∧ R (ItiE P w d o Y N) H1
theorem pi_itemsE {e : Expr} {td : TE} {apos cpos : Pos} {elts : List Expr} {kk : Nat} {tpos : Pos} (he : PE X e td) (hbase : attributeBase e "items" X.env (eval e X.env) = eval e X.env := by rfl) (hline : (apos.endLine == cpos.line) = true := by rfl) (eP : X.prog = P := by rfl) (ew : X.w = w := by rfl) :
    PI X (.Tuple elts kk tpos) (.Call (.Attribute e "items" apos) [] [] cpos) (iItemsE P w td) := by
  subst eP ew
  refine ⟨fun pins s σ H R I h => ?_⟩
  refine wpAny_Call_method (T := "dict") (id := "dict.items") hbase rfl hline F.plainAttrs_dict F.slot_dict_items F.type_dict_items (thn (he.run pins s σ H _ I h) fun u s1 ⟨x, H1, I1, rx, d, o, Y, N, ex, hd, hY, q⟩ => ?_)
  subst ex
  obtain rfl : u = Value.ref d := rx
  obtain ⟨hs, g0, hx, es, ep, hdt, hsz, ent⟩ := Inv.frzE I1 hd hY
  have hr : s1.heap.DictRaw d es ep := ⟨o, g0, hx, hdt⟩
  refine ⟨hr.typeIs, fun c e => (by cases e; exact ⟨o, g0, hx.2.1⟩), ?_⟩
  have I2 : Inv X pins σ H1 { s1 with heap := s1.heap.push { cls := .type "dict_items", data := .fields #[.ref d] } } := I1.kept (t' := s1.toks) fun b ob q => Heap.get?_push_of_some _ q
  have fin : wpAny (model X.prog X.w) X.A (pyIter (.ref s1.heap.objs.size)) (PIE X pins σ (.Tuple elts kk tpos) R) X.xe { s1 with heap := s1.heap.push { cls := .type "dict_items", data := .fields #[.ref d] } } := by
    refine wpAny_pyIter_items_raw (d := d) ⟨_, Heap.get?_push_size _ rfl, rfl, rfl⟩ (hr.at fun o' z => Heap.get?_push_of_some _ z) (pi_one (tk := s1.toks) I2 _ (turn_itemsE _ hdt) ⟨.none, .none, ?_⟩ q)
    rw [← hsz]
    exact Heap.get?_push_size _ rfl
  show wpAny _ _ (callWith cpos (.builtin "dict.items") [.ref d] [] []) _ X.xe s1
  exact method_meetsIn F.slot_dict_items F.entry_dict_items rfl (PySem.evalArgs_none ⟨rfl, hr.typeIs, F.args_dict_items_1 _, _, meets_dict_items_raw d hs, ⟨es, ep, hr⟩, fin⟩)
/-- isinstance(x, c): a dict, or what is told by its type -/
def rIsiE (K : PySem.W.Frag) (P : Program) (w : World) : List L2.V → Hp → VK → Prop := fun xs H Q => (∃ (a : Addr) (Y : HO) (N : List (L2.V × L2.V)), xs = [.ref a, .ty "dict"] ∧ Rd H a Y ∧ IsE P w a Y N ∧ Q (.bl true) H) ∨ rIsi K xs H Q
theorem call_isiE (eK : X.K = K := by rfl) (eP : X.prog = P := by rfl) (ew : X.w = w := by rfl) : CallR X (.builtin "isinstance") (rIsiE K P w) := by
  intro pins s σ H xs us Q I r h
  rcases h with ⟨a, Y, N, rfl, ha, hY, q⟩ | h
  · subst eK eP ew
    obtain ⟨u1, u2, rfl, r1, r2⟩ := vals2 r
    cases (show u1 = Value.ref a from r1)
    cases (show u2 = Value.type "dict" from r2)
    obtain ⟨_, o, es, ep, g1, g2, _⟩ := hY _ _ (ha.ok I.hok)
    exact PySem.W.kia_one PySem.W.kitx_dict I.kIn ⟨o, g1, g2.1⟩ (show PySem.W.kitOne X.K (.type "dict") (.type "dict") = some true from if_pos (beq_self_eq_true _)) (fun z => nomatch z) fun tk => ⟨.bl true, H, I.tok tk, rfl, q⟩
  · exact call_isiK' K eK pins s σ H xs us Q I r h
/-- list(d) -/
def rListE (P : Program) (w : World) : List L2.V → Hp → VK → Prop := fun xs H Q => ∃ (a : Addr) (Y : HO) (N : List (L2.V × L2.V)), xs = [.ref a] ∧ Rd H a Y ∧ IsE P w a Y N ∧ N.length ≤ 100000 ∧ ∀ q, H q = none → Q (.ref q) (upd H q (.lst (N.map (·.1))))
theorem call_listE (hc : X.calm = true) (eP : X.prog = P := by rfl) (ew : X.w = w := by rfl) : CallR X (.type "list") (rListE P w) := by
  subst eP ew
  intro pins s σ H xs us Q I r h
  obtain ⟨a, Y, N, rfl, ha, hY, hl, q⟩ := h
  obtain ⟨u, eu, rx⟩ := vals1 r
  subst eu
  obtain rfl : u = Value.ref a := rx
  obtain ⟨sy, o, es, ep, g1, g2, g3, g4, g5⟩ := hY _ _ (ha.ok I.hok)
  refine PySem.W.kdl_call (kdl_raw (prog := X.prog) (w := X.w) sy g2 g3) (I.ok.hd hc) g1 (by rw [g4, sizeLine_eq]; omega) fun h' tk acc' c' hkeep hS hacc => ?_
  refine ⟨.ref s.heap.objs.size, upd H s.heap.objs.size (.lst (N.map (·.1))), I.laid hkeep (Nat.le_refl _) (show ObjOk X.prog X.w _ _ _ (.lst (N.map (·.1))) from ⟨?_, acc'.toList, c', ?_, ?_⟩), rfl, q _ (I.hok.fresh (Nat.le_refl _))⟩
  · rw [List.length_map, sizeLine_eq]; omega
  · have el : acc'.toList.length = acc'.size := by simp
    refine vals_of_at (by rw [List.length_map, el, hacc.1, g4]) fun j x v h1 h2 => ?_
    rw [List.getElem?_map] at h1
    obtain ⟨p, hp, rfl⟩ := Option.map_eq_some_iff.mp h1
    obtain ⟨en, hen, rfl⟩ := hacc.2 j v (by rw [← Array.getElem?_toList]; exact h2)
    obtain ⟨en', hen', r1, _⟩ := g5 j p hp
    rw [hen] at hen'
    cases hen'
    exact r1
  · rw [Array.toArray_toList]; exact hS
end
end Fm
/-! sorted of a dict whose keys are tuples of tuples; several except clauses that name the error. -/
namespace Fm
open PySem PySem.Spec PyProof.Rows L2 PySem.W
section
variable {P : Program} {w : World} {A : Around} {E : Value → Shared → Prop} {s : Shared}
theorem sorted_gen {a : Addr} {vs : List Value} {bs : List (L2.V × PyData)} {Q : Value → Shared → Prop} (hu : A.units + 64 < cLine) (few : vs.length ≤ 100000) (hal : AllAlike (bs.map (·.2))) (hb : ∀ b ∈ bs, (∃ zs, b.2 = .tuple zs) ∧ b.2.depth ≤ 60) (e0 : EachIs (fun (u : Value) (b : L2.V × PyData) => RelV b.1 u) vs bs)
    (er : ∀ h : Heap, (∀ b o, s.heap.get? b = some o → h.get? b = some o) → EachIs (fun (v : Value) (b : L2.V × PyData) => ∃ as, Reads h v b.2 as) vs bs)
    (col : ∀ (E' : Value → Shared → Prop) (R : List Value → Shared → Prop), (∀ h' tk, (∀ b o, s.heap.get? b = some o → h'.get? b = some o) → R vs { s with heap := h', toks := tk }) → wpAny (model P w) A.in1 (collect (.ref a)) R E' s)
    (hQ : ∀ (h1 h' : Heap) (tk : Nat) p (out : Array Value) (c : Nat), (∀ b o, s.heap.get? b = some o → h1.get? b = some o) → (∀ b o, h1.get? b = some o → h'.get? b = some o) → h1.objs.size ≤ p →
      h'.get? p = some (seqObj "list" out c) → Vals ((bs.mergeSort (dataLe false (fun b : L2.V × PyData => b.2))).map (·.1)) out.toList → Q (.ref p) { s with heap := h', toks := tk }) :
    wpAny (model P w) A (call (.builtin "sorted") [.ref a]) Q E s := by
  refine Calls.call_function_entry kind_sorted plain_sorted entry_sorted (args_sorted1 _) ?_
  unfold Builtin.«sorted»
  refine wpAny_bind (m := checkCount "sorted" 1 1 _) (wpAny_pure ?_)
  refine wpAny_bind (col _ _ fun h1 tk1 k1 => ?_)
  refine wpAny_bind (wpAny_newList ?_ (by rw [sizeLine_eq]; omega))
  have hoL : (h1.push (seqObj "list" vs.toArray 0)).get? h1.objs.size = some (seqObj "list" vs.toArray 0) := Heap.get?_push_size _ rfl
  have up : ∀ b u, s.heap.get? b = some u → (sortingHeap (h1.push (seqObj "list" vs.toArray 0)) h1.objs.size vs).get? b = some u := fun b u z => by
    have q1 := k1 b u z
    exact sortingHeap_old (Nat.ne_of_lt (Heap.lt_size q1)) (Heap.get?_push_of_some _ q1)
  have er := er _ up
  have S := FmSort.sortsAt_tups (prog := P) (w := w) (A := A.in1.in1) (s := { s with heap := sortingHeap (h1.push (seqObj "list" vs.toArray 0)) h1.objs.size vs, toks := tk1 }) (each_map (R := fun v d => ∃ as, Reads (sortingHeap (h1.push (seqObj "list" vs.toArray 0)) h1.objs.size vs) v d as) (fun b : L2.V × PyData => b.2) er) hal (fun d hd => by
    obtain ⟨b, hm, rfl⟩ := List.mem_map.mp hd
    exact (hb b hm).1) (fun d hd => by
    obtain ⟨b, hm, rfl⟩ := List.mem_map.mp hd
    have := (hb b hm).2
    show A.units + 1 + 1 + b.2.depth < cLine
    omega)
  refine wpAny_bind (wpAny_holding (wpAny_call_entry slot_list_sort ⟨_, hoL, rfl⟩ entry_list_sort (list_sort_vals (s := { s with heap := h1.push (seqObj "list" vs.toArray 0), toks := tk1 }) hoL S (by rw [sizeLine_eq]; omega) ⟨_, rfl, ?_⟩) (args_list_sort _)))
  have eo := sortVals_data (R := fun (u : Value) (b : L2.V × PyData) => RelV b.1 u) false e0 er hal
  generalize sortVals (dataKind (sortingHeap (h1.push (seqObj "list" vs.toArray 0)) h1.objs.size vs) (bs.map (·.2))) false vs vs = out at eo ⊢
  obtain ⟨c, hc⟩ := sortedHeap_at (vs := vs) (out := out.toArray) hoL
  refine wpAny_pure ⟨_, rfl, hQ h1 _ tk1 h1.objs.size out.toArray c k1 (fun b u z => ?_) (Nat.le_refl _) hc (by rw [List.toList_toArray]; exact vals_each eo)⟩
  have hlt := Heap.lt_size z
  show (sortedHeap (h1.push (seqObj "list" vs.toArray 0)) h1.objs.size vs out.toArray).get? b = some u
  rw [sortedHeap_old (Nat.ne_of_lt hlt) (by rw [size_push']; exact Nat.lt_succ_of_lt hlt)]
  exact Heap.get?_push_of_some _ z
end
section
variable {X : Cx} {K : PySem.W.Frag} {P : Program} {w : World}
/-- sorted(d), d a dict: a list of its keys, in some order -/
def rSortE (K : PySem.W.Frag) (P : Program) (w : World) : List L2.V → Hp → VK → Prop := fun xs H Q => ∃ (a : Addr) (Y : HO) (bs : List (L2.V × PyData)) (N : List (L2.V × L2.V)), xs = [.ref a] ∧ Rd H a Y ∧ IsE P w a Y N ∧ N.length ≤ 90000 ∧ bs.map (·.1) = N.map (·.1) ∧ (∀ b ∈ bs, Dp K H b.1 b.2 ∧ (∃ zs, b.2 = .tuple zs) ∧ b.2.depth ≤ 60) ∧ AllAlike (bs.map (·.2)) ∧
  ∀ (p : Addr) (ys : List L2.V), H p = none → ys.Perm (N.map (·.1)) → Q (.ref p) (upd H p (.lst ys))
theorem call_sortE (hc : X.calm = true) (hu : X.A.units + 64 < cLine) (eK : X.K = K := by rfl) (eP : X.prog = P := by rfl) (ew : X.w = w := by rfl) : CallR X (.builtin "sorted") (rSortE K P w) := by
  subst eK eP ew
  intro pins s σ H vs us Q I r h
  obtain ⟨a, Y, bs, N, rfl, ha, hY, few, eb, hb, hal, q⟩ := h
  rw [Vals.ref1 r]
  obtain ⟨sy, o, es, ep, k1, k2, k3, k4, k5⟩ := hY _ _ (ha.ok I.hok)
  have dr : s.heap.DictRaw a es ep := ⟨o, k1, k2, k3⟩
  have hbl : bs.length = N.length := by
    have := congrArg List.length eb
    rwa [List.length_map, List.length_map] at this
  obtain ⟨ks, eks⟩ : ∃ ks : List Value, ks = es.toList.map (·.key) := ⟨_, rfl⟩
  have kl : ks.length = N.length := by rw [eks, List.length_map, Array.length_toList, k4]
  have rv : Vals (bs.map (·.1)) ks := by
    rw [eb]
    refine vals_of_at (by rw [List.length_map, kl]) fun j x v h1 h2 => ?_
    rw [List.getElem?_map] at h1
    obtain ⟨p, hp, rfl⟩ := Option.map_eq_some_iff.mp h1
    rw [eks, List.getElem?_map, Array.getElem?_toList] at h2
    obtain ⟨en, hen, rfl⟩ := Option.map_eq_some_iff.mp h2
    obtain ⟨en', hen', r1, _⟩ := k5 j p hp
    rw [hen] at hen'
    cases hen'
    exact r1
  have e0 := each_vals rv
  refine sorted_gen (vs := ks) hu (by rw [kl]; omega) hal (fun b hm => (hb b hm).2) e0 (fun h hk => each_and e0 fun u b hm hr => ?_) (fun E' R hR => ?_) fun h1 h' tk p out c kA kB hp hg hv => ?_
  · obtain ⟨as, rd⟩ := Dp.reads I b.2 b.1 u (hb b hm).1 hr
    exact ⟨as, PyProof.Rows.Reads.keeps hk rd⟩
  · refine kdu_collect (A := X.A.in1) (KdlSrc.rawDict (es := es) (ep := ep) sy) (I.ok.hd hc) dr (by rw [k4, sizeLine_eq]; omega) fun h' tk acc hk' hacc => ?_
    have e : acc.toList = ks := by
      refine List.ext_getElem? fun j => ?_
      rw [eks, List.getElem?_map]
      by_cases hj : j < es.size
      · have hj2 : j < acc.size := by rw [hacc.1]; exact hj
        have ha2 : acc[j]? = some acc[j] := Array.getElem?_eq_getElem hj2
        obtain ⟨hi, hv⟩ := hacc.2 j _ ha2
        rw [Array.getElem?_toList, ha2, hv, Array.getElem?_toList, Array.getElem?_eq_getElem hi]
        rfl
      · rw [List.getElem?_eq_none (by rw [Array.length_toList, hacc.1]; omega), List.getElem?_eq_none (by rw [Array.length_toList]; omega)]
        rfl
    rw [e]
    exact hR h' tk hk'
  · have I1 : Inv X pins σ H { s with heap := h1 } := I.kept (t' := s.toks) kA
    have pm : ((bs.mergeSort (dataLe false (fun b : L2.V × PyData => b.2))).map (·.1)).Perm (N.map (·.1)) := by
      rw [← eb]
      exact (List.mergeSort_perm _ _).map _
    have hlen : ((bs.mergeSort (dataLe false (fun b : L2.V × PyData => b.2))).map (·.1)).length ≤ sizeLine := by rw [pm.length_eq, List.length_map, sizeLine_eq]; omega
    exact ⟨.ref p, _, I1.laid (t' := tk) kB hp (show ObjOk X.prog X.w _ h' p (.lst ((bs.mergeSort (dataLe false (fun b : L2.V × PyData => b.2))).map (·.1))) from ⟨hlen, out.toList, c, hv, hg⟩), rfl, q p _ (I1.hok.fresh hp) pm⟩
end
end Fm
namespace Fm
open PySem PySem.Spec PyProof.Rows L2
/-- the ends of a clause that names the error: the name is gone behind it -/
def goneE (i : Nat) (D : Ends) : Ends := ⟨fun τ G => D.nx (τ.set i none) G, D.rt, fun τ G => D.bk (τ.set i none) G, fun τ G => D.ct (τ.set i none) G⟩
/-- several clauses, each naming the error by the i-th name -/
def wAses (K : PySem.W.Frag) (i : Nat) (Wout : WX) (D : Ends) : List (Value × (Addr → Value → Option Addr → TS)) → WX
  | [] => Wout
  | (c, ts) :: r => fun cls d τ G => ∃ b, PySem.W.exmOne K cls c = some b ∧ (b = true → ∀ a, G a = none → ts a cls d (goneE i D) (τ.set i (some (.ref a))) G) ∧ (b = false → wAses K i Wout D r cls d τ G)
inductive AsOk (X : Cx) (n : Str) : List ExceptHandler → List (Value × (Addr → Value → Option Addr → TS)) → Prop
  | nil : AsOk X n [] []
  | cons {x : Str} {c : Value} {ts : Addr → Value → Option Addr → TS} {b1 : Stmt} {more : List Stmt} {np hp : Pos} {hds : List ExceptHandler} {l : List (Value × (Addr → Value → Option Addr → TS))} (hc : Names X x c)
      (suite : ∀ (a : Addr) (oe : Obj) (cls : Value) (d : Option Addr) (pn : List (Addr × Obj)), Zc cls d oe → (∃ vs, oe.data = .fields vs) → PSs (X.suite a ((a, oe) :: pn)) (b1 :: more) (ts a cls d)) (rest : AsOk X n hds l) :
      AsOk X n (.ExceptHandler (some (.Name x np)) (some n) (b1 :: more) hp :: hds) ((c, ts) :: l)
section
variable {X : Cx} {n : Str} {i : Nat} {body : List Stmt} {h1 : ExceptHandler} {hds : List ExceptHandler} {l : List (Value × (Addr → Value → Option Addr → TS))} {pos : Pos} {tb : WX → TS} {Wout : WX}
theorem ps_try_ases (hs : X.stack = X.env :: X.outer) (hf : X.env.frame = some X.env.locals) (hN : X.N.Nodup) (hi : X.N[i]? = some n) (hln : X.env.kindOf n = some .local) (tk : Takes X Wout)
    (hb : ∀ (W : WX) (pn : List (Addr × Obj)) (xe : Value → Shared → Prop), Takes (X.tr pn xe) W → PassesOwn (model X.prog X.w) X.A X.env xe → PSs (X.tr pn xe) body (tb W))
    (hh : AsOk X n (h1 :: hds) l) : PS X (.Try body (h1 :: hds) [] [] pos) (fun D σ H => tb (wAses X.K i Wout D l) D σ H) := by
  refine ⟨fun pins s σ H D I h => ?_⟩
  have ok := I.ok
  have fr : X.A.frames = some (X.env :: X.outer) := by rw [ok.frames, hs]
  have lc : Loc X.env.scope n := .inl hln
  refine wpAny_Try_except ?_
  refine wpAny_mono ((hb (wAses X.K i Wout D l) (X.pn ++ pins) (fun e t1 => wpAny (model X.prog X.w) X.A (noteFrame e X.env) (fun _ t2 => wpAny (model X.prog X.w) X.A (setFlight e none) (fun _ t3 => wpAny (model X.prog X.w) X.A (handleBy e X.env (h1 :: hds)) (SP X pins D) X.xe t3) X.xe t2) X.xe t1)
    (fun u t xx => ?_) PassesOwn.looking).run [] s σ H D (I.toTry _) h) (fun f t1 sp => ?_) (fun e t1 he => he)
  · obtain ⟨a, B, sI, pins', τ, G, cls, d, rfl, J', nb, up, sky, na, os, ag, wish⟩ := xx
    have J : Inv X pins τ G sI := J'.ofTry ok
    have skyE : Sky B (X.env :: X.outer) a (Zc cls d) X.env.locals t.heap := hs ▸ sky
    show wpAny (model X.prog X.w) X.A (noteFrame (.ref a) X.env) _ _ _
    refine Sky.land Zc.steady fr hf skyE fun g3 l3 u3 => ?_
    have J3 : Inv X pins τ G { t with heap := g3 } := J.landed nb l3.1 (up.trans u3) os ag
    obtain ⟨o3, v3, e3, z3, d3⟩ := l3.there
    have nfr : a ∉ frs (X.env :: X.outer) := fun hm => by
      obtain ⟨_, o', e', hnf⟩ := l3.2.2.1.mem hm
      rw [e3] at e'
      cases e'
      exact hnf _ d3
    have nL : a ≠ X.env.locals := fun z => nfr (List.mem_filterMap.mpr ⟨X.env, List.mem_cons_self, by rw [hf, z]⟩)
    have nF : a ∉ X.fs := fun hm => by
      obtain ⟨e, he, q⟩ := List.mem_filterMap.mp hm
      exact nfr (List.mem_filterMap.mpr ⟨e, List.mem_cons_of_mem _ he, q⟩)
    have S3 := J3.suite e3 d3 na nL nF
    have key : ∀ {hs' : List ExceptHandler} {l' : List (Value × (Addr → Value → Option Addr → TS))}, AsOk X n hs' l' → wAses X.K i Wout D l' cls d τ G → wpAny (model X.prog X.w) X.A (handleBy (.ref a) X.env hs') (SP X pins D) X.xe { t with heap := g3 } := by
      intro hs' l' hk
      induction hk with
      | nil =>
        intro wish
        refine wpAny_handleBy_nil ?_
        obtain ⟨_, _, _, oe, vs, T, oT, ts', he, hz, hd, hT, hr⟩ := id l3
        unfold PySem.passOn
        refine wpAny_bind (wpAny_field he hd hT ?_)
        rw [if_neg (show ¬ (Value.ref T == Value.none) = true by simp)]
        have fin : wpAny (model X.prog X.w) X.A (setFlight (.ref a) X.env.frame) (fun _ t4 => wpAny (model X.prog X.w) X.A (throw (.ref a) : Sem Flow) (SP X pins D) X.xe t4) X.xe { t with heap := g3 } := by
          rw [hf]
          refine HandSPX.setFlight_upZ l3 fun g4 hg4 u4 => wpAny_throw (tk _ _ ⟨a, B, sI, pins, τ, G, cls, d, rfl, J, nb, (up.trans u3).trans u4, .inr (.inr (by rw [hs]; exact hg4)), na, os, ag, wish⟩)
        first | exact wpAny_bind (wpAny_pure (wpAny_bind fin)) | exact wpAny_bind fin
      | @cons x c ts b1 more np hp hds2 l2 hc suite rest ih =>
        intro wish
        obtain ⟨b, hb1, yes, no⟩ := wish
        refine wpAny_handleBy_cons (codeAny_handlers_test ?_) (by intro q; cases q)
        have looks : PySem.W.Looks (model X.prog X.w) g3 (typeOf (.ref a)) cls := fun A Q E s k q => wpAny_typeOf_ref (k _ _ e3) (by rw [z3.1]; exact q)
        have one := PySem.W.exm_one (M := model X.prog X.w) J3.kIn looks hb1
        have test : ∀ {Q E : Value → Shared → Prop}, Q c { t with heap := g3 } → wpAny (model X.prog X.w) (X.A.mark (some (.ref a))) (eval (.Name x np) X.env) Q E { t with heap := g3 } := fun {Q E} q => by
          obtain ⟨hg, hdbg, hm | ⟨hm, hv, hnn⟩⟩ := hc
          · exact ld_glob (X := X.suite a ((a, o3) :: (X.pn ++ pins))) S3 hg hm q hdbg
          · exact ld_blt (X := X.suite a ((a, o3) :: (X.pn ++ pins))) S3 hg hm hv q hnn hdbg
        refine test (one.here ?_)
        cases b with
        | true =>
          refine codeAny_handlers_suite_as (HandSPX.lands_againZ l3 fun g4 l4 u4 => ?_)
          have J4 : Inv X pins τ G { t with heap := g4 } := J.landed nb l4.1 ((up.trans u3).trans u4) os ag
          obtain ⟨o4, v4, e4, z4, d4⟩ := l4.there
          have S4 := J4.suite e4 d4 na nL nF
          refine store_ok (X := X.suite a ((a, o4) :: (X.pn ++ pins))) (v := .ref a) S4 hN hi lc rfl (fun t5 S5 => ?_) (.inr hln)
          refine wpAny_mono ((suite a o4 cls d (X.pn ++ pins) z4 ⟨_, d4⟩).run [] t5 _ G _ S5 (yes rfl a na)) (fun f t6 sp => ?_) (fun _ _ z => z.elim)
          have fin : ∀ {τ6 : L2.St} {G6 : Hp} {Q : Shared → Prop}, Inv (X.suite a ((a, o4) :: (X.pn ++ pins))) [] τ6 G6 t6 → (∀ t7, Inv X pins (τ6.set i none) G6 t7 → Q t7) →
              wpAny (model X.prog X.w) X.A (do bindName X.env n .none; unbindBehindTheSuite X.env n hp) (fun _ t7 => Q t7) X.xe t6 := fun {τ6 G6 Q} S6 hq => gone_ok (S6.unsuite ok) hN hi hln hq
          cases f with
          | next => obtain ⟨τ6, G6, S6, q6⟩ := sp; exact fin S6 fun t7 J7 => ⟨_, _, J7, q6⟩
          | brk => obtain ⟨τ6, G6, S6, q6⟩ := sp; exact fin S6 fun t7 J7 => ⟨_, _, J7, q6⟩
          | cont => obtain ⟨τ6, G6, S6, q6⟩ := sp; exact fin S6 fun t7 J7 => ⟨_, _, J7, q6⟩
          | ret u => obtain ⟨v6, τ6, G6, S6, r6, q6⟩ := sp; exact fin S6 fun t7 J7 => ⟨_, _, _, J7, r6, q6⟩
        | false =>
          show wpAny _ X.A (handleBy (.ref a) X.env hds2) _ _ _
          exact ih (no rfl)
    exact key hh wish
  · cases f with
    | next => obtain ⟨τ, G, J', q⟩ := sp; exact wpAny_execs_nil ⟨τ, G, J'.ofTry ok, q⟩
    | brk => obtain ⟨τ, G, J', q⟩ := sp; exact ⟨τ, G, J'.ofTry ok, q⟩
    | cont => obtain ⟨τ, G, J', q⟩ := sp; exact ⟨τ, G, J'.ofTry ok, q⟩
    | ret u => obtain ⟨v, τ, G, J', r, q⟩ := sp; exact ⟨v, τ, G, J'.ofTry ok, r, q⟩
end
end Fm
/-! An empty dict told a dict of boxes from here on. -/
namespace Fm
open PySem PySem.Spec PyProof.Rows L2 PySem.W
section
variable {X : Cx} {P : Program} {w : World}
def tRe (P : Program) (w : World) (t : TE) : TE := fun σ H Q => t σ H fun v H1 => Q v H1 ∨ ∃ a, v = .ref a ∧ H1 a = some (.dK []) ∧ Q v (upd H1 a (DBO P w a []))
theorem pe_re {e : Expr} {t : TE} (he : PE X e t) (eP : X.prog = P := by rfl) (ew : X.w = w := by rfl) : PE X e (tRe P w t) := by
  subst eP ew
  refine ⟨fun pins s σ H Q I h => ?_⟩
  refine thn (he.run pins s σ H _ I h) fun u s1 ⟨v, H1, I1, rv, q⟩ => ?_
  rcases q with q | ⟨a, ev, ha, q⟩
  · exact ⟨v, H1, I1, rv, q⟩
  · subst ev
    obtain ⟨_, sy, vs, hF, o, es, ep, h1, h2, h3, h4, h5, _⟩ := (show ObjOk X.prog X.w H1 s1.heap a (.dK []) from I1.hok a _ ha)
    have e1 : es.toList.length = vs.length := h5.length
    have e2 : 0 = vs.length := Paired.length hF
    have e3 : es.toList = [] := List.eq_nil_of_length_eq_zero (by omega)
    exact ⟨.ref a, _, I1.write (e := a) (t' := s1.toks) (by rw [ha]; trivial) (.inl rfl) (fun c u hc hu => hu) ⟨o, h1⟩ (dbo_ok (xs := []) .nil ⟨sy, List.nodup_nil, o, es, ep, h1, h2, h3, e3⟩), rv, q⟩
end
end Fm
/-! sorted of the items of a dict: the new pairs, in the order of their data. -/
namespace Fm
open PySem PySem.Spec PyProof.Rows L2 PySem.W
/-- a heap up to an address -/
def upTo40 (h : Heap) (n : Nat) : Heap := { h with objs := h.objs.extract 0 n }
theorem upTo40_size (h : Heap) {n : Nat} (hn : n ≤ h.objs.size) : (upTo40 h n).objs.size = n := by
  show (h.objs.extract 0 n).size = n
  rw [Array.size_extract]
  omega
theorem upTo40_get (h : Heap) {n b : Nat} (hn : n ≤ h.objs.size) (hb : b < n) : (upTo40 h n).get? b = h.get? b := by
  unfold Heap.get?
  have e : (upTo40 h n).objs[b]? = h.objs[b]? := by
    show (h.objs.extract 0 n)[b]? = _
    rw [Array.getElem?_extract, Nat.zero_add, if_pos (by omega)]
  rw [e]
theorem upTo40_low (h : Heap) {n b : Nat} (hn : n ≤ h.objs.size) {o : Obj} (e : (upTo40 h n).get? b = some o) : h.get? b = some o := by
  have := Heap.lt_size e
  rw [upTo40_size h hn] at this
  rw [← upTo40_get h hn this]
  exact e
section
variable {X : Cx} {pins : List (Addr × Obj)} {σ : L2.St}
/-- pairs that stand in a later heap, told one behind the other -/
theorem inv_pairs {h1 : Heap} : ∀ (as : List Addr) (N : List (L2.V × L2.V)) (H : Hp) (s : Shared), Inv X pins σ H s → (∀ b u, s.heap.get? b = some u → h1.get? b = some u) → as.Pairwise (· < ·) → (∀ a ∈ as, s.heap.objs.size ≤ a) → as.length = N.length →
    (∀ (j : Nat) (a : Addr) (p : L2.V × L2.V), as[j]? = some a → N[j]? = some p → ∃ u v, RelV p.1 u ∧ RelV p.2 v ∧ h1.get? a = some { cls := .type "tuple", data := .seq #[u, v] }) →
    ∃ H' : Hp, Same H H' ∧ (∀ (j : Nat) (a : Addr) (p : L2.V × L2.V), as[j]? = some a → N[j]? = some p → H' a = some (.tup [p.1, p.2])) ∧ ∀ tk, Inv X pins σ H' { s with heap := h1, toks := tk }
  | [], N, H, s, I, k, _, _, hl, _ => ⟨H, Same.refl H, (fun j a p h _ => by simp at h), fun tk => I.kept (t' := tk) k⟩
  | a :: as, [], H, s, I, k, _, _, hl, _ => by cases hl
  | a :: as, p :: N, H, s, I, k, pw, low, hl, at_ => by
    obtain ⟨u, v, ru, rv, ha⟩ := at_ 0 a p rfl rfl
    have hlt : a < h1.objs.size := Heap.lt_size ha
    have hn : a + 1 ≤ h1.objs.size := hlt
    have la := low a (List.mem_cons_self ..)
    have pw' := List.pairwise_cons.mp pw
    have hg : (upTo40 h1 (a + 1)).get? a = some { cls := .type "tuple", data := .seq #[u, v] } := (upTo40_get h1 hn (Nat.lt_succ_self a)).trans ha
    have I1 : Inv X pins σ (upd H a (.tup [p.1, p.2])) { s with heap := upTo40 h1 (a + 1), toks := s.toks } := I.laid (a := a) (t' := s.toks) (fun b ob e => (upTo40_get h1 hn (Nat.lt_succ_of_lt (Nat.lt_of_lt_of_le (Heap.lt_size e) la))).trans (k b ob e)) la
      ⟨by show 2 ≤ sizeLine; decide, [u, v], .cons ru (.cons rv .nil), ⟨_, hg, rfl, _, rfl⟩⟩
    have nH : H a = none := I.hok.fresh la
    obtain ⟨H', s', t', i'⟩ := inv_pairs as N (upd H a (.tup [p.1, p.2])) _ I1 (fun b ob e => upTo40_low h1 hn e) pw'.2 (fun b hb => by
      show (upTo40 h1 (a + 1)).objs.size ≤ b
      rw [upTo40_size h1 hn]
      exact pw'.1 b hb) (Nat.succ.inj hl) fun j b q hb hq => at_ (j + 1) b q hb hq
    refine ⟨H', fun b o e => s' b o (by rw [upd_ne (ne_of_none e nH)]; exact e), fun j b q hb hq => ?_, i'⟩
    cases j with
    | zero =>
      cases (show a = b from Option.some.inj hb)
      cases (show p = q from Option.some.inj hq)
      exact s' a _ upd_same
    | succ j => exact t' j b q hb hq
end
end Fm
namespace Fm
open PySem PySem.Spec PyProof.Rows L2 PySem.W
section
variable {X : Cx} {K : PySem.W.Frag} {P : Program} {w : World}
/-- the view of a dict's items -/
def itmsO (p d : Addr) : HO := .ext fun h => h.get? p = some { cls := .type "dict_items", data := .fields #[.ref d] }
def tItemsV (P : Program) (w : World) (td : TE) : TE := fun σ H Q => td σ H fun x H1 => ∃ d Y N, x = .ref d ∧ H1 d = some Y ∧ IsE P w d Y N ∧ ∀ p, H1 p = none → Q (.ref p) (upd H1 p (itmsO p d))
theorem pe_itemsV {e : Expr} {td : TE} {apos cpos : Pos} (he : PE X e td) (hbase : attributeBase e "items" X.env (eval e X.env) = eval e X.env := by rfl) (hline : (apos.endLine == cpos.line) = true := by rfl) (eP : X.prog = P := by rfl) (ew : X.w = w := by rfl) :
    PE X (.Call (.Attribute e "items" apos) [] [] cpos) (tItemsV P w td) := by
  subst eP ew
  refine ⟨fun pins s σ H Q I h => ?_⟩
  refine wpAny_Call_method (T := "dict") (id := "dict.items") hbase rfl hline F.plainAttrs_dict F.slot_dict_items F.type_dict_items (thn (he.run pins s σ H _ I h) fun u s1 ⟨x, H1, I1, rx, d, Y, N, ex, hd, hY, q⟩ => ?_)
  subst ex
  obtain rfl : u = Value.ref d := rx
  obtain ⟨sy, o, es, ep, g0, g1, g2, g3, _⟩ := hY _ _ (I1.hok d _ hd)
  have dr : s1.heap.DictRaw d es ep := ⟨o, g0, g1, g2⟩
  refine ⟨dr.typeIs, fun c e => (by cases e; exact ⟨o, g0, g1.2.1⟩), ?_⟩
  have hv : (s1.heap.push { cls := .type "dict_items", data := .fields #[.ref d] }).get? s1.heap.objs.size = some { cls := .type "dict_items", data := .fields #[.ref d] } := Heap.get?_push_size _ rfl
  have I2 : Inv X pins σ (upd H1 s1.heap.objs.size (itmsO s1.heap.objs.size d)) { s1 with heap := s1.heap.push { cls := .type "dict_items", data := .fields #[.ref d] }, toks := s1.toks } :=
    I1.laid (a := s1.heap.objs.size) (t' := s1.toks) (fun b ob z => Heap.get?_push_of_some _ z) (Nat.le_refl _) ⟨hv, ⟨_, hv⟩, fun g1 g2 z k => k _ z⟩
  have fin : ∃ v H', Inv X pins σ H' { s1 with heap := s1.heap.push { cls := .type "dict_items", data := .fields #[.ref d] } } ∧ RelV v (.ref s1.heap.objs.size) ∧ Q v H' := ⟨.ref _, _, I2, rfl, q _ (I1.hok.fresh (Nat.le_refl _))⟩
  show wpAny _ _ (callWith cpos (.builtin "dict.items") [.ref d] [] []) _ X.xe s1
  exact method_meetsIn F.slot_dict_items F.entry_dict_items rfl (PySem.evalArgs_none ⟨rfl, dr.typeIs, F.args_dict_items_1 _, _, meets_dict_items_raw d sy, ⟨es, ep, dr⟩, fin⟩)
end
section
variable {P : Program} {w : World} {A : Around} {E : Value → Shared → Prop} {s : Shared}
theorem sorted_gen2 {a : Addr} {ds : List PyData} {Y : Heap → List (L2.V × PyData) → Prop} {Q : Value → Shared → Prop} (hu : A.units + 64 < cLine) (few : ds.length ≤ 100000) (hal : AllAlike ds) (hb : ∀ d ∈ ds, (∃ zs, d = .tuple zs) ∧ d.depth ≤ 60)
    (col : ∀ (E' : Value → Shared → Prop) (R : List Value → Shared → Prop), (∀ h' tk (vs : List Value) (bs : List (L2.V × PyData)), (∀ b o, s.heap.get? b = some o → h'.get? b = some o) → bs.map (·.2) = ds → EachIs (fun (u : Value) (b : L2.V × PyData) => RelV b.1 u) vs bs →
      (∀ h : Heap, (∀ b o, h'.get? b = some o → h.get? b = some o) → EachIs (fun (v : Value) (b : L2.V × PyData) => ∃ as, Reads h v b.2 as) vs bs) → vs.length = ds.length → Y h' bs → R vs { s with heap := h', toks := tk }) → wpAny (model P w) A.in1 (collect (.ref a)) R E' s)
    (hQ : ∀ (h1 h' : Heap) (tk : Nat) p (out : Array Value) (c : Nat) (bs : List (L2.V × PyData)), (∀ b o, s.heap.get? b = some o → h1.get? b = some o) → (∀ b o, h1.get? b = some o → h'.get? b = some o) → h1.objs.size ≤ p → Y h1 bs → bs.map (·.2) = ds →
      h'.get? p = some (seqObj "list" out c) → Vals ((bs.mergeSort (dataLe false (fun b : L2.V × PyData => b.2))).map (·.1)) out.toList → Q (.ref p) { s with heap := h', toks := tk }) :
    wpAny (model P w) A (call (.builtin "sorted") [.ref a]) Q E s := by
  refine Calls.call_function_entry kind_sorted plain_sorted entry_sorted (args_sorted1 _) ?_
  unfold Builtin.«sorted»
  refine wpAny_bind (m := checkCount "sorted" 1 1 _) (wpAny_pure ?_)
  refine wpAny_bind (col _ _ fun h1 tk1 vs bs k1 ebs e0 er vl hY => ?_)
  subst ebs
  refine wpAny_bind (wpAny_newList ?_ (by rw [sizeLine_eq]; omega))
  have hoL : (h1.push (seqObj "list" vs.toArray 0)).get? h1.objs.size = some (seqObj "list" vs.toArray 0) := Heap.get?_push_size _ rfl
  have er2 := er (sortingHeap (h1.push (seqObj "list" vs.toArray 0)) h1.objs.size vs) fun b u z => sortingHeap_old (Nat.ne_of_lt (Heap.lt_size z)) (Heap.get?_push_of_some _ z)
  have S := FmSort.sortsAt_tups (prog := P) (w := w) (A := A.in1.in1) (s := { s with heap := sortingHeap (h1.push (seqObj "list" vs.toArray 0)) h1.objs.size vs, toks := tk1 }) (each_map (R := fun v d => ∃ as, Reads (sortingHeap (h1.push (seqObj "list" vs.toArray 0)) h1.objs.size vs) v d as) (fun b : L2.V × PyData => b.2) er2) hal (fun d hd => (hb d hd).1) fun d hd => by
    have := (hb d hd).2
    show A.units + 1 + 1 + d.depth < cLine
    omega
  refine wpAny_bind (wpAny_holding (wpAny_call_entry slot_list_sort ⟨_, hoL, rfl⟩ entry_list_sort (list_sort_vals (s := { s with heap := h1.push (seqObj "list" vs.toArray 0), toks := tk1 }) hoL S (by rw [sizeLine_eq]; omega) ⟨_, rfl, ?_⟩) (args_list_sort _)))
  have eo := sortVals_data (R := fun (u : Value) (b : L2.V × PyData) => RelV b.1 u) false e0 er2 hal
  generalize sortVals (dataKind (sortingHeap (h1.push (seqObj "list" vs.toArray 0)) h1.objs.size vs) (bs.map (·.2))) false vs vs = out at eo ⊢
  obtain ⟨c, hc⟩ := sortedHeap_at (vs := vs) (out := out.toArray) hoL
  refine wpAny_pure ⟨_, rfl, hQ h1 _ tk1 h1.objs.size out.toArray c bs k1 (fun b u z => ?_) (Nat.le_refl _) hY rfl hc (by rw [List.toList_toArray]; exact vals_each eo)⟩
  have hlt := Heap.lt_size z
  show (sortedHeap (h1.push (seqObj "list" vs.toArray 0)) h1.objs.size vs out.toArray).get? b = some u
  rw [sortedHeap_old (Nat.ne_of_lt hlt) (by rw [size_push']; exact Nat.lt_succ_of_lt hlt)]
  exact Heap.get?_push_of_some _ z
end
section
variable {X : Cx} {K : PySem.W.Frag} {P : Program} {w : World}
theorem each_refsI : ∀ (as : List Addr) (ds : List PyData), as.length = ds.length → EachIs (fun (u : Value) (b : L2.V × PyData) => RelV b.1 u) (as.map Value.ref) ((as.map V.ref).zip ds)
  | [], [], _ => .nil
  | [], _ :: _, h => by cases h
  | _ :: _, [], h => by cases h
  | a :: as, d :: ds, h => .cons (show RelV (V.ref a) (Value.ref a) from rfl) (each_refsI as ds (Nat.succ.inj h))
/-- sorted(d.items()): new pairs in the order of their data -/
def rSortI (K : PySem.W.Frag) (P : Program) (w : World) : List L2.V → Hp → VK → Prop := fun xs H Q => ∃ (p d : Addr) (Y : HO) (N : List (L2.V × L2.V)) (ds : List PyData), xs = [.ref p] ∧ H p = some (itmsO p d) ∧ H d = some Y ∧ IsE P w d Y N ∧ N.length ≤ 90000 ∧ ds.length = N.length ∧
  (∀ (j : Nat) q b, N[j]? = some q → ds[j]? = some b → ∃ x y, b = .tuple [x, y] ∧ Dp K H q.1 x ∧ Dp K H q.2 y ∧ b.depth ≤ 60) ∧ AllAlike ds ∧
  ∀ (H1 : Hp) (as : List Addr) (l : Addr), Same H H1 → as.length = N.length → (∀ (j : Nat) a q, as[j]? = some a → N[j]? = some q → H1 a = some (.tup [q.1, q.2])) → (∀ a ∈ as, H a = none) → H1 l = none →
    Q (.ref l) (upd H1 l (.lst ((((as.map V.ref).zip ds).mergeSort (dataLe false (fun b : L2.V × PyData => b.2))).map (·.1))))
theorem call_sortI (hc : X.calm = true) (hu : X.A.units + 64 < cLine) (eK : X.K = K := by rfl) (eP : X.prog = P := by rfl) (ew : X.w = w := by rfl) : CallR X (.builtin "sorted") (rSortI K P w) := by
  subst eK eP ew
  intro pins s σ H xs us Q I r h
  obtain ⟨p, d, Y, N, ds, rfl, hp, hd, hY, few, dl, dat, hal, q⟩ := h
  rw [Vals.ref1 r]
  have hv : s.heap.get? p = some { cls := .type "dict_items", data := .fields #[.ref d] } := (I.hok p _ hp).1
  obtain ⟨sy, o, es, ep, g0, g1, g2, g3, ent⟩ := hY _ _ (I.hok d _ hd)
  have dr : s.heap.DictRaw d es ep := ⟨o, g0, g1, g2⟩
  have inDs : ∀ b ∈ ds, ∃ j q, N[j]? = some q ∧ ds[j]? = some b := fun b hb => by
    obtain ⟨j, hj⟩ := List.mem_iff_getElem?.mp hb
    have := (List.getElem?_eq_some_iff.mp hj).1
    exact ⟨j, _, List.getElem?_eq_getElem (by omega), hj⟩
  refine sorted_gen2 (ds := ds) (Y := fun h bs => ∃ as : List Addr, bs = (as.map V.ref).zip ds ∧ as.length = N.length ∧ as.Pairwise (· < ·) ∧ (∀ a ∈ as, s.heap.objs.size ≤ a) ∧
      ∀ (j : Nat) (a : Addr) (q : L2.V × L2.V), as[j]? = some a → N[j]? = some q → ∃ u v, RelV q.1 u ∧ RelV q.2 v ∧ h.get? a = some { cls := .type "tuple", data := .seq #[u, v] }) hu (by omega) hal (fun b hb => ?_) (fun E' R hR => ?_) fun h1 h' tk l out c bs kA kB hl hY' _ hg hvs => ?_
  · obtain ⟨j, q, h1, h2⟩ := inDs b hb
    obtain ⟨x, y, e, _, _, dep⟩ := dat j q b h1 h2
    exact ⟨⟨_, e⟩, dep⟩
  · refine dil_collect (A := X.A.in1) (I.ok.hd hc) ⟨_, hv, rfl, rfl⟩ dr (by rw [g3, sizeLine_eq]; omega) fun h1 tk as k hl g => ?_
    have la : as.length = ds.length := by omega
    have tup : ∀ (j : Nat) (a : Addr) (q : L2.V × L2.V), as[j]? = some a → N[j]? = some q → ∃ u v, RelV q.1 u ∧ RelV q.2 v ∧ h1.get? a = some { cls := .type "tuple", data := .seq #[u, v] } := fun j a q ha hq => by
      obtain ⟨hj, e⟩ := g.pairs j a ha
      obtain ⟨en, hen, r1, r2⟩ := ent j q hq
      rw [Array.getElem?_eq_getElem hj] at hen
      have ee := Option.some.inj hen
      rw [ee] at e
      exact ⟨_, _, r1, r2, e⟩
    have e0 := each_refsI as ds la
    refine hR h1 tk (as.map Value.ref) ((as.map V.ref).zip ds) k (List.map_snd_zip (by rw [List.length_map]; omega)) e0 (fun h kh => each_and e0 fun u b hm hr => ?_) (by rw [List.length_map]; exact la) ⟨as, rfl, by omega, g.rise, fun a ha => Nat.le_of_lt (g.above a ha), tup⟩
    obtain ⟨j, hj⟩ := List.mem_iff_getElem?.mp hm
    obtain ⟨hj1, hj2⟩ := List.getElem?_zip_eq_some.mp hj
    rw [List.getElem?_map] at hj1
    obtain ⟨a, ha, ea⟩ := Option.map_eq_some_iff.mp hj1
    have := (List.getElem?_eq_some_iff.mp ha).1
    obtain ⟨q, hq⟩ : ∃ q, N[j]? = some q := ⟨_, List.getElem?_eq_getElem (by omega)⟩
    obtain ⟨x, y, eb, d1, d2, _⟩ := dat j q b.2 hq hj2
    obtain ⟨u1, v1, r1, r2, ht⟩ := tup j a q ha hq
    obtain ⟨a1, rd1⟩ := Dp.reads I x q.1 u1 d1 r1
    obtain ⟨a2, rd2⟩ := Dp.reads I y q.2 v1 d2 r2
    have kk : ∀ b o, s.heap.get? b = some o → h.get? b = some o := fun b o z => kh b o (k b o z)
    have eu : u = Value.ref a := by
      rw [← ea] at hr
      exact hr
    rw [eb, eu]
    exact ⟨_, .tuple (kh _ _ ht) rfl rfl (.cons (PyProof.Rows.Reads.keeps kk rd1) (.cons (PyProof.Rows.Reads.keeps kk rd2) .nil))⟩
  · obtain ⟨as, ebs, al, rise, low, tup⟩ := hY'
    subst ebs
    obtain ⟨H1, s1, t1, i1⟩ := inv_pairs as N H s I kA rise low al tup
    have J := i1 s.toks
    have hlen : ((((as.map V.ref).zip ds).mergeSort (dataLe false (fun b : L2.V × PyData => b.2))).map (·.1)).length ≤ sizeLine := by
      rw [List.length_map, List.length_mergeSort, List.length_zip, List.length_map, sizeLine_eq]
      omega
    exact ⟨.ref l, _, J.laid (t' := tk) kB hl (show ObjOk X.prog X.w _ h' l (.lst _) from ⟨hlen, out.toList, c, hvs, hg⟩), rfl, q H1 as l s1 al t1 (fun a ha => I.hok.fresh (low a ha)) (J.hok.fresh hl)⟩
end
end Fm
namespace Fm
open PySem PySem.Spec PyProof.Rows L2 PySem.W
section
variable {X : Cx} {K : PySem.W.Frag} {P : Program} {w : World}
/-- t.index(k), ints -/
def rIxOf (K : PySem.W.Frag) : L2.V → List L2.V → Hp → VK → Prop := fun x xs H Q => ∃ (a : Addr) (ns : List Int) (k : Int), x = .ref a ∧ xs = [.int k] ∧ SqT K H a (ns.map V.int) ∧ k ∈ ns ∧ Q (.int (ns.idxOf k : Nat)) H
theorem mt_ixOf (eK : X.K = K := by rfl) : MtR X "tuple.index" (rIxOf K) := by
  subst eK
  intro pins s σ H x xs v us Q I rx rxs h
  obtain ⟨a, ns, k, rfl, rfl, hs, hk, q⟩ := h
  cases rx
  obtain ⟨u, rfl, ru⟩ := rxs.one
  obtain ⟨t, rfl⟩ := (show ∃ t, u = Value.int k t from ru)
  obtain ⟨its, rv, hl, _⟩ := I.tuple hs
  exact PySem.SeqAt.tuple_index_ints hl rv.ints hk ⟨.int (ns.idxOf k : Nat), H, I.tok _, ⟨_, rfl⟩, q⟩
/-- what is in a dict whose keys are int tuples -/
theorem isE_valF {a : Addr} {L : List (Addr × List Int × L2.V)} : IsE P w a (DTO P w a (ValF L)) (L.map fun p => (.ref p.1, p.2.2)) := fun G g ok => by
  obtain ⟨⟨xs, hF, sy, nd, o, es, ep, h1, h2, h3, h4⟩, _⟩ := (show ObjOk P w G g a (DTO P w a (ValF L)) from ok)
  have ln : L.length = xs.length := Paired.length hF
  have le : es.size = xs.length := by rw [← Array.length_toList, h4, List.length_map]
  refine ⟨sy, o, es, ep, h1, h2, h3, by rw [List.length_map]; omega, fun i p hp => ?_⟩
  rw [List.getElem?_map] at hp
  obtain ⟨e, he, rfl⟩ := Option.map_eq_some_iff.mp hp
  obtain ⟨y, hy, r1, r2, r3⟩ := _root_.L2.paired_get hF he
  refine ⟨_, by rw [← Array.getElem?_toList, h4, List.getElem?_map, hy] <;> rfl, ?_, r3⟩
  show RelV (V.ref e.1) (Value.ref y.2.1)
  rw [r1]
  rfl
end
end Fm
namespace Fm
open PySem PySem.Spec PyProof.Rows L2 PySem.W
section
variable {X : Cx} {K : PySem.W.Frag}
/-- t.index(k), the tuple's object known to have no dict -/
def tIxF (K : PySem.W.Frag) (to : TE) (ta : TA) : TE := fun σ H Q => to σ H fun x H1 => (∃ (a : Addr) (o : Obj) (xs : List L2.V), x = .ref a ∧ H1 a = some (.frz o (.tup xs)) ∧ o.dict = none) ∧ ta σ H1 fun vs H2 => rIxOf K x vs H2 Q
theorem pe_ixF {o e : Expr} {apos cpos : Pos} {to : TE} {ta : TA} (ho : PE X o to) (ha : PA X [e] ta) (h1 : attributeBase o "index" X.env (eval o X.env) = eval o X.env := by rfl)
    (h2 : ((backTo cpos (starEach [e] X.env)).all (fun x => !x.1) && (backToKw cpos (keywordEach [] X.env)).all (fun x => x.1.isSome) && decide ([e].length + ([] : List Keyword).length + (if ([] : List Keyword).isEmpty then 0 else 1) < 30)) = true := by rfl)
    (h3 : (apos.endLine == cpos.line) = true := by rfl) (h4 : starEach [e] X.env = (false, eval e X.env) :: starEach [] X.env := by rfl) (eK : X.K = K := by rfl) : PE X (.Call (.Attribute o "index" apos) [e] [] cpos) (tIxF K to ta) := by
  subst eK
  constructor
  intro pins s σ H Q I h
  refine wpAny_Call_method_late h1 h2 h3 rfl (thn (ho.run pins s σ H _ I h) fun v s1 z => ?_)
  obtain ⟨x, H1, I1, r1, ⟨a, ob, xs, ex, hx, nd⟩, q1⟩ := z
  subst ex
  cases r1
  obtain ⟨g0, ok⟩ := (show ObjOk X.prog X.w H1 s1.heap a (.frz ob (.tup xs)) from I1.hok a _ hx)
  obtain ⟨its, _, ⟨o', g1, g2, _⟩, _⟩ := I1.tuple (.inl (.inr ⟨ob, hx⟩))
  have eo : o' = ob := Option.some.inj (g1.symm.trans g0)
  subst eo
  refine ⟨"tuple", "tuple.index", F.plainAttrs_tuple, F.slot_tuple_index, F.type_tuple_index, ⟨_, g1, g2⟩, fun c ec => (by cases ec; exact ⟨_, g1, nd⟩), ?_⟩
  have A1 := ha.run cpos pins s1 σ H1 _ I1 q1
  rw [h4] at A1 ⊢
  refine Calls.callWith_builtin rfl (Calls.evalArgs_plain (thn A1 fun us s2 z => ?_))
  obtain ⟨vs, H2, I2, r2, q2⟩ := z
  exact (mt_ixOf (X := X) (K := X.K) rfl) pins s2 σ H2 (V.ref a) vs _ us Q I2 rfl r2 q2
/-- a field, K by name: for blocks of comprehensions -/
theorem pe_fldK {e : Expr} {f : Str} {pos : Pos} {ta : TE} (he : PE X e ta) (hb : attributeBase e f X.env (eval e X.env) = eval e X.env) (eK : X.K = K := by rfl) : PE X (.Attribute e f pos) (tFld K ta f) := eK ▸ pe_fld he hb
end
end Fm
/-! d[k] of a dict with tuple keys, also while it is gone through. -/
namespace Fm
open PySem PySem.Spec PyProof.Rows L2 PySem.W
section
variable {X : Cx} {K : PySem.W.Frag} {P : Program} {w : World}
def tDGetR (K : PySem.W.Frag) (P : Program) (w : World) (td ty : TE) : TE := fun σ H Q => td σ H fun x H1 => ty σ H1 fun y H2 => ∃ (a b : Addr) (q : List Int) (L : TupL) (v : L2.V), x = .ref a ∧ y = .ref b ∧ Rd H2 a (DTO P w a (ValF L)) ∧ KeysT K H2 L ∧ SqT K H2 b (q.map V.int) ∧ findT L q = some v ∧ Q v H2
theorem pe_dgetR {o i : Expr} {pos : Pos} {td ty : TE} (hu : X.A.units + 64 < cLine) (ho : PE X o td) (hi : PE X i ty) (hs : NoSl i) (eK : X.K = K := by rfl) (eP : X.prog = P := by rfl) (ew : X.w = w := by rfl) : PE X (.Subscript o i pos) (tDGetR K P w td ty) := by
  subst eK eP ew
  refine ⟨fun pins s σ H Q I h => ?_⟩
  refine subD_of PySem.F.slot_dict_getitem.lookup hs (thn (ho.run pins s σ H _ I h) fun u s1 ⟨x, H1, I1, rx, q1⟩ => thn (hi.run pins s1 σ H1 _ I1 q1) fun iv s2 ⟨y, H2, I2, ry, a, b, q, L, v, ex, ey, ha, hL, hb, hv, q2⟩ => ?_)
  subst ex ey
  cases rx
  cases ry
  obtain ⟨xs, hF, hd⟩ := Inv.dto I2 ha
  have dd := hd.full fun x hx => by
    obtain ⟨p, hp, e1, e2⟩ := valF_mem hF x hx
    rw [e1, e2]
    exact Inv.isT I2 (hL p hp)
  have rl : RelO (findT L q) ((atKey xs q).map (·.2)) := hF.find q
  rw [hv] at rl
  cases hz : atKey xs q with
  | none =>
    rw [hz] at rl
    exact (show False from rl).elim
  | some p =>
    rw [hz] at rl
    exact ⟨dd.typeIs, wpAny_getItem_heap (knd := TK X.prog X.w) (show X.A.units + 1 < cLine by omega) (Inv.isT I2 hb) dd hz ⟨_, H2, I2.tok _, rl, q2⟩⟩
end
end Fm
/-! Sets whose members are keys of any kind that stands in the heap (boxes): what the table does with them. -/
namespace Fm
open PySem PySem.Spec PyProof.Rows L2 PySem.W
section
variable {P : Program} {w : World} {α : Type} [DecidableEq α]
/-- what a set asks of its members, besides what a dict asks of its keys -/
structure SetKey (kn : HeapKind P w α) (fine : α → Prop) : Prop where
  stay : ∀ {h h' : Heap} {k : α} {b : Addr}, (∀ c o vs n, h.get? c = some o → o.data = .seq vs n → h'.get? c = some o) → kn.is h k b → kn.is h' k b
  seqd : ∀ {h : Heap} {k : α} {b : Addr}, kn.is h k b → ∃ o vs n, h.get? b = some o ∧ o.data = .seq vs n
  cls : ∀ {A : Around} {E : Value → Shared → Prop} {s : Shared} {k : α} {b : Addr} {Q : Bool → Shared → Prop}, kn.is s.heap k b → Q false s → wpAny (model P w) A (ofAClassStatement 8 (.ref b)) Q E s
  byv : ∀ {A : Around} {E : Value → Shared → Prop} {s : Shared} {k : α} {b : Addr} {Q : Bool → Shared → Prop}, kn.is s.heap k b → fine k → Q true s → wpAny (model P w) A (hashByValue 8 (.ref b)) Q E s
end
section
variable {P : Program} {w : World}
/-! ### nested keys of numbers -/
def numKey : NestedKey → Bool
  | .none => false
  | .num _ => true
  | .text _ => false
  | .tup ks => numKeys ks
where numKeys : List NestedKey → Bool
  | [] => true
  | k :: ks => numKey k && numKeys ks
theorem one_item {n : Nat} {ks : List NestedKey} {vs : List Value} {h : Heap} (x : NestedAll h ks vs) (hd : NestedKey.depthAll ks ≤ n) : ∀ v ∈ vs, ∃ k ∈ ks, NestedIs h k v ∧ k.depth ≤ n := by
  induction ks generalizing vs with
  | nil =>
    cases x
    intro v hv
    cases hv
  | cons k ks ih =>
    cases x with
    | cons x1 x2 =>
      have d : max k.depth (NestedKey.depthAll ks) ≤ n := hd
      intro v hv
      rcases List.mem_cons.mp hv with e | e
      · rw [e]
        exact ⟨k, List.mem_cons_self .., x1, by omega⟩
      · obtain ⟨k', h1, h2⟩ := ih x2 (by omega) v e
        exact ⟨k', List.mem_cons_of_mem _ h1, h2⟩
theorem flat_cls (n : Nat) {v : Value} (h : ∀ a, v ≠ .ref a) : ofAClassStatement n v = pure false := by
  cases v with
  | ref a => exact absurd rfl (h a)
  | _ => cases n <;> rfl
theorem key_cls : ∀ (n : Nat) (k : NestedKey) (v : Value) {A : Around} {E : Value → Shared → Prop} {s : Shared} {Q : Bool → Shared → Prop}, NestedIs s.heap k v → k.depth ≤ n → Q false s → wpAny (model P w) A (ofAClassStatement n v) Q E s := by
  intro n
  induction n with
  | zero =>
    intro k v A E s Q x d q
    have nr : ∀ a, v ≠ .ref a := fun a e => by
      subst e
      cases x with
      | tup _ _ _ _ => simp only [NestedKey.depth] at d; omega
    rw [flat_cls 0 nr]
    exact wpAny_pure q
  | succ n ih =>
    intro k v A E s Q x d q
    by_cases nr : ∀ a, v ≠ .ref a
    · rw [flat_cls _ nr]
      exact wpAny_pure q
    · have ⟨a, e⟩ : ∃ a, v = .ref a := Classical.byContradiction fun z => nr fun a e => z ⟨a, e⟩
      subst e
      cases x with
      | @tup _ o vs m ks h1 h2 h3 h4 =>
        have d' : NestedKey.depthAll ks ≤ n := by
          simp only [NestedKey.depth] at d
          omega
        have ty : s.TypeIs (.ref a) "tuple" := ⟨o, h1, h2⟩
        have its := one_item h4 d'
        unfold ofAClassStatement
        refine wpAny_bind (wpAny_typeOf ty ?_)
        have e : (("tuple" : String) == "tuple") = true := rfl
        simp only [e, if_true, Bool.not_true, Bool.false_eq_true, if_false]
        try refine wpAny_bind (wpAny_pure ?_)
        try simp only [Bool.not_true, Bool.false_eq_true, if_false]
        refine wpAny_bind (m := seqItems? (.ref a)) (wpAny_seqItems h1 h3 ?_)
        refine wpAny_bind (m := forIn vs _ _) ?_
        rw [← Array.forIn_toList]
        refine wpAny_forIn_list _ (fun left r t => r.1 = none ∧ t = s ∧ ∀ u ∈ left, ∃ k ∈ ks, NestedIs s.heap k u ∧ k.depth ≤ n) _ (fun u left r t => ?_) (fun r t => ?_) _ _ ⟨rfl, rfl, its⟩
        · rintro ⟨hr, rfl, hl⟩
          obtain ⟨k', _, i1, i2⟩ := hl u (List.mem_cons_self ..)
          refine wpAny_bind (ih k' u i1 i2 ?_)
          simp only [Bool.false_eq_true, if_false]
          exact wpAny_pure ⟨rfl, rfl, fun z hz => hl z (List.mem_cons_of_mem _ hz)⟩
        · obtain ⟨r1, r2⟩ := r
          rintro ⟨hr, rfl, _⟩
          cases (show r1 = none from hr)
          exact wpAny_pure q
theorem numKeys_mem : ∀ {ks : List NestedKey}, numKey.numKeys ks = true → ∀ k ∈ ks, numKey k = true
  | [], _, _, h => by cases h
  | k :: ks, h, k', h' => by
    have z : (numKey k && numKey.numKeys ks) = true := h
    rw [Bool.and_eq_true] at z
    rcases List.mem_cons.mp h' with e | e
    · rw [e]; exact z.1
    · exact numKeys_mem z.2 k' e
theorem key_byv : ∀ (n : Nat) (k : NestedKey) (v : Value) {A : Around} {E : Value → Shared → Prop} {s : Shared} {Q : Bool → Shared → Prop}, NestedIs s.heap k v → numKey k = true → k.depth ≤ n → Q true s → wpAny (model P w) A (hashByValue n v) Q E s := by
  intro n
  induction n with
  | zero =>
    intro k v A E s Q x hk d q
    cases x with
    | none => cases hk
    | bool _ => exact wpAny_pure q
    | int _ _ => exact wpAny_pure q
    | text _ _ => cases hk
    | tup _ _ _ _ => simp only [NestedKey.depth] at d; omega
  | succ n ih =>
    intro k v A E s Q x hk d q
    cases x with
    | none => cases hk
    | bool _ => exact wpAny_pure q
    | int _ _ => exact wpAny_pure q
    | text _ _ => cases hk
    | @tup a o vs m ks h1 h2 h3 h4 =>
      have d' : NestedKey.depthAll ks ≤ n := by
        simp only [NestedKey.depth] at d
        omega
      have its := one_item h4 d'
      have nums := numKeys_mem (show numKey.numKeys ks = true from hk)
      unfold hashByValue
      refine wpAny_bind (wpAny_specialOf (T := "tuple") ⟨o, h1, h2⟩ F.slot_tuple_hash.lookup ?_)
      refine wpAny_bind (m := seqItems? (.ref a)) (wpAny_seqItems h1 h3 ?_)
      refine wpAny_bind (m := forIn vs _ _) ?_
      rw [← Array.forIn_toList]
      refine wpAny_forIn_list _ (fun left r t => r.1 = none ∧ t = s ∧ ∀ u ∈ left, ∃ k ∈ ks, NestedIs s.heap k u ∧ k.depth ≤ n) _ (fun u left r t => ?_) (fun r t => ?_) _ _ ⟨rfl, rfl, its⟩
      · rintro ⟨hr, rfl, hl⟩
        obtain ⟨k', km, i1, i2⟩ := hl u (List.mem_cons_self ..)
        refine wpAny_bind (ih k' u i1 (nums k' km) i2 ?_)
        simp only [Bool.not_true, Bool.false_eq_true, if_false]
        exact wpAny_pure ⟨rfl, rfl, fun z hz => hl z (List.mem_cons_of_mem _ hz)⟩
      · obtain ⟨r1, r2⟩ := r
        rintro ⟨hr, rfl, _⟩
        cases (show r1 = none from hr)
        exact wpAny_pure q
end
end Fm
namespace Fm
open PySem PySem.Spec PyProof.Rows L2 PySem.W
section
variable {P : Program} {w : World} {α : Type} [DecidableEq α] {kn : HeapKind P w α} {fine : α → Prop} {A : Around} {E : Value → Shared → Prop} {s : Shared}
def memRow (kn : HeapKind P w α) (M : List (Addr × α)) : List (Int × Value) := M.map fun e => (kn.hash e.2, Value.ref e.1)
/-- at `a` a set that holds just these -/
structure SG (kn : HeapKind P w α) (fine : α → Prop) (h : Heap) (a : Addr) (M : List (Addr × α)) (es : Array (Int × Value)) (ep : Nat) (t : SetTable) : Prop where
  obj : ∃ ob, h.get? a = some ob ∧ ob.ExactSet ∧ ob.data = .set es ep t
  row : es.toList = memRow kn M
  tab : TabOk t (M.map fun e => kn.hash e.2)
  uni : (M.map (·.2)).Nodup
  key : ∀ e ∈ M, kn.is h e.2 e.1 ∧ fine e.2
  pl : t.plain = true
  lg : w.params.followText "set-order" = true ∨ t.led = true
  fit : M.length * 5 < t.mask * 3
  few : M.length < 64
variable {a : Addr} {M : List (Addr × α)} {es : Array (Int × Value)} {ep : Nat} {t : SetTable}
theorem memRow_len {M : List (Addr × α)} (e : es.toList = memRow kn M) : es.size = M.length := by
  have z := congrArg List.length e
  unfold memRow at z
  rwa [List.length_map, Array.length_toList] at z
theorem SG.len (Z : SG kn fine s.heap a M es ep t) : es.size = M.length := memRow_len Z.row
theorem SG.place (Z : SG kn fine s.heap a M es ep t) : t.place.size = M.length := by
  have z := Z.tab.sz
  rwa [List.length_map] at z
theorem SG.fills (Z : SG kn fine s.heap a M es ep t) : t.fits es.size = true := by
  have z1 := Z.place
  have z2 := Z.len
  have z3 := Z.fit
  unfold SetTable.fits SetTable.fill
  rw [Z.tab.dm, Bool.and_eq_true, beq_iff_eq, decide_eq_true_eq]
  refine ⟨by omega, ?_⟩
  show t.place.size + 0 ≤ t.mask
  omega
theorem SG.at (Z : SG kn fine s.heap a M es ep t) {i : Nat} {e : Addr × α} (he : M[i]? = some e) : es[i]? = some (kn.hash e.2, Value.ref e.1) := by
  rw [← Array.getElem?_toList, Z.row, memRow, List.getElem?_map, he]
  rfl
theorem SG.holds (Z : SG kn fine s.heap a M es ep t) : (t.gaveWay = true) → False := fun z => by
  unfold SetTable.gaveWay at z
  rw [mask_odd Z.tab.mok] at z
  cases z
theorem sees_none (sk : SetKey kn fine) {b : Addr} {k : α} {ys : List Value} {Q : Bool → Shared → Prop} (hx : kn.is s.heap k b) (hy : ∀ y ∈ ys, ∃ k' c, y = Value.ref c ∧ kn.is s.heap k' c) (q : Q false s) :
    wpAny (model P w) A (searchCouldBeSeen (.ref b) ys) Q E s := by
  unfold searchCouldBeSeen
  refine wpAny_bind ?_
  refine wpAny_forIn_list _ (fun left r t => r.1 = none ∧ t = s ∧ ∀ y ∈ left, ∃ k' c, y = Value.ref c ∧ kn.is s.heap k' c) _ (fun v left r t => ?_) (fun r t => ?_) _ _ ⟨rfl, rfl, hy⟩
  · rintro ⟨hr, rfl, hl⟩
    obtain ⟨k', c, rfl, hc⟩ := hl v (List.mem_cons_self ..)
    have hl' : ∀ y ∈ left, ∃ k' c, y = Value.ref c ∧ kn.is t.heap k' c := fun y z => hl y (List.mem_cons_of_mem _ z)
    dsimp only
    by_cases same : (b == c || (carriedByValue (.ref b) && carriedByValue (.ref c))) = true
    · exact wp_if_pos same (wpAny_pure ⟨rfl, rfl, hl'⟩)
    · refine wp_if_neg same (wpAny_bind (kn.quiet hx ?_))
      simp only [Bool.not_true, Bool.false_eq_true, if_false]
      refine wpAny_bind (kn.quiet hc ?_)
      simp only [Bool.not_true, Bool.false_eq_true, if_false]
      refine wpAny_bind (sk.cls hx ?_)
      simp only [Bool.false_eq_true, if_false]
      refine wpAny_bind (sk.cls hc ?_)
      simp only [Bool.false_eq_true, if_false]
      exact wpAny_pure ⟨rfl, rfl, hl'⟩
  · obtain ⟨r1, r2⟩ := r
    rintro ⟨hr, rfl, _⟩
    cases (show r1 = none from hr)
    exact wpAny_pure q
/-- where a hash leads in a table, step by step -/
abbrev step0 (t : SetTable) (hh : Int) : SetTable.Probe := runAt t.mask (SetTable.bits hh % (t.mask + 1)) (SetTable.bits hh)
structure Goal (t : SetTable) (hh : Int) (G : Nat) : Prop where
  lt : G < 10 * SetTable.turns t.mask
  off : way t.mask hh G ∉ t.place.toList
  on : ∀ c, c < G → way t.mask hh c ∈ t.place.toList
theorem no_dummy (m : Nat) : ∀ (n : Nat) (p : SetTable.Probe), p.dummy = none → (nth m p n).dummy = none
  | 0, _, h => h
  | n + 1, p, h => no_dummy m n (adv m p) (by unfold adv; split <;> exact h)
theorem look_on (sk : SetKey kn fine) (Z : SG kn fine s.heap a M es ep t) {x : Addr} {k : α} (hx : kn.is s.heap k x) (ro : kn.room A) {G : Nat} (go : Goal t (kn.hash k) G) {Q : SetFound → Shared → Prop}
    (q1 : k ∈ M.map (·.2) → Q (.there none) s) (q2 : k ∉ M.map (·.2) → Q (.free (way t.mask (kn.hash k) G) false) s) :
    ∀ (f c : Nat) (stand : Option SetTable.Probe), stand.getD (t.probeStart (kn.hash k)) = nth t.mask (step0 t (kn.hash k)) c → c ≤ G → G - c < f →
      (∀ (i : Nat) e, M[i]? = some e → e.2 = k → ∃ c', c ≤ c' ∧ c' < G ∧ t.place.toList[i]? = some (way t.mask (kn.hash k) c')) →
      wpAny (model P w) A (setSearchFrom a (.ref x) (kn.hash k) true f stand) Q E s := by
  intro f
  induction f with
  | zero => intro c stand _ _ hf _; omega
  | succ f ih =>
    intro c stand hst hc hf hre
    obtain ⟨ob, g1, g2, g3⟩ := Z.obj
    rw [setSearchFrom_succ]
    refine wpAny_bind (wpAny_setState_of g1 g3 Z.fills ?_)
    dsimp only
    refine wp_if_neg (fun z => Z.holds z) ?_
    try refine wpAny_bind (wpAny_pure ?_)
    have along : ∀ d, nth t.mask (nth t.mask (step0 t (kn.hash k)) c) d = nth t.mask (step0 t (kn.hash k)) (c + d) := fun d => (nth_add t.mask c _ d).symm
    have place : ∀ d, (nth t.mask (nth t.mask (step0 t (kn.hash k)) c) d).j = way t.mask (kn.hash k) (c + d) := fun d => congrArg SetTable.Probe.j (along d)
    have hs : ∀ (i : Nat) e, M[i]? = some e → (fun i => (es[i]?.map (·.1)).getD 0) i = kn.hash e.2 := fun i e he => by
      show (es[i]?.map (·.1)).getD 0 = _
      rw [Z.at he]
      rfl
    have found := go_spec t Z.tab.ris Z.tab.dm (fun i => (es[i]?.map (·.1)).getD 0) (kn.hash k) (10 * SetTable.turns t.mask) (G - c) _ (no_dummy t.mask c _ rfl) (by have := go.lt; omega)
      (fun d hd => by rw [place]; exact go.on (c + d) (by omega)) (by rw [place, show c + (G - c) = G by omega]; exact go.off)
    rcases found with ⟨d, i, hd, hi, _, hno, hpr⟩ | ⟨hno, hpr⟩
    · -- something stands there
      rw [place] at hi
      have ep0 : t.probe (fun i => (es[i]?.map (·.1)).getD 0) (kn.hash k) (stand.getD (t.probeStart (kn.hash k))) = some (.candidate (way t.mask (kn.hash k) (c + d)) i (nth t.mask (step0 t (kn.hash k)) (c + (d + 1)))) := by
        rw [hst, ← place, ← along]
        exact hpr
      rw [ep0]
      dsimp only
      have il : i < M.length := by
        have l1 := (List.getElem?_eq_some_iff.mp hi).1
        have l2 := Z.place
        rw [Array.length_toList] at l1
        omega
      obtain ⟨e, he⟩ : ∃ e, M[i]? = some e := ⟨_, List.getElem?_eq_getElem il⟩
      have em := List.mem_of_getElem? he
      have ek := (Z.key e em).1
      have sl : t.slot (way t.mask (kn.hash k) (c + d)) = .live i := slot_live Z.tab.ris hi
      have core : wpAny (model P w) A (searchRest a (.ref x) (kn.hash k) true f es t (way t.mask (kn.hash k) (c + d)) i (nth t.mask (step0 t (kn.hash k)) (c + (d + 1)))) Q E s := by
        unfold searchRest
        rw [Z.at he]
        dsimp only
        refine wpAny_bind (wpAny_holding (kn.eqBool ro ek hx ?_))
        refine wpAny_bind (wpAny_setState_of g1 g3 Z.fills ?_)
        dsimp only
        by_cases hk : e.2 = k
        · refine wp_if_pos (by simp [hk]) (wpAny_pure (q1 (List.mem_map.mpr ⟨e, em, hk⟩)))
        · refine wp_if_neg (by simp [hk]) ?_
          try refine wpAny_bind (wpAny_pure ?_)
          rw [sameMem]
          dsimp only
          simp only [if_true, sl, Z.at he]
          refine wpAny_bind (wpAny_isSame_ref_self (wpAny_bind (wpAny_pure ?_)))
          simp only [if_true]
          refine wp_if_neg (by simp [hk]) ?_
          refine ih (c + (d + 1)) _ rfl (by omega) (by omega) fun i0 e0 h0 hk0 => ?_
          obtain ⟨c', b1, b2, b3⟩ := hre i0 e0 h0 hk0
          have notless : ¬ c' < c + d := fun z => hno (c' - c) i0 (by omega) (by rw [place, show c + (c' - c) = c' by omega]; exact b3) ((hs i0 e0 h0).trans (congrArg kn.hash hk0))
          have noteq : c' ≠ c + d := fun z => by
            rw [z] at b3
            have s0 := slot_live Z.tab.ris b3
            rw [sl] at s0
            injection s0 with s0
            rw [← s0, he] at h0
            cases h0
            exact hk hk0
          exact ⟨c', by omega, b2, b3⟩
      by_cases hl : t.led = true
      · refine wp_if_neg (by simp [hl]) ?_
        try refine wpAny_bind (wpAny_pure ?_)
        exact core
      · refine wp_if_pos (by simp [hl]) ?_
        refine wpAny_bind (sees_none sk hx (fun y hy => ?_) ?_)
        · obtain ⟨u, hu, eu⟩ := List.mem_map.mp hy
          have hu1 : u ∈ es ∧ u.1 = kn.hash k := by simpa using hu
          have hu2 : u ∈ es.toList := by simpa using hu1.1
          rw [Z.row] at hu2
          obtain ⟨e2, he2, eq2⟩ := List.mem_map.mp hu2
          refine ⟨e2.2, e2.1, ?_, (Z.key e2 he2).1⟩
          rw [← eu, ← eq2]
        · refine wp_if_neg (by decide) ?_
          try refine wpAny_bind (wpAny_pure ?_)
          exact core
    · -- nothing does
      have eG : way t.mask (kn.hash k) G = (nth t.mask (nth t.mask (step0 t (kn.hash k)) c) (G - c)).j := by
        rw [place, show c + (G - c) = G by omega]
      have ep0 : t.probe (fun i => (es[i]?.map (·.1)).getD 0) (kn.hash k) (stand.getD (t.probeStart (kn.hash k))) = some (.empty (way t.mask (kn.hash k) G) none) := by
        rw [hst, eG]
        exact hpr
      rw [ep0]
      dsimp only
      refine wpAny_pure (q2 fun hm => ?_)
      obtain ⟨e0, h0, hk0⟩ := List.mem_map.mp hm
      obtain ⟨i0, hi0⟩ := List.mem_iff_getElem?.mp h0
      obtain ⟨c', b1, b2, b3⟩ := hre i0 e0 hi0 hk0
      exact hno (c' - c) i0 (by omega) (by rw [place, show c + (c' - c) = c' by omega]; exact b3) ((hs i0 e0 hi0).trans (congrArg kn.hash hk0))
theorem look_for (sk : SetKey kn fine) (Z : SG kn fine s.heap a M es ep t) {x : Addr} {k : α} (hx : kn.is s.heap k x) (ro : kn.room A) {Q : SetFound → Shared → Prop} (q1 : k ∈ M.map (·.2) → Q (.there none) s)
    (q2 : ∀ G, k ∉ M.map (·.2) → way t.mask (kn.hash k) G ∉ t.place.toList → (∀ c, c < G → way t.mask (kn.hash k) c ∈ t.place.toList) → Q (.free (way t.mask (kn.hash k) G) false) s) :
    wpAny (model P w) A (setSearch a (.ref x) (kn.hash k) true) Q E s := by
  have fit := Z.fit
  obtain ⟨G, b1, b2, b3⟩ := Z.tab.first (by rw [List.length_map]; omega) (kn.hash k)
  have big : 10 * SetTable.turns t.mask ≤ 1420 := by
    unfold SetTable.turns
    rcases Z.tab.mok with e | e | e <;> omega
  unfold setSearch
  refine look_on sk Z hx ro ⟨b1, b2, b3⟩ q1 (fun n => q2 G n b2 b3) 100000 0 none rfl (Nat.zero_le _) (by omega) fun i e he hk => ?_
  have hi : (M.map fun e => kn.hash e.2)[i]? = some (kn.hash k) := by
    rw [List.getElem?_map, he, ← hk]
    rfl
  have il : i < t.place.toList.length := by
    have l1 := (List.getElem?_eq_some_iff.mp he).1
    have l2 := Z.place
    rw [Array.length_toList]
    omega
  have hj := List.getElem?_eq_getElem il
  obtain ⟨c, hc, e0⟩ := Z.tab.before b2 hi hj
  exact ⟨c, Nat.zero_le _, hc, by rw [hj, e0]⟩
end
end Fm
namespace Fm
open PySem PySem.Spec PyProof.Rows L2 PySem.W
section
variable {P : Program} {w : World} {α : Type} [DecidableEq α] {kn : HeapKind P w α} {fine : α → Prop} {A : Around} {E : Value → Shared → Prop} {s : Shared}
theorem all_places {β : Type} (M : List β) : (List.range M.length).filterMap (fun i => M[i]?) = M := by
  have z : ∀ n, n ≤ M.length → (List.range n).filterMap (fun i => M[i]?) = M.take n := by
    intro n
    induction n with
    | zero => intro _; rfl
    | succ n ih =>
      intro hn
      have e := List.getElem?_eq_getElem (show n < M.length from hn)
      rw [List.range_succ, List.filterMap_append, ih (by omega), List.take_add_one, e, List.filterMap_cons_some e]
      rfl
  rw [z _ (Nat.le_refl _), List.take_length]
theorem rows_anew (M : List (Addr × α)) (es : Array (Int × Value)) (order : Array Nat) (hr : es.toList = memRow kn M) (hp : order.toList.Perm (List.range M.length)) :
    ∃ M2 : List (Addr × α), (order.filterMap (es[·]?)).toList = memRow kn M2 ∧ M2.Perm M ∧ (M2.map fun e => kn.hash e.2) = order.toList.map fun i => (es.map (·.1)).getD i 0 := by
  have at1 : ∀ i : Nat, es[i]? = (M[i]?).map (fun e : Addr × α => (kn.hash e.2, Value.ref e.1)) := fun i => by
    rw [← Array.getElem?_toList, hr, memRow, List.getElem?_map]
  refine ⟨order.toList.filterMap fun i => M[i]?, ?_, ?_, ?_⟩
  · rw [Array.toList_filterMap, memRow, List.map_filterMap]
    exact congrArg (fun f => List.filterMap f order.toList) (funext at1)
  · have z := hp.filterMap fun i => M[i]?
    rwa [all_places] at z
  · have lt : ∀ i ∈ order.toList, i < M.length := fun i hi => List.mem_range.mp (hp.mem_iff.mp hi)
    generalize order.toList = l at lt
    induction l with
    | nil => rfl
    | cons i l ih =>
      have hi := lt i (List.mem_cons_self ..)
      have e := List.getElem?_eq_getElem hi
      rw [List.filterMap_cons_some e, List.map_cons, List.map_cons, ih fun j hj => lt j (List.mem_cons_of_mem _ hj)]
      have e2 : (es.map (·.1))[i]? = some (kn.hash (M[i]).2) := by
        rw [Array.getElem?_map, at1, e]
        rfl
      rw [show (es.map (·.1)).getD i 0 = kn.hash (M[i]).2 by simp [Array.getD_eq_getD_getElem?, e2]]
theorem key_but (sk : SetKey kn fine) {h h' : Heap} {k : α} {a b : Addr} {ob : Obj} {es : Array (Int × Value)} {ep : Nat} {t : SetTable} (hb : kn.is h k b) (g1 : h.get? a = some ob) (g3 : ob.data = .set es ep t) (sb : Heap.SameBut a h h') : kn.is h' k b := by
  refine sk.stay (fun c o vs n e1 e2 => ?_) hb
  refine (sb.2 c fun z => ?_).trans e1
  rw [z, g1] at e1
  cases e1
  rw [g3] at e2
  cases e2
variable {a : Addr} {M : List (Addr × α)} {es : Array (Int × Value)} {ep : Nat} {t : SetTable}
/-- a larger table -/
theorem larger (sk : SetKey kn fine) {ob : Obj} (g1 : s.heap.get? a = some ob) (g2 : ob.ExactSet) (g3 : ob.data = .set es ep t) (hr : es.toList = memRow kn M) (hpl : t.place.size = es.size) (hdm : t.dummies = #[]) (hin : es.size ≤ t.mask) (uni : (M.map (·.2)).Nodup)
    (key : ∀ e ∈ M, kn.is s.heap e.2 e.1 ∧ fine e.2) (pl : t.plain = true) (lg : w.params.followText "set-order" = true ∨ t.led = true) (few : M.length < 64) {wanted N : Nat} (hw : SetTable.sizeAbove wanted - 1 = N) (hN : MaskOk N) (hw2 : SetTable.sizeAbove wanted ≤ 128) (fit : M.length * 5 < N * 3)
    {Q : Unit → Shared → Prop} (q : ∀ h' M' es' ep' t', Heap.SameBut a s.heap h' → SG kn fine h' a M' es' ep' t' → M'.Perm M → Q () { s with heap := h' }) : wpAny (model P w) A (setRelay a wanted) Q E s := by
  have ml := memRow_len hr
  have fills : t.fits es.size = true := by
    unfold SetTable.fits SetTable.fill
    rw [hdm, Bool.and_eq_true, beq_iff_eq, decide_eq_true_eq]
    refine ⟨by omega, ?_⟩
    show t.place.size + 0 ≤ t.mask
    omega
  obtain ⟨t', order, e1, e2, e3, e4, e5, e6, e7⟩ := relaid_ok t (hs := es.map (·.1)) (wanted := wanted) hw hN (by rw [Array.size_map, ml]; omega)
  rw [Array.size_map, ml] at e2
  obtain ⟨M2, r1, r2, r3⟩ := rows_anew M es order hr e2
  rw [← r3] at e3
  have ml2 : (order.filterMap (es[·]?)).size = es.size := by rw [memRow_len r1, r2.length_eq, ml]
  rw [setRelay_eq]
  refine wpAny_bind (wpAny_setState_of g1 g3 fills ?_)
  dsimp only
  refine wp_if_neg (by rw [sizeLine_eq]; omega) ?_
  try refine wpAny_bind (wpAny_pure ?_)
  rw [e1]
  dsimp only
  refine wpAny_bind (wp_if_neg (by rw [ml2]; simp) ?_)
  try refine wpAny_bind (wpAny_pure ?_)
  refine wpAny_pure (wpAny_storeSet_of g1 g3 ?_ (by rw [ml2, ml, sizeLine_eq]; omega))
  have sb : Heap.SameBut a s.heap (s.heap.update a (Obj.putSet (order.filterMap (es[·]?)) t')) := Heap.SameBut.update ..
  refine q _ M2 (order.filterMap (es[·]?)) (ep + 1) t' sb ⟨⟨_, store_at g1 g3, ⟨g2.1, g2.2.1, g2.2.2⟩, rfl⟩, r1, e3, (r2.map (·.2)).nodup_iff.mpr uni, fun e he => ?_, by rw [e6]; exact pl, by rw [e5]; exact lg, by rw [r2.length_eq, e4]; exact fit, by rw [r2.length_eq]; exact few⟩ r2
  obtain ⟨k1, k2⟩ := key e (r2.mem_iff.mp he)
  exact ⟨key_but sk k1 g1 g3 sb, k2⟩
/-- a member is added -/
theorem adds (sk : SetKey kn fine) (Z : SG kn fine s.heap a M es ep t) {x : Addr} {k : α} (hx : kn.is s.heap k x) (hf : fine k) (ro : kn.room A) (few : M.length + 1 < 64) {Q : Bool → Shared → Prop}
    (q : ∀ b h' M' es' ep' t', Heap.SameBut a s.heap h' → SG kn fine h' a M' es' ep' t' → ((k ∈ M.map (·.2) ∧ M' = M) ∨ (k ∉ M.map (·.2) ∧ M'.Perm ((x, k) :: M))) → Q b { s with heap := h' }) : wpAny (model P w) A (setAddHashed a (.ref x) (kn.hash k)) Q E s := by
  obtain ⟨ob, g1, g2, g3⟩ := Z.obj
  have ml := Z.len
  have fit := Z.fit
  unfold setAddHashed
  refine wpAny_holding ?_
  rw [show (100000 : Nat) = 99999 + 1 from rfl, setAddHashedIn_succ]
  refine wpAny_bind (wpAny_setState_of g1 g3 Z.fills ?_)
  dsimp only
  refine wp_if_neg (by simp [byScan, Value.scannable]) ?_
  try refine wpAny_bind (wpAny_pure ?_)
  refine wpAny_bind (look_for sk Z hx ro (fun hm => ?_) fun G hm b2 b3 => ?_)
  · exact wpAny_pure (q false s.heap M es ep t (Heap.SameBut.refl a s.heap) Z (.inl ⟨hm, rfl⟩))
  · dsimp only
    refine wpAny_bind (wpAny_setState_of g1 g3 Z.fills ?_)
    dsimp only
    obtain ⟨d1, d2, d3, d4, d5, d6, d7, d8, d9⟩ := Z.tab.put b2 b3
    have pl1 : (t.put (way t.mask (kn.hash k) G)).1.plain = true := by rw [d6]; exact Z.pl
    generalize ept : t.put (way t.mask (kn.hash k) G) = pt at d1 d3 d4 d5 d6 d7 d8 d9 pl1 ⊢
    obtain ⟨t1, p⟩ := pt
    dsimp only at d1 d3 d4 d5 d6 d7 d8 d9 pl1 ⊢
    subst d1
    first
      | exact absurd (rfl : (0 : Nat) = 1) (by decide)
      | (refine wpAny_bind (wp_if_pos pl1 (sk.byv hx hf ?_)))
      | (refine wp_if_pos pl1 (wpAny_bind (sk.byv hx hf ?_)))
    simp only [if_true]
    generalize epp : SetTable.below t.place (way t.mask (kn.hash k) G) = p at d2 d3 ⊢
    have pm := put_perm M p (x, k)
    have row1 : (SetTable.insertAt es p (kn.hash k, Value.ref x)).toList = memRow kn (M.take p ++ (x, k) :: M.drop p) := by
      rw [SetTable.toList_insertAt, Z.row]
      unfold memRow
      rw [List.map_append, List.map_cons, List.map_take, List.map_drop]
    have hh1 : (M.take p ++ (x, k) :: M.drop p).map (fun e => kn.hash e.2) = (M.map fun e => kn.hash e.2).take p ++ kn.hash k :: (M.map fun e => kn.hash e.2).drop p := by
      rw [List.map_append, List.map_cons, List.map_take, List.map_drop]
    rw [← hh1] at d3
    have l1 : (M.take p ++ (x, k) :: M.drop p).length = M.length + 1 := pm.length_eq
    have uni1 : ((M.take p ++ (x, k) :: M.drop p).map (·.2)).Nodup := by
      refine (pm.map (·.2)).nodup_iff.mpr ?_
      rw [List.map_cons, List.nodup_cons]
      exact ⟨hm, Z.uni⟩
    generalize M.take p ++ (x, k) :: M.drop p = M1 at pm l1 d3 uni1 row1
    have el1 := memRow_len row1
    rw [l1] at el1
    generalize SetTable.insertAt es p (kn.hash k, Value.ref x) = es1 at row1 el1 ⊢
    refine wpAny_bind (wpAny_storeSet_of g1 g3 ?_ (by rw [el1, sizeLine_eq]; omega))
    have sb : Heap.SameBut a s.heap (s.heap.update a (Obj.putSet es1 t1)) := Heap.SameBut.update ..
    have o1 := store_at (es' := es1) (t' := t1) g1 g3
    generalize s.heap.update a (Obj.putSet es1 t1) = h1 at sb o1 ⊢
    have key1 : ∀ e ∈ M1, kn.is h1 e.2 e.1 ∧ fine e.2 := fun e he => by
      rcases List.mem_cons.mp (pm.mem_iff.mp he) with z | z
      · rw [z]
        exact ⟨key_but sk hx g1 g3 sb, hf⟩
      · obtain ⟨k1, k2⟩ := Z.key e z
        exact ⟨key_but sk k1 g1 g3 sb, k2⟩
    have lg1 : w.params.followText "set-order" = true ∨ t1.led = true := by rw [d5]; exact Z.lg
    have place1 : t1.place.size = M.length + 1 := by
      have z := d3.sz
      rwa [List.length_map, l1] at z
    by_cases full : t1.tooFull = true
    · have f5 : (M.length + 1) * 5 ≥ t1.mask * 3 := by
        have z := full
        unfold SetTable.tooFull at z
        rw [decide_eq_true_eq, d9, List.length_map] at z
        exact z
      have which : (t.mask = 7 ∧ M.length = 4) ∨ (t.mask = 31 ∧ M.length = 18) := by
        rcases Z.tab.mok with e | e | e
        · rw [d4, e] at f5
          rw [e] at fit
          exact .inl ⟨e, by omega⟩
        · rw [d4, e] at f5
          rw [e] at fit
          exact .inr ⟨e, by omega⟩
        · rw [d4, e] at f5
          omega
      have grow : ∀ N, SetTable.sizeAbove (SetTable.grown (M.length + 1)) - 1 = N → MaskOk N → SetTable.sizeAbove (SetTable.grown (M.length + 1)) ≤ 128 → (M.length + 1) * 5 < N * 3 →
          wpAny (model P w) A (setRelay a (SetTable.grown (M.length + 1))) (fun _ s' => wpAny (model P w) A (pure true) Q E s') E { s with heap := h1 } := fun N n1 n2 n3 n4 =>
        larger (s := { s with heap := h1 }) sk o1 ⟨g2.1, g2.2.1, g2.2.2⟩ rfl row1 (by rw [place1, el1]) d3.dm (by rw [el1, d4]; rcases which with ⟨e, e2⟩ | ⟨e, e2⟩ <;> omega) uni1 key1 pl1 lg1 (by rw [l1]; exact few) n1 n2 n3 (by rw [l1]; exact n4)
          fun h2 M2 es2 ep2 t2 sb2 Z2 pm2 => wpAny_pure (q true h2 M2 es2 ep2 t2 (sb.trans sb2) Z2 (.inr ⟨hm, pm2.trans pm⟩))
      have fin : wpAny (model P w) A (setRelay a (SetTable.grown (es.size + 1))) (fun _ s' => wpAny (model P w) A (pure true) Q E s') E { s with heap := h1 } := by
        rw [ml]
        rcases which with ⟨_, e2⟩ | ⟨_, e2⟩
        · exact grow 31 (by rw [e2, size_20]) (.inr (.inl rfl)) (by rw [e2, size_20]; decide) (by omega)
        · exact grow 127 (by rw [e2, size_76]) (.inr (.inr rfl)) (by rw [e2, size_76]; decide) (by omega)
      first
        | exact wpAny_bind (wp_if_pos (by simp [full]) fin)
        | exact wp_if_pos (by simp [full]) (wpAny_bind fin)
    · have done : wpAny (model P w) A (pure true) Q E { s with heap := h1 } := by
        refine wpAny_pure (q true h1 M1 es1 (ep + 1) t1 sb ⟨⟨_, o1, ⟨g2.1, g2.2.1, g2.2.2⟩, rfl⟩, row1, d3, uni1, key1, pl1, lg1, ?_, by rw [l1]; exact few⟩ (.inr ⟨hm, pm⟩))
        have z := full
        unfold SetTable.tooFull at z
        rw [decide_eq_true_eq, d9, List.length_map] at z
        rw [l1]
        omega
      first
        | exact wp_if_neg (by simp [full]) done
        | exact wpAny_bind (wp_if_neg (by simp [full]) (wpAny_pure done))
end
end Fm
namespace Fm
open PySem PySem.Spec PyProof.Rows L2 PySem.W
section
variable {P : Program} {w : World} {α : Type} [DecidableEq α] {kn : HeapKind P w α} {fine : α → Prop} {A : Around} {E : Value → Shared → Prop} {s : Shared}
/-- what a set has of the first i of a list -/
structure Has (ks : List (Addr × α)) (i : Nat) (M : List (Addr × α)) : Prop where
  sub : ∀ e ∈ M, e ∈ ks.take i
  all : ∀ e ∈ ks.take i, e.2 ∈ M.map (·.2)
  le : M.length ≤ i
theorem Has.next {ks M M' : List (Addr × α)} {i : Nat} {x : Addr × α} (g : Has ks i M) (hx : ks[i]? = some x) (h : (x.2 ∈ M.map (·.2) ∧ M' = M) ∨ (x.2 ∉ M.map (·.2) ∧ M'.Perm (x :: M))) : Has ks (i + 1) M' := by
  have tk : ks.take (i + 1) = ks.take i ++ [x] := by
    rw [List.take_add_one, hx]
    rfl
  rcases h with ⟨h1, rfl⟩ | ⟨_, h2⟩
  · refine ⟨fun e he => by rw [tk]; exact List.mem_append_left _ (g.sub e he), fun e he => ?_, Nat.le_succ_of_le g.le⟩
    rw [tk] at he
    rcases List.mem_append.mp he with z | z
    · exact g.all e z
    · rw [List.mem_singleton.mp z]
      exact h1
  · refine ⟨fun e he => ?_, fun e he => ?_, by rw [h2.length_eq, List.length_cons]; exact Nat.succ_le_succ g.le⟩
    · rw [tk]
      rcases List.mem_cons.mp (h2.mem_iff.mp he) with z | z
      · rw [z]
        exact List.mem_append_right _ (List.mem_singleton.mpr rfl)
      · exact List.mem_append_left _ (g.sub e z)
    · rw [(h2.map (·.2)).mem_iff, List.map_cons]
      rw [tk] at he
      rcases List.mem_append.mp he with z | z
      · exact List.mem_cons_of_mem _ (g.all e z)
      · rw [List.mem_singleton.mp z]
        exact List.mem_cons_self ..
theorem key_up (sk : SetKey kn fine) {h h' : Heap} {k : α} {b : Addr} (x : kn.is h k b) (up : ∀ c o, h.get? c = some o → h'.get? c = some o) : kn.is h' k b := sk.stay (fun c o _ _ e _ => up c o e) x
theorem SG.up {h h' : Heap} {a : Addr} {M : List (Addr × α)} {es : Array (Int × Value)} {ep : Nat} {t : SetTable} (Z : SG kn fine h a M es ep t) (ha : ∀ o, h.get? a = some o → h'.get? a = some o) (hk : ∀ e ∈ M, kn.is h' e.2 e.1 ∧ fine e.2) : SG kn fine h' a M es ep t := by
  obtain ⟨ob, g1, g2⟩ := Z.obj
  exact ⟨⟨ob, ha ob g1, g2⟩, Z.row, Z.tab, Z.uni, hk, Z.pl, Z.lg, Z.fit, Z.few⟩
abbrev emptySet (w : World) : Obj := { cls := .type "set", dict := none, data := .set #[] 0 (.fresh 0 0 (!w.params.followText "set-order")) }
theorem SG.zero {h : Heap} {a : Addr} (e : h.get? a = some (emptySet w)) : SG kn fine h a [] #[] 0 (.fresh 0 0 (!w.params.followText "set-order")) where
  obj := ⟨_, e, ⟨rfl, rfl, rfl⟩, rfl⟩
  row := rfl
  tab := ⟨.nil, rfl, rfl, .inl rfl, (fun x hx => by cases hx), fun i h j hi => by simp at hi⟩
  uni := List.nodup_nil
  key := fun e he => by cases he
  pl := rfl
  lg := by
    cases hf : w.params.followText "set-order" with
    | true => exact .inl rfl
    | false => exact .inr rfl
  fit := show 0 * 5 < 7 * 3 by decide
  few := show 0 < 64 by decide
/-- one after the other comes in -/
theorem pour (sk : SetKey kn fine) {I : Addr} {fp wr : List Addr} {G : Array GenState → Array GenState → Prop} {n : Nat} {Pv : Nat → Value → Prop} {St : Nat → Shared → Prop} {R : Result → Shared → Prop} (W : WalksS P w A.in1 I fp wr G n Pv St) (S : Addr) (hSf : S ∉ fp)
    (ks : List (Addr × α)) (hn : n = ks.length) (few : ks.length < 64) (hval : ∀ i v, Pv i v → ∃ e, ks[i]? = some e ∧ v = .ref e.1) (h0 : Heap) (hk : ∀ e ∈ ks, kn.is h0 e.2 e.1 ∧ fine e.2) (hS0 : h0.get? S = none) (hw0 : ∀ b ∈ wr, h0.get? b = none) (ro : kn.room A.in1) :
    ∀ (m i : Nat) (s : Shared), n - i = m → i ≤ n → St i s → (∀ b o, h0.get? b = some o → s.heap.get? b = some o) → (∃ M es ep t, SG kn fine s.heap S M es ep t ∧ Has ks i M) →
      (∀ s' M es ep t, Moved (S :: wr) G s s' → SG kn fine s'.heap S M es ep t → Has ks n M → (∀ b o, h0.get? b = some o → s'.heap.get? b = some o) → R (.ok (.ret .none)) s') →
      codeAny (model P w) A (.builtin "set.update.loop" ⟨[.ref S, .ref I], []⟩) R s := by
  have Sw : S ∉ wr := fun z => hSf (W.sub _ z)
  have sub : ∀ b ∈ wr, b ∈ S :: wr := fun b hb => List.mem_cons_of_mem _ hb
  have upM : ∀ {s s' : Shared}, Moved wr G s s' → (∀ b o, h0.get? b = some o → s.heap.get? b = some o) → ∀ b o, h0.get? b = some o → s'.heap.get? b = some o := fun hm up b o e =>
    hm.heap b o (fun hb => by rw [hw0 b hb] at e; cases e) (up b o e)
  have keyU : ∀ {s' : Shared}, (∀ b o, h0.get? b = some o → s'.heap.get? b = some o) → ∀ e ∈ ks, kn.is s'.heap e.2 e.1 ∧ fine e.2 := fun up e he => ⟨key_up sk (hk e he).1 up, (hk e he).2⟩
  intro m
  induction m with
  | zero =>
    intro i s hm hi hst up ⟨M, es, ep, t, Z, g⟩ hR
    cases (show i = n by omega)
    refine codeAny_builtin F.entry_set_update_loop ?_
    rw [Around.under_plainId F.plain_set_update_loop _]
    refine wpAny_bind (m := pyNext (.ref I)) (W.done s _ _ hst fun s' mv => ?_)
    have up' := upM mv up
    exact wpAny_pure (hR s' M es ep t (mv.mono sub) (Z.up (fun o e => mv.heap S o Sw e) fun e he => keyU up' e (List.mem_of_mem_take (g.sub e he))) g up')
  | succ m ih =>
    intro i s hm hi hst up ⟨M, es, ep, t, Z, g⟩ hR
    have lt : i < n := by omega
    refine codeAny_builtin F.entry_set_update_loop ?_
    rw [Around.under_plainId F.plain_set_update_loop _]
    refine wpAny_bind (m := pyNext (.ref I)) (W.item i s _ _ lt hst fun v s' hP hst' mv => ?_)
    obtain ⟨e, he, rfl⟩ := hval i v hP
    have up' := upM mv up
    have ku := keyU up'
    have Z' : SG kn fine s'.heap S M es ep t := Z.up (fun o z => mv.heap S o Sw z) fun u hu => ku u (List.mem_of_mem_take (g.sub u hu))
    obtain ⟨hx, hf⟩ := ku e (List.mem_of_getElem? he)
    refine wpAny_bind (m := holding [Value.ref e.1] (setAdd S (.ref e.1))) (wpAny_holding ?_)
    unfold setAdd
    refine wpAny_holding (wpAny_bind (kn.pyHash ro hx ?_))
    refine adds (s := { s' with toks := s'.toks + kn.draws e.2 }) sk Z' hx hf ro (by have := g.le; omega) fun b h' M' es' ep' t' sb Z2 how => ?_
    have g' := g.next he how
    have up2 : ∀ b o, h0.get? b = some o → h'.get? b = some o := fun b o z => (sb.2 b (fun y => by rw [y, hS0] at z; cases z)).trans (up' b o z)
    refine wpAny_pure ⟨plainId_quiet F.plain_set_update_loop _, ih (i + 1) _ (by omega) lt (W.frame _ s' _ _ hst' (Nat.le_add_right _ _) fun b hb o z => ?_) up2 ⟨M', es', ep', t', Z2, g'⟩ fun s'' M2 es2 ep2 t2 mv2 Z3 g3 up3 => ?_⟩
    · exact (sb.2 b fun y => hSf (by rw [← y]; exact hb)).trans z
    · refine hR s'' M2 es2 ep2 t2 (Moved.trans W.gtrans ((mv.mono sub).then_heap (Nat.le_add_right _ _) fun b o hb z => ?_) mv2) Z3 g3 up3
      exact (sb.2 b fun y => hb (by rw [y]; exact List.mem_cons_self ..)).trans z
set_option maxHeartbeats 6400000 in
/-- set(xs) of such keys -/
theorem set_of_keys (sk : SetKey kn fine) {l : Addr} {items : Array Value} (ks : List (Addr × α)) {Q : Value → Shared → Prop} (calm : A.handled = none) (hl : s.heap.IsList l items) (hit : items.toList = ks.map fun e => Value.ref e.1) (hk : ∀ e ∈ ks, kn.is s.heap e.2 e.1 ∧ fine e.2) (few : ks.length < 64)
    (ro : kn.room A.in1.in1.in1) (hu : A.units + 3 < cLine) (q : ∀ (h' : Heap) (tk : Nat) M es ep t, SG kn fine h' s.heap.objs.size M es ep t → Has ks ks.length M → (∀ b o, s.heap.get? b = some o → h'.get? b = some o) → Q (.ref s.heap.objs.size) { s with heap := h', toks := tk }) :
    wpAny (model P w) A (call (.type "set") [.ref l]) Q E s := by
  have isz : items.size = ks.length := by
    have z := congrArg List.length hit
    rwa [List.length_map, Array.length_toList] at z
  obtain ⟨c, tl, m1⟩ := F.called_set.mro
  have m2 := F.called_set.made
  have m3 := F.called_set.sub
  refine wpAny_call (codeAny_of_tree ?_)
  change wpAny _ _ (callAny (Value.type "set") _) _ _ _
  refine wpAny_pure ⟨Code.quiet_builtin _ (by decide +kernel), codeAny_builtin F.entry_type_call ?_⟩
  rw [Around.under_plain (weight_type_call_type "set" [.ref l] []) rfl]
  have m4 := F.called_set.notType
  have m5 := F.called_set.canCreate
  have m6 := F.typeCall_set_1 (.ref l)
  repeat any_goals first | assumption | wp_step
  refine codeAny_mono (code_set_led1 (.ref l) (E := E) (Q₁ := fun v t => v = .ref s.heap.objs.size ∧ t = { s with heap := s.heap.push (emptySet w) }) ⟨rfl, rfl⟩) fun r s1 hr => ?_
  match r, hr with
  | .ok (.ret v), hr =>
    obtain ⟨rfl, rfl⟩ := hr
    have at1 : (s.heap.push (emptySet w)).get? s.heap.objs.size = some (emptySet w) := Heap.get?_push_size _ rfl
    have ty1 : Shared.TypeIs { s with heap := s.heap.push (emptySet w) } (.ref s.heap.objs.size) "set" := ⟨_, at1, rfl⟩
    have m7 := F.called_set.init.lookup
    have m8 := F.called_set.init.bind (.ref s.heap.objs.size)
    repeat any_goals first | assumption | wp_step
    refine codeAny_mono (codeAny_call_builtin (R := wants (fun v u => v = .none ∧ ∃ h' tk M es ep t, u = { s with heap := h', toks := tk } ∧ SG kn fine h' s.heap.objs.size M es ep t ∧ Has ks ks.length M ∧ (∀ b o, s.heap.get? b = some o → h'.get? b = some o)) E)
      F.called_set.init.plain F.entry_set_init (check_set_init_1 ty1 ?inner)) fun r2 s2 hr2 => ?outer
    case outer =>
      match r2, hr2 with
      | .ok (.ret v2), hr2 =>
        obtain ⟨rfl, h', tk, M, es, ep, t, rfl, Z, g, up⟩ := hr2
        repeat any_goals first | assumption | wp_step
        exact q _ _ _ _ _ _ Z g up
      | .ok .next, hr2 => exact hr2.elim
      | .ok .brk, hr2 => exact hr2.elim
      | .ok .cont, hr2 => exact hr2.elim
      | .error e, hr2 => exact hr2
    case inner =>
      obtain ⟨⟨oc, odict, od, oslots⟩, g1, g2, n, g3⟩ := hl
      simp only at g2 g3
      subst g2 g3
      have lS : l < s.heap.objs.size := Heap.lt_size g1
      have g1' : (s.heap.push (emptySet w)).get? l = some { cls := .type "list", dict := odict, data := .seq items n, slots := oslots } := Heap.get?_push_of_some _ g1
      have c1 := F.sub_list_set
      have c2 := F.sub_list_frozenset
      have c3 : (Value.type "list" == Value.type "dict") = false := by decide
      have lst1 : (s.heap.push (emptySet w)).IsList l items := ⟨_, g1', rfl, n, rfl⟩
      unfold Builtin.«set.__init__» noKeywords Builtin.Frozenset.updateFrom
      generalize epi : pyIter = PI
      wp_walk
      subst epi
      refine wpAny_pyIter_list lst1 (wpAny_bind (wpAny_runValue ?_))
      have calm3 : A.in1.in1.in1.handled = none := by simp [calm]
      have sz1 : (s.heap.push (emptySet w)).objs.size = s.heap.objs.size + 1 := Heap.size_push ..
      have apart : l ≠ (s.heap.push (emptySet w)).objs.size := Nat.ne_of_lt (sz1 ▸ Nat.lt_succ_of_lt lS)
      have apart2 : s.heap.objs.size ∉ [(s.heap.push (emptySet w)).objs.size, l] := by
        rw [sz1]
        simp only [List.mem_cons, List.not_mem_nil, or_false, not_or]
        exact ⟨Nat.ne_of_lt (Nat.lt_succ_self _), Nat.ne_of_gt lS⟩
      have valOf' : ∀ (i : Nat) (v : Value), items[i]? = some v → ∃ e, ks[i]? = some e ∧ v = .ref e.1 := fun i v hv => by
        rw [← Array.getElem?_toList, hit, List.getElem?_map] at hv
        obtain ⟨e, he, rfl⟩ := Option.map_eq_some_iff.mp hv
        exact ⟨e, he, rfl⟩
      have gone : ∀ b, s.heap.objs.size ≤ b → s.heap.get? b = none := fun b hb => by
        cases z : s.heap.get? b with
        | none => rfl
        | some o => exact (Nat.not_le_of_lt (Heap.lt_size z) hb).elim
      refine pour sk ((Walks.list calm3 _ l apart items).toS) s.heap.objs.size apart2 ks isz few valOf' s.heap hk (gone _ (Nat.le_refl _)) (fun b hb => gone b ?w0) ro (items.size - 0) 0 _ (by omega) (Nat.zero_le _) ⟨⟨_, Heap.get?_push_size _ rfl, rfl, rfl⟩, lst1.push _⟩
        (fun b o e => Heap.get?_push_of_some _ (Heap.get?_push_of_some _ e)) ⟨[], #[], 0, _, SG.zero (Heap.get?_push_of_some _ at1), ⟨(fun e he => by cases he), (fun e he => by rw [List.take_zero] at he; cases he), Nat.le_refl 0⟩⟩ ?w1
      case w0 =>
        rw [List.mem_singleton.mp hb, sz1]
        exact Nat.le_succ _
      case w1 =>
        rintro ⟨h', g', d', tk', os'⟩ M es ep t mv Z g up
        cases (show g' = s.gens from mv.gens)
        cases (show d' = s.drawn from mv.drawn)
        cases (show os' = s.os from mv.os)
        change wpAny _ _ _ _ _ _
        rw [isz] at g
        exact wpAny_pure (wpAny_pure ⟨rfl, h', tk', M, es, ep, t, rfl, Z, g, up⟩)
  | .ok .next, hr => exact hr.elim
  | .ok .brk, hr => exact hr.elim
  | .ok .cont, hr => exact hr.elim
  | .error e, hr => exact hr
end
end Fm
/-! Sets of boxes: set(xs), and sorted of the set. -/
namespace Fm
open PySem PySem.Spec PyProof.Rows L2 PySem.W
/-! ### the order of boxes -/
abbrev Box := List Int × List Int
def boxPy (q : Box) : PyData := .tuple [.tuple (q.1.map .int), .tuple (q.2.map .int)]
def boxLt (p q : Box) : Prop := p.1 < q.1 ∨ (p.1 = q.1 ∧ p.2 < q.2)
instance (p q : Box) : Decidable (boxLt p q) := inferInstanceAs (Decidable (_ ∨ _))
theorem alike_boxPy (p q : Box) : alike (boxPy p) (boxPy q) = true := by
  have one : ∀ x y : List Int, alike (.tuple (x.map .int)) (.tuple (y.map .int)) = true := fun x y => by
    show alikeAll (x.map .int) (y.map .int) = true
    exact alike_ints x y
  show alikeAll [.tuple (p.1.map .int), .tuple (p.2.map .int)] [.tuple (q.1.map .int), .tuple (q.2.map .int)] = true
  rw [alikeAll, one, alikeAll, one, alikeAll]
  rfl
theorem eqv_tupI (x y : List Int) : PyData.eqv (.tuple (x.map .int)) (.tuple (y.map .int)) = decide (x = y) := by
  show PyData.eqvAll (x.map .int) (y.map .int) = _
  exact ked_eqvAll x y
theorem list_irr (x : List Int) : ¬ x < x := List.lt_irrefl x
theorem dataLt_boxPy (p q : Box) : dataLt (boxPy p) (boxPy q) = decide (boxLt p q) := by
  have one : ∀ x y : List Int, alike (.tuple (x.map .int)) (.tuple (y.map .int)) = true := fun x y => by
    show alikeAll (x.map .int) (y.map .int) = true
    exact alike_ints x y
  unfold boxPy
  rw [dataLt_pair (one _ _) (one _ _), eqv_tupI, eqv_tupI, dataLt_tups, dataLt_tups]
  unfold boxLt
  by_cases h1 : p.1 = q.1 <;> by_cases h2 : p.2 = q.2 <;> simp [h1, h2, list_irr]
theorem boxPy_depth (q : Box) : (boxPy q).depth = 2 := by
  unfold boxPy
  simp only [PyData.depth, PyData.depthAll, depth_ints]
  rfl
theorem boxLt_total {p q : Box} (h : p ≠ q) : boxLt p q ∨ boxLt q p := by
  unfold boxLt
  rcases List.le_total p.1 q.1 with a | a <;> rcases List.le_iff_lt_or_eq.mp a with b | b
  · exact .inl (.inl b)
  · rcases List.le_total p.2 q.2 with c | c <;> rcases List.le_iff_lt_or_eq.mp c with d | d
    · exact .inl (.inr ⟨b, d⟩)
    · exact (h (Prod.ext b d)).elim
    · exact .inr (.inr ⟨b.symm, d⟩)
    · exact (h (Prod.ext b d.symm)).elim
  · exact .inr (.inl b)
  · rcases List.le_total p.2 q.2 with c | c <;> rcases List.le_iff_lt_or_eq.mp c with d | d
    · exact .inl (.inr ⟨b.symm, d⟩)
    · exact (h (Prod.ext b.symm d)).elim
    · exact .inr (.inr ⟨b, d⟩)
    · exact (h (Prod.ext b.symm d.symm)).elim
theorem boxLt_trans {p q r : Box} (h : boxLt p q) (h' : boxLt q r) : boxLt p r := by
  unfold boxLt at *
  rcases h with a | ⟨a, b⟩ <;> rcases h' with c | ⟨c, d⟩
  · exact .inl (List.lt_trans a c)
  · exact .inl (c ▸ a)
  · exact .inl (a ▸ c)
  · exact .inr ⟨a.trans c, List.lt_trans b d⟩
theorem boxLt_irr (p : Box) : ¬ boxLt p p := by
  rintro (h | ⟨_, h⟩) <;> exact list_irr _ h
theorem boxLt_asymm {p q : Box} (h : boxLt p q) : ¬ boxLt q p := fun h' => boxLt_irr p (boxLt_trans h h')
theorem dataLe_boxPy {β : Type} (x : β → Box) : dataLe false (fun b => boxPy (x b)) = fun p q => decide (¬ boxLt (x q) (x p)) := by
  funext p q
  show (!dataLt (boxPy (x q)) (boxPy (x p))) = _
  rw [dataLt_boxPy]
  by_cases h : boxLt (x q) (x p) <;> simp [h]
theorem sorted_boxes {β : Type} (x : β → Box) (l : List β) (hn : (l.map x).Nodup) : (l.mergeSort (dataLe false (fun b => boxPy (x b)))).Pairwise fun p q => boxLt (x p) (x q) := by
  have h2 : ((l.mergeSort (dataLe false (fun b => boxPy (x b)))).map x).Nodup := ((List.mergeSort_perm l _).map x).nodup_iff.mpr hn
  have h3 := List.pairwise_map.mp h2
  have h1 : (l.mergeSort (dataLe false (fun b => boxPy (x b)))).Pairwise fun p q => ¬ boxLt (x q) (x p) := by
    rw [dataLe_boxPy]
    have h := List.pairwise_mergeSort (le := fun p q => decide (¬ boxLt (x q) (x p))) (fun a b c h1 h2 => ?_) (fun a b => ?_) l
    · exact h.imp fun h => of_decide_eq_true h
    · have h1 := of_decide_eq_true h1
      have h2 := of_decide_eq_true h2
      refine decide_eq_true fun h3 => ?_
      by_cases e : x a = x b
      · exact h2 (e ▸ h3)
      · rcases boxLt_total e with z | z
        · exact h2 (boxLt_trans h3 z)
        · exact h1 z
    · by_cases h : boxLt (x b) (x a)
      · have h' := boxLt_asymm h
        simp [h, h']
      · simp [h]
  exact (h1.and h3).imp fun {p q} h => (boxLt_total h.2).resolve_right h.1
section
variable {P : Program} {w : World}
/-! ### boxes as members of sets -/
theorem boxKey : SetKey (NK P w) (fun k => numKey k = true) where
  stay := fun hk x => nestedKind_stays.stays hk x
  seqd := fun x => by
    obtain ⟨x, _⟩ := x
    cases x with
    | tup h1 h2 h3 _ => exact ⟨_, _, _, h1, h3⟩
  cls := fun x q => key_cls 8 _ _ x.1 x.2 q
  byv := fun x n q => key_byv 8 _ _ x.1 n x.2 q
theorem nums_num : ∀ c : List Int, numKey.numKeys (c.map NestedKey.num) = true
  | [] => rfl
  | _ :: c => nums_num c
theorem numKey_bk (q : Box) : numKey (bk q) = true := by
  show numKey.numKeys [.tup (q.1.map NestedKey.num), .tup (q.2.map NestedKey.num)] = true
  have e1 : numKey (.tup (q.1.map NestedKey.num)) = true := nums_num q.1
  have e2 : numKey (.tup (q.2.map NestedKey.num)) = true := nums_num q.2
  simp only [numKey.numKeys, e1, e2, Bool.and_self]
abbrev BoxS := List (Addr × Box)
def keysB (L : BoxS) : List (Addr × NestedKey) := L.map fun e => (e.1, bk e.2)
/-- the set at a, without the boxes themselves -/
def SB0 (P : Program) (w : World) (h : Heap) (a : Addr) (L : BoxS) : Prop := ∃ (es : Array (Int × Value)) (ep : Nat) (t : SetTable), (∃ ob, h.get? a = some ob ∧ ob.ExactSet ∧ ob.data = .set es ep t) ∧ es.toList = memRow (NK P w) (keysB L) ∧ TabOk t ((keysB L).map fun e => (NK P w).hash e.2) ∧ ((keysB L).map (·.2)).Nodup ∧ t.plain = true ∧
  (w.params.followText "set-order" = true ∨ t.led = true) ∧ (keysB L).length * 5 < t.mask * 3 ∧ (keysB L).length < 64
def SetBO (P : Program) (w : World) (a : Addr) (L : BoxS) : HO := .ext fun h => SB0 P w h a L
theorem sb0_of {h : Heap} {a : Addr} {L : BoxS} {es : Array (Int × Value)} {ep : Nat} {t : SetTable} {fine : NestedKey → Prop} (Z : SG (NK P w) fine h a (keysB L) es ep t) : SB0 P w h a L := ⟨es, ep, t, Z.obj, Z.row, Z.tab, Z.uni, Z.pl, Z.lg, Z.fit, Z.few⟩
theorem SB0.full {h : Heap} {a : Addr} {L : BoxS} (R : SB0 P w h a L) (hk : ∀ e ∈ L, (NK P w).is h (bk e.2) e.1) : ∃ es ep t, SG (NK P w) (fun k => numKey k = true) h a (keysB L) es ep t := by
  obtain ⟨es, ep, t, h1, h2, h3, h4, h5, h6, h7, h8⟩ := R
  refine ⟨es, ep, t, h1, h2, h3, h4, fun e he => ?_, h5, h6, h7, h8⟩
  obtain ⟨x, hx, rfl⟩ := List.mem_map.mp he
  exact ⟨hk x hx, numKey_bk _⟩
theorem setBO_ok {H : Hp} {h : Heap} {a : Addr} {L : BoxS} (R : SB0 P w h a L) : ObjOk P w H h a (SetBO P w a L) := by
  have ⟨es, ep, t, ⟨o, ho, _⟩, _⟩ := R
  refine ⟨R, ⟨o, ho⟩, fun h1 h2 p k => ?_⟩
  obtain ⟨es', ep', t', ⟨o', ho', r'⟩, q'⟩ := p
  exact ⟨es', ep', t', ⟨o', k o' ho', r'⟩, q'⟩
end
end Fm
namespace Fm
open PySem PySem.Spec PyProof.Rows L2 PySem.W
theorem refs_back : ∀ {ks : BoxS} {us : List Value}, Vals (ks.map fun p => V.ref p.1) us → us = ks.map fun p => Value.ref p.1
  | [], _, .nil => rfl
  | p :: ks, _, .cons r t => by
    cases r
    rw [refs_back t] <;> rfl
section
variable {P : Program} {w : World} {A : Around} {E : Value → Shared → Prop} {s : Shared}
/-- sorted of what is gone through in an order not told -/
theorem sorted_any {a : Addr} {Y : Shared → List (L2.V × PyData) → Prop} {Q : Value → Shared → Prop} (hu : A.units + 64 < cLine)
    (fine : ∀ t bs, Y t bs → bs.length ≤ 100000 ∧ AllAlike (bs.map (·.2)) ∧ ∀ b ∈ bs, (∃ zs, b.2 = .tuple zs) ∧ b.2.depth ≤ 60)
    (col : ∀ (E' : Value → Shared → Prop) (R : List Value → Shared → Prop), (∀ t (vs : List Value) (bs : List (L2.V × PyData)), EachIs (fun (u : Value) (b : L2.V × PyData) => RelV b.1 u) vs bs →
      (∀ h : Heap, (∀ b o, t.heap.get? b = some o → h.get? b = some o) → EachIs (fun (v : Value) (b : L2.V × PyData) => ∃ as, Reads h v b.2 as) vs bs) → Y t bs → R vs t) → wpAny (model P w) A.in1 (collect (.ref a)) R E' s)
    (hQ : ∀ (t : Shared) (h' : Heap) p (out : Array Value) (c : Nat) (bs : List (L2.V × PyData)), Y t bs → (∀ b o, t.heap.get? b = some o → h'.get? b = some o) → t.heap.objs.size ≤ p →
      h'.get? p = some (seqObj "list" out c) → Vals ((bs.mergeSort (dataLe false (fun b : L2.V × PyData => b.2))).map (·.1)) out.toList → Q (.ref p) { t with heap := h' }) :
    wpAny (model P w) A (call (.builtin "sorted") [.ref a]) Q E s := by
  refine Calls.call_function_entry kind_sorted plain_sorted entry_sorted (args_sorted1 _) ?_
  unfold Builtin.«sorted»
  refine wpAny_bind (m := checkCount "sorted" 1 1 _) (wpAny_pure ?_)
  refine wpAny_bind (col _ _ fun t vs bs e0 er hY => ?_)
  obtain ⟨few, hal, hb⟩ := fine t bs hY
  have vl : vs.length = bs.length := e0.length
  refine wpAny_bind (wpAny_newList ?_ (by rw [sizeLine_eq]; omega))
  have hoL : (t.heap.push (seqObj "list" vs.toArray 0)).get? t.heap.objs.size = some (seqObj "list" vs.toArray 0) := Heap.get?_push_size _ rfl
  have er2 := er (sortingHeap (t.heap.push (seqObj "list" vs.toArray 0)) t.heap.objs.size vs) fun b u z => sortingHeap_old (Nat.ne_of_lt (Heap.lt_size z)) (Heap.get?_push_of_some _ z)
  have S := FmSort.sortsAt_tups (prog := P) (w := w) (A := A.in1.in1) (s := { t with heap := sortingHeap (t.heap.push (seqObj "list" vs.toArray 0)) t.heap.objs.size vs }) (each_map (R := fun v d => ∃ as, Reads (sortingHeap (t.heap.push (seqObj "list" vs.toArray 0)) t.heap.objs.size vs) v d as) (fun b : L2.V × PyData => b.2) er2) hal (fun d hd => by
    obtain ⟨b, hm, rfl⟩ := List.mem_map.mp hd
    exact (hb b hm).1) (fun d hd => by
    obtain ⟨b, hm, rfl⟩ := List.mem_map.mp hd
    have := (hb b hm).2
    show A.units + 1 + 1 + b.2.depth < cLine
    omega)
  refine wpAny_bind (wpAny_holding (wpAny_call_entry slot_list_sort ⟨_, hoL, rfl⟩ entry_list_sort (list_sort_vals (s := { t with heap := t.heap.push (seqObj "list" vs.toArray 0) }) hoL S (by rw [sizeLine_eq]; omega) ⟨_, rfl, ?_⟩) (args_list_sort _)))
  have eo := sortVals_data (R := fun (u : Value) (b : L2.V × PyData) => RelV b.1 u) false e0 er2 hal
  generalize sortVals (dataKind (sortingHeap (t.heap.push (seqObj "list" vs.toArray 0)) t.heap.objs.size vs) (bs.map (·.2))) false vs vs = out at eo ⊢
  obtain ⟨c, hc⟩ := sortedHeap_at (vs := vs) (out := out.toArray) hoL
  refine wpAny_pure ⟨_, rfl, hQ t _ t.heap.objs.size out.toArray c bs hY (fun b u z => ?_) (Nat.le_refl _) hc (by rw [List.toList_toArray]; exact vals_each eo)⟩
  have hlt := Heap.lt_size z
  show (sortedHeap (t.heap.push (seqObj "list" vs.toArray 0)) t.heap.objs.size vs out.toArray).get? b = some u
  rw [sortedHeap_old (Nat.ne_of_lt hlt) (by rw [size_push']; exact Nat.lt_succ_of_lt hlt)]
  exact Heap.get?_push_of_some _ z
end
section
variable {X : Cx} {K : PySem.W.Frag} {P : Program} {w : World}
/-- set(xs), xs a list of boxes -/
def rSetOfB (K : PySem.W.Frag) (P : Program) (w : World) : List L2.V → Hp → VK → Prop := fun xs H Q => ∃ (l : Addr) (ks : BoxS), xs = [.ref l] ∧ SqL K H l (ks.map fun p => .ref p.1) ∧ (∀ p ∈ ks, BoxAt K H p.1 p.2) ∧ ks.length < 64 ∧
  ∀ (a : Addr) (L : BoxS), H a = none → (∀ p ∈ L, p ∈ ks) → (∀ p ∈ ks, p.2 ∈ L.map (·.2)) → (L.map (·.2)).Nodup → Q (.ref a) (upd H a (SetBO P w a L))
theorem keysB_back {ks : BoxS} : ∀ {M : List (Addr × NestedKey)}, (∀ e ∈ M, e ∈ keysB ks) → ∃ L : BoxS, M = keysB L ∧ ∀ p ∈ L, p ∈ ks
  | [], _ => ⟨[], rfl, fun p hp => by cases hp⟩
  | e :: M, h => by
    obtain ⟨p, hp, rfl⟩ := List.mem_map.mp (h e (List.mem_cons_self ..))
    obtain ⟨L, e2, h2⟩ := keysB_back fun e he => h e (List.mem_cons_of_mem _ he)
    refine ⟨p :: L, by rw [e2]; rfl, fun r hr => ?_⟩
    rcases List.mem_cons.mp hr with z | z
    · rw [z]; exact hp
    · exact h2 r z
theorem keysB_nodup {L : BoxS} (h : ((keysB L).map (·.2)).Nodup) : (L.map (·.2)).Nodup := by
  unfold keysB at h
  rw [List.map_map] at h
  have e : (fun e : Addr × Box => bk e.2) = bk ∘ fun e : Addr × Box => e.2 := rfl
  refine List.pairwise_map.mpr ((List.pairwise_map.mp h).imp fun {p q} hne e => hne ?_)
  show bk p.2 = bk q.2
  rw [e]
theorem call_setOfB (hc : X.calm = true) (hu : X.A.units + 64 < cLine) (eK : X.K = K := by rfl) (eP : X.prog = P := by rfl) (ew : X.w = w := by rfl) : CallR X (.type "set") (rSetOfB K P w) := by
  subst eK eP ew
  intro pins s σ H xs us Q I r h
  obtain ⟨l, ks, rfl, hl, hk, hf, q⟩ := h
  rw [Vals.ref1 r]
  obtain ⟨its, rv, pl, hz⟩ := I.list hl
  have hn : H s.heap.objs.size = none := I.hok.fresh (Nat.le_refl _)
  have el : (keysB ks).length = ks.length := List.length_map ..
  refine set_of_keys (kn := NK X.prog X.w) boxKey (keysB ks) (I.ok.hd hc) pl.isList (by
      have z := refs_back rv
      rw [z]
      unfold keysB
      rw [List.map_map]
      rfl) (fun e he => ?_) (by rw [el]; exact hf) (show X.A.units + 1 + 1 + 1 + 8 < cLine by omega) (by omega) fun h' tk M es ep t Z g k => ?_
  · obtain ⟨p, hp, rfl⟩ := List.mem_map.mp he
    exact ⟨Inv.boxKey I (hk p hp), numKey_bk _⟩
  · obtain ⟨L, rfl, hL⟩ := keysB_back (ks := ks) fun e he => List.mem_of_mem_take (g.sub e he)
    refine ⟨.ref s.heap.objs.size, upd H s.heap.objs.size (SetBO X.prog X.w s.heap.objs.size L), I.laid (t' := tk) k (Nat.le_refl _) (setBO_ok (sb0_of Z)), rfl, q _ L hn hL (fun p hp => ?_) (keysB_nodup Z.uni)⟩
    have z := g.all (p.1, bk p.2) (by rw [List.take_length]; exact List.mem_map.mpr ⟨p, hp, rfl⟩)
    obtain ⟨e, he, e2⟩ := List.mem_map.mp z
    obtain ⟨r, hr, rfl⟩ := List.mem_map.mp he
    exact List.mem_map.mpr ⟨r, hr, bk_inj e2⟩
/-- sorted of such a set -/
def rSortSB (K : PySem.W.Frag) (P : Program) (w : World) : List L2.V → Hp → VK → Prop := fun vs H Q => ∃ (a : Addr) (L : BoxS), vs = [.ref a] ∧ H a = some (SetBO P w a L) ∧ (∀ p ∈ L, BoxAt K H p.1 p.2) ∧
  ∀ (L' : BoxS) (p : Addr), L'.Perm L → L'.length < 64 → L'.Pairwise (fun q r => boxLt q.2 r.2) → H p = none → Q (.ref p) (upd H p (.lst (L'.map fun q => .ref q.1)))
theorem box_dp {H : Hp} {b : Addr} {q : Box} (h : BoxAt K H b q) : Dp K H (.ref b) (boxPy q) := by
  obtain ⟨pa, wa, h1, h2, h3⟩ := h
  have nums : ∀ c : List Int, DpAll K H (c.map V.int) (c.map PyData.int) := fun c => by
    induction c with
    | nil => exact .nil
    | cons x c ih => exact .cons (.int x) ih
  exact .tup h1 (.cons (.tup h2 (nums _)) (.cons (.tup h3 (nums _)) .nil))
theorem call_sortSB (hc : X.calm = true) (hu : X.A.units + 64 < cLine) (eK : X.K = K := by rfl) (eP : X.prog = P := by rfl) (ew : X.w = w := by rfl) : CallR X (.builtin "sorted") (rSortSB K P w) := by
  subst eK eP ew
  intro pins s σ H vs us Q I r h
  obtain ⟨a, L, rfl, ha, hk, q⟩ := h
  have R0 : SB0 X.prog X.w s.heap a L := (I.hok a _ ha).1
  obtain ⟨es, ep, t, Z⟩ := R0.full fun p hp => Inv.boxKey I (hk p hp)
  rw [Vals.ref1 r]
  obtain ⟨ob, g1, g2, g3⟩ := Z.obj
  have kl : (keysB L).length = L.length := List.length_map ..
  have few : L.length < 64 := by have := Z.few; omega
  have esz : es.size = L.length := Z.len.trans kl
  have hes : es.toList.map (·.2) = L.map fun q => Value.ref q.1 := by
    rw [Z.row]
    unfold memRow keysB
    rw [List.map_map, List.map_map]
    rfl
  have nL : L.Nodup := nodup_of_map (keysB_nodup Z.uni)
  have back : ∀ vs : List Value, (∀ v ∈ vs, v ∈ L.map fun q => Value.ref q.1) → ∃ L1 : BoxS, vs = L1.map (fun q => Value.ref q.1) ∧ ∀ p ∈ L1, p ∈ L := by
    intro vs
    induction vs with
    | nil => intro _; exact ⟨[], rfl, fun p hp => by cases hp⟩
    | cons v vs ih =>
      intro hv
      obtain ⟨p, hp, e⟩ := List.mem_map.mp (hv v (List.mem_cons_self ..))
      obtain ⟨L1, e1, h1⟩ := ih fun u hu => hv u (List.mem_cons_of_mem _ hu)
      refine ⟨p :: L1, by rw [List.map_cons, ← e1, e], fun r hr => ?_⟩
      rcases List.mem_cons.mp hr with z | z
      · rw [z]; exact hp
      · exact h1 r z
  have one : ∀ p ∈ L, ∀ r ∈ L, p.1 = r.1 → p = r := fun p hp r hr e => by
    obtain ⟨i, hi⟩ := List.mem_iff_getElem?.mp hp
    have a1 := (Inv.boxKey I (hk p hp)).1
    have a2 := (Inv.boxKey I (hk r hr)).1
    rw [e] at a1
    exact Prod.ext e (bk_inj (NestedIs.inj _ _ _ a1 a2))
  refine sorted_any (Y := fun t bs => ∃ L1 : BoxS, L1.Perm L ∧ bs = L1.map (fun p => (L2.V.ref p.1, boxPy p.2)) ∧ (∀ b o, s.heap.get? b = some o → t.heap.get? b = some o) ∧ t.gens = s.gens ∧ t.os = s.os ∧ s.heap.objs.size ≤ t.heap.objs.size) hu (fun t bs hY => ?_) (fun E' R hR => ?_) fun t h' p out c bs hY kk hp hg hv => ?_
  · obtain ⟨L1, pm, rfl, _⟩ := hY
    refine ⟨by rw [List.length_map, pm.length_eq]; omega, ?_, fun b hb => ?_⟩
    · rw [List.map_map]
      exact AllAlike.of fun b b' => alike_boxPy b.2 b'.2
    · obtain ⟨p, _, rfl⟩ := List.mem_map.mp hb
      exact ⟨⟨_, rfl⟩, by show (boxPy p.2).depth ≤ 60; rw [boxPy_depth]; omega⟩
  · refine collect_set (A := X.A.in1) (I.ok.hd hc) ⟨ob, g1, g2.1, g3⟩ Z.fills (by unfold scanBound; omega) Z.tab.ris Z.lg fun s1 vs k1 hz e1 o1 pm => ?_
    rw [hes] at pm
    obtain ⟨L1, rfl, hs1⟩ := back vs fun v hv => pm.mem_iff.mp hv
    have pL : L1.Perm L := by
      have nref : (L.map fun q => Value.ref q.1).Nodup := by
        refine List.pairwise_map.mpr (List.Pairwise.imp_of_mem (fun {p r} hp hr hne e => ?_) nL)
        injection e with e
        exact hne (one p hp r hr e)
      have n1 : L1.Nodup := nodup_of_map (pm.nodup_iff.mpr nref)
      refine (List.perm_ext_iff_of_nodup n1 nL).mpr fun p => ⟨hs1 p, fun hp => ?_⟩
      obtain ⟨r, hr, e⟩ := List.mem_map.mp (pm.mem_iff.mpr (List.mem_map.mpr ⟨p, hp, rfl⟩))
      injection e with e
      rw [← one r (hs1 r hr) p hp e]
      exact hr
    have e0 : EachIs (fun (u : Value) (b : L2.V × PyData) => RelV b.1 u) (L1.map fun q => Value.ref q.1) (L1.map fun p => (L2.V.ref p.1, boxPy p.2)) := by
      clear pm pL hs1
      induction L1 with
      | nil => exact .nil
      | cons p L1 ih => exact .cons rfl ih
    refine hR s1 _ _ e0 (fun h kh => each_and e0 fun u b hm hr => ?_) ⟨L1, pL, rfl, k1, e1, o1, hz⟩
    obtain ⟨p, hp, rfl⟩ := List.mem_map.mp hm
    obtain ⟨as, rd⟩ := Dp.reads I (boxPy p.2) (.ref p.1) u (box_dp (hk p (hs1 p hp))) hr
    exact ⟨as, PyProof.Rows.Reads.keeps (fun b o z => kh b o (k1 b o z)) rd⟩
  · obtain ⟨L1, pm, rfl, k1, e1, o1, hz⟩ := hY
    have em : ((L1.map fun p => (L2.V.ref p.1, boxPy p.2)).mergeSort (dataLe false (fun b : L2.V × PyData => b.2))).map (·.1) = (L1.mergeSort (dataLe false (fun p : Addr × Box => boxPy p.2))).map fun p => L2.V.ref p.1 := by
      have z := List.map_mergeSort (r := dataLe false (fun p : Addr × Box => boxPy p.2)) (s := dataLe false (fun b : L2.V × PyData => b.2)) (f := fun p : Addr × Box => (L2.V.ref p.1, boxPy p.2)) (l := L1) fun a _ b _ => rfl
      rw [← z, List.map_map]
      rfl
    rw [em] at hv
    generalize hL2 : L1.mergeSort (dataLe false (fun p : Addr × Box => boxPy p.2)) = L5 at hv
    have pm2 : L5.Perm L := by
      rw [← hL2]
      exact (List.mergeSort_perm _ _).trans pm
    have asc : L5.Pairwise fun q r => boxLt q.2 r.2 := by
      rw [← hL2]
      exact sorted_boxes (fun p : Addr × Box => p.2) L1 ((pm.map _).nodup_iff.mpr (keysB_nodup Z.uni))
    have hfew : L5.length < 64 := by rw [pm2.length_eq]; exact few
    have hlen : (L5.map fun q => L2.V.ref q.1).length ≤ sizeLine := by rw [List.length_map, sizeLine_eq]; omega
    have up : ∀ b o, s.heap.get? b = some o → h'.get? b = some o := fun b o z => kk b o (k1 b o z)
    have hp' : s.heap.objs.size ≤ p := Nat.le_trans hz hp
    have hn : H p = none := I.hok.fresh hp'
    have J : Inv X pins σ (upd H p (.lst (L5.map fun q => .ref q.1))) { s with heap := h', gens := t.gens, drawn := t.drawn, toks := t.toks } :=
      I.call (ch := []) (Un.laid up hp' hn) (I.hok.laid up hp' ⟨hlen, out.toList, c, hv, hg⟩) (by rw [e1]; exact I.bare) (fun _ z => nomatch z)
    have e : ({ t with heap := h' } : Shared) = { s with heap := h', gens := t.gens, drawn := t.drawn, toks := t.toks } := by
      cases t
      cases s
      cases o1
      rfl
    rw [e]
    exact ⟨.ref p, _, J, rfl, q L5 p pm2 hfew asc hn⟩
end
end Fm
/-! Dicts whose keys are boxes: in, a display of one pair, a comprehension; math.lcm. -/
namespace Fm
open PySem PySem.Spec PyProof.Rows L2 PySem.W
section
variable {X : Cx} {K : PySem.W.Frag} {P : Program} {w : World}
def rLcm : List L2.V → Hp → VK → Prop := fun vs H Q => ∃ a b : Int, vs = [.int a, .int b] ∧ a.natAbs < 2 ^ 64 ∧ b.natAbs < 2 ^ 64 ∧ Q (.int ((Nat.lcm a.natAbs b.natAbs : Nat) : Int)) H
theorem call_lcm : CallR X (.builtin "math.lcm") rLcm := by
  intro pins s σ H vs us Q I r h
  obtain ⟨a, b, rfl, ha, hb, q⟩ := h
  obtain ⟨t, u, rfl⟩ := Vals.int2 r
  exact PySem.W.mc_lcm ha hb fun _ => ⟨.int _, H, I.tok _, ⟨_, rfl⟩, q⟩
/-- b in d -/
def rInB (K : PySem.W.Frag) (P : Program) (w : World) : R2 := fun x y H Q => ∃ (b a : Addr) (q : List Int × List Int) (L : BoxL), x = .ref b ∧ y = .ref a ∧ H a = some (DBO P w a L) ∧ BoxesAt K H L ∧ BoxAt K H b q ∧ Q (.bl ((findB L q).isSome)) H
theorem op_inB (hu : X.A.units + 64 < cLine) (eK : X.K = K := by rfl) (eP : X.prog = P := by rfl) (ew : X.w = w := by rfl) : OpR X (compareOp .In) (rInB K P w) := by
  subst eK eP ew
  intro pins s σ H x y v u Q I rx ry h
  obtain ⟨b, a, q, L, rfl, rfl, ha, hL, hb, hq⟩ := h
  cases rx
  cases ry
  obtain ⟨xs, hF, hd⟩ := Inv.dbo I (.inl ha)
  refine wpAny_in_heap (knd := NK X.prog X.w) (show X.A.units + 1 + 8 < cLine by omega) (Inv.boxKey I hb) hd.1 (boxes_full I hF hd hL) ?_
  have e : (findB L q).isSome = (atKey xs (bk q)).isSome := by
    rw [(hF.find q).isSome_eq, Option.isSome_map]
  rw [e] at hq
  exact ⟨.bl ((atKey xs (bk q)).isSome), H, I.tok _, rfl, hq⟩
def tDispB (K : PySem.W.Frag) (P : Program) (w : World) (tk tv : TE) : TE := fun σ H Q => ∀ p, H p = none → tk σ (upd H p (DBO P w p [])) fun x H1 => tv σ H1 fun y H2 => ∃ (b : Addr) (q : Box) (z : V), [(x, y)] = [(V.ref b, z)] ∧ H2 p = some (DBO P w p []) ∧
  BoxAt K H2 b q ∧ Q (.ref p) (upd H2 p (DBO P w p [(b, q, z)]))
theorem pe_dispB {pos : Pos} {k v : Expr} {tk tv : TE} (hu : X.A.units + 64 < cLine) (hk : PE X k tk) (hv : PE X v tv) (hshape : (evalEachOpt [some k] X.env).zip ((evalEach [v] X.env).map fun z => do let y ← z; standAt pos; pure y) = (pairTrees [some k] [v] X.env pos).map fun p => (some p.1, p.2) := by rfl)
    (hl : (pairTrees [some k] [v] X.env pos).length ≤ 15 := by decide) (h0 : pairTrees [some k] [v] X.env pos ≠ [] := by intro z; cases z) (eK : X.K = K := by rfl) (eP : X.prog = P := by rfl) (ew : X.w = w := by rfl) :
    PE X (.Dict [some k] [v] pos) (tDispB K P w tk tv) := by
  subst eK eP ew
  refine ⟨fun pins s σ H Q I h => ?_⟩
  have hn := I.hok.fresh (Nat.le_refl s.heap.objs.size)
  have hs : (s.heap.objs.size == sysModules) = false := beq_eq_false_iff_ne.mpr (Ne.symm (Nat.ne_of_lt I.big))
  have I1 : Inv X pins σ (upd H s.heap.objs.size (DBO X.prog X.w s.heap.objs.size [])) { s with heap := s.heap.push { cls := .type "dict", data := .dict #[] } } :=
    I.laid (t' := s.toks) (fun _ _ z => Heap.get?_push_of_some _ z) (Nat.le_refl _) (dbo_ok (xs := []) .nil (braw_of (Heap.DictOfH.new s.heap) hs))
  have run : PPs X pos [some k] [v] [(tk, tv)] := pps_cons hk hv pps_nil
  rw [arm_eval_Dict, hshape, dictDisplay_pairs _ h0 (by omega)]
  refine wpAny_bind (wpAny_standAt (wpAny_bind (wpAny_subDictH (knd := NK X.prog X.w) (Q := fun d u => wpAny (model X.prog X.w) X.A (pure (Value.ref d)) (fun v s' => EP X pins σ Q v s') X.xe u) (show X.A.units + 8 < cLine by omega) hl
    (thn (run.run pins _ σ _ (fun ps H2 => ∃ (b : Addr) (q : Box) (z : V), ps = [(V.ref b, z)] ∧ H2 s.heap.objs.size = some (DBO X.prog X.w s.heap.objs.size []) ∧ BoxAt X.K H2 b q ∧ Q (.ref s.heap.objs.size) (upd H2 s.heap.objs.size (DBO X.prog X.w s.heap.objs.size [(b, q, z)]))) I1 ?_) fun ws s2 ⟨ps, H2, I2, rel, b, q, z, ep, hp, hb, qq⟩ => ?_))))
  · show tk _ _ _
    exact h _ hn
  · subst ep
    cases rel with
    | @cons p kv ps qs r t =>
      cases t
      obtain ⟨k1, v1⟩ := kv
      obtain ⟨r1, r2⟩ := r
      cases r1
      obtain ⟨xs, hF, hd⟩ := Inv.dbo I2 (.inl hp)
      cases hF
      have hk1 := Inv.boxKey I2 hb
      refine ⟨[(bk q, b, v1)], ⟨rfl, rfl, hk1, trivial⟩, hd.full fun z hz => (by cases hz), fun h' tk' hm hs' => wpAny_pure ?_⟩
      have he : ∃ u, h'.get? s.heap.objs.size = some u := by
        obtain ⟨o, es, ep, z, _⟩ := hm
        exact ⟨o, z⟩
      exact ⟨.ref s.heap.objs.size, _, I2.write (e := s.heap.objs.size) (t' := tk') (by rw [hp]; trivial) (.inl rfl) (fun c u hc hu => (hs'.2 c hc).trans hu) he (dbo_ok (xs := [(bk q, b, v1)]) (.cons ⟨rfl, rfl, r2⟩ .nil) (braw_of hm hs)), rfl, qq⟩
def tDcB (K : PySem.W.Frag) (P : Program) (w : World) (wa : TI) (ga : TG) (tk tv : TE) (vs : List Nat) : TE := fun σ H Q => wa σ H fun J H1 => ∀ D, H1 D = none → ∃ W : Nat → Nat → Hp → Prop, (∃ m, W 0 m (upd H1 D (DBO P w D []))) ∧ ∀ i m H, W i m H →
  (J.stop i H ∧ Q (.ref D) H) ∨ (J.go i H ∧ ∃ Nx : Hp → Prop, (∀ H', Nx H' → ∃ m', m' < m ∧ W (i + 1) m' H') ∧ ∀ x H', J.yld i H x H' → ga x (wipe σ vs) H' fun σ2 H2 => wipe σ2 vs = wipe σ vs ∧ tk σ2 H2 fun y H3 => tv σ2 H3 fun z H4 =>
    ∃ (b : Addr) (q : Box) (L : BoxL), y = .ref b ∧ BoxAt K H4 b q ∧ H4 D = some (DBO P w D L) ∧ BoxesAt K H4 L ∧ (∀ p ∈ L, p.2.1 ≠ q) ∧ L.length ≤ 1000 ∧ Nx (upd H4 D (DBO P w D (L ++ [(b, q, z)]))))
theorem dset_invB {pins : List (Addr × Obj)} {s : Shared} {σ : L2.St} {H : Hp} {A : Around} {E : Value → Shared → Prop} {D b : Addr} {q : Box} {L : BoxL} {z : L2.V} {r : Value} {Q : Unit → Shared → Prop} (I : Inv X pins σ H s) (hD : H D = some (DBO X.prog X.w D L))
    (hL : BoxesAt X.K H L) (hb : BoxAt X.K H b q) (hne : ∀ p ∈ L, p.2.1 ≠ q) (few : L.length ≤ 1000) (rz : RelV z r) (hu : A.units + 8 < cLine) (h : ∀ s', Inv X pins σ (upd H D (DBO X.prog X.w D (L ++ [(b, q, z)]))) s' → Q () s') :
    wpAny (model X.prog X.w) A (dictSet D (.ref b) r) Q E s := by
  obtain ⟨xs, hF, hd⟩ := Inv.dbo I (.inl hD)
  have hxl : xs.length = L.length := (Paired.length hF).symm
  refine wpAny_dictSet_heap (knd := NK X.prog X.w) (hsz := by rw [hxl, sizeLine_eq]; omega) hu (Inv.boxKey I hb) (boxes_full I hF hd hL) fun h' hm sb => h _ ?_
  have he : ∃ u, h'.get? D = some u := by
    obtain ⟨o, _, _, y, _⟩ := hm
    exact ⟨o, y⟩
  have hno : ¬ (atKey xs (bk q)).isSome = true := by
    intro y
    unfold atKey at y
    rw [Option.isSome_map] at y
    obtain ⟨x, hx⟩ := Option.isSome_iff_exists.mp y
    have h1 := List.mem_of_find?_eq_some hx
    have h2 := List.find?_some hx
    obtain ⟨p, hp, _, e2⟩ := valB_mem hF x h1
    exact hne p hp (bk_inj (by rw [← e2]; simpa using h2))
  have es : storedH xs (bk q) b r = xs ++ [(bk q, b, r)] := by
    unfold storedH
    rw [if_neg hno]
  rw [es] at hm
  exact I.write (e := D) (by rw [hD]; trivial) (.inl rfl) (fun c u hc hu => (sb.2 c hc).trans hu) he (dbo_ok (Paired.snoc hF ⟨rfl, rfl, rz⟩) (braw_of hm hd.1))
theorem pe_dcB {kx vx ta ea : Expr} {sc : Scope} {own : List (Str × Nat)} {ps : Pos} {wa : TI} {ga : TG} {tk tv : TE} (hc : X.calm = true) (hu : X.A.units + 64 < cLine) (hN : X.N.Nodup) (pa : PI X ta ea wa) (ok : BlkOk X.N X.env.scope sc own)
    (pga : ∀ (s : Shared) (H : Hp) (C : Addr) (cl : List (Str × Addr)) (fp : List Addr), PG (X.blk s H sc (compEnvC sc cl C X.env) fp) ta ga)
    (pk : ∀ (s : Shared) (H : Hp) (C : Addr) (cl : List (Str × Addr)) (fp : List Addr), PE (X.blk s H sc (compEnvC sc cl C X.env) fp) kx tk)
    (pv : ∀ (s : Shared) (H : Hp) (C : Addr) (cl : List (Str × Addr)) (fp : List Addr), PE (X.blk s H sc (compEnvC sc cl C X.env) fp) vx tv)
    (fa : ∀ x, foldedSetIterable ea X.env x = pure x := by intro _; rfl) (eK : X.K = K := by rfl) (eP : X.prog = P := by rfl) (ew : X.w = w := by rfl) :
    PE X (.DictComp kx vx [⟨ta, ea, [], 0⟩] sc ps) (tDcB K P w wa ga tk tv (own.map (·.2))) := by
  subst eK eP ew
  refine ⟨fun pins s σ H Q I h => ?_⟩
  rw [arm_eval_DictComp]
  have hfree : ∀ y ∈ sc.names, y.2 = .free → ∃ c, X.env.cells.lookup y.1 = some c := fun y hy e => (ok.free y hy e).elim (fun z => I.ok.has _ (.inl z)) fun z => I.ok.has _ (.inr z)
  refine wpAny_comprehension_free (use := none) rfl fa (closure_ok hfree) ok.kind (fun y hy e => by rw [ok.uniq y hy, e]) (thn (pa.run pins s σ H _ I h) fun xv s1 hx => thn hx fun itv s2 h2 => ?_)
  obtain ⟨it, fp, tn, J, H2, e, I2, T, st2, f2, q⟩ := h2
  subst e
  refine wpAny_newObj_type (newEnv_comp ?_)
  generalize hD : s2.heap.objs.size = D
  have hDn : H2 D = none := I2.hok.fresh (Nat.le_of_eq hD)
  obtain ⟨W, ⟨m0, w0⟩, turn⟩ := q D hDn
  have hsys : (D == sysModules) = false := by
    rw [← hD]
    exact beq_eq_false_iff_ne.mpr (Ne.symm (Nat.ne_of_lt I2.big))
  generalize hs3 : ({ s2 with heap := s2.heap.push { cls := .type "dict", data := .dict #[] } } : Shared) = s3
  have h3 : s3.heap = s2.heap.push { cls := .type "dict", data := .dict #[] } := by rw [← hs3]
  have old3 : ∀ b o, s2.heap.get? b = some o → s3.heap.get? b = some o := fun b o z => by
    rw [h3]
    exact Heap.get?_push_of_some _ z
  have I3 : Inv X pins σ (upd H2 D (DBO X.prog X.w D [])) s3 := by
    have d0 : BRaw X.prog X.w s3.heap D [] := by
      rw [h3, ← hD]
      exact braw_of (Heap.DictOfH.new s2.heap) (by rw [hD]; exact hsys)
    have := I2.laid (a := D) (o := DBO X.prog X.w D []) (h' := s3.heap) (t' := s2.toks) old3 (Nat.le_of_eq hD) (dbo_ok (xs := []) .nil d0)
    rw [← hs3] at this ⊢
    exact this
  have lo : ∀ b ∈ fp, b < s2.heap.objs.size := fun b hb => by
    obtain ⟨o, z, _⟩ := T.obj _ _ st2 b hb
    exact Heap.lt_size z
  have f3 : ∀ b ∈ fp, FpOk X pins (upd H2 D (DBO X.prog X.w D [])) b ∧ b < s3.heap.objs.size := fun b hb => by
    have l := lo b hb
    have ne : b ≠ D := by
      rw [← hD]
      exact Nat.ne_of_lt l
    exact ⟨⟨by rw [upd_ne ne]; exact (f2 b hb).1, (f2 b hb).2⟩, by rw [h3, Heap.size_push]; exact Nat.lt_succ_of_lt l⟩
  have st3 : tn 0 s3.heap := T.keep _ _ _ st2 fun b _ o z => old3 b o z
  have I4 := block_start I3 ok hN f3
  generalize hH3 : upd H2 D (DBO X.prog X.w D []) = H3 at I3 I4 f3 w0
  generalize hcl : cellsFrom (s3.heap.objs.size + 1) sc.names (cloFrom X.env.cells sc.names []) = cl at I4
  have gA := pga s3 H3 s3.heap.objs.size cl fp
  have gK := pk s3 H3 s3.heap.objs.size cl fp
  have gV := pv s3 H3 s3.heap.objs.size cl fp
  show codeAny _ _ (.compStart (.DictComp kx vx [⟨ta, ea, [], 0⟩] sc ps) 0 (.ref it) (.ref D) (compEnvC sc cl s3.heap.objs.size X.env)) (compPost (model X.prog X.w) X.A X.xe none _ (.ref D) s3.heap.objs.size) { s3 with heap := pushCells (s3.heap.push { cls := .type "dict", data := .dict #[] }) sc.names }
  generalize hce : compEnvC sc cl s3.heap.objs.size X.env = ce at I4 gA gK gV ⊢
  have cL : ce.locals = s3.heap.objs.size := by subst hce; rfl
  generalize hs4 : ({ s3 with heap := pushCells (s3.heap.push { cls := .type "dict", data := .dict #[] }) sc.names } : Shared) = s4 at I4 ⊢
  have st4 : tn 0 s4.heap := T.keep _ _ _ st3 fun b _ o z => by rw [← hs4]; exact pushCells_keeps _ _ _ _ (Heap.get?_push_of_some _ z)
  have nfp : ∀ b ∈ fp, H3 b = none := fun b hb => (f3 b hb).1.1
  have stand : ∀ {τ : L2.St} {G : Hp} {u : Shared}, Inv (X.blk s3 H3 sc ce fp) [] τ G u → (∀ b ∈ fp, G b = none) → ∀ b ∈ fp, FpOk (X.blk s3 H3 sc ce fp) [] G b := fun I' hn b hb =>
    ⟨hn b hb, (I'.ok.exf b hb).1, I'.ok.exfs b hb, .inl hb, fun x c z => (I'.ok.exf b hb).2 x c z, fun p hp => absurd (show p ∈ ([] : List (Addr × Obj)) ++ [] from hp) (by simp)⟩
  have loop : codeAny (model X.prog X.w) X.A (.compLoop (.DictComp kx vx [⟨ta, ea, [], 0⟩] sc ps) 0 (.ref it) (.ref D) ce) (compPost (model X.prog X.w) X.A X.xe none (fun v s' => EP X pins σ Q v s') (.ref D) s3.heap.objs.size) s4 := by
    refine compLoop_anyD (fun m u => ∃ i G, Inv (X.blk s3 H3 sc ce fp) [] (wipe σ (own.map (·.2))) G u ∧ tn i u.heap ∧ (∀ b ∈ fp, G b = none) ∧ W i m G) ?_ m0 ⟨0, H3, I4, st4, nfp, w0⟩
    rintro m u5 ⟨i, G5, I5, st5, n5, w5⟩
    rcases turn i m G5 w5 with ⟨stop, qq⟩ | ⟨go, Nx, hNx, step⟩
    · refine thnF (T.done (X.blk s3 H3 sc ce fp) rfl rfl rfl hc i [] u5 _ G5 (fun _ _ => False) I5 (stand I5 n5) st5 stop) fun r u6 ⟨hr, I6⟩ => ?_
      subst hr
      have I7 : Inv X pins σ G5 u6 := I3.call' (ch := fp) I6.os I6.base I6.hok I6.bare fun b hb => ⟨(f3 b hb).1.2.2.2.1, (f3 b hb).1.2.1, (f3 b hb).1.2.2.2.2.1, (f3 b hb).1.2.2.2.2.2⟩
      have nC : G5 ce.locals = none := I6.free
      obtain ⟨mm, hn, _⟩ := I6.loc
      have hn : u6.heap.Ns ce.locals mm := hn
      rw [cL] at hn nC
      refine ⟨mm, hn, fun g sb => ?_⟩
      obtain ⟨f0, f1, f2', f3', f4, f5⟩ := I3.fpOk (Nat.le_refl _) nC
      exact ⟨.ref D, G5, I7.turned (t' := u6.toks) (fun b o hb z => (sb.2 b hb).trans z) f0 f1 f3' f4 f5, rfl, qq⟩
    · refine thnF (T.item (X.blk s3 H3 sc ce fp) rfl rfl rfl hc i [] u5 _ G5 (fun _ _ => False) I5 (stand I5 n5) st5 go) fun r u6 ⟨got, hr, h6⟩ => ?_
      subst hr
      refine thnF h6 fun _ u7 ⟨x, G7, I7, r7, y7, st7, n7⟩ => ?_
      have I7' := I7.pinned (stand I7 n7) (T.obj _ _ st7)
      refine thnF (gA.run _ u7 _ G7 x got _ I7' r7 (step x G7 y7)) fun _ u8 ⟨σ8, G8, I8, hw8, q8⟩ => ?_
      refine wpAny_pure ?_
      simp only [if_true]
      have fin : ∀ {u : Shared} {G : Hp}, Inv (X.blk s3 H3 sc ce fp) ([] ++ pinsAt fp u7.heap) σ8 G u → Nx G → ∃ m', m' < m ∧ ∃ i G, Inv (X.blk s3 H3 sc ce fp) [] (wipe σ (own.map (·.2))) G u ∧ tn i u.heap ∧ (∀ b ∈ fp, G b = none) ∧ W i m' G := fun {u G} I' nx => by
        obtain ⟨m', hm, w'⟩ := hNx G nx
        have pin' : ∀ b ∈ fp, ∀ o, u7.heap.get? b = some o → u.heap.get? b = some o ∧ G b = none := fun b hb o z =>
          have zz := I'.pin (b, o) (List.mem_append_right _ (List.mem_append_right _ (mem_pinsAt hb z)))
          ⟨zz.1, zz.2.1⟩
        have hl : (wipe σ (own.map (·.2))).length = σ8.length := by rw [← hw8, wipe_length]
        refine ⟨m', hm, i + 1, G, (I'.unpinned (pins := [])).weak hl (fun j v z => ?_), T.keep _ _ _ st7 fun b hb o z => (pin' b hb o z).1, fun b hb => ?_, w'⟩
        · rw [← hw8] at z
          exact (wipe_some z).1
        · obtain ⟨o, z, _⟩ := T.obj _ _ st7 b hb
          exact (pin' b hb o z).2
      refine thnF (gK.run _ u8 σ8 G8 _ I8 q8) fun z u10 ⟨yk, G10, I10, r10, q10⟩ => ?_
      refine thnF (gV.run _ u10 σ8 G10 _ I10 q10) fun z2 u11 ⟨yv, G11, I11, r11, b, qk, L, ek, hb, hDL, hL, hne, few, nx⟩ => ?_
      subst ek
      cases r10
      exact dset_invB (X := X.blk s3 H3 sc ce fp) I11 hDL hL hb hne few r11 (show X.A.units + 8 < cLine by omega) fun u12 I12 => fin I12 nx
  exact codeAny_compStart_dict loop (T.self X.A 0 _ _ _ st4 loop)
end
end Fm
/-! name = {k: v for ..} on one line, the keys boxes. -/
namespace Fm
open PySem PySem.Spec PyProof.Rows L2 PySem.W
section
variable {X : Cx} {K : PySem.W.Frag} {P : Program} {w : World}
theorem dcB_all {kx vx ta ea : Expr} {sc : Scope} {own : List (Str × Nat)} {ps qs : Pos} {wa : TI} {ga : TG} {tk tv : TE} {pins : List (Addr × Obj)} {σ : L2.St} {H : Hp} {s : Shared} {Q : VK} {use : Option (Value → Sem Unit)} {Qf : Value → Shared → Prop} (hc : X.calm = true) (hu : X.A.units + 64 < cLine) (hN : X.N.Nodup) (I : Inv X pins σ H s) (pa : PI X ta ea wa) (ok : BlkOk X.N X.env.scope sc own)
    (pga : ∀ (s : Shared) (H : Hp) (C : Addr) (cl : List (Str × Addr)) (fp : List Addr), PG (X.blk s H sc (compEnvC sc cl C X.env) fp) ta ga)
    (pk : ∀ (s : Shared) (H : Hp) (C : Addr) (cl : List (Str × Addr)) (fp : List Addr), PE (X.blk s H sc (compEnvC sc cl C X.env) fp) kx tk)
    (pv : ∀ (s : Shared) (H : Hp) (C : Addr) (cl : List (Str × Addr)) (fp : List Addr), PE (X.blk s H sc (compEnvC sc cl C X.env) fp) vx tv)
    (fa : ∀ x, foldedSetIterable ea X.env x = pure x) (eK : X.K = K) (eP : X.prog = P) (ew : X.w = w)
    (h : tDcB K P w wa ga tk tv (own.map (·.2)) σ H Q)
    (post : ∀ D C u m H', Inv X pins σ H' u → Q (.ref D) H' → u.heap.Ns C m → FpOk X pins H' C → compPost (model X.prog X.w) X.A X.xe use Qf (.ref D) C (.ok .next) u) :
    wpAny (model X.prog X.w) X.A (comprehension (.DictComp kx vx [⟨ta, ea, [], 0⟩] sc ps) sc X.env qs newDict false (eval ea X.env) use) Qf X.xe s := by
  subst eK eP ew
  have hfree : ∀ y ∈ sc.names, y.2 = .free → ∃ c, X.env.cells.lookup y.1 = some c := fun y hy e => (ok.free y hy e).elim (fun z => I.ok.has _ (.inl z)) fun z => I.ok.has _ (.inr z)
  refine wpAny_comprehension_free (use := use) rfl fa (closure_ok hfree) ok.kind (fun y hy e => by rw [ok.uniq y hy, e]) (thn (pa.run pins s σ H _ I h) fun xv s1 hx => thn hx fun itv s2 h2 => ?_)
  obtain ⟨it, fp, tn, J, H2, e, I2, T, st2, f2, q⟩ := h2
  subst e
  refine wpAny_newObj_type (newEnv_comp ?_)
  generalize hD : s2.heap.objs.size = D
  have hDn : H2 D = none := I2.hok.fresh (Nat.le_of_eq hD)
  obtain ⟨W, ⟨m0, w0⟩, turn⟩ := q D hDn
  have hsys : (D == sysModules) = false := by
    rw [← hD]
    exact beq_eq_false_iff_ne.mpr (Ne.symm (Nat.ne_of_lt I2.big))
  generalize hs3 : ({ s2 with heap := s2.heap.push { cls := .type "dict", data := .dict #[] } } : Shared) = s3
  have h3 : s3.heap = s2.heap.push { cls := .type "dict", data := .dict #[] } := by rw [← hs3]
  have old3 : ∀ b o, s2.heap.get? b = some o → s3.heap.get? b = some o := fun b o z => by
    rw [h3]
    exact Heap.get?_push_of_some _ z
  have I3 : Inv X pins σ (upd H2 D (DBO X.prog X.w D [])) s3 := by
    have d0 : BRaw X.prog X.w s3.heap D [] := by
      rw [h3, ← hD]
      exact braw_of (Heap.DictOfH.new s2.heap) (by rw [hD]; exact hsys)
    have := I2.laid (a := D) (o := DBO X.prog X.w D []) (h' := s3.heap) (t' := s2.toks) old3 (Nat.le_of_eq hD) (dbo_ok (xs := []) .nil d0)
    rw [← hs3] at this ⊢
    exact this
  have lo : ∀ b ∈ fp, b < s2.heap.objs.size := fun b hb => by
    obtain ⟨o, z, _⟩ := T.obj _ _ st2 b hb
    exact Heap.lt_size z
  have f3 : ∀ b ∈ fp, FpOk X pins (upd H2 D (DBO X.prog X.w D [])) b ∧ b < s3.heap.objs.size := fun b hb => by
    have l := lo b hb
    have ne : b ≠ D := by
      rw [← hD]
      exact Nat.ne_of_lt l
    exact ⟨⟨by rw [upd_ne ne]; exact (f2 b hb).1, (f2 b hb).2⟩, by rw [h3, Heap.size_push]; exact Nat.lt_succ_of_lt l⟩
  have st3 : tn 0 s3.heap := T.keep _ _ _ st2 fun b _ o z => old3 b o z
  have I4 := block_start I3 ok hN f3
  generalize hH3 : upd H2 D (DBO X.prog X.w D []) = H3 at I3 I4 f3 w0
  generalize hcl : cellsFrom (s3.heap.objs.size + 1) sc.names (cloFrom X.env.cells sc.names []) = cl at I4
  have gA := pga s3 H3 s3.heap.objs.size cl fp
  have gK := pk s3 H3 s3.heap.objs.size cl fp
  have gV := pv s3 H3 s3.heap.objs.size cl fp
  show codeAny _ _ (.compStart (.DictComp kx vx [⟨ta, ea, [], 0⟩] sc ps) 0 (.ref it) (.ref D) (compEnvC sc cl s3.heap.objs.size X.env)) (compPost (model X.prog X.w) X.A X.xe use Qf (.ref D) s3.heap.objs.size) { s3 with heap := pushCells (s3.heap.push { cls := .type "dict", data := .dict #[] }) sc.names }
  generalize hce : compEnvC sc cl s3.heap.objs.size X.env = ce at I4 gA gK gV ⊢
  have cL : ce.locals = s3.heap.objs.size := by subst hce; rfl
  generalize hs4 : ({ s3 with heap := pushCells (s3.heap.push { cls := .type "dict", data := .dict #[] }) sc.names } : Shared) = s4 at I4 ⊢
  have st4 : tn 0 s4.heap := T.keep _ _ _ st3 fun b _ o z => by rw [← hs4]; exact pushCells_keeps _ _ _ _ (Heap.get?_push_of_some _ z)
  have nfp : ∀ b ∈ fp, H3 b = none := fun b hb => (f3 b hb).1.1
  have stand : ∀ {τ : L2.St} {G : Hp} {u : Shared}, Inv (X.blk s3 H3 sc ce fp) [] τ G u → (∀ b ∈ fp, G b = none) → ∀ b ∈ fp, FpOk (X.blk s3 H3 sc ce fp) [] G b := fun I' hn b hb =>
    ⟨hn b hb, (I'.ok.exf b hb).1, I'.ok.exfs b hb, .inl hb, fun x c z => (I'.ok.exf b hb).2 x c z, fun p hp => absurd (show p ∈ ([] : List (Addr × Obj)) ++ [] from hp) (by simp)⟩
  have loop : codeAny (model X.prog X.w) X.A (.compLoop (.DictComp kx vx [⟨ta, ea, [], 0⟩] sc ps) 0 (.ref it) (.ref D) ce) (compPost (model X.prog X.w) X.A X.xe use Qf (.ref D) s3.heap.objs.size) s4 := by
    refine compLoop_anyD (fun m u => ∃ i G, Inv (X.blk s3 H3 sc ce fp) [] (wipe σ (own.map (·.2))) G u ∧ tn i u.heap ∧ (∀ b ∈ fp, G b = none) ∧ W i m G) ?_ m0 ⟨0, H3, I4, st4, nfp, w0⟩
    rintro m u5 ⟨i, G5, I5, st5, n5, w5⟩
    rcases turn i m G5 w5 with ⟨stop, qq⟩ | ⟨go, Nx, hNx, step⟩
    · refine thnF (T.done (X.blk s3 H3 sc ce fp) rfl rfl rfl hc i [] u5 _ G5 (fun _ _ => False) I5 (stand I5 n5) st5 stop) fun r u6 ⟨hr, I6⟩ => ?_
      subst hr
      have I7 : Inv X pins σ G5 u6 := I3.call' (ch := fp) I6.os I6.base I6.hok I6.bare fun b hb => ⟨(f3 b hb).1.2.2.2.1, (f3 b hb).1.2.1, (f3 b hb).1.2.2.2.2.1, (f3 b hb).1.2.2.2.2.2⟩
      have nC : G5 ce.locals = none := I6.free
      obtain ⟨mm, hn, _⟩ := I6.loc
      have hn : u6.heap.Ns ce.locals mm := hn
      rw [cL] at hn nC
      exact post D s3.heap.objs.size u6 mm G5 I7 qq hn (I3.fpOk (Nat.le_refl _) nC)
    · refine thnF (T.item (X.blk s3 H3 sc ce fp) rfl rfl rfl hc i [] u5 _ G5 (fun _ _ => False) I5 (stand I5 n5) st5 go) fun r u6 ⟨got, hr, h6⟩ => ?_
      subst hr
      refine thnF h6 fun _ u7 ⟨x, G7, I7, r7, y7, st7, n7⟩ => ?_
      have I7' := I7.pinned (stand I7 n7) (T.obj _ _ st7)
      refine thnF (gA.run _ u7 _ G7 x got _ I7' r7 (step x G7 y7)) fun _ u8 ⟨σ8, G8, I8, hw8, q8⟩ => ?_
      refine wpAny_pure ?_
      simp only [if_true]
      have fin : ∀ {u : Shared} {G : Hp}, Inv (X.blk s3 H3 sc ce fp) ([] ++ pinsAt fp u7.heap) σ8 G u → Nx G → ∃ m', m' < m ∧ ∃ i G, Inv (X.blk s3 H3 sc ce fp) [] (wipe σ (own.map (·.2))) G u ∧ tn i u.heap ∧ (∀ b ∈ fp, G b = none) ∧ W i m' G := fun {u G} I' nx => by
        obtain ⟨m', hm, w'⟩ := hNx G nx
        have pin' : ∀ b ∈ fp, ∀ o, u7.heap.get? b = some o → u.heap.get? b = some o ∧ G b = none := fun b hb o z =>
          have zz := I'.pin (b, o) (List.mem_append_right _ (List.mem_append_right _ (mem_pinsAt hb z)))
          ⟨zz.1, zz.2.1⟩
        have hl : (wipe σ (own.map (·.2))).length = σ8.length := by rw [← hw8, wipe_length]
        refine ⟨m', hm, i + 1, G, (I'.unpinned (pins := [])).weak hl (fun j v z => ?_), T.keep _ _ _ st7 fun b hb o z => (pin' b hb o z).1, fun b hb => ?_, w'⟩
        · rw [← hw8] at z
          exact (wipe_some z).1
        · obtain ⟨o, z, _⟩ := T.obj _ _ st7 b hb
          exact (pin' b hb o z).2
      refine thnF (gK.run _ u8 σ8 G8 _ I8 q8) fun z u10 ⟨yk, G10, I10, r10, q10⟩ => ?_
      refine thnF (gV.run _ u10 σ8 G10 _ I10 q10) fun z2 u11 ⟨yv, G11, I11, r11, b, qk, L, ek, hb, hDL, hL, hne, few, nx⟩ => ?_
      subst ek
      cases r10
      exact dset_invB (X := X.blk s3 H3 sc ce fp) I11 hDL hL hb hne few r11 (show X.A.units + 8 < cLine by omega) fun u12 I12 => fin I12 nx
  exact codeAny_compStart_dict loop (T.self X.A 0 _ _ _ st4 loop)

theorem ps_setDcB {i : Nat} {y : Str} {py : Pos} {kx vx ta ea : Expr} {sc : Scope} {own : List (Str × Nat)} {ps sp : Pos} {wa : TI} {ga : TG} {tk tv : TE} (hc : X.calm = true) (hu : X.A.units + 64 < cLine) (hN : X.N.Nodup) (hy : X.N[i]? = some y) (hyl : X.env.scope.names.lookup y = some .local)
    (hsw : swapsWith (.DictComp kx vx [⟨ta, ea, [], 0⟩] sc ps) (some (.Name y py)) sp.line X.env = pure true) (pa : PI X ta ea wa) (ok : BlkOk X.N X.env.scope sc own)
    (pga : ∀ (s : Shared) (H : Hp) (C : Addr) (cl : List (Str × Addr)) (fp : List Addr), PG (X.blk s H sc (compEnvC sc cl C X.env) fp) ta ga)
    (pk : ∀ (s : Shared) (H : Hp) (C : Addr) (cl : List (Str × Addr)) (fp : List Addr), PE (X.blk s H sc (compEnvC sc cl C X.env) fp) kx tk)
    (pv : ∀ (s : Shared) (H : Hp) (C : Addr) (cl : List (Str × Addr)) (fp : List Addr), PE (X.blk s H sc (compEnvC sc cl C X.env) fp) vx tv)
    (fa : ∀ x, foldedSetIterable ea X.env x = pure x := by intro _; rfl) (eK : X.K = K := by rfl) (eP : X.prog = P := by rfl) (ew : X.w = w := by rfl) :
    PS X (.Assign [.Name y py] (.DictComp kx vx [⟨ta, ea, [], 0⟩] sc ps) sp) (tAsg (tDcB K P w wa ga tk tv (own.map (·.2))) (gName i)) := by
  refine ⟨fun pins s σ H D I h => ?_⟩
  rw [exec_Assign_Name_used _ _ _ _ hsw]
  refine wpAny_bind (wpAny_standAt (wpAny_bind ?_))
  show wpAny _ X.A (do let _ ← comprehension (.DictComp kx vx [⟨ta, ea, [], 0⟩] sc ps) sc X.env (firstIterPos [⟨ta, ea, [], 0⟩] ps) newDict false (eval ea X.env) (some (assign (.Name y py) X.env))) _ _ s
  have h : tDcB K P w wa ga tk tv (own.map (·.2)) σ H (fun x H1 => gName i x σ H1 D.nx) := h
  refine wpAny_bind (thn (dcB_all (Qf := fun _ u => SP X pins D .next u) hc hu hN I pa ok pga pk pv fa eK eP ew h fun L C u m H' I' q hn f => ?_) fun _ u hq => wpAny_pure (wpAny_pure hq))
  show wpAny _ _ (assign (.Name y py) X.env (.ref L)) _ _ _
  refine wpAny_assign_Name (store_ok2 (v := V.ref L) I' hN hy (.inl hyl) rfl (fun s2 I2 ⟨a, sb, ha⟩ => ?_) (.inr hyl))
  obtain ⟨f0, f1, f2, f3, f4, f5⟩ := f
  have haC : C ≠ a := ha.elim (fun z => by rw [z]; exact f1) fun z e => f4 y a z e.symm
  exact ⟨m, hn.sameBut sb haC, fun g sb3 => ⟨_, H', I2.turned (t' := s2.toks) (fun b o hb z => (sb3.2 b hb).trans z) f0 f1 f3 f4 f5, q⟩⟩
theorem sw_trueD {kx vx ta ea : Expr} {sc : Scope} {ps py : Pos} {y : Str} {l : Nat} {ev : Env} (h1 : ev.scope.kind = .function) (h2 : ev.scope.names.lookup y = some .local) (h3 : (py.line == ps.line) = true)
    (h4 : (sc.names.any fun (n, k) => n == y && (k == .local || k == .cell)) = false) : swapsWith (.DictComp kx vx [⟨ta, ea, [], 0⟩] sc ps) (some (.Name y py)) l ev = pure true := by
  have e1 : ev.kindOf y = some .local := h2
  have e2 : ev.blockKind = .function := by
    unfold Env.blockKind
    rw [h1] <;> rfl
  unfold swapsWith
  simp only [e2, e1, h4, Expr.pos, h3]
  rfl
end
end Fm
namespace Fm
open PySem PySem.Spec PyProof.Rows L2
def topS (i : Nat) : Stmt := PySem.Challenge.pw_fairmasks_k18_whole_coming_by_all_conten.main.body.getD i (.Pass ⟨0, 0, 0, 0⟩)
abbrev s_is_whole : Stmt := topS 4
abbrev N_is_whole : List Str := ["thing"]
theorem sc_is_whole : FnScope N_is_whole ["thing"] (defScope s_is_whole) := ⟨rfl, rfl, rfl, by decide +kernel, rfl, by decide +kernel, by decide +kernel⟩
abbrev s_is_pair : Stmt := topS 5
abbrev N_is_pair : List Str := ["thing"]
theorem sc_is_pair : FnScope N_is_pair ["thing"] (defScope s_is_pair) := ⟨rfl, rfl, rfl, by decide +kernel, rfl, by decide +kernel, by decide +kernel⟩
abbrev s_is_fraction : Stmt := topS 6
abbrev N_is_fraction : List Str := ["thing", "top", "bottom"]
theorem sc_is_fraction : FnScope N_is_fraction ["thing"] (defScope s_is_fraction) := ⟨rfl, rfl, rfl, by decide +kernel, rfl, by decide +kernel, by decide +kernel⟩
abbrev s_is_share : Stmt := topS 7
abbrev N_is_share : List Str := ["thing"]
theorem sc_is_share : FnScope N_is_share ["thing"] (defScope s_is_share) := ⟨rfl, rfl, rfl, by decide +kernel, rfl, by decide +kernel, by decide +kernel⟩
abbrev s_fraction : Stmt := topS 8
abbrev N_fraction : List Str := ["top", "bottom", "common"]
theorem sc_fraction : FnScope N_fraction ["top", "bottom"] (defScope s_fraction) := ⟨rfl, rfl, rfl, by decide +kernel, rfl, by decide +kernel, by decide +kernel⟩
abbrev s_plus : Stmt := topS 9
abbrev N_plus : List Str := ["one", "other"]
theorem sc_plus : FnScope N_plus ["one", "other"] (defScope s_plus) := ⟨rfl, rfl, rfl, by decide +kernel, rfl, by decide +kernel, by decide +kernel⟩
abbrev s_times : Stmt := topS 10
abbrev N_times : List Str := ["one", "other"]
theorem sc_times : FnScope N_times ["one", "other"] (defScope s_times) := ⟨rfl, rfl, rfl, by decide +kernel, rfl, by decide +kernel, by decide +kernel⟩
abbrev s_common_bottom : Stmt := topS 11
abbrev N_common_bottom : List Str := ["parts", "bottom", "part"]
theorem sc_common_bottom : FnScope N_common_bottom ["parts"] (defScope s_common_bottom) := ⟨rfl, rfl, rfl, by decide +kernel, rfl, by decide +kernel, by decide +kernel⟩
abbrev s_total : Stmt := topS 12
abbrev N_total : List Str := ["parts", "bottom", "part"]
theorem sc_total : FnScope N_total ["parts"] (defScope s_total) := ⟨rfl, rfl, rfl, by decide +kernel, rfl, by decide +kernel, by decide +kernel⟩
abbrev s_is_sizes : Stmt := topS 23
abbrev N_is_sizes : List Str := ["thing", "many", "size"]
theorem sc_is_sizes : FnScope N_is_sizes ["thing"] (defScope s_is_sizes) := ⟨rfl, rfl, rfl, by decide +kernel, rfl, by decide +kernel, by decide +kernel⟩
abbrev s_is_content : Stmt := topS 24
abbrev N_is_content : List Str := ["sizes", "thing", "size", "worth"]
theorem sc_is_content : FnScope N_is_content ["sizes", "thing"] (defScope s_is_content) := ⟨rfl, rfl, rfl, by decide +kernel, rfl, by decide +kernel, by decide +kernel⟩
abbrev s_is_pattern : Stmt := topS 25
abbrev N_is_pattern : List Str := ["columns", "thing", "last", "column"]
theorem sc_is_pattern : FnScope N_is_pattern ["columns", "thing"] (defScope s_is_pattern) := ⟨rfl, rfl, rfl, by decide +kernel, rfl, by decide +kernel, by decide +kernel⟩
abbrev s_is_box_of : Stmt := topS 26
abbrev N_is_box_of : List Str := ["sizes", "thing", "pattern", "worths", "column"]
theorem sc_is_box_of : FnScope N_is_box_of ["sizes", "thing"] (defScope s_is_box_of) := ⟨rfl, rfl, rfl, by decide +kernel, rfl, by decide +kernel, by decide +kernel⟩
abbrev s_boxes_with : Stmt := topS 27
abbrev N_boxes_with : List Str := ["sizes", "box", "column", "at", "wider", "pattern", "worths", "worth", "other"]
theorem sc_boxes_with : FnScope N_boxes_with ["sizes", "box", "column"] (defScope s_boxes_with) := ⟨rfl, rfl, rfl, by decide +kernel, rfl, by decide +kernel, by decide +kernel⟩
abbrev s_is_stands : Stmt := topS 31
abbrev N_is_stands : List Str := ["sizes", "thing", "stand"]
theorem sc_is_stands : FnScope N_is_stands ["sizes", "thing"] (defScope s_is_stands) := ⟨rfl, rfl, rfl, by decide +kernel, rfl, by decide +kernel, by decide +kernel⟩
abbrev s_wrong_stand : Stmt := topS 32
abbrev N_wrong_stand : List Str := ["sizes", "moves", "told", "stand", "come", "many", "after", "box"]
theorem sc_wrong_stand : FnScope N_wrong_stand ["sizes", "moves"] (defScope s_wrong_stand) := ⟨rfl, rfl, rfl, by decide +kernel, rfl, by decide +kernel, by decide +kernel⟩
abbrev s_is_moves : Stmt := topS 33
abbrev N_is_moves : List Str := ["columns", "pattern", "thing", "last", "parts", "pair", "column", "part"]
theorem sc_is_moves : FnScope N_is_moves ["columns", "pattern", "thing"] (defScope s_is_moves) := ⟨rfl, rfl, rfl, by decide +kernel, rfl, by decide +kernel, by decide +kernel⟩
abbrev s_boxes_after : Stmt := topS 34
abbrev N_boxes_after : List Str := ["sizes", "stand", "moves", "found", "column", "_"]
theorem sc_boxes_after : FnScope N_boxes_after ["sizes", "stand", "moves"] (defScope s_boxes_after) := ⟨rfl, rfl, rfl, by decide +kernel, rfl, by decide +kernel, by decide +kernel⟩
abbrev s_by_columns : Stmt := topS 35
abbrev N_by_columns : List Str := ["boxes", "_", "box"]
theorem sc_by_columns : FnScope N_by_columns ["boxes"] (defScope s_by_columns) := ⟨rfl, rfl, rfl, by decide +kernel, rfl, by decide +kernel, by decide +kernel⟩
abbrev s_all_coming : Stmt := topS 36
abbrev N_all_coming : List Str := ["asker", "found", "stand", "column", "part", "box"]
theorem sc_all_coming : FnScope N_all_coming ["asker"] (defScope s_all_coming) := ⟨rfl, rfl, rfl, by decide +kernel, rfl, by decide +kernel, by decide +kernel⟩
abbrev s_coming : Stmt := topS 37
abbrev N_coming : List Str := ["asker", "stand"]
theorem sc_coming : FnScope N_coming ["asker", "stand"] (defScope s_coming) := ⟨rfl, rfl, rfl, by decide +kernel, rfl, by decide +kernel, by decide +kernel⟩
abbrev s_law_hand : Stmt := topS 39
abbrev N_law_hand : List Str := ["script", "cells", "cell"]
theorem sc_law_hand : FnScope N_law_hand ["script"] (defScope s_law_hand) := ⟨rfl, rfl, rfl, by decide +kernel, rfl, by decide +kernel, by decide +kernel⟩
abbrev s_law_draw : Stmt := topS 40
abbrev N_law_draw : List Str := ["hand", "many", "number", "cell", "digit"]
theorem sc_law_draw : FnScope N_law_draw ["hand", "many"] (defScope s_law_draw) := ⟨rfl, rfl, rfl, by decide +kernel, rfl, by decide +kernel, by decide +kernel⟩
abbrev s_law_plus : Stmt := topS 41
abbrev N_law_plus : List Str := ["one", "other"]
theorem sc_law_plus : FnScope N_law_plus ["one", "other"] (defScope s_law_plus) := ⟨rfl, rfl, rfl, by decide +kernel, rfl, by decide +kernel, by decide +kernel⟩
abbrev s_law_times : Stmt := topS 42
abbrev N_law_times : List Str := ["one", "other"]
theorem sc_law_times : FnScope N_law_times ["one", "other"] (defScope s_law_times) := ⟨rfl, rfl, rfl, by decide +kernel, rfl, by decide +kernel, by decide +kernel⟩
abbrev s_law_low : Stmt := topS 43
abbrev N_law_low : List Str := ["top", "bottom", "turn", "a", "b"]
theorem sc_law_low : FnScope N_law_low ["top", "bottom"] (defScope s_law_low) := ⟨rfl, rfl, rfl, by decide +kernel, rfl, by decide +kernel, by decide +kernel⟩
abbrev s_law_contents : Stmt := topS 44
abbrev N_law_contents : List Str := ["sizes", "found", "size", "longer", "content", "worth"]
theorem sc_law_contents : FnScope N_law_contents ["sizes"] (defScope s_law_contents) := ⟨rfl, rfl, rfl, by decide +kernel, rfl, by decide +kernel, by decide +kernel⟩
abbrev s_law_box : Stmt := topS 45
abbrev N_law_box : List Str := ["pattern", "content", "c"]
theorem sc_law_box : FnScope N_law_box ["pattern", "content"] (defScope s_law_box) := ⟨rfl, rfl, rfl, by decide +kernel, rfl, by decide +kernel, by decide +kernel⟩
abbrev s_law_later : Stmt := topS 46
abbrev N_law_later : List Str := ["stand", "c", "worth", "pattern", "at"]
theorem sc_law_later : FnScope N_law_later ["stand", "c", "worth"] (defScope s_law_later) := ⟨rfl, rfl, rfl, by decide +kernel, rfl, by decide +kernel, by decide +kernel⟩
abbrev s_law_patterns : Stmt := topS 47
abbrev N_law_patterns : List Str := ["columns", "found", "c", "pattern"]
theorem sc_law_patterns : FnScope N_law_patterns ["columns"] (defScope s_law_patterns) := ⟨rfl, rfl, rfl, by decide +kernel, rfl, by decide +kernel, by decide +kernel⟩
abbrev s_law_sizes : Stmt := topS 48
abbrev N_law_sizes : List Str := ["hand"]
theorem sc_law_sizes : FnScope N_law_sizes ["hand"] (defScope s_law_sizes) := ⟨rfl, rfl, rfl, by decide +kernel, rfl, by decide +kernel, by decide +kernel⟩
abbrev s_law_parts : Stmt := topS 49
abbrev N_law_parts : List Str := ["hand", "many", "bottom", "left", "found", "k", "more"]
theorem sc_law_parts : FnScope N_law_parts ["hand", "many", "bottom"] (defScope s_law_parts) := ⟨rfl, rfl, rfl, by decide +kernel, rfl, by decide +kernel, by decide +kernel⟩
abbrev s_law_moves : Stmt := topS 50
abbrev N_law_moves : List Str := ["hand", "sizes", "moves", "waiting", "turn", "stand", "some", "kept", "shares", "c", "k", "worth"]
theorem sc_law_moves : FnScope N_law_moves ["hand", "sizes"] (defScope s_law_moves) := ⟨rfl, rfl, rfl, by decide +kernel, rfl, by decide +kernel, by decide +kernel⟩
abbrev s_law_comes : Stmt := topS 51
abbrev N_law_comes : List Str := ["moves", "content", "come", "shown", "many", "stand", "c", "share", "part", "later"]
theorem sc_law_comes : FnScope N_law_comes ["moves", "content"] (defScope s_law_comes) := ⟨rfl, rfl, rfl, by decide +kernel, rfl, by decide +kernel, by decide +kernel⟩
abbrev s_law : Stmt := topS 52
abbrev N_law : List Str := ["script", "hand", "turn", "sizes", "moves", "asker", "told", "pattern", "stand", "content", "come", "ahead", "at", "less", "c", "share"]
theorem sc_law : FnScope N_law ["script"] (defScope s_law) := ⟨rfl, rfl, rfl, by decide +kernel, rfl, by decide +kernel, by decide +kernel⟩
abbrev s_Asker_init : Stmt := inClass (topS 30) 0
abbrev N_Asker_init : List Str := ["self", "sizes", "moves", "wrong", "stand"]
theorem sc_Asker_init : FnScope N_Asker_init ["self", "sizes", "moves"] (defScope s_Asker_init) := ⟨rfl, rfl, rfl, by decide +kernel, rfl, by decide +kernel, by decide +kernel⟩
/-- what the top has left: each def, each constant, the built-ins that are not hidden -/
structure Txt (K : PySem.W.Frag) (mg : Str → Option Value) where
  f_is_whole : Addr
  d_is_whole : FuncData
  F_is_whole : Fun K "is_whole" "is_whole" s_is_whole f_is_whole d_is_whole
  b_is_whole : Binds K d_is_whole ["thing"] []
  g_is_whole : mg "is_whole" = some (.ref f_is_whole)
  f_is_pair : Addr
  d_is_pair : FuncData
  F_is_pair : Fun K "is_pair" "is_pair" s_is_pair f_is_pair d_is_pair
  b_is_pair : Binds K d_is_pair ["thing"] []
  g_is_pair : mg "is_pair" = some (.ref f_is_pair)
  f_is_fraction : Addr
  d_is_fraction : FuncData
  F_is_fraction : Fun K "is_fraction" "is_fraction" s_is_fraction f_is_fraction d_is_fraction
  b_is_fraction : Binds K d_is_fraction ["thing"] []
  g_is_fraction : mg "is_fraction" = some (.ref f_is_fraction)
  f_is_share : Addr
  d_is_share : FuncData
  F_is_share : Fun K "is_share" "is_share" s_is_share f_is_share d_is_share
  b_is_share : Binds K d_is_share ["thing"] []
  g_is_share : mg "is_share" = some (.ref f_is_share)
  f_fraction : Addr
  d_fraction : FuncData
  F_fraction : Fun K "fraction" "fraction" s_fraction f_fraction d_fraction
  b_fraction : Binds K d_fraction ["top", "bottom"] []
  g_fraction : mg "fraction" = some (.ref f_fraction)
  f_plus : Addr
  d_plus : FuncData
  F_plus : Fun K "plus" "plus" s_plus f_plus d_plus
  b_plus : Binds K d_plus ["one", "other"] []
  g_plus : mg "plus" = some (.ref f_plus)
  f_times : Addr
  d_times : FuncData
  F_times : Fun K "times" "times" s_times f_times d_times
  b_times : Binds K d_times ["one", "other"] []
  g_times : mg "times" = some (.ref f_times)
  f_common_bottom : Addr
  d_common_bottom : FuncData
  F_common_bottom : Fun K "common_bottom" "common_bottom" s_common_bottom f_common_bottom d_common_bottom
  b_common_bottom : Binds K d_common_bottom ["parts"] []
  g_common_bottom : mg "common_bottom" = some (.ref f_common_bottom)
  f_total : Addr
  d_total : FuncData
  F_total : Fun K "total" "total" s_total f_total d_total
  b_total : Binds K d_total ["parts"] []
  g_total : mg "total" = some (.ref f_total)
  f_is_sizes : Addr
  d_is_sizes : FuncData
  F_is_sizes : Fun K "is_sizes" "is_sizes" s_is_sizes f_is_sizes d_is_sizes
  b_is_sizes : Binds K d_is_sizes ["thing"] []
  g_is_sizes : mg "is_sizes" = some (.ref f_is_sizes)
  f_is_content : Addr
  d_is_content : FuncData
  F_is_content : Fun K "is_content" "is_content" s_is_content f_is_content d_is_content
  b_is_content : Binds K d_is_content ["sizes", "thing"] []
  g_is_content : mg "is_content" = some (.ref f_is_content)
  f_is_pattern : Addr
  d_is_pattern : FuncData
  F_is_pattern : Fun K "is_pattern" "is_pattern" s_is_pattern f_is_pattern d_is_pattern
  b_is_pattern : Binds K d_is_pattern ["columns", "thing"] []
  g_is_pattern : mg "is_pattern" = some (.ref f_is_pattern)
  f_is_box_of : Addr
  d_is_box_of : FuncData
  F_is_box_of : Fun K "is_box_of" "is_box_of" s_is_box_of f_is_box_of d_is_box_of
  b_is_box_of : Binds K d_is_box_of ["sizes", "thing"] []
  g_is_box_of : mg "is_box_of" = some (.ref f_is_box_of)
  f_boxes_with : Addr
  d_boxes_with : FuncData
  F_boxes_with : Fun K "boxes_with" "boxes_with" s_boxes_with f_boxes_with d_boxes_with
  b_boxes_with : Binds K d_boxes_with ["sizes", "box", "column"] []
  g_boxes_with : mg "boxes_with" = some (.ref f_boxes_with)
  f_is_stands : Addr
  d_is_stands : FuncData
  F_is_stands : Fun K "is_stands" "is_stands" s_is_stands f_is_stands d_is_stands
  b_is_stands : Binds K d_is_stands ["sizes", "thing"] []
  g_is_stands : mg "is_stands" = some (.ref f_is_stands)
  f_wrong_stand : Addr
  d_wrong_stand : FuncData
  F_wrong_stand : Fun K "wrong_stand" "wrong_stand" s_wrong_stand f_wrong_stand d_wrong_stand
  b_wrong_stand : Binds K d_wrong_stand ["sizes", "moves"] []
  g_wrong_stand : mg "wrong_stand" = some (.ref f_wrong_stand)
  f_is_moves : Addr
  d_is_moves : FuncData
  F_is_moves : Fun K "is_moves" "is_moves" s_is_moves f_is_moves d_is_moves
  b_is_moves : Binds K d_is_moves ["columns", "pattern", "thing"] []
  g_is_moves : mg "is_moves" = some (.ref f_is_moves)
  f_boxes_after : Addr
  d_boxes_after : FuncData
  F_boxes_after : Fun K "boxes_after" "boxes_after" s_boxes_after f_boxes_after d_boxes_after
  b_boxes_after : Binds K d_boxes_after ["sizes", "stand", "moves"] []
  g_boxes_after : mg "boxes_after" = some (.ref f_boxes_after)
  f_by_columns : Addr
  d_by_columns : FuncData
  F_by_columns : Fun K "by_columns" "by_columns" s_by_columns f_by_columns d_by_columns
  b_by_columns : Binds K d_by_columns ["boxes"] []
  g_by_columns : mg "by_columns" = some (.ref f_by_columns)
  f_all_coming : Addr
  d_all_coming : FuncData
  F_all_coming : Fun K "all_coming" "all_coming" s_all_coming f_all_coming d_all_coming
  b_all_coming : Binds K d_all_coming ["asker"] []
  g_all_coming : mg "all_coming" = some (.ref f_all_coming)
  f_coming : Addr
  d_coming : FuncData
  F_coming : Fun K "coming" "coming" s_coming f_coming d_coming
  b_coming : Binds K d_coming ["asker", "stand"] []
  g_coming : mg "coming" = some (.ref f_coming)
  f_law_hand : Addr
  d_law_hand : FuncData
  F_law_hand : Fun K "_law_hand" "_law_hand" s_law_hand f_law_hand d_law_hand
  b_law_hand : Binds K d_law_hand ["script"] []
  g_law_hand : mg "_law_hand" = some (.ref f_law_hand)
  f_law_draw : Addr
  d_law_draw : FuncData
  F_law_draw : Fun K "_law_draw" "_law_draw" s_law_draw f_law_draw d_law_draw
  b_law_draw : Binds K d_law_draw ["hand", "many"] []
  g_law_draw : mg "_law_draw" = some (.ref f_law_draw)
  f_law_plus : Addr
  d_law_plus : FuncData
  F_law_plus : Fun K "_law_plus" "_law_plus" s_law_plus f_law_plus d_law_plus
  b_law_plus : Binds K d_law_plus ["one", "other"] []
  g_law_plus : mg "_law_plus" = some (.ref f_law_plus)
  f_law_times : Addr
  d_law_times : FuncData
  F_law_times : Fun K "_law_times" "_law_times" s_law_times f_law_times d_law_times
  b_law_times : Binds K d_law_times ["one", "other"] []
  g_law_times : mg "_law_times" = some (.ref f_law_times)
  f_law_low : Addr
  d_law_low : FuncData
  F_law_low : Fun K "_law_low" "_law_low" s_law_low f_law_low d_law_low
  b_law_low : Binds K d_law_low ["top", "bottom"] []
  g_law_low : mg "_law_low" = some (.ref f_law_low)
  f_law_contents : Addr
  d_law_contents : FuncData
  F_law_contents : Fun K "_law_contents" "_law_contents" s_law_contents f_law_contents d_law_contents
  b_law_contents : Binds K d_law_contents ["sizes"] []
  g_law_contents : mg "_law_contents" = some (.ref f_law_contents)
  f_law_box : Addr
  d_law_box : FuncData
  F_law_box : Fun K "_law_box" "_law_box" s_law_box f_law_box d_law_box
  b_law_box : Binds K d_law_box ["pattern", "content"] []
  g_law_box : mg "_law_box" = some (.ref f_law_box)
  f_law_later : Addr
  d_law_later : FuncData
  F_law_later : Fun K "_law_later" "_law_later" s_law_later f_law_later d_law_later
  b_law_later : Binds K d_law_later ["stand", "c", "worth"] []
  g_law_later : mg "_law_later" = some (.ref f_law_later)
  f_law_patterns : Addr
  d_law_patterns : FuncData
  F_law_patterns : Fun K "_law_patterns" "_law_patterns" s_law_patterns f_law_patterns d_law_patterns
  b_law_patterns : Binds K d_law_patterns ["columns"] []
  g_law_patterns : mg "_law_patterns" = some (.ref f_law_patterns)
  f_law_sizes : Addr
  d_law_sizes : FuncData
  F_law_sizes : Fun K "_law_sizes" "_law_sizes" s_law_sizes f_law_sizes d_law_sizes
  b_law_sizes : Binds K d_law_sizes ["hand"] []
  g_law_sizes : mg "_law_sizes" = some (.ref f_law_sizes)
  f_law_parts : Addr
  d_law_parts : FuncData
  F_law_parts : Fun K "_law_parts" "_law_parts" s_law_parts f_law_parts d_law_parts
  b_law_parts : Binds K d_law_parts ["hand", "many", "bottom"] []
  g_law_parts : mg "_law_parts" = some (.ref f_law_parts)
  f_law_moves : Addr
  d_law_moves : FuncData
  F_law_moves : Fun K "_law_moves" "_law_moves" s_law_moves f_law_moves d_law_moves
  b_law_moves : Binds K d_law_moves ["hand", "sizes"] []
  g_law_moves : mg "_law_moves" = some (.ref f_law_moves)
  f_law_comes : Addr
  d_law_comes : FuncData
  F_law_comes : Fun K "_law_comes" "_law_comes" s_law_comes f_law_comes d_law_comes
  b_law_comes : Binds K d_law_comes ["moves", "content"] []
  g_law_comes : mg "_law_comes" = some (.ref f_law_comes)
  f_Asker_init : Addr
  d_Asker_init : FuncData
  F_Asker_init : Fun K "__init__" "Asker.__init__" s_Asker_init f_Asker_init d_Asker_init
  b_Asker_init : Binds K d_Asker_init ["self", "sizes", "moves"] []
  c_Asker : Addr
  g_Asker : mg "Asker" = some (.ref c_Asker)
  M_Asker : Mk K c_Asker f_Asker_init
  l_Asker : Cls K c_Asker
  aq_sizes : NoAttr K c_Asker "sizes"
  aq_moves : NoAttr K c_Asker "moves"
  w_lcm : mg "lcm" = some (.builtin "math.lcm")
  w_gcd : mg "gcd" = some (.builtin "math.gcd")
  v_ZERO : Addr
  g_ZERO : mg "ZERO" = some (.ref v_ZERO)
  k_ZERO : ∀ H, SqT K H v_ZERO [.int 0, .int 1]
  v_ONE : Addr
  g_ONE : mg "ONE" = some (.ref v_ONE)
  k_ONE : ∀ H, SqT K H v_ONE [.int 1, .int 1]
  v_START : Addr
  g_START : mg "START" = some (.ref v_START)
  k_START : ∀ H, Fm.BoxAt K H v_START ([], [])
  u_MOST_COLUMNS : Value
  k_MOST_COLUMNS : mg "MOST_COLUMNS" = some u_MOST_COLUMNS ∧ RelV (.int 5) u_MOST_COLUMNS
  u_LEAST_SIZE : Value
  k_LEAST_SIZE : mg "LEAST_SIZE" = some u_LEAST_SIZE ∧ RelV (.int 2) u_LEAST_SIZE
  u_MOST_SIZE : Value
  k_MOST_SIZE : mg "MOST_SIZE" = some u_MOST_SIZE ∧ RelV (.int 4) u_MOST_SIZE
  u_MOST_CONTENTS : Value
  k_MOST_CONTENTS : mg "MOST_CONTENTS" = some u_MOST_CONTENTS ∧ RelV (.int 256) u_MOST_CONTENTS
  u_STOP : Value
  k_STOP : mg "STOP" = some u_STOP ∧ RelV (.int (-1)) u_STOP
  z_len : mg "len" = none
  z_isinstance : mg "isinstance" = none
  z_range : mg "range" = none
  z_zip : mg "zip" = none
  z_tuple : mg "tuple" = none
  z_list : mg "list" = none
  z_int : mg "int" = none
  z_bool : mg "bool" = none
  z_abs : mg "abs" = none
  z_sorted : mg "sorted" = none
  z_dict : mg "dict" = none
  z_set : mg "set" = none
  z_sum : mg "sum" = none
  z_all : mg "all" = none
section
variable {P : Program} {w : World} {K : PySem.W.Frag} {mg : Str → Option Value} {base : Heap}

/-! ### judging things -/
def m_is_whole : List Dt → Option Dt
  | [d] => some (.bl d.isW)
  | _ => none
theorem ok_is_whole (T : Txt K mg) : FnOk P w K mg base CX0 1 T.f_is_whole T.d_is_whole ["thing"] (spD K m_is_whole) := by
  refine T.F_is_whole.ok sc_is_whole (fun vs H Q E h => ?_) (fun cdv A outer s H vs Q E hr h => ?_)
  · obtain ⟨ds, r, hd, e, _⟩ := h
    exact match ds, e, hd with | [_], _, hd => hd.length
  · obtain ⟨ds, r, hd, e, q⟩ := h
    match ds, e, hd, q with
    | [d], e, .cons h .nil, q =>
      cases e
      obtain ⟨t, ty, ki, kt, kb⟩ := h.kinds
      refine ⟨_, (pss_one (ps_ret (pe_and (pe_callB (call_isiK' K) (by rfl) T.z_isinstance (by decide +kernel) (pa_cons (pv 0) (pa_cons (pe_bltn (v := .ty "int") (by rfl) T.z_int (by decide +kernel) rfl) pa_nil))) (pe_one (pe_not (pe_callB (call_isiK' K) (by rfl) T.z_isinstance (by decide +kernel) (pa_cons (pv 0) (pa_cons (pe_bltn (v := .ty "bool") (by rfl) T.z_bool (by decide +kernel) rfl) pa_nil)))))))), ?_⟩
      refine ⟨_, rfl, _, _, _, _, _, rfl, .ty _, ty, ki, _, rfl, ?_⟩
      cases hi : d.isInt with
      | true =>
        refine iteT ?_
        refine ⟨_, rfl, _, _, _, _, _, rfl, .ty _, ty, kb hi, _, rfl, ?_⟩
        rw [Bool.not_not]
        exact q _ _ (Same.refl H) (.bl _)
      | false =>
        refine iteF ?_
        have e : d.isW = false := by cases d <;> first | rfl | cases hi
        have q' := q (.bl false) H (Same.refl H)
        rw [e] at q'
        exact q' (.bl _)
def Dt.isPair : Dt → Bool
  | .tup ds => ds.length == 2
  | _ => false
def m_is_pair : List Dt → Option Dt
  | [d] => some (.bl d.isPair)
  | _ => none
theorem ok_is_pair (T : Txt K mg) : FnOk P w K mg base CX0 1 T.f_is_pair T.d_is_pair ["thing"] (spD K m_is_pair) := by
  refine T.F_is_pair.ok sc_is_pair (fun vs H Q E h => ?_) (fun cdv A outer s H vs Q E hr h => ?_)
  · obtain ⟨ds, r, hd, e, _⟩ := h
    exact match ds, e, hd with | [_], _, hd => hd.length
  · obtain ⟨ds, r, hd, e, q⟩ := h
    match ds, e, hd, q with
    | [d], e, .cons h .nil, q =>
      cases e
      obtain ⟨t, ty, ki, kt, kb⟩ := h.kinds
      refine ⟨_, (pss_one (ps_ret (pe_and (pe_callB (call_isiK' K) (by rfl) T.z_isinstance (by decide +kernel) (pa_cons (pv 0) (pa_cons (pe_bltn (v := .ty "tuple") (by rfl) T.z_tuple (by decide +kernel) rfl) pa_nil))) (pe_one (pe_cmpR op_eq (pe_callB (call_lenK K) (by rfl) T.z_len PySem.boot_len (pa_cons (pv 0) pa_nil)) pe_int (nomark _)))))), ?_⟩
      refine ⟨_, rfl, _, _, _, _, _, rfl, .ty _, ty, kt, _, rfl, ?_⟩
      cases hi : d.isTup with
      | true =>
        refine iteT ?_
        cases d with
        | tup xs =>
          obtain ⟨a, vs, rfl, hs, ha⟩ := h.tup_inv
          refine ⟨_, rfl, a, vs, rfl, .inr hs, rfl, ?_⟩
          have e : decide (V.int (vs.length : Int) = V.int 2) = (xs.length == 2) := by
            rw [dec_int, ha.length, Bool.eq_iff_iff]
            simp
            omega
          rw [e]
          exact q _ _ (Same.refl H) (.bl _)
        | _ => cases hi
      | false =>
        refine iteF ?_
        have e : d.isPair = false := by cases d <;> first | rfl | cases hi
        have q' := q (.bl false) H (Same.refl H)
        rw [e] at q'
        exact q' (.bl _)
def patGo (n : Int) : Int → List Dt → Bool
  | _, [] => true
  | l, .int c :: r => if l < c ∧ c < n then patGo n c r else false
  | _, _ :: _ => false
def Dt.isPat (n : Int) : Dt → Bool
  | .tup ds => patGo n (-1) ds
  | _ => false
def m_is_pattern : List Dt → Option Dt
  | [.int n, d] => some (.bl (d.isPat n))
  | _ => none
theorem ok_is_pattern (T : Txt K mg) : FnOk P w K mg base CX0 2 T.f_is_pattern T.d_is_pattern ["columns", "thing"] (spD K m_is_pattern) := by
  refine T.F_is_pattern.ok sc_is_pattern (fun vs H Q E h => ?_) (fun cdv A outer s H vs Q E hr h => ?_)
  · obtain ⟨ds, r, hd, e, _⟩ := h
    exact match ds, e, hd with | [.int _, _], _, hd => hd.length
  · obtain ⟨ds, r, hd, e, q⟩ := h
    match ds, e, hd, q with
    | [.int n, d], e, .cons hn (.cons h .nil), q =>
      cases e
      cases hn
      obtain ⟨t, ty, ki, kt, kb⟩ := h.kinds
      refine ⟨_, (pss_cons (ps_if (pt_not (pt_val (pe_callB (call_isiK' K) (by rfl) T.z_isinstance (by decide +kernel) (pa_cons (pv 1) (pa_cons (pe_bltn (v := .ty "tuple") (by rfl) T.z_tuple (by decide +kernel) rfl) pa_nil))))) (pss_one (ps_ret pe_bl)) pss_nil)
      (pss_cons (ps_set (i := 2) sc_is_pattern.nd rfl (.inl rfl) (pe_un un_neg pe_int))
      (pss_cons (ps_for PassesOwn.never rfl (pi_tupK K (pv 1)) (pg_name (i := 3) sc_is_pattern.nd rfl (.inl rfl)) (pss_cons (ps_if (PW.pt (pw_or (pt_not (pt_val (pe_call (ok_is_whole T) hr (by rfl) T.g_is_whole T.F_is_whole.kp T.b_is_whole .nil pass0 (pa_cons (pv 3) pa_nil)))) (pw_or1 (pt_not (pt_chain op_lt op_lt (pv 2) (pv 3) (pv 0)))))) (pss_one (ps_ret pe_bl)) pss_nil)
      (pss_one (ps_set (i := 2) sc_is_pattern.nd rfl (.inl rfl) (pv 3)))))
      (pss_one (ps_ret pe_bl))))), ?_⟩
      refine ⟨_, rfl, _, _, _, _, _, rfl, .ty _, ty, kt, _, rfl, ?_⟩
      cases hi : d.isTup with
      | false =>
        refine iteT ?_
        have e : d.isPat n = false := by cases d <;> first | rfl | cases hi
        have q' := q (.bl false) H (Same.refl H)
        rw [e] at q'
        exact q' (.bl _)
      | true =>
        refine iteF ?_
        cases d with
        | tup xs =>
          obtain ⟨a, vs, rfl, hs, ha⟩ := h.tup_inv
          refine ⟨1, rfl, _, rfl, a, rfl, ⟨_, hs⟩, for_tup (xs := vs) (fun i σ H' => ∃ (l : Int) (c : Option V), σ = [some (.int n), some (.ref a), some (.int l), c] ∧ Same H H' ∧ patGo n (-1) xs = patGo n l (xs.drop i))
            ⟨-1, none, rfl, Same.refl H, rfl⟩ (fun i σ H' _ ⟨_, _, _, sm, _⟩ => (Ext.of sm).sqT hs) ?_ ?_⟩
          · rintro i x σ H' hx ⟨l, c, rfl, sm, e⟩
            obtain ⟨dx, hdx, hx2⟩ := ha.get hx
            have hdr : xs.drop i = dx :: xs.drop (i + 1) := by
              obtain ⟨hlt, e2⟩ := List.getElem?_eq_some_iff.mp hdx
              rw [List.drop_eq_getElem_cons hlt, e2]
            rw [hdr] at e
            -- not is_whole(column) or not last < column < columns
            refine ⟨_, rfl, spD_bl (.cons (hx2.ext (.of sm)) .nil) rfl fun H1 s1 => ⟨_, rfl, ?_⟩⟩
            have fin : patGo n l (dx :: xs.drop (i + 1)) = false → ∀ H2, Same H' H2 → Q (.bl false) H2 := fun z H2 s2 => by
              have q' := q (.bl false) H2 (sm.trans s2)
              rw [show (Dt.tup xs).isPat n = patGo n (-1) xs from rfl, e, z] at q'
              exact q' (.bl _)
            cases hw : dx.isW with
            | false =>
              refine iteT (iteT ?_)
              exact fin (by cases dx <;> first | rfl | cases hw) _ s1
            | true =>
              refine iteF ?_
              cases dx with
              | int c =>
                cases hx2
                refine ⟨_, rfl, _, rfl, _, _, rfl, rfl, _, rfl, ?_⟩
                refine ite2 (fun h1 => ?_) (fun h1 => ?_)
                · refine ⟨_, rfl, _, _, rfl, rfl, _, rfl, ?_⟩
                  refine ite2 (fun h2 => ?_) (fun h2 => ?_)
                  · have n2 : ¬ c < n := by simpa using h2
                    exact fin (by show (if l < c ∧ c < n then _ else false) = false; rw [if_neg fun z => n2 z.2]) _ s1
                  · have y2 : c < n := by simpa using h2
                    refine ⟨_, rfl, c, _, rfl, sm.trans s1, ?_⟩
                    rw [e]
                    show (if l < c ∧ c < n then _ else false) = _
                    rw [if_pos ⟨of_decide_eq_true h1, y2⟩]
                · refine ⟨_, rfl, iteT ?_⟩
                  exact fin (by show (if l < c ∧ c < n then _ else false) = false; rw [if_neg fun z => h1 (decide_eq_true z.1)]) _ s1
              | _ => cases hw
          · rintro σ H' ⟨l, c, rfl, sm, e⟩
            have ed : xs.drop vs.length = [] := List.drop_eq_nil_of_le (by rw [ha.length]; exact Nat.le_refl _)
            rw [ed] at e
            have q' := q (.bl true) H' sm
            rw [show (Dt.tup xs).isPat n = patGo n (-1) xs from rfl, e] at q'
            exact q' (.bl _)
        | _ => cases hi

/-! ### contents, sizes, boxes judged -/
theorem drop_at {α : Type} {xs : List α} {i : Nat} {x : α} (h : xs[i]? = some x) : xs.drop i = x :: xs.drop (i + 1) := by
  obtain ⟨hlt, e⟩ := List.getElem?_eq_some_iff.mp h
  rw [List.drop_eq_getElem_cons hlt, e]
def contGo : List Int → List Dt → Bool
  | s :: ss, .int c :: r => if 0 ≤ c ∧ c < s then contGo ss r else false
  | _ :: _, _ :: _ => false
  | [], _ => true
  | _, [] => true
def Dt.isCont (ss : List Int) : Dt → Bool
  | .tup ds => ds.length == ss.length && contGo ss ds
  | _ => false
theorem int_at {ss : List Int} {i : Nat} {x : V} (h : (ss.map V.int)[i]? = some x) : ∃ n, x = .int n ∧ ss[i]? = some n := by
  rw [List.getElem?_map] at h
  cases e : ss[i]? with
  | none =>
    rw [e] at h
    cases h
  | some n =>
    rw [e] at h
    exact ⟨n, (Option.some.inj h).symm, rfl⟩
/-- sizes as a tuple or a list of ints, and a thing -/
def spCont (K : PySem.W.Frag) : Sp := fun vs H Q _ => ∃ (L : Bool) (p : Addr) (ss : List Int) (v : V) (d : Dt), vs = [.ref p, v] ∧ SqA L K H p (ss.map V.int) ∧ Dh K H v d ∧ ∀ H', Same H H' → Q (.bl (d.isCont ss)) H'
theorem ok_is_content (T : Txt K mg) : FnOk P w K mg base CX0 2 T.f_is_content T.d_is_content ["sizes", "thing"] (spCont K) := by
  refine T.F_is_content.ok sc_is_content (fun vs H Q E h => ?_) (fun cdv A outer s H vs Q E hr h => ?_)
  · obtain ⟨_, _, _, _, _, rfl, _⟩ := h
    rfl
  · obtain ⟨L, p, ss, v, d, rfl, hp, h, q⟩ := h
    obtain ⟨t, ty, ki, kt, kb⟩ := h.kinds
    refine ⟨_, (pss_cons (ps_if (PW.pt (pw_or (pt_not (pt_val (pe_callB (call_isiK' K) (by rfl) T.z_isinstance (by decide +kernel) (pa_cons (pv 1) (pa_cons (pe_bltn (v := .ty "tuple") (by rfl) T.z_tuple (by decide +kernel) rfl) pa_nil))))) (pw_or1 (pt_cmpR op_ne (pe_callB (call_lenK K) (by rfl) T.z_len PySem.boot_len (pa_cons (pv 1) pa_nil)) (pe_callB (call_lenK K) (by rfl) T.z_len PySem.boot_len (pa_cons (pv 0) pa_nil)) (nomark _))))) (pss_one (ps_ret pe_bl)) pss_nil)
      (pss_cons (ps_for PassesOwn.never rfl (pi_zipM (by rfl) T.z_zip (pa_cons (pv 0) (pa_cons (pv 1) pa_nil))) (pg_tupK K (n := 2) rfl (pgs_cons (pg_name (i := 2) sc_is_content.nd rfl (.inl rfl)) (pgs_cons (pg_name (i := 3) sc_is_content.nd rfl (.inl rfl)) pgs_nil))) (pss_one (ps_if (PW.pt (pw_or (pt_not (pt_val (pe_call (ok_is_whole T) hr (by rfl) T.g_is_whole T.F_is_whole.kp T.b_is_whole .nil pass0 (pa_cons (pv 3) pa_nil)))) (pw_or1 (pt_not (pt_chain op_le op_lt pe_int (pv 3) (pv 2)))))) (pss_one (ps_ret pe_bl)) pss_nil)))
      (pss_one (ps_ret pe_bl)))), ?_⟩
    refine ⟨_, rfl, _, _, _, _, _, rfl, .ty _, ty, kt, _, rfl, ?_⟩
    cases hi : d.isTup with
    | false =>
      refine iteT (iteT ?_)
      have e : d.isCont ss = false := by cases d <;> first | rfl | cases hi
      have q' := q H (Same.refl H)
      rw [e] at q'
      exact q'
    | true =>
      refine iteF ?_
      cases d with
      | tup xs =>
        obtain ⟨a, vs, rfl, hs, ha⟩ := h.tup_inv
        refine ⟨_, rfl, a, vs, rfl, .inr hs, _, rfl, p, _, rfl, hp.any, rfl, _, rfl, ?_⟩
        have el : decide (V.int (vs.length : Int) = V.int ((ss.map V.int).length : Int)) = (xs.length == ss.length) := by
          rw [dec_int, ha.length, List.length_map, Bool.eq_iff_iff]
          simp
          omega
        have eq0 : (Dt.tup xs).isCont ss = (xs.length == ss.length && contGo ss xs) := rfl
        rw [eq0] at q
        rw [el]
        cases hl : xs.length == ss.length with
        | false =>
          refine iteT ?_
          rw [hl] at q
          exact q H (Same.refl H)
        | true =>
          refine iteF ?_
          rw [hl, Bool.true_and] at q
          have hlen : xs.length = ss.length := by simpa using hl
          refine ⟨_, rfl, _, rfl, L, p, a, ss.map V.int, vs, rfl, hp, hs, for_zipM (fun i σ H' => ∃ y2 y3, σ = [some (.ref p), some (.ref a), y2, y3] ∧ Same H H' ∧ contGo ss xs = contGo (ss.drop i) (xs.drop i))
            ⟨none, none, rfl, Same.refl H, rfl⟩ (fun i σ H' ⟨_, _, _, sm, _⟩ => ⟨Ext.sqTs sm hp, (Ext.of sm).sqT hs⟩) ?_ ?_⟩
          · rintro i x y Tp σ H' hx hy ⟨y2, y3, rfl, sm, e⟩ nT
            obtain ⟨n, rfl, hn⟩ := int_at hx
            obtain ⟨dx, hdx, hx2⟩ := ha.get hy
            rw [drop_at hn, drop_at hdx] at e
            refine ⟨Tp, [_, y], rfl, SqT.of upd_same, rfl, _, [y], rfl, y, [], rfl, rfl, ?_⟩
            have s1 : Same H (upd H' Tp (.tup [V.int n, y])) := sm.trans (same_new nT)
            refine ⟨_, rfl, spD_bl (.cons (hx2.ext (.of s1)) .nil) rfl fun H1 s2 => ⟨_, rfl, ?_⟩⟩
            cases hw : dx.isW with
            | false =>
              refine iteT (iteT ?_)
              have z : contGo ss xs = false := by
                rw [e]
                cases dx <;> first | rfl | cases hw
              rw [z] at q
              exact q H1 (s1.trans s2)
            | true =>
              refine iteF ?_
              cases dx with
              | int c =>
                cases hx2
                have e' : contGo ss xs = if 0 ≤ c ∧ c < n then contGo (ss.drop (i + 1)) (xs.drop (i + 1)) else false := e
                refine ⟨_, rfl, _, _, rfl, rfl, _, rfl, ?_⟩
                refine ite2 (fun h1 => ?_) (fun h1 => ?_)
                · refine ⟨_, rfl, _, _, rfl, rfl, _, rfl, ?_⟩
                  refine ite2 (fun h2 => ?_) (fun h2 => ?_)
                  · have n2 : ¬ c < n := by simpa using h2
                    rw [if_neg fun z => n2 z.2] at e'
                    rw [e'] at q
                    exact q H1 (s1.trans s2)
                  · have y2 : c < n := by simpa using h2
                    rw [if_pos ⟨of_decide_eq_true h1, y2⟩] at e'
                    exact ⟨_, _, rfl, s1.trans s2, e'⟩
                · refine ⟨_, rfl, iteT ?_⟩
                  rw [if_neg fun z => h1 (decide_eq_true z.1)] at e'
                  rw [e'] at q
                  exact q H1 (s1.trans s2)
              | _ => cases hw
          · rintro σ H' ⟨y2, y3, rfl, sm, e⟩
            have z : contGo ss xs = true := by
              rw [e, List.drop_eq_nil_of_le (as := ss) (by have := ha.length; rw [List.length_map]; omega)]
              rfl
            rw [z] at q
            exact q H' sm
      | _ => cases hi
def sizeGo : Int → List Dt → Option Int
  | m, [] => some m
  | m, .int c :: r => if 2 ≤ c ∧ c ≤ 4 then sizeGo (m * c) r else none
  | _, _ :: _ => none
def Dt.isSizes : Dt → Bool
  | .tup ds => if 1 ≤ ds.length ∧ ds.length ≤ 5 then (match sizeGo 1 ds with | some m => decide (m ≤ 256) | none => false) else false
  | _ => false
def m_is_sizes : List Dt → Option Dt
  | [d] => some (.bl d.isSizes)
  | _ => none
theorem ok_is_sizes (T : Txt K mg) : FnOk P w K mg base CX0 2 T.f_is_sizes T.d_is_sizes ["thing"] (spD K m_is_sizes) := by
  refine T.F_is_sizes.ok sc_is_sizes (fun vs H Q E h => ?_) (fun cdv A outer s H vs Q E hr h => ?_)
  · obtain ⟨ds, r, hd, e, _⟩ := h
    exact match ds, e, hd with | [_], _, hd => hd.length
  · obtain ⟨ds, r, hd, e, q⟩ := h
    match ds, e, hd, q with
    | [d], e, .cons h .nil, q =>
      cases e
      have q : ∀ H', Same H H' → Q (.bl d.isSizes) H' := fun H' s => q _ H' s (.bl _)
      obtain ⟨t, ty, ki, kt, kb⟩ := h.kinds
      refine ⟨_, (pss_cons (ps_if (PW.pt (pw_or (pt_not (pt_val (pe_callB (call_isiK' K) (by rfl) T.z_isinstance (by decide +kernel) (pa_cons (pv 0) (pa_cons (pe_bltn (v := .ty "tuple") (by rfl) T.z_tuple (by decide +kernel) rfl) pa_nil))))) (pw_or1 (pt_not (pt_chain op_le op_le pe_int (pe_callB (call_lenK K) (by rfl) T.z_len PySem.boot_len (pa_cons (pv 0) pa_nil)) (pe_glob (by rfl) T.k_MOST_COLUMNS.1 T.k_MOST_COLUMNS.2)))))) (pss_one (ps_ret pe_bl)) pss_nil)
      (pss_cons (ps_set (i := 1) sc_is_sizes.nd rfl (.inl rfl) pe_int)
      (pss_cons (ps_for PassesOwn.never rfl (pi_tupK K (pv 0)) (pg_name (i := 2) sc_is_sizes.nd rfl (.inl rfl)) (pss_cons (ps_if (PW.pt (pw_or (pt_not (pt_val (pe_call (ok_is_whole T) hr (by rfl) T.g_is_whole T.F_is_whole.kp T.b_is_whole .nil pass0 (pa_cons (pv 2) pa_nil)))) (pw_or1 (pt_not (pt_chain op_le op_le (pe_glob (by rfl) T.k_LEAST_SIZE.1 T.k_LEAST_SIZE.2) (pv 2) (pe_glob (by rfl) T.k_MOST_SIZE.1 T.k_MOST_SIZE.2)))))) (pss_one (ps_ret pe_bl)) pss_nil)
      (pss_one (ps_set (i := 1) sc_is_sizes.nd rfl (.inl rfl) (pe_op op_mul (pv 1) (pv 2))))))
      (pss_one (ps_ret (pe_cmpR op_le (pv 1) (pe_glob (by rfl) T.k_MOST_CONTENTS.1 T.k_MOST_CONTENTS.2) (nomark _))))))), ?_⟩
      refine ⟨_, rfl, _, _, _, _, _, rfl, .ty _, ty, kt, _, rfl, ?_⟩
      cases hi : d.isTup with
      | false =>
        refine iteT (iteT ?_)
        have e : d.isSizes = false := by cases d <;> first | rfl | cases hi
        rw [e] at q
        exact q H (Same.refl H)
      | true =>
        refine iteF ?_
        cases d with
        | tup xs =>
          obtain ⟨a, vs, rfl, hs, ha⟩ := h.tup_inv
          have eq0 : (Dt.tup xs).isSizes = if 1 ≤ xs.length ∧ xs.length ≤ 5 then (match sizeGo 1 xs with | some m => decide (m ≤ 256) | none => false) else false := rfl
          rw [eq0] at q
          have hl := ha.length
          refine ⟨_, rfl, a, vs, rfl, .inr hs, _, _, rfl, rfl, _, rfl, ?_⟩
          have out : ¬ (1 ≤ xs.length ∧ xs.length ≤ 5) → Q (.bl false) H := fun n => by
            rw [if_neg n] at q
            exact q H (Same.refl H)
          refine ite2 (fun h1 => ?_) (fun h1 => ?_)
          · have h1' : (1 : Int) ≤ vs.length := of_decide_eq_true h1
            refine ⟨_, _, rfl, rfl, _, rfl, ?_⟩
            refine ite2 (fun h2 => ?_) (fun h2 => ?_)
            · have n2 : ¬ (vs.length : Int) ≤ 5 := by simpa using h2
              exact out fun z => n2 (by omega)
            · have h2' : (vs.length : Int) ≤ 5 := by simpa using h2
              have hin : 1 ≤ xs.length ∧ xs.length ≤ 5 := ⟨by omega, by omega⟩
              rw [if_pos hin] at q
              refine ⟨_, rfl, a, rfl, ⟨_, hs⟩, for_tup (xs := vs) (fun i σ H' => ∃ (m : Int) (c : Option V), σ = [some (.ref a), some (.int m), c] ∧ Same H H' ∧ sizeGo 1 xs = sizeGo m (xs.drop i))
                ⟨1, none, rfl, Same.refl H, rfl⟩ (fun i σ H' _ ⟨_, _, _, sm, _⟩ => (Ext.of sm).sqT hs) ?_ ?_⟩
              · rintro i x σ H' hx ⟨m, c, rfl, sm, e⟩
                obtain ⟨dx, hdx, hx2⟩ := ha.get hx
                rw [drop_at hdx] at e
                refine ⟨_, rfl, spD_bl (.cons (hx2.ext (.of sm)) .nil) rfl fun H1 s1 => ⟨_, rfl, ?_⟩⟩
                have bad : sizeGo m (dx :: xs.drop (i + 1)) = none → Q (.bl false) H1 := fun z => by
                  rw [e, z] at q
                  exact q H1 (sm.trans s1)
                cases hw : dx.isW with
                | false =>
                  refine iteT (iteT ?_)
                  exact bad (by cases dx <;> first | rfl | cases hw)
                | true =>
                  refine iteF ?_
                  cases dx with
                  | int c =>
                    cases hx2
                    have e' : sizeGo m (Dt.int c :: xs.drop (i + 1)) = if 2 ≤ c ∧ c ≤ 4 then sizeGo (m * c) (xs.drop (i + 1)) else none := rfl
                    refine ⟨_, rfl, _, _, rfl, rfl, _, rfl, ?_⟩
                    refine ite2 (fun h1 => ?_) (fun h1 => ?_)
                    · refine ⟨_, _, rfl, rfl, _, rfl, ?_⟩
                      refine ite2 (fun h2 => ?_) (fun h2 => ?_)
                      · have n2 : ¬ c ≤ 4 := by simpa using h2
                        exact bad (by rw [e', if_neg fun z => n2 z.2])
                      · have y2 : c ≤ 4 := by simpa using h2
                        have y1 : 2 ≤ c := of_decide_eq_true h1
                        refine ⟨_, rfl, _, rfl, _, _, rfl, rfl, .inr ⟨by omega, by omega⟩, ?_⟩
                        refine ⟨_, _, rfl, sm.trans s1, ?_⟩
                        rw [e, e', if_pos ⟨y1, y2⟩]
                    · refine ⟨_, rfl, iteT ?_⟩
                      exact bad (by rw [e', if_neg fun z => h1 (decide_eq_true z.1)])
                  | _ => cases hw
              · rintro σ H' ⟨m, c, rfl, sm, e⟩
                rw [List.drop_eq_nil_of_le (as := xs) (by omega)] at e
                have e2 : sizeGo 1 xs = some m := e
                rw [e2] at q
                exact ⟨_, rfl, _, _, rfl, rfl, q H' sm⟩
          · refine ⟨_, rfl, iteT ?_⟩
            exact out fun z => h1 (decide_eq_true (by omega))
        | _ => cases hi

end
end Fm
namespace Fm
open PySem PySem.Spec PyProof.Rows L2
section
variable {P : Program} {w : World} {K : PySem.W.Frag} {mg : Str → Option Value} {base : Heap}

/-! ### contents -/
theorem ints_dh {K : PySem.W.Frag} {H : Hp} : ∀ c : List Int, DhAll K H (c.map V.int) (c.map Dt.int)
  | [] => .nil
  | i :: r => .cons (.int i) (ints_dh r)
theorem dh_ints {K : PySem.W.Frag} {H : Hp} : ∀ {vs : List V} (c : List Int), DhAll K H vs (c.map Dt.int) → vs = c.map V.int
  | [], [], _ => rfl
  | v :: vs, i :: r, .cons h t => by rw [h.int_inv, dh_ints r t]; rfl
def ctD (c : List Int) : Dt := .tup (c.map Dt.int)
theorem dh_ct {K : PySem.W.Frag} {H : Hp} {a : Addr} {c : List Int} (h : SqT K H a (c.map V.int)) : Dh K H (.ref a) (ctD c) := .tup h (ints_dh c)
theorem ct_inv {K : PySem.W.Frag} {H : Hp} {v : V} {c : List Int} (h : Dh K H v (ctD c)) : ∃ a, v = .ref a ∧ SqT K H a (c.map V.int) := by
  obtain ⟨a, xs, rfl, s, t⟩ := h.tup_inv
  rw [dh_ints c t] at s
  exact ⟨a, rfl, s⟩
def ext (n : Nat) (c : List Int) : List (List Int) := (List.range n).map fun (w : Nat) => c ++ [(w : Int)]
theorem ext_succ (n : Nat) (c : List Int) : ext (n + 1) c = ext n c ++ [c ++ [(n : Int)]] := by
  unfold ext
  rw [List.range_succ, List.map_append]
  rfl
theorem ext_len (n : Nat) (c : List Int) : (ext n c).length = n := by simp [ext]
theorem flat_len (n : Nat) : ∀ l : List (List Int), (l.flatMap (ext n)).length = l.length * n
  | [] => by simp
  | c :: r => by rw [List.flatMap_cons, List.length_append, ext_len, flat_len n r, List.length_cons, Nat.add_mul, Nat.one_mul, Nat.add_comm]
def stepC (found : List (List Int)) (s : Int) : List (List Int) := found.flatMap (ext s.toNat)
def allC (ss : List Int) : List (List Int) := ss.foldl stepC [[]]
theorem allC_snoc (ss : List Int) (s : Int) : allC (ss ++ [s]) = stepC (allC ss) s := by
  unfold allC
  rw [List.foldl_append]
  rfl
/-- how far a comprehension has come: i lists wholly, of the next one j items -/
def upTo (cs : List (List Int)) (n i j : Nat) : List (List Int) := (cs.take i).flatMap (ext n) ++ match cs[i]? with
  | some c => ext j c
  | none => []
theorem upTo_step {cs : List (List Int)} {n i j : Nat} {c : List Int} (h : cs[i]? = some c) : upTo cs n i (j + 1) = upTo cs n i j ++ [c ++ [(j : Int)]] := by
  unfold upTo
  rw [h]
  dsimp only
  rw [ext_succ, List.append_assoc]
theorem upTo_next {cs : List (List Int)} {n i : Nat} {c : List Int} (h : cs[i]? = some c) : upTo cs n i n = upTo cs n (i + 1) 0 := by
  have e0 : (match cs[i + 1]? with
      | some c => ext 0 c
      | none => []) = [] := by
    cases cs[i + 1]? <;> rfl
  unfold upTo
  rw [e0, h, List.take_add_one, h]
  simp
theorem upTo_end {cs : List (List Int)} {n : Nat} : upTo cs n cs.length 0 = cs.flatMap (ext n) := by
  unfold upTo
  rw [List.getElem?_eq_none (Nat.le_refl _), List.take_length]
  simp
theorem upTo_zero {cs : List (List Int)} {n : Nat} : upTo cs n 0 0 = [] := by
  unfold upTo
  cases cs[0]? <;> rfl
theorem upTo_len {cs : List (List Int)} {n i j : Nat} : (upTo cs n i j).length ≤ cs.length * n + j := by
  unfold upTo
  rw [List.length_append, flat_len, List.length_take]
  have h1 : min i cs.length * n ≤ cs.length * n := Nat.mul_le_mul_right _ (Nat.min_le_right _ _)
  cases cs[i]? with
  | none => simp; omega
  | some c =>
    dsimp only
    rw [ext_len]
    omega
def SizesOk (ss : List Int) : Prop := (Dt.tup (ss.map Dt.int)).isSizes = true
theorem sizeGo_mem : ∀ (m : Int) (ss : List Int) (r : Int), sizeGo m (ss.map Dt.int) = some r → ∀ s ∈ ss, 2 ≤ s ∧ s ≤ 4
  | _, [], _, _ => fun _ h => by simp at h
  | m, c :: ss, r, h => fun s hs => by
    have h' : (if 2 ≤ c ∧ c ≤ 4 then sizeGo (m * c) (ss.map Dt.int) else none) = some r := h
    by_cases hc : 2 ≤ c ∧ c ≤ 4
    · rw [if_pos hc] at h'
      rcases List.mem_cons.mp hs with e | e
      · rw [e]
        exact hc
      · exact sizeGo_mem _ ss r h' s e
    · rw [if_neg hc] at h'
      cases h'
theorem SizesOk.facts {ss : List Int} (h : SizesOk ss) : 1 ≤ ss.length ∧ ss.length ≤ 5 ∧ ∀ s ∈ ss, 2 ≤ s ∧ s ≤ 4 := by
  have h' : (if 1 ≤ (ss.map Dt.int).length ∧ (ss.map Dt.int).length ≤ 5 then (match sizeGo 1 (ss.map Dt.int) with
    | some m => decide (m ≤ 256)
    | none => false) else false) = true := h
  rw [List.length_map] at h'
  by_cases hl : 1 ≤ ss.length ∧ ss.length ≤ 5
  · rw [if_pos hl] at h'
    cases e : sizeGo 1 (ss.map Dt.int) with
    | none =>
      rw [e] at h'
      cases h'
    | some m => exact ⟨hl.1, hl.2, sizeGo_mem 1 ss m e⟩
  · rw [if_neg hl] at h'
    cases h'
theorem allC_len {ss : List Int} (h : ∀ s ∈ ss, s ≤ 4) : ∀ i, (allC (ss.take i)).length ≤ 4 ^ i ∧ ∀ c ∈ allC (ss.take i), c.length ≤ i
  | 0 => ⟨by simp [allC], by simp [allC]⟩
  | i + 1 => by
    obtain ⟨h1, h2⟩ := allC_len h i
    cases e : ss[i]? with
    | none =>
      have e' : ss.take (i + 1) = ss.take i := by rw [List.take_add_one, e]; simp
      rw [e']
      exact ⟨Nat.le_trans h1 (Nat.pow_le_pow_right (by decide) (Nat.le_succ i)), fun c hc => Nat.le_succ_of_le (h2 c hc)⟩
    | some s =>
      have e' : ss.take (i + 1) = ss.take i ++ [s] := by rw [List.take_add_one, e]; rfl
      have hs : s ≤ 4 := h s (List.mem_of_getElem? e)
      rw [e', allC_snoc]
      unfold stepC
      refine ⟨?_, fun c hc => ?_⟩
      · rw [flat_len, Nat.pow_succ]
        exact Nat.mul_le_mul h1 (by omega)
      · obtain ⟨b, hb, hc⟩ := List.mem_flatMap.mp hc
        obtain ⟨w, _, rfl⟩ := List.mem_map.mp hc
        rw [List.length_append]
        exact Nat.add_le_add_right (h2 b hb) 1
theorem allC_all {ss : List Int} (h : SizesOk ss) : (allC ss).length ≤ 1024 ∧ ∀ c ∈ allC ss, c.length ≤ 5 := by
  obtain ⟨_, h5, hm⟩ := h.facts
  have q := allC_len (fun s hs => (hm s hs).2) ss.length
  rw [List.take_length] at q
  refine ⟨Nat.le_trans q.1 (Nat.pow_le_pow_right (by decide) h5), fun c hc => Nat.le_trans (q.2 c hc) h5⟩
theorem map_at {α β : Type} {l : List α} {f : α → β} {i : Nat} {y : β} (h : (l.map f)[i]? = some y) : ∃ x, l[i]? = some x ∧ f x = y := by
  rw [List.getElem?_map] at h
  cases e : l[i]? with
  | none =>
    rw [e] at h
    cases h
  | some x =>
    rw [e] at h
    exact ⟨x, rfl, Option.some.inj h⟩
theorem sz_small {n : Nat} (h : n ≤ 100000) : n < sizeLine := Nat.lt_of_le_of_lt h (by decide)
theorem Same.put {H0 H : Hp} {D : Addr} {o : HO} (h : H0 D = none) (s : Same H0 H) : Same H0 (upd H D o) := fun b x e => by
  rw [upd_ne (ne_of_none e h)]
  exact s b x e
/-- the list that is made at D is no part of what stood before -/
theorem Ext.put {H : Hp} {D : Addr} {xs ys : List V} (h : H D = some (.lst xs)) : Ext H (upd H D (.lst ys)) := fun b o e => by
  by_cases hb : b = D
  · subst hb
    rw [h] at e
    cases e
    exact .inr ⟨⟨xs, rfl⟩, ys, upd_same⟩
  · rw [upd_ne hb]
    exact .inl e
/-- content + (worth,) -/
theorem cat_ct {K : PySem.W.Frag} {H : Hp} {Q : VK} {x : V} {c : List Int} {j : Int} (hc : Dh K H x (ctD c)) (hl : c.length ≤ 1000) {r : Addr} (hr : H r = some (.tup [.int j]))
    (q : ∀ v H', Same H H' → Dh K H' v (ctD (c ++ [j])) → Q v H') : rCatA K x (.ref r) H Q := by
  obtain ⟨a, rfl, s⟩ := ct_inv hc
  refine ⟨a, r, _, _, rfl, rfl, s, SqT.of hr, ?_, fun e => ?_, fun _ e => (nomatch e), fun _ _ p hp => ?_⟩
  · rw [List.length_map]
    exact Nat.le_of_lt (sz_small (by show c.length + 1 ≤ 100000; omega))
  · have e0 : c = [] := List.map_eq_nil_iff.mp e
    subst e0
    exact q _ _ (Same.refl H) (dh_ct (c := [j]) (SqT.of hr))
  · refine q _ _ (same_new hp) (dh_ct ?_)
    rw [List.map_append]
    exact SqT.of upd_same
def spAll (K : PySem.W.Frag) : Sp := fun vs H Q _ => ∃ (a : Addr) (ss : List Int), vs = [.ref a] ∧ SqT K H a (ss.map V.int) ∧ SizesOk ss ∧ ∀ p xs H', H p = none → Same H H' → H' p = some (.lst xs) → DhAll K H' xs ((allC ss).map ctD) → Q (.ref p) H'
/-! ### patterns, contents as data -/
def InR (ps : List Int) (n : Int) : Prop := ∀ p ∈ ps, 0 ≤ p ∧ p < n
def Asc (n : Int) : Int → List Int → Prop
  | _, [] => True
  | l, c :: r => l < c ∧ c < n ∧ Asc n c r
theorem patGo_asc {n : Int} : ∀ {l : Int} {ds : List Dt}, patGo n l ds = true → ∃ ps, ds = ps.map Dt.int ∧ Asc n l ps
  | _, [], _ => ⟨[], rfl, True.intro⟩
  | l, .int c :: r, h => by
    have h' : (if l < c ∧ c < n then patGo n c r else false) = true := h
    by_cases hc : l < c ∧ c < n
    · rw [if_pos hc] at h'
      obtain ⟨ps, rfl, ha⟩ := patGo_asc h'
      exact ⟨c :: ps, rfl, hc.1, hc.2, ha⟩
    · rw [if_neg hc] at h'
      cases h'
  | _, .non :: _, h => by cases h
  | _, .bl _ :: _, h => by cases h
  | _, .str _ :: _, h => by cases h
  | _, .tup _ :: _, h => by cases h
  | _, .oth _ :: _, h => by cases h
theorem asc_patGo {n : Int} : ∀ {l : Int} {ps : List Int}, Asc n l ps → patGo n l (ps.map Dt.int) = true
  | _, [], _ => rfl
  | l, c :: r, ⟨h1, h2, h3⟩ => by
    show (if l < c ∧ c < n then patGo n c (r.map Dt.int) else false) = true
    rw [if_pos ⟨h1, h2⟩]
    exact asc_patGo h3
theorem Asc.mem {n : Int} : ∀ {l : Int} {ps : List Int}, Asc n l ps → ∀ p ∈ ps, l < p ∧ p < n
  | l, c :: r, ⟨h1, h2, h3⟩, p, hp => by
    rcases List.mem_cons.mp hp with e | e
    · rw [e]
      exact ⟨h1, h2⟩
    · have := h3.mem p e
      omega
theorem Asc.inR {n : Int} {ps : List Int} (h : Asc n (-1) ps) : InR ps n := fun p hp => by
  have := h.mem p hp
  omega
theorem Asc.lenA {n : Int} : ∀ {l : Int} {ps : List Int}, Asc n l ps → l < n → (ps.length : Int) + l < n
  | l, [], _, h => by simpa using h
  | l, c :: r, ⟨h1, h2, h3⟩, _ => by
    have := h3.lenA h2
    rw [List.length_cons]
    omega
theorem Asc.len {n : Int} {ps : List Int} (h : Asc n (-1) ps) (hn : 0 ≤ n) : (ps.length : Int) ≤ n := by
  have := h.lenA (by omega)
  omega
def Dt.ints : Dt → List Int
  | .tup ds => ds.map fun d => match d with
    | .int i => i
    | _ => 0
  | _ => []
theorem ints_ct (c : List Int) : (ctD c).ints = c := by
  show (c.map Dt.int).map _ = c
  rw [List.map_map]
  conv => rhs; rw [← List.map_id c]
  rfl
theorem isPat_ct {n : Int} {d : Dt} (h : d.isPat n = true) : ∃ ps, d = ctD ps ∧ Asc n (-1) ps := by
  cases d with
  | tup ds =>
    obtain ⟨ps, rfl, a⟩ := patGo_asc (show patGo n (-1) ds = true from h)
    exact ⟨ps, rfl, a⟩
  | _ => cases h
theorem dh_two {K : PySem.W.Frag} {H : Hp} {xs : List V} {d1 d2 : Dt} : DhAll K H xs [d1, d2] → ∃ v1 v2, xs = [v1, v2] ∧ Dh K H v1 d1 ∧ Dh K H v2 d2
  | .cons h1 (.cons h2 .nil) => ⟨_, _, rfl, h1, h2⟩
abbrev ctP (c : List Int) : PyData := .tuple (c.map PyData.int)
abbrev ctsP (cs : List (List Int)) : PyData := .list (cs.map ctP)
theorem lay_all {α : Type} {f : α → PyData} {n : Nat} (h : ∀ x, (f x).canLay0 = true ∧ (f x).depth ≤ n) : ∀ l : List α, PyData.canLayAll0 (l.map f) = true ∧ PyData.depthAll (l.map f) ≤ n
  | [] => ⟨rfl, Nat.zero_le _⟩
  | x :: r => by
    obtain ⟨h1, h2⟩ := lay_all h r
    obtain ⟨h3, h4⟩ := h x
    refine ⟨?_, ?_⟩
    · show ((f x).canLay0 && PyData.canLayAll0 (r.map f)) = true
      rw [h1, h3]
      rfl
    · show max (f x).depth (PyData.depthAll (r.map f)) ≤ n
      exact Nat.max_le.mpr ⟨h4, h2⟩
theorem lay_ct (c : List Int) : (ctP c).canLay0 = true ∧ (ctP c).depth ≤ 1 := by
  obtain ⟨h1, h2⟩ := lay_all (f := PyData.int) (n := 0) (fun _ => ⟨rfl, Nat.le_refl _⟩) c
  exact ⟨h1, Nat.succ_le_succ h2⟩
theorem shaped_of {d : PyData} {n : Nat} (h : d.canLay0 = true ∧ d.depth ≤ n) (hn : n ≤ 64) : SeqAt.shaped d = true := by
  unfold SeqAt.shaped
  rw [h.1, decide_eq_true (Nat.le_trans h.2 hn)]
  rfl
theorem shaped_ct (c : List Int) : SeqAt.shaped (ctP c) = true := shaped_of (lay_ct c) (by decide)
theorem lay_cts (cs : List (List Int)) : (ctsP cs).canLay0 = true ∧ (ctsP cs).depth ≤ 2 := by
  obtain ⟨h1, h2⟩ := lay_all (f := fun c => ctP c) (n := 1) lay_ct cs
  exact ⟨h1, Nat.succ_le_succ h2⟩
theorem shaped_cts (cs : List (List Int)) : SeqAt.shaped (ctsP cs) = true := shaped_of (lay_cts cs) (by decide)
theorem eqv_all {α : Type} [DecidableEq α] {f : α → PyData} (h : ∀ x y, PyData.eqv (f x) (f y) = decide (x = y)) : ∀ l m : List α, PyData.eqvAll (l.map f) (m.map f) = decide (l = m)
  | [], [] => by simp [PyData.eqvAll]
  | [], _ :: _ => by simp [PyData.eqvAll]
  | _ :: _, [] => by simp [PyData.eqvAll]
  | x :: l, y :: m => by
    rw [List.map_cons, List.map_cons, PyData.eqvAll, h, eqv_all h l m]
    by_cases e1 : x = y <;> by_cases e2 : l = m <;> simp [e1, e2]
theorem eqv_ct (c d : List Int) : PyData.eqv (ctP c) (ctP d) = decide (c = d) := by
  rw [PyData.eqv]
  exact eqv_all (f := PyData.int) (fun x y => by rw [PyData.eqv]; by_cases e : x = y <;> simp [e]) c d
theorem eqv_cts (c d : List (List Int)) : PyData.eqv (ctsP c) (ctsP d) = decide (c = d) := by
  rw [PyData.eqv]
  exact eqv_all (f := fun c => ctP c) eqv_ct c d
theorem dp_ints {K : PySem.W.Frag} {H : Hp} : ∀ c : List Int, DpAll K H (c.map V.int) (c.map PyData.int)
  | [] => .nil
  | i :: r => .cons (.int i) (dp_ints r)
theorem dp_ct {K : PySem.W.Frag} {H : Hp} {v : V} {c : List Int} (h : Dh K H v (ctD c)) : Dp K H v (ctP c) := by
  obtain ⟨a, rfl, s⟩ := ct_inv h
  exact .tup s (dp_ints c)
theorem dp_ctAll {K : PySem.W.Frag} {H : Hp} : ∀ {xs : List V} (cs : List (List Int)), DhAll K H xs (cs.map ctD) → DpAll K H xs (cs.map ctP)
  | _, [], .nil => .nil
  | _, _ :: r, .cons h t => .cons (dp_ct h) (dp_ctAll r t)
theorem dp_cts {K : PySem.W.Frag} {H : Hp} {a : Addr} {xs : List V} {cs : List (List Int)} (s : SqL K H a xs) (h : DhAll K H xs (cs.map ctD)) : Dp K H (.ref a) (ctsP cs) := .lst s (dp_ctAll cs h)
def IsCt (ss c : List Int) : Prop := (ctD c).isCont ss = true
theorem IsCt.len {ss c : List Int} (h : IsCt ss c) : c.length = ss.length := by
  have h' : ((c.map Dt.int).length == ss.length && contGo ss (c.map Dt.int)) = true := h
  rw [Bool.and_eq_true] at h'
  simpa using h'.1
theorem Asc.isPat {n : Int} {ps : List Int} (h : Asc n (-1) ps) : (ctD ps).isPat n = true := asc_patGo h

end
end Fm
namespace Fm
open PySem PySem.Spec PyProof.Rows L2
section
variable {P : Program} {w : World} {K : PySem.W.Frag} {mg : Str → Option Value} {base : Heap}

/-! ### the drawing hand -/
abbrev hv (c : Addr) (i big acc cnt : Int) : List V := [.ref c, .int i, .int big, .int acc, .int cnt]
/-- at h a hand: its cells at c -/
structure HandOk (H : Hp) (h c : Addr) : Prop where
  ex : ∃ (i big acc cnt : Int) (cells : List Int), H h = some (.lst (hv c i big acc cnt)) ∧ H c = some (.lst (cells.map V.int)) ∧ 0 ≤ i
/-- all but the hand is as it was -/
structure Keep (h c : Addr) (H H' : Hp) : Prop where
  rest : ∀ b o, b ≠ h → H b = some o → H' b = some o
  hand : HandOk H' h c
theorem HandOk.same {H H' : Hp} {h c : Addr} (x : HandOk H h c) (s : Same H H') : HandOk H' h c := by
  obtain ⟨i, big, acc, cnt, cells, e1, e2, e3⟩ := x.ex
  exact ⟨i, big, acc, cnt, cells, s _ _ e1, s _ _ e2, e3⟩
theorem Keep.of {H H' : Hp} {h c : Addr} (x : HandOk H h c) (s : Same H H') : Keep h c H H' := ⟨fun b o _ e => s b o e, x.same s⟩
theorem Keep.trans {H H1 H2 : Hp} {h c : Addr} (a : Keep h c H H1) (b : Keep h c H1 H2) : Keep h c H H2 := ⟨fun z o n e => b.rest z o n (a.rest z o n e), b.hand⟩
theorem Keep.same {H H1 H2 : Hp} {h c : Addr} (a : Keep h c H H1) (s : Same H1 H2) : Keep h c H H2 := a.trans (.of a.hand s)
theorem Keep.ext {H H' : Hp} {h c : Addr} (x : HandOk H h c) (k : Keep h c H H') : Ext H H' := fun b o e => by
  by_cases hb : b = h
  · subst hb
    obtain ⟨i, big, acc, cnt, cells, e1, _⟩ := x.ex
    obtain ⟨i', big', acc', cnt', cells', e1', _⟩ := k.hand.ex
    rw [e1] at e
    cases e
    exact .inr ⟨⟨_, rfl⟩, _, e1'⟩
  · exact .inl (k.rest b o hb e)
theorem Keep.free {H H' : Hp} {h c p : Addr} (x : HandOk H h c) (k : Keep h c H H') (n : H' p = none) : H p = none := by
  cases e : H p with
  | none => rfl
  | some o =>
    rcases Keep.ext x k p o e with q | ⟨_, ys, q⟩
    · rw [n] at q
      cases q
    · rw [n] at q
      cases q
theorem HandOk.ne {H : Hp} {h c p : Addr} (x : HandOk H h c) (n : H p = none) : p ≠ h ∧ p ≠ c := by
  obtain ⟨_, _, _, _, _, e1, e2, _⟩ := x.ex
  exact ⟨(ne_of_none e1 n).symm, (ne_of_none e2 n).symm⟩
/-- a new object that the hand has nothing to do with is changed -/
theorem Keep.put {H H' : Hp} {h c D : Addr} {o : HO} (x : HandOk H h c) (k : Keep h c H H') (n : H D = none) : Keep h c H (upd H' D o) := by
  obtain ⟨n1, n2⟩ := x.ne n
  refine ⟨fun b u nb e => ?_, ?_⟩
  · rw [upd_ne (ne_of_none e n)]
    exact k.rest b u nb e
  · obtain ⟨i, big, acc, cnt, cells, e1, e2, e3⟩ := k.hand.ex
    refine ⟨i, big, acc, cnt, cells, ?_, ?_, e3⟩
    · rw [upd_ne n1.symm]
      exact e1
    · rw [upd_ne n2.symm]
      exact e2
def spDraw (_K : PySem.W.Frag) : Sp := fun vs H Q _ => ∃ (h c : Addr) (many : Int), vs = [.ref h, .int many] ∧ HandOk H h c ∧ 0 < many ∧ many < 1073741824 ∧ ∀ d H', 0 ≤ d → d < many → Keep h c H H' → Q (.int d) H'
theorem upd_keep {H H' : Hp} {h : Addr} {o : HO} (k : ∀ b u, b ≠ h → H b = some u → H' b = some u) : ∀ b u, b ≠ h → H b = some u → (upd H' h o) b = some u := fun b u n e => by
  rw [upd_ne n]
  exact k b u n e
theorem ok_law_draw (T : Txt K mg) : FnOk P w K mg base CX0 1 T.f_law_draw T.d_law_draw ["hand", "many"] (spDraw K) := by
  refine T.F_law_draw.ok sc_law_draw (fun vs H Q E h => ?_) (fun cdv A outer s H vs Q E hr h => ?_)
  · obtain ⟨_, _, _, rfl, _⟩ := h
    rfl
  · obtain ⟨h, c, many, rfl, hx, m0, m1, q⟩ := h
    obtain ⟨i, big, acc, cnt, cells, hh, hc, hi⟩ := hx.ex
    have nch : c ≠ h := fun e => by
      rw [e, hh] at hc
      have z := HO.lst.inj (Option.some.inj hc)
      cases cells with
      | nil => cases z
      | cons y r =>
        have z' := (List.cons.inj z).1
        cases z'
    refine ⟨_, (C8.pss_cut (ps_if (PW.pt (pw_and (pt_cmpR op_eq (pe_ix (ix_listK K) (pv 0) pe_int (fun _ _ => rfl)) pe_int (nomark _)) (pw_and1 (pt_cmpR op_lt (pe_ix (ix_listK K) (pv 0) pe_int (fun _ _ => rfl)) (pe_callB (call_lenK K) (by rfl) T.z_len PySem.boot_len (pa_cons (pe_ix (ix_listK K) (pv 0) pe_int (fun _ _ => rfl)) pa_nil)) (nomark _))))) (pss_cons (ps_set (i := 3) sc_law_draw.nd rfl (.inl rfl) (pe_ix (ix_listK K) (pe_ix (ix_listK K) (pv 0) pe_int (fun _ _ => rfl)) (pe_ix (ix_listK K) (pv 0) pe_int (fun _ _ => rfl)) (fun _ _ => rfl)))
      (pss_cons (ps_asg (pe_op op_add (pe_ix (ix_listK K) (pv 0) pe_int (fun _ _ => rfl)) pe_int) (pg_sub (pv 0) pe_int set_list))
      (pss_cons (ps_asg (pe_op op_mod (pe_callTy call_int1 (by rfl) T.z_int (by decide +kernel) (pa_cons (pe_op op_add (pe_op op_add (pe_op op_mul (pe_ix (ix_listK K) (pv 0) pe_int (fun _ _ => rfl)) pe_int) (pv 3)) pe_int) pa_nil)) pe_int) (pg_sub (pv 0) pe_int set_list))
      (pss_one (ps_if (pt_cmpR op_ge (pv 3) (pe_op op_pow pe_int pe_int) (nomark _)) (pss_one (ps_asg (pv 3) (pg_sub (pv 0) pe_int set_list))) pss_nil))))) pss_nil)
      (pss_cons (ps_if (pt_cmpR op_gt (pe_ix (ix_listK K) (pv 0) pe_int (fun _ _ => rfl)) pe_int (nomark _)) (pss_cons (ps_set (i := 4) sc_law_draw.nd rfl (.inl rfl) (pe_op op_mod (pe_callTy call_int1 (by rfl) T.z_int (by decide +kernel) (pa_cons (pe_ix (ix_listK K) (pv 0) pe_int (fun _ _ => rfl)) pa_nil)) (pv 1)))
      (pss_cons (ps_asg (pe_op op_fdiv (pe_ix (ix_listK K) (pv 0) pe_int (fun _ _ => rfl)) (pv 1)) (pg_sub (pv 0) pe_int set_list))
      (pss_one (ps_ret (pv 4))))) pss_nil)
      (pss_cons (ps_asg (pe_op op_add (pe_ix (ix_listK K) (pv 0) pe_int (fun _ _ => rfl)) pe_int) (pg_sub (pv 0) pe_int set_list))
      (pss_cons (ps_set (i := 2) sc_law_draw.nd rfl (.inl rfl) (pe_op op_mod (pe_callTy call_int1 (by rfl) T.z_int (by decide +kernel) (pa_cons (pe_op op_mul (pe_callTy call_int1 (by rfl) T.z_int (by decide +kernel) (pa_cons (pe_op op_add (pe_ix (ix_listK K) (pv 0) pe_int (fun _ _ => rfl)) (pe_op op_mul pe_int (pe_ix (ix_listK K) (pv 0) pe_int (fun _ _ => rfl)))) pa_nil)) pe_int) pa_nil)) pe_int))
      (pss_cons (ps_set (i := 2) sc_law_draw.nd rfl (.inl rfl) (pe_op op_mod (pe_callTy call_int1 (by rfl) T.z_int (by decide +kernel) (pa_cons (pe_op op_mul (pv 2) (pe_op op_add (pe_op op_fdiv (pv 2) pe_int) pe_int)) pa_nil)) pe_int))
      (pss_cons (ps_set (i := 2) sc_law_draw.nd rfl (.inl rfl) (pe_op op_mod (pe_callTy call_int1 (by rfl) T.z_int (by decide +kernel) (pa_cons (pe_op op_mul (pv 2) (pe_op op_add (pe_op op_fdiv (pv 2) pe_int) pe_int)) pa_nil)) pe_int))
      (pss_one (ps_ret (pe_op op_mod (pe_callTy call_int1 (by rfl) T.z_int (by decide +kernel) (pa_cons (pe_op op_fdiv (pv 2) pe_int) pa_nil)) (pv 1)))))))))), ?_⟩
    refine ⟨fun σ H' => ∃ (i big acc : Int) (y2 y3 y4 : Option V), σ = [some (.ref h), some (.int many), y2, y3, y4] ∧ (∀ b o, b ≠ h → H b = some o → H' b = some o) ∧ 0 ≤ i ∧ H' h = some (.lst (hv c i big acc cnt)), ?_, ?_⟩
    · have skip : ∃ (i big acc : Int) (y2 y3 y4 : Option V), ([some (.ref h), some (.int many), none, none, none] : L2.St) = [some (.ref h), some (.int many), y2, y3, y4] ∧ (∀ b o, b ≠ h → H b = some o → H b = some o) ∧ 0 ≤ i ∧ H h = some (.lst (hv c i big acc cnt)) := ⟨i, big, acc, none, none, none, rfl, fun _ _ _ e => e, hi, hh⟩
      refine ⟨_, rfl, h, _, 2, _, rfl, rfl, SqL.of hh, atI_nat (j := 2) rfl, rfl, _, rfl, ?_⟩
      refine ite2 (fun _ => ?_) (fun _ => ?_)
      · refine ⟨_, rfl, h, _, 1, _, rfl, rfl, SqL.of hh, atI_nat (j := 1) rfl, _, rfl, h, _, 0, _, rfl, rfl, SqL.of hh, atI_nat (j := 0) rfl, c, _, rfl, .inl (SqL.of hc), _, _, rfl, rfl, _, rfl, ?_⟩
        refine ite2 (fun hlt => ?_) (fun _ => skip)
        have hlt' : i < cells.length := by
          have := of_decide_eq_true hlt
          rw [List.length_map] at this
          exact this
        have hcell : atI (cells.map V.int) i = some (.int (cells[i.toNat]'(by omega))) := by
          refine at_of (j := i.toNat) (by omega) ?_
          rw [List.getElem?_map, List.getElem?_eq_getElem (by omega)]
          rfl
        generalize cells[i.toNat]'(by omega) = cell at hcell
        refine ⟨_, rfl, h, _, 0, _, rfl, rfl, SqL.of hh, atI_nat (j := 0) rfl, _, rfl, h, _, 1, _, rfl, rfl, SqL.of hh, atI_nat (j := 1) rfl, c, _, _, _, rfl, rfl, SqL.of hc, hcell, ?_⟩
        -- hand[1] = hand[1] + 1
        refine ⟨_, rfl, h, _, 1, _, rfl, rfl, SqL.of hh, atI_nat (j := 1) rfl, _, _, rfl, rfl, _, rfl, h, _, 1, 1, rfl, rfl, hh, rfl, ?_⟩
        -- hand[3] = ..
        refine ⟨_, rfl, h, _, 3, _, rfl, rfl, SqL.of upd_same, atI_nat (j := 3) rfl, _, _, rfl, rfl, .inr ⟨by decide, by decide⟩, _, rfl, _, _, rfl, rfl, _, _, rfl, rfl, .inl ⟨_, rfl, _, _, rfl, rfl, show (0 : Int) < 2147483629 by decide, _, rfl, h, _, 3, 3, rfl, rfl, upd_same, rfl, ?_⟩⟩
        refine ⟨_, rfl, _, _, rfl, rfl, ⟨by decide, by decide, by decide⟩, _, _, rfl, rfl, _, rfl, ?_⟩
        have kp : ∀ b u, b ≠ h → H b = some u → (upd (upd H h (.lst ((hv c i big acc cnt).set 1 (V.int (i + 1))))) h (.lst (((hv c i big acc cnt).set 1 (V.int (i + 1))).set 3 (V.int ((acc * 69621 + cell + 11) % 2147483629))))) b = some u := upd_keep (upd_keep fun _ _ _ e => e)
        refine ite2 (fun _ => ?_) (fun _ => ?_)
        · refine ⟨_, rfl, _, rfl, h, _, 2, 2, rfl, rfl, upd_same, rfl, ?_⟩
          exact ⟨i + 1, cell, _, none, some (.int cell), none, rfl, upd_keep kp, by omega, upd_same⟩
        · exact ⟨i + 1, big, _, none, some (.int cell), none, rfl, kp, by omega, upd_same⟩
      · exact skip
    · rintro σ H' ⟨i, big, acc, y2, y3, y4, rfl, kp, hi, hh⟩
      have hc' : H' c = some (.lst (cells.map V.int)) := kp c _ nch hc
      refine ⟨_, rfl, h, _, 2, _, rfl, rfl, SqL.of hh, atI_nat (j := 2) rfl, _, _, rfl, rfl, _, rfl, ?_⟩
      refine ite2 (fun _ => ?_) (fun _ => ?_)
      · -- digit = int(hand[2]) % many; hand[2] = hand[2] // many
        refine ⟨_, rfl, h, _, 2, _, rfl, rfl, SqL.of hh, atI_nat (j := 2) rfl, .inl ⟨_, rfl, _, rfl, _, _, rfl, rfl, m0, ?_⟩⟩
        refine ⟨_, rfl, h, _, 2, _, rfl, rfl, SqL.of hh, atI_nat (j := 2) rfl, _, rfl, _, _, rfl, rfl, ⟨m0, m1⟩, _, rfl, h, _, 2, 2, rfl, rfl, hh, rfl, ?_⟩
        refine ⟨_, rfl, ?_⟩
        refine q (big % many) _ (Int.emod_nonneg _ (by omega)) (Int.emod_lt_of_pos _ m0) ⟨upd_keep kp, ⟨i, big / many, acc, cnt, cells, upd_same, ?_, hi⟩⟩
        rw [upd_ne nch]
        exact hc'
      · -- hand[4] = hand[4] + 1
        refine ⟨_, rfl, h, _, 4, _, rfl, rfl, SqL.of hh, atI_nat (j := 4) rfl, _, _, rfl, rfl, _, rfl, h, _, 4, 4, rfl, rfl, hh, rfl, ?_⟩
        generalize hG : upd H' h (.lst ((hv c i big acc cnt).set 4 (V.int (cnt + 1)))) = G
        have eh : G h = some (.lst (hv c i big acc (cnt + 1))) := by
          rw [← hG]
          exact upd_same
        have kG : Keep h c H G := by
          rw [← hG]
          refine ⟨upd_keep kp, ⟨i, big, acc, cnt + 1, cells, upd_same, ?_, hi⟩⟩
          rw [upd_ne nch]
          exact hc'
        refine ⟨_, rfl, h, _, 3, _, rfl, rfl, SqL.of eh, atI_nat (j := 3) rfl, _, rfl, h, _, 4, _, rfl, rfl, SqL.of eh, atI_nat (j := 4) rfl, _, _, rfl, rfl, .inl ⟨by decide, by decide⟩, _, _, rfl, rfl, .inl ⟨_, rfl, _, _, rfl, rfl, .inr ⟨by decide, by decide⟩, .inl ⟨_, rfl, _, _, rfl, rfl, show (0 : Int) < 2147483647 by decide, ?_⟩⟩⟩
        have b1 : ∀ x : Int, 0 ≤ x % 2147483647 ∧ x % 2147483647 < 2147483647 := fun x => ⟨Int.emod_nonneg _ (by decide), Int.emod_lt_of_pos _ (by decide)⟩
        generalize hn : ((acc + 7919 * (cnt + 1)) * 48271) % 2147483647 = n1
        have q1 := b1 ((acc + 7919 * (cnt + 1)) * 48271)
        rw [hn] at q1
        refine ⟨_, rfl, _, rfl, _, _, rfl, rfl, ⟨by decide, by decide⟩, _, _, rfl, rfl, _, _, rfl, rfl, .inl ⟨by omega, by omega⟩, .inl ⟨_, rfl, _, _, rfl, rfl, show (0 : Int) < 2147483647 by decide, ?_⟩⟩
        generalize hn2 : (n1 * (n1 / 1009 + 69621)) % 2147483647 = n2
        have q2 := b1 (n1 * (n1 / 1009 + 69621))
        rw [hn2] at q2
        refine ⟨_, rfl, _, rfl, _, _, rfl, rfl, ⟨by decide, by decide⟩, _, _, rfl, rfl, _, _, rfl, rfl, .inl ⟨by omega, by omega⟩, .inl ⟨_, rfl, _, _, rfl, rfl, show (0 : Int) < 2147483399 by decide, ?_⟩⟩
        refine ⟨_, rfl, _, _, rfl, rfl, ⟨by decide, by decide⟩, .inl ⟨_, rfl, _, rfl, _, _, rfl, rfl, m0, ?_⟩⟩
        exact q _ _ (Int.emod_nonneg _ (by omega)) (Int.emod_lt_of_pos _ m0) kG

theorem cut_map (ns : List Int) (lo hi : Option Int) : ∃ ms : List Int, cutV (ns.map V.int) lo hi = ms.map V.int ∧ ms.length ≤ ns.length := by
  refine ⟨(ns.drop (HT.sIx (ns.map V.int).length 0 lo)).take (HT.sIx (ns.map V.int).length (ns.map V.int).length hi - HT.sIx (ns.map V.int).length 0 lo), ?_, ?_⟩
  · unfold cutV
    rw [List.map_take, List.map_drop]
  · rw [List.length_take, List.length_drop]
    omega
def spHand (K : PySem.W.Frag) : Sp := fun vs H Q _ => ∃ (a : Addr) (ns : List Int), vs = [.ref a] ∧ SqL K H a (ns.map V.int) ∧ ns.length ≤ 1000 ∧ ∀ h c H', H h = none → Same H H' → HandOk H' h c → Q (.ref h) H'
theorem ok_law_hand (T : Txt K mg) : FnOk P w K mg base CX0 1 T.f_law_hand T.d_law_hand ["script"] (spHand K) := by
  refine T.F_law_hand.ok sc_law_hand (fun vs H Q E h => ?_) (fun cdv A outer s H vs Q E hr h => ?_)
  · obtain ⟨_, _, rfl, _⟩ := h
    rfl
  · obtain ⟨a, ns, rfl, ha, hl, q⟩ := h
    obtain ⟨ms, em, hm⟩ := cut_map ns none (some 63)
    refine ⟨_, (pss_cons (ps_setLc (i := 1) (own := [("cell", 2)]) rfl sc_law_hand.nd rfl rfl (sw_true rfl rfl rfl (by decide +kernel)) (pi_listK K (pe_slice (sl_listK K) (pv 0) po_none (po_some pe_int))) (blkOk_by (N := N_law_hand) (sc := defScope s_law_hand) (by decide +kernel)) (fun _ _ _ _ _ => (pg_name (i := 2) sc_law_hand.nd rfl (.inl rfl))) (fun _ _ _ _ _ => pts_nil) (fun _ _ _ _ _ => (pe_callB call_abs (by rfl) T.z_abs (by decide +kernel) (pa_cons (pe_callTy call_int1 (by rfl) T.z_int (by decide +kernel) (pa_cons (pv 2) pa_nil)) pa_nil))))
      (pss_one (ps_ret (pe_lst (pa_cons (pv 1) (pa_cons pe_int (pa_cons pe_int (pa_cons (pe_op op_add pe_int (pe_callB (call_lenK K) (by rfl) T.z_len PySem.boot_len (pa_cons (pv 1) pa_nil))) (pa_cons pe_int pa_nil))))))))), ?_⟩
    refine ⟨_, rfl, 63, rfl, a, _, rfl, ha, fun p np => ⟨p, rfl, ⟨_, SqL.of upd_same⟩, fun D hD => lc_list (K := K) (xs := cutV (ns.map V.int) none (some 63)) (fun i H' => ∃ cs : List Int, cs.length = i ∧ Same (upd H p (.lst (cutV (ns.map V.int) none (some 63)))) H' ∧ H' D = some (.lst (cs.map V.int)))
      ⟨[], rfl, same_new hD, upd_same⟩ (fun i H' _ ⟨_, _, sm, _⟩ => sm.seq (SqL.of upd_same)) ?_ ?_⟩⟩
    · rintro i x H' hx ⟨cs, hcs, sm, hDl⟩
      rw [em] at hx
      obtain ⟨z, rfl, hz⟩ := int_at hx
      have hi := (List.getElem?_eq_some_iff.mp hz).1
      refine ⟨rfl, ?_⟩
      dsimp only [tYes]
      rw [if_pos rfl]
      refine ⟨_, rfl, .inl ⟨_, rfl, _, rfl, _, hDl, ?_, cs ++ [if z < 0 then -z else z], ?_, fun b o e => ?_, ?_⟩⟩
      · rw [List.length_map]
        exact sz_small (by omega)
      · rw [List.length_append, hcs]
        rfl
      · rw [upd_ne (ne_of_none e hD)]
        exact sm _ _ e
      · rw [upd_same, List.map_append]
        rfl
    · rintro H' ⟨cs, hcs, sm, hDl⟩
      have s1 : Same H H' := (same_new np).trans sm
      refine ⟨_, rfl, _, rfl, D, _, rfl, .inl (SqL.of hDl), _, _, rfl, rfl, by show 5 ≤ sizeLine; decide, fun h nh => ?_⟩
      have s2 : Same H' (upd H' h (.lst (hv D 0 0 (1 + ((cs.map V.int).length : Int)) 0))) := same_new nh
      exact q h D _ (s1.free nh) (s1.trans s2) ⟨0, 0, _, 0, cs, upd_same, s2 _ _ hDl, Int.le_refl 0⟩
theorem ext_take {n j : Nat} (c : List Int) (h : j < n) : (ext n c).take (j + 1) = (ext n c).take j ++ [c ++ [(j : Int)]] := by
  have e : (ext n c)[j]? = some (c ++ [(j : Int)]) := by
    unfold ext
    rw [List.getElem?_map, List.getElem?_range h]
    rfl
  rw [List.take_add_one, e]
  rfl
theorem lc_ext {H : Hp} {σ : L2.St} {Q : VK} {x : V} {c : List Int} {n : Nat} {kx kc : Nat} {ta : TA} (hta : ∀ R : List V → Hp → Prop, R [.int n] H → ta σ H R) (hx : Dh K H x (ctD c)) (hl : c.length ≤ 1000) (hn : n ≤ 1000)
    (hw : ∀ y, wipe ((wipe σ [kx]).set kx (some y)) [kx] = wipe σ [kx]) (hc : ∀ y : V, ((wipe σ [kx]).set kx (some y))[kc]? = some (some x)) (hk : ∀ y : V, ((wipe σ [kx]).set kx (some y))[kx]? = some (some y))
    (q : ∀ D xs H', H D = none → Same H H' → H' D = some (.lst xs) → DhAll K H' xs ((ext n c).map ctD) → Q (.ref D) H') :
    tLc (iRng1 ta) (gName kx) tYes (tOp (rCatA K) (tVar kc) (tTup (tCons (tVar kx) tNil))) [kx] σ H Q := by
  refine hta _ ⟨_, rfl, by omega, by omega, fun D hD => lc_range (lo := 0) (n := ((n : Nat) : Int).toNat) (fun i H' => ∃ acc, Same H H' ∧ H' D = some (.lst acc) ∧ DhAll K H' acc (((ext n c).take i).map ctD)) ⟨[], same_new hD, upd_same, .nil⟩ ?_ ?_⟩
  · rintro i H' hi ⟨acc, sm, hDl, hacc⟩
    rw [Int.toNat_natCast] at hi
    refine ⟨hw _, ?_⟩
    dsimp only [tYes]
    rw [if_pos rfl, Int.zero_add]
    refine ⟨x, hc _, _, hk _, by show 1 ≤ sizeLine; decide, fun r hr2 => cat_ct (K := K) (c := c) (j := (i : Int)) (hx.ext (.of (sm.trans (same_new hr2)))) hl upd_same fun v H3 s4 hv => ?_⟩
    have s5 : Same H' H3 := (same_new hr2).trans s4
    refine ⟨acc, s5 _ _ hDl, ?_, acc ++ [v], Same.put hD (sm.trans s5), upd_same, ?_⟩
    · have e1 := hacc.length
      rw [List.length_map, List.length_take, ext_len] at e1
      exact sz_small (by omega)
    · rw [ext_take c hi, List.map_append]
      exact ((hacc.ext (.of s5)).snoc hv).ext (Ext.put (s5 _ _ hDl))
  · rintro H' ⟨acc, sm, hDl, hacc⟩
    rw [Int.toNat_natCast, List.take_of_length_le (by rw [ext_len]; exact Nat.le_refl _)] at hacc
    exact q D acc H' hD sm hDl hacc
theorem ok_law_contents (T : Txt K mg) : FnOk P w K mg base CX0 1 T.f_law_contents T.d_law_contents ["sizes"] (spAll K) := by
  refine T.F_law_contents.ok sc_law_contents (fun vs H Q E h => ?_) (fun cdv A outer s H vs Q E hr h => ?_)
  · obtain ⟨_, _, rfl, _⟩ := h
    rfl
  · obtain ⟨a, ss, rfl, hs, ok, q⟩ := h
    obtain ⟨_, h5, hm⟩ := ok.facts
    refine ⟨_, (pss_cons (ps_set (i := 1) sc_law_contents.nd rfl (.inl rfl) (pe_lst (pa_cons (pe_tup pa_nil) pa_nil)))
      (pss_cons (ps_for PassesOwn.never rfl (pi_tupK K (pv 0)) (pg_name (i := 2) sc_law_contents.nd rfl (.inl rfl)) (pss_cons (ps_set (i := 3) sc_law_contents.nd rfl (.inl rfl) (pe_lst pa_nil))
      (pss_cons (ps_for PassesOwn.never rfl (pi_listK K (pv 1)) (pg_name (i := 4) sc_law_contents.nd rfl (.inr rfl)) (pss_one (ps_expr (pe_bm PySem.F.plainAttrs_list PySem.F.slot_list_extend PySem.F.type_list_extend mt_extend (pv 3) (pa_cons (pe_lc (own := [("worth", 5)]) rfl sc_law_contents.nd (pi_range1 (by rfl) T.z_range (pa_cons (pv 2) pa_nil)) (blkOk_by (N := N_law_contents) (sc := defScope s_law_contents) (by decide +kernel)) (fun _ _ _ _ _ => (pg_name (i := 5) sc_law_contents.nd rfl (.inl rfl))) (fun _ _ _ _ _ => pts_nil) (fun _ _ _ _ _ => (pe_op (op_catK K) (pv 4) (pe_tup (pa_cons (pv 5) pa_nil))))) pa_nil)))))
      (pss_one (ps_set (i := 1) sc_law_contents.nd rfl (.inl rfl) (pv 3))))))
      (pss_one (ps_ret (pv 1))))), ?_⟩
    refine ⟨Nat.zero_le _, fun t0 n0 => ⟨by show 1 ≤ sizeLine; decide, fun f0 nf0 => ?_⟩⟩
    have s1 : Same H (upd H t0 (.tup [])) := same_new n0
    have s2 : Same H (upd (upd H t0 (.tup [])) f0 (.lst [.ref t0])) := s1.trans (same_new nf0)
    refine ⟨_, rfl, a, rfl, ⟨_, (Ext.of s2).sqT hs⟩, for_tup (xs := ss.map V.int) (fun i σ H' => ∃ (f : Addr) (xs : List V) (y2 y3 y4 y5 : Option V), σ = [some (.ref a), some (.ref f), y2, y3, y4, y5] ∧ Same H H' ∧ H f = none ∧ H' f = some (.lst xs) ∧ DhAll K H' xs ((allC (ss.take i)).map ctD))
      ⟨f0, [.ref t0], none, none, none, none, rfl, s2, s1.free nf0, upd_same, .cons (dh_ct (c := []) (SqT.of ?_)) .nil⟩ (fun i σ H' _ ⟨_, _, _, _, _, _, _, sm, _⟩ => (Ext.of sm).sqT hs) ?_ ?_⟩
    · rw [upd_ne (fun e => by rw [e, upd_same] at nf0; cases nf0), upd_same]
      rfl
    · rintro i x σ H' hx ⟨f, xs, y2, y3, y4, y5, rfl, sm, nf, hf, hall⟩
      obtain ⟨z, rfl, hz⟩ := int_at hx
      obtain ⟨z2, z4⟩ := hm z (List.mem_of_getElem? hz)
      obtain ⟨n, rfl⟩ : ∃ n : Nat, z = (n : Int) := ⟨z.toNat, by omega⟩
      have hi : i < ss.length := (List.getElem?_eq_some_iff.mp hz).1
      have etake : ss.take (i + 1) = ss.take i ++ [(n : Int)] := by rw [List.take_add_one, hz]; rfl
      generalize hcs : allC (ss.take i) = cs at hall
      have hlen := hall.length
      rw [List.length_map] at hlen
      have hb := allC_len (fun s hs => (hm s hs).2) i
      rw [hcs] at hb
      have hcl : cs.length ≤ 1024 := Nat.le_trans hb.1 (Nat.pow_le_pow_right (by decide) (by omega : i ≤ 5))
      refine ⟨Nat.zero_le _, fun D hD => ?_⟩
      have sD : Same H' (upd H' D (.lst [])) := same_new hD
      refine ⟨.ref f, rfl, f, rfl, ⟨xs, SqL.of (sD _ _ hf)⟩, for_list (K := K) (xs := xs) (fun j σ H2 => ∃ (acc : List V) (y4 y5 : Option V), σ = [some (.ref a), some (.ref f), some (.int n), some (.ref D), y4, y5] ∧ Same H' H2 ∧ H2 D = some (.lst acc) ∧ DhAll K H2 acc (((cs.take j).flatMap (ext n)).map ctD))
        ⟨[], _, _, rfl, sD, upd_same, .nil⟩ (fun j σ H2 _ ⟨_, _, _, _, s3, _⟩ => s3.seq (SqL.of hf)) ?_ ?_⟩
      · rintro j x σ H2 hx2 ⟨acc, y4, y5, rfl, s3, hD2, hacc⟩
        obtain ⟨d, hd, hxd⟩ := hall.get hx2
        obtain ⟨c, hc, rfl⟩ := map_at hd
        have hcm : c.length ≤ 1000 := Nat.le_trans (hb.2 c (List.mem_of_getElem? hc)) (by omega)
        refine ⟨.ref D, rfl, .inl ⟨rfl, _, SqL.of hD2⟩, ?_⟩
        dsimp only [tCons]
        refine lc_ext (K := K) (σ := [some (.ref a), some (.ref f), some (.int n), some (.ref D), some x, y5]) (kx := 5) (kc := 4) (n := n) (c := c) (fun R hR => ⟨_, rfl, hR⟩) (hxd.ext (.of s3)) hcm (by omega) (fun _ => rfl) (fun _ => rfl) (fun _ => rfl) fun b zs H3 nb s4 hb3 hzs => ?_
        have e1 := hacc.length
        rw [List.length_map, flat_len, List.length_take] at e1
        have e2 := hzs.length
        rw [List.length_map, ext_len] at e2
        have e3 : min j cs.length * n ≤ 1024 * 4 := Nat.mul_le_mul (by omega) (by omega)
        refine ⟨D, b, acc, zs, rfl, rfl, s4 _ _ hD2, hb3, Nat.le_of_lt (sz_small (by omega)), acc ++ zs, _, _, rfl, Same.put hD (s3.trans s4), upd_same, ?_⟩
        rw [List.take_add_one, hc]
        show DhAll K _ _ (List.map ctD (List.flatMap (ext n) (List.take j cs ++ [c])))
        rw [List.flatMap_append, List.map_append]
        refine ((hacc.ext (.of s4)).append ?_).ext (Ext.put (s4 _ _ hD2))
        simpa using hzs
      · rintro σ H2 ⟨acc, y4, y5, rfl, s3, hD2, hacc⟩
        rw [hlen, List.take_length] at hacc
        refine ⟨_, rfl, D, acc, _, _, _, _, rfl, sm.trans s3, sm.free hD, hD2, ?_⟩
        rw [etake, allC_snoc, hcs]
        exact hacc
    · rintro σ H' ⟨f, xs, y2, y3, y4, y5, rfl, sm, nf, hf, hall⟩
      rw [List.length_map, List.take_length] at hall
      exact ⟨.ref f, rfl, q f xs H' nf sm hf hall⟩

/-! ### lists of flags -/
theorem flags_step {f : Nat → Bool} {i : Nat} : ((List.range (i + 1)).map f).map V.bl = ((List.range i).map f).map V.bl ++ [V.bl (f i)] := by
  rw [List.range_succ, List.map_append, List.map_append]
  rfl
theorem flags_len {f : Nat → Bool} {i : Nat} : (((List.range i).map f).map V.bl).length = i := by
  rw [List.length_map, List.length_map, List.length_range]
theorem lc_bT {H : Hp} {σ : L2.St} {Q : VK} {a : Addr} {xs : List V} {kx : Nat} {tp te : TE} (f : Nat → Bool) (htp : ∀ R : VK, R (.ref a) H → tp σ H R) (ha : SqT K H a xs) (hl : xs.length ≤ 1000) (hw : ∀ x, wipe ((wipe σ [kx]).set kx (some x)) [kx] = wipe σ [kx])
    (hte : ∀ i x H', xs[i]? = some x → Same H H' → ∀ R : VK, (∀ H2, Same H' H2 → R (.bl (f i)) H2) → te ((wipe σ [kx]).set kx (some x)) H' R)
    (q : ∀ D H', H D = none → Same H H' → H' D = some (.lst (((List.range xs.length).map f).map V.bl)) → Q (.ref D) H') : tLc (iTup K tp) (gName kx) tYes te [kx] σ H Q := by
  refine htp _ ⟨a, rfl, ⟨_, ha⟩, fun D hD => lc_tup (K := K) (xs := xs) (fun i H' => Same H H' ∧ H' D = some (.lst (((List.range i).map f).map V.bl))) ⟨same_new hD, upd_same⟩ (fun i H' _ p => (Ext.of p.1).sqT ha) ?_ ?_⟩
  · rintro i x H' hi ⟨sm, hDl⟩
    have hlt := (List.getElem?_eq_some_iff.mp hi).1
    refine ⟨hw _, ?_⟩
    dsimp only [tYes]
    rw [if_pos rfl]
    refine hte i x H' hi sm _ fun H2 s2 => ⟨_, s2 _ _ hDl, ?_, Same.put hD (sm.trans s2), ?_⟩
    · rw [flags_len]
      exact sz_small (by omega)
    · rw [upd_same, flags_step]
  · rintro H' ⟨sm, hDl⟩
    exact q D H' hD sm hDl
theorem lc_bR {H : Hp} {σ : L2.St} {Q : VK} {lo : Int} {n : Nat} {kx : Nat} {ti : TI} {te : TE} (f : Nat → Bool) (hti : ∀ R : It → Hp → Prop, R (Itr lo n) H → ti σ H R) (hl : n ≤ 1000) (hw : ∀ x, wipe ((wipe σ [kx]).set kx (some x)) [kx] = wipe σ [kx])
    (hte : ∀ i H', i < n → Same H H' → ∀ R : VK, (∀ H2, Same H' H2 → R (.bl (f i)) H2) → te ((wipe σ [kx]).set kx (some (.int (lo + i)))) H' R)
    (q : ∀ D H', H D = none → Same H H' → H' D = some (.lst (((List.range n).map f).map V.bl)) → Q (.ref D) H') : tLc ti (gName kx) tYes te [kx] σ H Q := by
  refine hti _ fun D hD => lc_range (fun i H' => Same H H' ∧ H' D = some (.lst (((List.range i).map f).map V.bl))) ⟨same_new hD, upd_same⟩ ?_ ?_
  · rintro i H' hi ⟨sm, hDl⟩
    refine ⟨hw _, ?_⟩
    dsimp only [tYes]
    rw [if_pos rfl]
    refine hte i H' hi sm _ fun H2 s2 => ⟨_, s2 _ _ hDl, ?_, Same.put hD (sm.trans s2), ?_⟩
    · rw [flags_len]
      exact sz_small (by omega)
    · rw [upd_same, flags_step]
  · rintro H' ⟨sm, hDl⟩
    exact q D H' hD sm hDl
theorem lc_zipM {L : Bool} {a b : Addr} {xs ys : List V} {g : TG} {tt : TT} {te : TE} {vs : List Nat} {σ : L2.St} {H1 : Hp} {D : Addr} {Qd : Hp → Prop} (Pv : Nat → Hp → Prop) (h0 : Pv 0 (upd H1 D (.lst []))) (hq : ∀ i H, Pv i H → SqA L K H a xs ∧ SqT K H b ys)
    (hs : ∀ (i : Nat) (x y : V) (T : Addr) (H : Hp), xs[i]? = some x → ys[i]? = some y → Pv i H → H T = none → g (.ref T) (wipe σ vs) (upd H T (.tup [x, y])) fun σ2 H2 => wipe σ2 vs = wipe σ vs ∧ tt σ2 H2 fun b H3 =>
      if b = true then te σ2 H3 fun y H4 => ∃ acc, H4 D = some (.lst acc) ∧ acc.length < sizeLine ∧ Pv (i + 1) (upd H4 D (.lst (acc ++ [y]))) else Pv (i + 1) H3) (hd : ∀ H, Pv (min xs.length ys.length) H → Qd H) :
    ∃ W : Nat → Nat → Hp → Prop, (∃ m, W 0 m (upd H1 D (.lst []))) ∧ ∀ i m H, W i m H →
      ((ItM L K a b xs ys).stop i H ∧ Qd H) ∨ ((ItM L K a b xs ys).go i H ∧ ∃ Nx : Hp → Prop, (∀ H', Nx H' → ∃ m', m' < m ∧ W (i + 1) m' H') ∧ ∀ x H', (ItM L K a b xs ys).yld i H x H' → g x (wipe σ vs) H' fun σ2 H2 => wipe σ2 vs = wipe σ vs ∧ tt σ2 H2 fun b H3 =>
        if b = true then te σ2 H3 fun y H4 => ∃ acc, H4 D = some (.lst acc) ∧ acc.length < sizeLine ∧ Nx (upd H4 D (.lst (acc ++ [y]))) else Nx H3) := by
  refine ⟨fun i m H => i + m = min xs.length ys.length ∧ Pv i H, ⟨_, Nat.zero_add _, h0⟩, ?_⟩
  rintro i m H ⟨em, p⟩
  obtain ⟨qx, qy⟩ := hq i H p
  cases m with
  | zero =>
    have ei : i = min xs.length ys.length := em
    refine .inl ⟨⟨qx, qy, ei⟩, hd H ?_⟩
    rw [← ei]
    exact p
  | succ m =>
    refine .inr ⟨⟨qx, qy, by omega, by omega⟩, Pv (i + 1), fun H' p' => ⟨m, Nat.lt_succ_self m, by omega, p'⟩, fun v H' y => ?_⟩
    obtain ⟨T, x, y', rfl, hT, rfl, f1, f2⟩ := y
    exact hs i x y' T H f1 f2 p hT
/-- neighbours -/
def adj {α : Type} (r : α → α → Bool) : List α → Bool
  | x :: y :: l => r x y && adj r (y :: l)
  | _ => true
theorem all_range_succ (n : Nat) (f : Nat → Bool) : ((List.range (n + 1)).map f).all id = (f 0 && ((List.range n).map fun i => f (i + 1)).all id) := by
  rw [List.range_succ_eq_map, List.map_cons, List.all_cons, List.map_map]
  rfl
theorem adj_all {α : Type} [Inhabited α] (r : α → α → Bool) : ∀ l : List α, ((List.range (l.length - 1)).map fun k => r (l.getD k default) (l.getD (k + 1) default)).all id = adj r l
  | [] => rfl
  | [_] => rfl
  | x :: y :: l => by
    have ih := adj_all r (y :: l)
    show ((List.range (l.length + 1)).map _).all id = (r x y && adj r (y :: l))
    rw [all_range_succ, ← ih]
    rfl
theorem all_map_range {α : Type} (l : List α) (f : Nat → Bool) (g : α → Bool) (h : ∀ i x, l[i]? = some x → f i = g x) : ((List.range l.length).map f).all id = l.all g := by
  induction l generalizing f with
  | nil => rfl
  | cons x l ih =>
    rw [List.length_cons, all_range_succ, List.all_cons, ih (fun i => f (i + 1)) (fun i y hy => h (i + 1) y (by simpa using hy)), h 0 x rfl]

end
end Fm
namespace Fm
open PySem PySem.Spec PyProof.Rows L2
section
variable {P : Program} {w : World} {K : PySem.W.Frag} {mg : Str → Option Value} {base : Heap}

/-! ### fractions -/
def gz (t b : Int) : Int := ((Nat.gcd t.natAbs b.natAbs : Nat) : Int)
def lowZ (t b : Int) : Int × Int := (t / gz t b, b / gz t b)
def plusZ (p q : Int × Int) : Int × Int := lowZ (p.1 * q.2 + q.1 * p.2) (p.2 * q.2)
abbrev frD (p : Int × Int) : Dt := ctD [p.1, p.2]
/-- at most n, over a bottom of at most B -/
structure Fr (n B : Nat) (p : Int × Int) : Prop where
  pos : 0 < p.2
  bot : p.2 ≤ B
  top0 : 0 ≤ p.1
  top : p.1 ≤ n * p.2
theorem gz_pos {t b : Int} (h : 0 < b) : 0 < gz t b := by
  unfold gz
  have : 0 < Nat.gcd t.natAbs b.natAbs := Nat.gcd_pos_of_pos_right _ (by omega)
  omega
theorem gz_dvd (t b : Int) : gz t b ∣ t ∧ gz t b ∣ b := by
  unfold gz
  exact ⟨Int.ofNat_dvd_left.mpr (Nat.gcd_dvd_left _ _), Int.ofNat_dvd_left.mpr (Nat.gcd_dvd_right _ _)⟩
theorem gz_le {t b : Int} (h : 0 < b) : gz t b ≤ b := Int.le_of_dvd h (gz_dvd t b).2
theorem low_fr {n B : Nat} {t b : Int} (h0 : 0 < b) (hb : b ≤ B) (ht : 0 ≤ t) (hn : t ≤ n * b) : Fr n B (lowZ t b) := by
  have g0 := gz_pos (t := t) h0
  obtain ⟨⟨x, hx⟩, ⟨y, hy⟩⟩ := gz_dvd t b
  have e1 : t / gz t b = x := by conv => lhs; lhs; rw [hx]
                                 exact Int.mul_ediv_cancel_left _ (by omega)
  have e2 : b / gz t b = y := by conv => lhs; lhs; rw [hy]
                                 exact Int.mul_ediv_cancel_left _ (by omega)
  have y0 : 0 < y := by
    rcases Int.lt_or_le 0 y with h | h
    · exact h
    · have : gz t b * y ≤ 0 := Int.mul_nonpos_of_nonneg_of_nonpos (Int.le_of_lt g0) h
      omega
  have x0 : 0 ≤ x := by
    rcases Int.lt_or_le x 0 with h | h
    · have : gz t b * x < 0 := Int.mul_neg_of_pos_of_neg g0 h
      omega
    · exact h
  have g1 : y ≤ b := by
    have : 1 * y ≤ gz t b * y := Int.mul_le_mul_of_nonneg_right g0 (Int.le_of_lt y0)
    omega
  refine ⟨by show 0 < b / gz t b; rw [e2]; exact y0, by show b / gz t b ≤ B; rw [e2]; omega, by show 0 ≤ t / gz t b; rw [e1]; exact x0, ?_⟩
  show t / gz t b ≤ n * (b / gz t b)
  rw [e1, e2]
  have h2 : gz t b * x ≤ gz t b * (n * y) := by
    rw [← hx, Int.mul_left_comm, ← hy]
    exact hn
  exact Int.le_of_mul_le_mul_left h2 g0
theorem plus_pre {n m B C : Nat} {p q : Int × Int} (hp : Fr n B p) (hq : Fr m C q) : 0 < p.2 * q.2 ∧ p.2 * q.2 ≤ ((B * C : Nat) : Int) ∧ 0 ≤ p.1 * q.2 + q.1 * p.2 ∧ p.1 * q.2 + q.1 * p.2 ≤ ((n + m : Nat) : Int) * (p.2 * q.2) := by
  have a1 := hp.pos
  have a2 := hq.pos
  refine ⟨Int.mul_pos a1 a2, ?_, Int.add_nonneg (Int.mul_nonneg hp.top0 (Int.le_of_lt a2)) (Int.mul_nonneg hq.top0 (Int.le_of_lt a1)), ?_⟩
  · rw [Int.natCast_mul]
    exact Int.mul_le_mul hp.bot hq.bot (Int.le_of_lt a2) (by omega)
  · have h1 : p.1 * q.2 ≤ n * p.2 * q.2 := Int.mul_le_mul_of_nonneg_right hp.top (Int.le_of_lt a2)
    have h2 : q.1 * p.2 ≤ m * q.2 * p.2 := Int.mul_le_mul_of_nonneg_right hq.top (Int.le_of_lt a1)
    rw [Int.natCast_add, Int.add_mul, ← Int.mul_assoc, ← Int.mul_assoc]
    have e : (m : Int) * p.2 * q.2 = m * q.2 * p.2 := by rw [Int.mul_assoc, Int.mul_comm p.2, ← Int.mul_assoc]
    omega
theorem plus_fr {n m B C : Nat} {p q : Int × Int} (hp : Fr n B p) (hq : Fr m C q) : Fr (n + m) (B * C) (plusZ p q) := by
  obtain ⟨h1, h2, h3, h4⟩ := plus_pre hp hq
  exact low_fr h1 h2 h3 h4
theorem nat_bd {x : Int} {m : Nat} (h0 : 0 ≤ x) (h : x ≤ m) (hm : m < 2 ^ 1100) : x.natAbs < 2 ^ 1100 := by omega
/-- all numbers of a sum are below this -/
def top300 : Nat := 10 ^ 300
theorem mul_le {a b : Int} {m n : Nat} (a0 : 0 ≤ a) (b0 : 0 ≤ b) (h1 : a ≤ m) (h2 : b ≤ n) : a * b ≤ ((m * n : Nat) : Int) := by
  rw [Int.natCast_mul]
  exact Int.mul_le_mul h1 h2 b0 (by omega)
theorem Fr.top_le {n B : Nat} {p : Int × Int} (h : Fr n B p) : p.1 ≤ ((n * B : Nat) : Int) := by
  have h1 := h.top
  have h2 : (n : Int) * p.2 ≤ n * B := Int.mul_le_mul_of_nonneg_left h.bot (by omega)
  rw [Int.natCast_mul]
  omega
theorem pow_1100 : 1000 * top300 < 2 ^ 1100 := by decide +kernel
theorem Fr.bds {n B : Nat} {p : Int × Int} (h : Fr n B p) (hn : n ≤ 1000) (hB : B ≤ top300) : p.1.natAbs < 2 ^ 1100 ∧ p.2.natAbs < 2 ^ 1100 := by
  have h1 := h.top_le
  have h2 := h.bot
  have h3 := h.top0
  have h4 := h.pos
  have h5 : n * B ≤ 1000 * top300 := Nat.mul_le_mul hn hB
  have h6 := pow_1100
  refine ⟨?_, ?_⟩
  · have z : p.1.natAbs ≤ n * B := by omega
    omega
  · have z : p.2.natAbs ≤ B := by omega
    have y : B ≤ 1000 * top300 := Nat.le_trans hB (Nat.le_mul_of_pos_left _ (by decide))
    omega
theorem wide_of {a b : Int} (ha : a.natAbs < 2 ^ 1100) (hb : b.natAbs < 2 ^ 1100) : CMulW a b := wide_mul ha hb (by decide) (by decide) (by decide)
theorem div_of {t b : Int} (h : 0 < b) (hb : b.natAbs < 2 ^ 1100) (j : Int) (hj : j = gz t b) (x : Int) : CDivW x j := by
  subst hj
  have g := gz_pos (t := t) h
  have l := gz_le (t := t) h
  exact wide_div g (show (gz t b).natAbs < 2 ^ 1100 by omega) (by decide) (by decide)
def spLow (K : PySem.W.Frag) : Sp := fun vs H Q _ => ∃ t b : Int, vs = [.int t, .int b] ∧ 0 < b ∧ b ≤ (top300 : Int) ∧ 0 ≤ t ∧ ∀ v H', Same H H' → Dh K H' v (frD (lowZ t b)) → Q v H'
theorem bd300 {b : Int} (h : b ≤ (top300 : Int)) (h0 : 0 < b) : b.natAbs < 2 ^ 1100 := by
  have h6 := pow_1100
  have y : top300 ≤ 1000 * top300 := Nat.le_mul_of_pos_left _ (by decide)
  have z : b.natAbs ≤ top300 := by omega
  omega
theorem ok_fraction (T : Txt K mg) : FnOk P w K mg base CX0 1 T.f_fraction T.d_fraction ["top", "bottom"] (spLow K) := by
  refine T.F_fraction.ok sc_fraction (fun vs H Q E h => ?_) (fun cdv A outer s H vs Q E hr h => ?_)
  · obtain ⟨_, _, rfl, _⟩ := h
    rfl
  · obtain ⟨t, b, rfl, b0, b1, t0, q⟩ := h
    have hb := bd300 b1 b0
    refine ⟨_, (pss_cons (ps_set (i := 2) sc_fraction.nd rfl (.inl rfl) (pe_callBfun cr_gcd (by rfl) T.w_gcd (pa_cons (pv 0) (pa_cons (pv 1) pa_nil))))
      (pss_one (ps_ret (pe_tup (pa_cons (pe_op op_fdivW (pv 0) (pv 2)) (pa_cons (pe_op op_fdivW (pv 1) (pv 2)) pa_nil)))))), ?_⟩
    refine ⟨_, rfl, _, rfl, t, b, rfl, ?_⟩
    refine ⟨_, rfl, _, rfl, _, _, rfl, rfl, div_of b0 hb _ rfl _, _, rfl, _, rfl, _, _, rfl, rfl, div_of b0 hb _ rfl _, by show 2 ≤ sizeLine; decide, fun p np => ?_⟩
    exact q _ _ (same_new np) (dh_ct (c := [_, _]) (SqT.of upd_same))
def spPlus (K : PySem.W.Frag) : Sp := fun vs H Q _ => ∃ (a b : Addr) (p q : Int × Int) (n m B C : Nat), vs = [.ref a, .ref b] ∧ SqT K H a [.int p.1, .int p.2] ∧ SqT K H b [.int q.1, .int q.2] ∧ Fr n B p ∧ Fr m C q ∧ n + m ≤ 1000 ∧ B * C ≤ top300 ∧ 1 ≤ B ∧ 1 ≤ C ∧ ∀ v H', Same H H' → Dh K H' v (frD (plusZ p q)) → Q v H'
theorem ok_plus (T : Txt K mg) : FnOk P w K mg base CX0 2 T.f_plus T.d_plus ["one", "other"] (spPlus K) := by
  refine T.F_plus.ok sc_plus (fun vs H Q E h => ?_) (fun cdv A outer s H vs Q E hr h => ?_)
  · obtain ⟨_, _, _, _, _, _, _, _, rfl, _⟩ := h
    rfl
  · obtain ⟨a, b, p, q', n, m, B, C, rfl, ha, hb, fp, fq, nm, bc, b1, c1, q⟩ := h
    have lB : B ≤ top300 := Nat.le_trans (Nat.le_mul_of_pos_right _ c1) bc
    have lC : C ≤ top300 := Nat.le_trans (Nat.le_mul_of_pos_left _ b1) bc
    obtain ⟨x1, x2⟩ := fp.bds (by omega) lB
    obtain ⟨y1, y2⟩ := fq.bds (by omega) lC
    obtain ⟨h1, h2, h3, h4⟩ := plus_pre fp fq
    refine ⟨_, (pss_one (ps_ret (pe_call (ok_fraction T) hr (by rfl) T.g_fraction T.F_fraction.kp T.b_fraction .nil pass0 (pa_cons (pe_op op_add (pe_op op_mulW (pe_ix (ix_tupK K) (pv 0) pe_int (fun _ _ => rfl)) (pe_ix (ix_tupK K) (pv 1) pe_int (fun _ _ => rfl))) (pe_op op_mulW (pe_ix (ix_tupK K) (pv 1) pe_int (fun _ _ => rfl)) (pe_ix (ix_tupK K) (pv 0) pe_int (fun _ _ => rfl)))) (pa_cons (pe_op op_mulW (pe_ix (ix_tupK K) (pv 0) pe_int (fun _ _ => rfl)) (pe_ix (ix_tupK K) (pv 1) pe_int (fun _ _ => rfl))) pa_nil))))), ?_⟩
    refine ⟨_, rfl, a, _, 0, _, rfl, rfl, ha, atI_nat (j := 0) rfl, _, rfl, b, _, 1, _, rfl, rfl, hb, atI_nat (j := 1) rfl, _, _, rfl, rfl, wide_of x1 y2, ?_⟩
    refine ⟨_, rfl, b, _, 0, _, rfl, rfl, hb, atI_nat (j := 0) rfl, _, rfl, a, _, 1, _, rfl, rfl, ha, atI_nat (j := 1) rfl, _, _, rfl, rfl, wide_of y1 x2, _, _, rfl, rfl, ?_⟩
    refine ⟨_, rfl, a, _, 1, _, rfl, rfl, ha, atI_nat (j := 1) rfl, _, rfl, b, _, 1, _, rfl, rfl, hb, atI_nat (j := 1) rfl, _, _, rfl, rfl, wide_of x2 y2, ?_⟩
    exact ⟨_, _, rfl, h1, Int.le_trans h2 (by omega), h3, q⟩

end
end Fm
namespace Fm
open PySem PySem.Spec PyProof.Rows L2
section
variable {P : Program} {w : World} {K : PySem.W.Frag} {mg : Str → Option Value} {base : Heap}

/-- Euclid: behind i turns -/
def Eu (i a b : Nat) : Prop := b = 0 ∨ (i = 0 ∧ b ≤ top300) ∨ (b ≤ a ∧ a * b < 2 ^ (2000 - i))
theorem top_sq : top300 * top300 < 2 ^ 1999 := by decide +kernel
theorem Eu.step {i a b : Nat} (h : Eu i a b) (hb : b ≠ 0) (hi : i < 2000) : Eu (i + 1) b (a % b) := by
  have b0 : 0 < b := Nat.pos_of_ne_zero hb
  have hm := Nat.mod_lt a b0
  rcases h with h | ⟨rfl, h⟩ | ⟨h1, h2⟩
  · exact absurd h hb
  · refine .inr (.inr ⟨Nat.le_of_lt hm, ?_⟩)
    have z : b * (a % b) ≤ top300 * top300 := Nat.mul_le_mul h (Nat.le_trans (Nat.le_of_lt hm) h)
    exact Nat.lt_of_le_of_lt z top_sq
  · refine .inr (.inr ⟨Nat.le_of_lt hm, ?_⟩)
    have e := Nat.div_add_mod a b
    have q1 : 1 ≤ a / b := Nat.div_pos h1 b0
    have z1 : b * 1 ≤ b * (a / b) := Nat.mul_le_mul_left _ q1
    have z2 : 2 * (a % b) ≤ a := by omega
    have z3 : b * (2 * (a % b)) ≤ b * a := Nat.mul_le_mul_left _ z2
    have z4 : b * (2 * (a % b)) = 2 * (b * (a % b)) := by rw [Nat.mul_left_comm]
    have z5 : (2 : Nat) ^ (2000 - i) = 2 * 2 ^ (2000 - (i + 1)) := by
      have : 2000 - i = (2000 - (i + 1)) + 1 := by omega
      rw [this, Nat.pow_succ, Nat.mul_comm]
    have z6 : b * a = a * b := Nat.mul_comm _ _
    omega
theorem Eu.fin {a b : Nat} (h : Eu 2000 a b) : b = 0 := by
  rcases h with h | ⟨h, _⟩ | ⟨h1, h2⟩
  · exact h
  · cases h
  · have z : a * b < 1 := h2
    rcases Nat.eq_zero_or_pos b with h | h
    · exact h
    · have : b * b ≤ a * b := Nat.mul_le_mul_right _ h1
      have : 1 * 1 ≤ b * b := Nat.mul_le_mul h h
      omega
theorem ok_law_low (T : Txt K mg) : FnOk P w K mg base CX0 1 T.f_law_low T.d_law_low ["top", "bottom"] (spLow K) := by
  refine T.F_law_low.ok sc_law_low (fun vs H Q E h => ?_) (fun cdv A outer s H vs Q E hr h => ?_)
  · obtain ⟨_, _, rfl, _⟩ := h
    rfl
  · obtain ⟨t, b, rfl, b0, b1, t0, q⟩ := h
    have hb := bd300 b1 b0
    refine ⟨_, (pss_cons (ps_par (i := 3) (j := 4) (by rfl) sc_law_low.nd rfl rfl (by decide) rfl rfl (pa_cons (pe_callB call_abs (by rfl) T.z_abs (by decide +kernel) (pa_cons (pv 0) pa_nil)) (pa_cons (pv 1) pa_nil)) (by rfl))
      (pss_cons (ps_for PassesOwn.never rfl (pi_range1 (by rfl) T.z_range (pa_cons pe_int pa_nil)) (pg_name (i := 2) sc_law_low.nd rfl (.inl rfl)) (pss_cons (ps_if (pt_cmpR op_eq (pv 4) pe_int (nomark _)) (pss_one ps_break) pss_nil)
      (pss_one (ps_par (i := 3) (j := 4) (by rfl) sc_law_low.nd rfl rfl (by decide) rfl rfl (pa_cons (pv 4) (pa_cons (pe_op op_mod (pe_callTy call_int1 (by rfl) T.z_int (by decide +kernel) (pa_cons (pv 3) pa_nil)) (pv 4)) pa_nil)) (by rfl)))))
      (pss_one (ps_ret (pe_tup (pa_cons (pe_op op_fdivW (pv 0) (pv 3)) (pa_cons (pe_op op_fdivW (pv 1) (pv 3)) pa_nil))))))), ?_⟩
    have hmin : (if t < 0 then -t else t) = t := if_neg (by omega)
    have fin : ∀ (y2 : Option V) (a : Nat) (z4 : Option V) (H' : Hp), Nat.gcd a 0 = Nat.gcd t.natAbs b.natAbs → Same H H' → tRet (tTup (tCons (tOp (rI CDivW fun i j => .int (i / j)) (tVar 0) (tVar 3)) (tCons (tOp (rI CDivW fun i j => .int (i / j)) (tVar 1) (tVar 3)) tNil))) { nx := fun x H' => Q V.non H', rt := Q } [some (.int t), some (.int b), y2, some (.int (a : Int)), z4] H' := by
      intro y2 a z4 H' hg sm
      have ea : (a : Int) = gz t b := by
        rw [Nat.gcd_zero_right] at hg
        unfold gz
        rw [hg]
      rw [ea]
      refine ⟨_, rfl, _, rfl, _, _, rfl, rfl, div_of b0 hb _ rfl _, _, rfl, _, rfl, _, _, rfl, rfl, div_of b0 hb _ rfl _, by show 2 ≤ sizeLine; decide, fun p np => ?_⟩
      exact q _ _ (sm.trans (same_new np)) (dh_ct (c := [_, _]) (SqT.of upd_same))
    refine ⟨_, rfl, t, rfl, _, rfl, _, _, rfl, ?_⟩
    rw [hmin]
    refine ⟨2000, rfl, by decide, by decide, for_range (lo := 0) (n := 2000) (fun i σ H' => ∃ (y2 : Option V) (a c : Nat), σ = [some (.int t), some (.int b), y2, some (.int (a : Int)), some (.int (c : Int))] ∧ Same H H' ∧ Nat.gcd a c = Nat.gcd t.natAbs b.natAbs ∧ Eu i a c)
      ⟨none, t.natAbs, b.natAbs, ?_, Same.refl H, rfl, .inr (.inl ⟨rfl, by omega⟩)⟩ ?_ ?_⟩
    · have e1 : ((t.natAbs : Nat) : Int) = t := by omega
      have e2 : ((b.natAbs : Nat) : Int) = b := by omega
      rw [e1, e2]
      rfl
    · rintro i σ H' hi ⟨y2, a, c, rfl, sm, hg, eu⟩
      refine ⟨_, rfl, rfl, _, rfl, ?_⟩
      rw [dec_int]
      by_cases hc : c = 0
      · subst hc
        refine iteT ?_
        exact fin _ a _ H' hg sm
      · have e : ((c : Int) == 0) = false := beq_eq_false_iff_ne.mpr (by omega)
        rw [e]
        refine iteF ?_
        refine ⟨_, rfl, _, rfl, .inl ⟨_, rfl, _, rfl, _, _, rfl, rfl, by omega, _, _, rfl, _, c, a % c, rfl, sm, ?_, eu.step hc hi⟩⟩
        rw [← hg, Nat.gcd_comm c (a % c), ← Nat.gcd_rec, Nat.gcd_comm]
    · rintro σ H' ⟨y2, a, c, rfl, sm, hg, eu⟩
      have hc := eu.fin
      subst hc
      exact fin _ a _ H' hg sm
theorem ok_law_plus (T : Txt K mg) : FnOk P w K mg base CX0 2 T.f_law_plus T.d_law_plus ["one", "other"] (spPlus K) := by
  refine T.F_law_plus.ok sc_law_plus (fun vs H Q E h => ?_) (fun cdv A outer s H vs Q E hr h => ?_)
  · obtain ⟨_, _, _, _, _, _, _, _, rfl, _⟩ := h
    rfl
  · obtain ⟨a, b, p, q', n, m, B, C, rfl, ha, hb, fp, fq, nm, bc, b1, c1, q⟩ := h
    have lB : B ≤ top300 := Nat.le_trans (Nat.le_mul_of_pos_right _ c1) bc
    have lC : C ≤ top300 := Nat.le_trans (Nat.le_mul_of_pos_left _ b1) bc
    obtain ⟨x1, x2⟩ := fp.bds (by omega) lB
    obtain ⟨y1, y2⟩ := fq.bds (by omega) lC
    obtain ⟨h1, h2, h3, h4⟩ := plus_pre fp fq
    refine ⟨_, (pss_one (ps_ret (pe_call (ok_law_low T) hr (by rfl) T.g_law_low T.F_law_low.kp T.b_law_low .nil pass0 (pa_cons (pe_op op_add (pe_op op_mulW (pe_ix (ix_tupK K) (pv 0) pe_int (fun _ _ => rfl)) (pe_ix (ix_tupK K) (pv 1) pe_int (fun _ _ => rfl))) (pe_op op_mulW (pe_ix (ix_tupK K) (pv 1) pe_int (fun _ _ => rfl)) (pe_ix (ix_tupK K) (pv 0) pe_int (fun _ _ => rfl)))) (pa_cons (pe_op op_mulW (pe_ix (ix_tupK K) (pv 0) pe_int (fun _ _ => rfl)) (pe_ix (ix_tupK K) (pv 1) pe_int (fun _ _ => rfl))) pa_nil))))), ?_⟩
    refine ⟨_, rfl, a, _, 0, _, rfl, rfl, ha, atI_nat (j := 0) rfl, _, rfl, b, _, 1, _, rfl, rfl, hb, atI_nat (j := 1) rfl, _, _, rfl, rfl, wide_of x1 y2, ?_⟩
    refine ⟨_, rfl, b, _, 0, _, rfl, rfl, hb, atI_nat (j := 0) rfl, _, rfl, a, _, 1, _, rfl, rfl, ha, atI_nat (j := 1) rfl, _, _, rfl, rfl, wide_of y1 x2, _, _, rfl, rfl, ?_⟩
    refine ⟨_, rfl, a, _, 1, _, rfl, rfl, ha, atI_nat (j := 1) rfl, _, rfl, b, _, 1, _, rfl, rfl, hb, atI_nat (j := 1) rfl, _, _, rfl, rfl, wide_of x2 y2, ?_⟩
    exact ⟨_, _, rfl, h1, Int.le_trans h2 (by omega), h3, q⟩
/-- a row of fractions -/
def sumZ (l : List (Int × Int)) : Int × Int := l.foldl plusZ (0, 1)
def B30 : Nat := 10 ^ 30
theorem b30_pow : B30 ^ 10 = top300 := by decide +kernel
theorem b30_le {k : Nat} (h : k ≤ 10) : B30 ^ k ≤ top300 := b30_pow ▸ Nat.pow_le_pow_right (by decide) h
theorem sumZ_snoc (l : List (Int × Int)) (p : Int × Int) : sumZ (l ++ [p]) = plusZ (sumZ l) p := by
  unfold sumZ
  rw [List.foldl_append]
  rfl
theorem fr_inv {K : PySem.W.Frag} {H : Hp} {v : V} {p : Int × Int} (h : Dh K H v (frD p)) : ∃ a, v = .ref a ∧ SqT K H a [.int p.1, .int p.2] := ct_inv h
end
end Fm
namespace Fm
open PySem PySem.Spec PyProof.Rows L2
section
variable {P : Program} {w : World} {K : PySem.W.Frag} {mg : Str → Option Value} {base : Heap}

/-! ### rows of habits judged -/
def two : List Dt → Option (Dt × Dt)
  | [x, y] => some (x, y)
  | _ => none
def Dt.num : Dt → Option Int
  | .int i => some i
  | _ => none
def Dt.fr? : Dt → Option (Int × Int)
  | .tup ds => match two ds with
    | some (x, y) => match x.num, y.num with
      | some t, some b => some (t, b)
      | _, _ => none
    | none => none
  | _ => none
def Dt.zz (d : Dt) : Int × Int := d.fr?.getD (0, 1)
def Dt.isFr (d : Dt) : Bool := match d.fr? with
  | some p => decide (p.2 ≥ 1) && decide (gz p.1 p.2 = 1)
  | none => false
def Dt.isSh0 (d : Dt) : Bool := d.isFr && (decide (0 ≤ d.zz.1) && decide (d.zz.1 ≤ d.zz.2))
def Dt.isShr (d : Dt) : Bool := match d.fr? with
  | some p => decide (1 ≤ p.1) && (decide (p.1 ≤ p.2) && decide (gz p.1 p.2 = 1))
  | none => false
theorem two_inv {ds : List Dt} {x y : Dt} (h : two ds = some (x, y)) : ds = [x, y] := by
  match ds, h with
  | [a, b], h =>
    cases h
    rfl
  | [], h => cases h
  | [_], h => cases h
  | _ :: _ :: _ :: _, h => cases h
theorem num_inv {d : Dt} {i : Int} (h : d.num = some i) : d = .int i := by
  cases d with
  | int j =>
    cases h
    rfl
  | _ => cases h
theorem fr_inv? {d : Dt} {p : Int × Int} (h : d.fr? = some p) : d = .tup [.int p.1, .int p.2] := by
  cases d with
  | tup ds =>
    have h' : (match two ds with
      | some (x, y) => match x.num, y.num with
        | some t, some b => some (t, b)
        | _, _ => none
      | none => none) = some p := h
    cases e : two ds with
    | none =>
      rw [e] at h'
      cases h'
    | some xy =>
      obtain ⟨x, y⟩ := xy
      rw [e] at h'
      have h2 : (match x.num, y.num with
        | some t, some b => some (t, b)
        | _, _ => none) = some p := h'
      rw [two_inv e]
      cases e1 : x.num with
      | none =>
        rw [e1] at h2
        cases h2
      | some t =>
        cases e2 : y.num with
        | none =>
          rw [e1, e2] at h2
          cases h2
        | some b =>
          rw [e1, e2] at h2
          cases h2
          rw [num_inv e1, num_inv e2]
  | _ => cases h
theorem num_none {d : Dt} (h : d.isW = false) : d.num = none := by
  cases d with
  | int _ => cases h
  | _ => rfl
theorem fr_two {x y : Dt} (h : x.isW = false ∨ y.isW = false) : (Dt.tup [x, y]).fr? = none := by
  show (match x.num, y.num with
        | some t, some b => some (t, b)
        | _, _ => none) = none
  rcases h with h | h
  · rw [num_none h]
  · rw [num_none h]
    cases x.num <;> rfl
def m_is_fraction : List Dt → Option Dt
  | [d] => some (.bl d.isFr)
  | _ => none
def m_is_share : List Dt → Option Dt
  | [d] => some (.bl d.isSh0)
  | _ => none
theorem notpair_fr {d : Dt} (h : d.isPair = false) : d.fr? = none := by
  cases e : d.fr? with
  | none => rfl
  | some p =>
    rw [fr_inv? e] at h
    cases h
theorem isFr_none {d : Dt} (h : d.fr? = none) : d.isFr = false := by
  unfold Dt.isFr
  rw [h]
theorem pair_inv {d : Dt} (h : d.isPair = true) : ∃ x y, d = .tup [x, y] := by
  cases d with
  | tup ds =>
    match ds, h with
    | [x, y], _ => exact ⟨x, y, rfl⟩
    | [], h => cases h
    | [_], h => cases h
    | _ :: _ :: _ :: _, h => exact absurd h (by simp [Dt.isPair])
  | _ => cases h
theorem isW_inv {d : Dt} (h : d.isW = true) : ∃ i, d = .int i := by
  cases d with
  | int i => exact ⟨i, rfl⟩
  | _ => cases h
theorem ok_is_fraction (T : Txt K mg) : FnOk P w K mg base CX0 2 T.f_is_fraction T.d_is_fraction ["thing"] (spD K m_is_fraction) := by
  refine T.F_is_fraction.ok sc_is_fraction (fun vs H Q E h => ?_) (fun cdv A outer s H vs Q E hr h => ?_)
  · obtain ⟨ds, r, hd, e, _⟩ := h
    exact match ds, e, hd with | [_], _, hd => hd.length
  · obtain ⟨ds, r, hd, e, q⟩ := h
    match ds, e, hd, q with
    | [d], e, .cons h .nil, q =>
      cases e
      have q : ∀ H', Same H H' → Q (.bl d.isFr) H' := fun H' s => q _ H' s (.bl _)
      refine ⟨_, (pss_cons (ps_if (pt_not (pt_val (pe_call (ok_is_pair T) hr (by rfl) T.g_is_pair T.F_is_pair.kp T.b_is_pair .nil pass0 (pa_cons (pv 0) pa_nil)))) (pss_one (ps_ret pe_bl)) pss_nil)
      (pss_cons (ps_asg (pv 0) (pg_tupK K (n := 2) rfl (pgs_cons (pg_name (i := 1) sc_is_fraction.nd rfl (.inl rfl)) (pgs_cons (pg_name (i := 2) sc_is_fraction.nd rfl (.inl rfl)) pgs_nil))))
      (pss_one (ps_ret (pe_and (pe_call (ok_is_whole T) hr (by rfl) T.g_is_whole T.F_is_whole.kp T.b_is_whole .nil pass0 (pa_cons (pv 1) pa_nil)) (pe_and (pe_call (ok_is_whole T) hr (by rfl) T.g_is_whole T.F_is_whole.kp T.b_is_whole .nil pass0 (pa_cons (pv 2) pa_nil)) (pe_and (pe_cmpR op_ge (pv 2) pe_int (nomark _)) (pe_one (pe_cmpR op_eq (pe_callBfun cr_gcd (by rfl) T.w_gcd (pa_cons (pv 1) (pa_cons (pv 2) pa_nil))) pe_int (nomark _)))))))))), ?_⟩
      refine ⟨_, rfl, spD_bl (.cons h .nil) rfl fun H1 s1 => ⟨_, rfl, ?_⟩⟩
      cases hp : d.isPair with
      | false =>
        refine iteT ?_
        rw [isFr_none (notpair_fr hp)] at q
        exact q H1 s1
      | true =>
        refine iteF ?_
        obtain ⟨x, y, rfl⟩ := pair_inv hp
        obtain ⟨a, xs, rfl, ha, hx⟩ := (h.ext (.of s1)).tup_inv
        obtain ⟨v1, v2, rfl, h1, h2⟩ := dh_two hx
        refine ⟨_, rfl, a, _, rfl, ha, rfl, _, _, rfl, _, _, rfl, rfl, ?_⟩
        refine ⟨_, rfl, spD_bl (.cons h1 .nil) rfl fun H2 s2 => ⟨_, rfl, ?_⟩⟩
        cases hw : x.isW with
        | false =>
          refine iteF ?_
          rw [isFr_none (fr_two (.inl hw))] at q
          exact q H2 (s1.trans s2)
        | true =>
          refine iteT ?_
          refine ⟨_, rfl, spD_bl (.cons (h2.ext (.of s2)) .nil) rfl fun H3 s3 => ⟨_, rfl, ?_⟩⟩
          have s13 := (s1.trans s2).trans s3
          cases hw2 : y.isW with
          | false =>
            refine iteF ?_
            rw [isFr_none (fr_two (.inr hw2))] at q
            exact q H3 s13
          | true =>
            refine iteT ?_
            obtain ⟨t, rfl⟩ := isW_inv hw
            obtain ⟨b, rfl⟩ := isW_inv hw2
            cases h1
            cases h2
            have eq0 : (Dt.tup [.int t, .int b]).isFr = (decide (b ≥ 1) && decide (gz t b = 1)) := rfl
            rw [eq0] at q
            refine ⟨_, rfl, _, _, rfl, rfl, _, rfl, ?_⟩
            refine ite2 (fun h1 => ?_) (fun h1 => ?_)
            · rw [h1, Bool.true_and] at q
              refine ⟨_, rfl, _, rfl, t, b, rfl, rfl, ?_⟩
              have e : decide (V.int ((Nat.gcd t.natAbs b.natAbs : Nat) : Int) = V.int 1) = decide (gz t b = 1) := by
                rw [dec_int]
                unfold gz
                rw [Bool.eq_iff_iff]
                simp
              rw [e]
              exact q H3 s13
            · have h1' : decide (b ≥ 1) = false := by simpa using h1
              rw [h1', Bool.false_and] at q
              exact q H3 s13
theorem sh0_fr {d : Dt} (h : d.isFr = false) : d.isSh0 = false := by
  unfold Dt.isSh0
  rw [h, Bool.false_and]
theorem fr_shape {d : Dt} (h : d.isFr = true) : ∃ t b, d = .tup [.int t, .int b] := by
  unfold Dt.isFr at h
  cases e : d.fr? with
  | none =>
    rw [e] at h
    cases h
  | some p => exact ⟨_, _, fr_inv? e⟩
theorem ok_is_share (T : Txt K mg) : FnOk P w K mg base CX0 3 T.f_is_share T.d_is_share ["thing"] (spD K m_is_share) := by
  refine T.F_is_share.ok sc_is_share (fun vs H Q E h => ?_) (fun cdv A outer s H vs Q E hr h => ?_)
  · obtain ⟨ds, r, hd, e, _⟩ := h
    exact match ds, e, hd with | [_], _, hd => hd.length
  · obtain ⟨ds, r, hd, e, q⟩ := h
    match ds, e, hd, q with
    | [d], e, .cons h .nil, q =>
      cases e
      have q : ∀ H', Same H H' → Q (.bl d.isSh0) H' := fun H' s => q _ H' s (.bl _)
      refine ⟨_, (pss_one (ps_ret (pe_and (pe_call (ok_is_fraction T) hr (by rfl) T.g_is_fraction T.F_is_fraction.kp T.b_is_fraction .nil pass0 (pa_cons (pv 0) pa_nil)) (pe_one (pe_chain op_le op_le pe_int (pe_ix (ix_tupK K) (pv 0) pe_int (fun _ _ => rfl)) (pe_ix (ix_tupK K) (pv 0) pe_int (fun _ _ => rfl))))))), ?_⟩
      refine ⟨_, rfl, spD_bl (.cons h .nil) rfl fun H1 s1 => ⟨_, rfl, ?_⟩⟩
      cases hf : d.isFr with
      | false =>
        refine iteF ?_
        rw [sh0_fr hf] at q
        exact q H1 s1
      | true =>
        refine iteT ?_
        obtain ⟨t, b, rfl⟩ := fr_shape hf
        have hf' : (decide (b ≥ 1) && decide (gz t b = 1)) = true := hf
        have eq0 : (Dt.tup [.int t, .int b]).isSh0 = ((decide (b ≥ 1) && decide (gz t b = 1)) && (decide (0 ≤ t) && decide (t ≤ b))) := rfl
        rw [eq0, hf', Bool.true_and] at q
        obtain ⟨a, rfl, ha⟩ := ct_inv (c := [t, b]) h
        have ha1 := (Ext.of s1).sqT ha
        refine ⟨_, rfl, a, _, 0, _, rfl, rfl, ha1, atI_nat (j := 0) rfl, _, _, rfl, rfl, _, rfl, ?_⟩
        refine ite2 (fun h1 => ?_) (fun h1 => ?_)
        · rw [h1, Bool.true_and] at q
          exact ⟨_, rfl, a, _, 1, _, rfl, rfl, ha1, atI_nat (j := 1) rfl, _, _, rfl, rfl, q H1 s1⟩
        · have h1' : decide (0 ≤ t) = false := by simpa using h1
          rw [h1', Bool.false_and] at q
          exact q H1 s1
/-- a share that is not 0 -/
theorem shr_eq (d : Dt) : d.isShr = (d.isSh0 && decide (d.zz ≠ (0, 1))) := by
  cases h : d.fr? with
  | none =>
    rw [sh0_fr (isFr_none h), Bool.false_and]
    unfold Dt.isShr
    rw [h]
  | some p =>
    obtain ⟨t, b⟩ := p
    rw [fr_inv? h]
    show (decide (1 ≤ t) && (decide (t ≤ b) && decide (gz t b = 1))) = (((decide (b ≥ 1) && decide (gz t b = 1)) && (decide (0 ≤ t) && decide (t ≤ b))) && decide ((t, b) ≠ (0, 1)))
    have hz : gz t b = 1 → b ≥ 1 → t = 0 → b = 1 := fun hg hb e => by
      unfold gz at hg
      rw [e, Int.natAbs_zero, Nat.gcd_zero_left] at hg
      omega
    rw [Bool.eq_iff_iff]
    simp only [Bool.and_eq_true, decide_eq_true_eq, ne_eq, Prod.mk.injEq, not_and]
    constructor
    · rintro ⟨h1, h2, h3⟩
      exact ⟨⟨⟨by omega, h3⟩, by omega, h2⟩, by omega⟩
    · rintro ⟨⟨⟨h1, h2⟩, h3, h4⟩, h5⟩
      refine ⟨?_, h4, h2⟩
      by_cases e : t = 0
      · exact absurd (hz h2 h1 e) (h5 e)
      · omega
theorem zz_sh0 {d : Dt} (h : d.isSh0 = true) : ∃ t b : Int, d = .tup [.int t, .int b] ∧ d.zz = (t, b) := by
  cases hf : d.isFr with
  | false =>
    rw [sh0_fr hf] at h
    cases h
  | true =>
    obtain ⟨t, b, rfl⟩ := fr_shape hf
    exact ⟨t, b, rfl, rfl⟩
def Dt.p1 : Dt → Dt
  | .tup ds => match two ds with
    | some (x, _) => x
    | none => .non
  | _ => .non
def Dt.p2 : Dt → Dt
  | .tup ds => match two ds with
    | some (_, y) => y
    | none => .non
  | _ => .non
def lastLt : Option (List Int) → List Int → Bool
  | none, _ => true
  | some l, p => HT.lexLt l p
def rowGo (n : Int) : Option (List Int) → Int × Int → List Dt → Bool
  | _, tot, [] => decide (tot = (1, 1))
  | last, tot, d :: r => d.isPair && (d.p1.isPat n && (d.p2.isShr && (lastLt last d.p1.ints && rowGo n (some d.p1.ints) (plusZ tot d.p2.zz) r)))
def Dt.isRow (n : Int) : Dt → Bool
  | .tup ds => rowGo n none (0, 1) ds
  | _ => false
/-- what is drawn: numbers and tuples that are not great -/
inductive Wf : Dt → Prop
  | non : Wf .non
  | bl (b : Bool) : Wf (.bl b)
  | int {i : Int} : i.natAbs ≤ B30 → Wf (.int i)
  | str (s : Str) : Wf (.str s)
  | tup {ds : List Dt} : ds.length ≤ 10 → (∀ d ∈ ds, Wf d) → Wf (.tup ds)
  | oth (t : Value) : Wf (.oth t)
theorem Wf.items {ds : List Dt} (h : Wf (.tup ds)) : ds.length ≤ 10 ∧ ∀ d ∈ ds, Wf d := by
  cases h with
  | tup h1 h2 => exact ⟨h1, h2⟩
theorem Wf.num {i : Int} (h : Wf (.int i)) : i.natAbs ≤ B30 := by
  cases h with
  | int h => exact h
theorem shr_fr {d : Dt} (h : d.isShr = true) (hw : Wf d) : Fr 1 B30 d.zz := by
  rw [shr_eq, Bool.and_eq_true] at h
  obtain ⟨t, b, rfl, e⟩ := zz_sh0 h.1
  have z : ((decide (b ≥ 1) && decide (gz t b = 1)) && (decide (0 ≤ t) && decide (t ≤ b))) = true := h.1
  rw [Bool.and_eq_true, Bool.and_eq_true, Bool.and_eq_true, decide_eq_true_eq, decide_eq_true_eq, decide_eq_true_eq, decide_eq_true_eq] at z
  have hb := (hw.items.2 (.int b) (by simp)).num
  rw [e]
  exact ⟨by show 0 < b; omega, by show b ≤ (B30 : Int); omega, z.2.1, by show t ≤ ((1 : Nat) : Int) * b; omega⟩

end
end Fm
namespace Fm
open PySem PySem.Spec PyProof.Rows L2
section
variable {P : Program} {w : World} {K : PySem.W.Frag} {mg : Str → Option Value} {base : Heap}

/-! ### rows: the sum, the whole -/
theorem gz_mul {k a b : Int} (hk : 0 < k) : gz (k * a) (k * b) = k * gz a b := by
  unfold gz
  rw [Int.natAbs_mul, Int.natAbs_mul, Nat.gcd_mul_left, Int.natCast_mul]
  congr 1
  omega
theorem low_mul {k a b : Int} (hk : 0 < k) : lowZ (k * a) (k * b) = lowZ a b := by
  unfold lowZ
  rw [gz_mul hk, Int.mul_ediv_mul_of_pos _ _ hk, Int.mul_ediv_mul_of_pos _ _ hk]
theorem low_cross {a b c d : Int} (hb : 0 < b) (hd : 0 < d) (h : a * d = c * b) : lowZ a b = lowZ c d := by
  rw [← low_mul (a := a) (b := b) hd, ← low_mul (a := c) (b := d) hb, Int.mul_comm d a, h, Int.mul_comm c b, Int.mul_comm d b]
theorem low_parts {t b : Int} (h0 : 0 < b) : t = gz t b * (lowZ t b).1 ∧ b = gz t b * (lowZ t b).2 := by
  obtain ⟨h1, h2⟩ := gz_dvd t b
  unfold lowZ
  exact ⟨(Int.mul_ediv_cancel' h1).symm, (Int.mul_ediv_cancel' h2).symm⟩
theorem low_pos {t b : Int} (h0 : 0 < b) (ht : 0 ≤ t) : 0 < (lowZ t b).2 := (low_fr (n := t.toNat) (B := b.toNat) h0 (by omega) ht (by
  have : t * 1 ≤ t * b := Int.mul_le_mul_of_nonneg_left h0 ht
  have e : ((t.toNat : Nat) : Int) = t := by omega
  rw [e]
  omega)).pos
theorem plus_low {a b B : Int} (hB : 0 < B) (ha : 0 ≤ a) (hb : 0 ≤ b) : plusZ (lowZ a B) (lowZ b B) = lowZ (a + b) B := by
  obtain ⟨a1, a2⟩ := low_parts (t := a) hB
  obtain ⟨b1, b2⟩ := low_parts (t := b) hB
  have p1 := low_pos hB ha
  have p2 := low_pos hB hb
  unfold plusZ
  generalize (lowZ a B).1 = x at *
  generalize (lowZ a B).2 = y at *
  generalize (lowZ b B).1 = u at *
  generalize (lowZ b B).2 = v at *
  generalize gz a B = g at a1 a2
  generalize gz b B = h at b1 b2
  refine low_cross (Int.mul_pos p1 p2) hB ?_
  have e1 : x * v * B = a * (y * v) := by
    rw [a1]
    conv => lhs; rw [a2]
    ac_rfl
  have e2 : u * y * B = b * (y * v) := by
    rw [b1]
    conv => lhs; rw [b2]
    ac_rfl
  rw [Int.add_mul, Int.add_mul, e1, e2]
theorem low_zero {B : Int} (hB : 0 < B) : lowZ 0 B = (0, 1) := by
  unfold lowZ gz
  rw [Int.natAbs_zero, Nat.gcd_zero_left]
  have e : ((B.natAbs : Nat) : Int) = B := by omega
  rw [e, Int.zero_ediv, Int.ediv_self (by omega)]
theorem low_one {B : Int} (hB : 0 < B) : lowZ B B = (1, 1) := by
  unfold lowZ gz
  rw [Nat.gcd_self]
  have e : ((B.natAbs : Nat) : Int) = B := by omega
  rw [e, Int.ediv_self (by omega)]
theorem low_gcd {t b : Int} (h0 : 0 < b) (ht : 0 ≤ t) : gz (lowZ t b).1 (lowZ t b).2 = 1 := by
  have g0 := gz_pos (t := t) h0
  obtain ⟨a1, a2⟩ := low_parts (t := t) h0
  have e : gz t b = gz t b * gz (lowZ t b).1 (lowZ t b).2 := by
    have z := gz_mul (k := gz t b) (a := (lowZ t b).1) (b := (lowZ t b).2) g0
    rw [← a1, ← a2] at z
    exact z
  have : gz t b * 1 = gz t b * gz (lowZ t b).1 (lowZ t b).2 := by rw [Int.mul_one]; exact e
  exact (Int.eq_of_mul_eq_mul_left (by omega) this).symm
def sumI (l : List Int) : Int := l.foldl (· + ·) 0
theorem sumI_snoc (l : List Int) (m : Int) : sumI (l ++ [m]) = sumI l + m := by
  unfold sumI
  rw [List.foldl_append]
  rfl
theorem foldl_low {B : Int} (hB : 0 < B) : ∀ {ms : List Int} {s : Int}, 0 ≤ s → (∀ m ∈ ms, 0 ≤ m) → (ms.map fun m => lowZ m B).foldl plusZ (lowZ s B) = lowZ (ms.foldl (· + ·) s) B
  | [], _, _, _ => rfl
  | m :: ms, s, hs, h => by
    have hm := h m (List.mem_cons_self ..)
    rw [List.map_cons, List.foldl_cons, plus_low hB hs hm, foldl_low hB (by omega) fun x hx => h x (List.mem_cons_of_mem _ hx)]
    rfl
theorem sum_low {B : Int} (hB : 0 < B) {ms : List Int} (h : ∀ m ∈ ms, 0 ≤ m) (hs : sumI ms = B) : sumZ (ms.map fun m => lowZ m B) = (1, 1) := by
  have q := foldl_low hB (s := 0) (Int.le_refl 0) h
  rw [low_zero hB] at q
  unfold sumZ
  rw [q]
  have e : ms.foldl (· + ·) 0 = B := hs
  rw [e]
  exact low_one hB
def ltE (x y : Dt) : Bool := HT.lexLt x.p1.ints y.p1.ints
def hdOk (last : Option (List Int)) : List Dt → Bool
  | [] => true
  | d :: _ => lastLt last d.p1.ints
theorem rowGo_eq {n : Int} : ∀ {ds : List Dt} {last : Option (List Int)} {tot : Int × Int}, rowGo n last tot ds = (ds.all Dt.isPair && ((ds.all fun d => d.p1.isPat n && d.p2.isShr) && ((hdOk last ds && adj ltE ds) && decide ((ds.map fun d => d.p2.zz).foldl plusZ tot = (1, 1)))))
  | [], last, tot => rfl
  | [d], last, tot => by
    show (d.isPair && (d.p1.isPat n && (d.p2.isShr && (lastLt last d.p1.ints && decide (plusZ tot d.p2.zz = (1, 1)))))) = ((d.isPair && true) && (((d.p1.isPat n && d.p2.isShr) && true) && ((lastLt last d.p1.ints && true) && decide (plusZ tot d.p2.zz = (1, 1)))))
    cases d.isPair <;> cases d.p1.isPat n <;> cases d.p2.isShr <;> cases lastLt last d.p1.ints <;> rfl
  | d :: e :: ds, last, tot => by
    have ih := rowGo_eq (n := n) (ds := e :: ds) (last := some d.p1.ints) (tot := plusZ tot d.p2.zz)
    show (d.isPair && (d.p1.isPat n && (d.p2.isShr && (lastLt last d.p1.ints && rowGo n (some d.p1.ints) (plusZ tot d.p2.zz) (e :: ds))))) = ((d.isPair && (e :: ds).all Dt.isPair) && (((d.p1.isPat n && d.p2.isShr) && ((e :: ds).all fun d => d.p1.isPat n && d.p2.isShr)) && ((lastLt last d.p1.ints && (ltE d e && adj ltE (e :: ds))) && decide (((e :: ds).map fun d => d.p2.zz).foldl plusZ (plusZ tot d.p2.zz) = (1, 1)))))
    rw [ih]
    have eh : hdOk (some d.p1.ints) (e :: ds) = ltE d e := rfl
    rw [eh]
    generalize (e :: ds).all Dt.isPair = b1
    generalize ((e :: ds).all fun d => d.p1.isPat n && d.p2.isShr) = b2
    generalize ltE d e = b3
    generalize adj ltE (e :: ds) = b4
    generalize decide (((e :: ds).map fun d => d.p2.zz).foldl plusZ (plusZ tot d.p2.zz) = (1, 1)) = b5
    cases d.isPair <;> cases d.p1.isPat n <;> cases d.p2.isShr <;> cases lastLt last d.p1.ints <;> cases b1 <;> cases b2 <;> cases b3 <;> cases b4 <;> cases b5 <;> rfl
theorem adj_pw {α : Type} {r : α → α → Bool} : ∀ {l : List α}, l.Pairwise (fun x y => r x y = true) → adj r l = true
  | [], _ => rfl
  | [_], _ => rfl
  | x :: y :: l, h => by
    have h' := List.pairwise_cons.mp h
    show (r x y && adj r (y :: l)) = true
    rw [h'.1 y (List.mem_cons_self ..), adj_pw h'.2]
    rfl

end
end Fm
namespace Fm
open PySem PySem.Spec PyProof.Rows L2
section
variable {P : Program} {w : World} {K : PySem.W.Frag} {mg : Str → Option Value} {base : Heap}

/-! ### all patterns -/
/-- patterns of so many columns -/
def CtA (K : PySem.W.Frag) (H : Hp) (n : Nat) (xs : List V) : Prop := ∀ x ∈ xs, ∃ c : List Int, Dh K H x (ctD c) ∧ Asc n (-1) c
theorem CtA.ext {H H' : Hp} {n : Nat} {xs : List V} (e : Ext H H') (h : CtA K H n xs) : CtA K H' n xs := fun x hx => by
  obtain ⟨c, hc, hl⟩ := h x hx
  exact ⟨c, hc.ext e, hl⟩
theorem Asc.snoc {n : Int} : ∀ {l : Int} {ps : List Int}, Asc n l ps → l < n → Asc (n + 1) l (ps ++ [n])
  | _, [], _, h => ⟨h, by omega, True.intro⟩
  | _, c :: r, ⟨h1, h2, h3⟩, _ => ⟨h1, by omega, h3.snoc h2⟩
theorem Asc.wide {n : Int} : ∀ {l : Int} {ps : List Int}, Asc n l ps → Asc (n + 1) l ps
  | _, [], _ => True.intro
  | _, c :: r, ⟨h1, h2, h3⟩ => ⟨h1, by omega, h3.wide⟩

def patsOf : Nat → List (List Int)
  | 0 => [[]]
  | n + 1 => patsOf n ++ (patsOf n).map fun q => q ++ [(n : Int)]
theorem pats_len : ∀ n, (patsOf n).length = 2 ^ n
  | 0 => rfl
  | n + 1 => by
    show (patsOf n ++ (patsOf n).map fun q => q ++ [(n : Int)]).length = _
    rw [List.length_append, List.length_map, pats_len n, Nat.pow_succ]
    omega
theorem Asc.split {n : Int} : ∀ {l : Int} {q : List Int}, Asc (n + 1) l q → Asc n l q ∨ ∃ q', q = q' ++ [n] ∧ Asc n l q'
  | _, [], _ => .inl True.intro
  | l, c :: r, ⟨h1, h2, h3⟩ => by
    by_cases e : c < n
    · rcases h3.split with z | ⟨q', e1, z⟩
      · exact .inl ⟨h1, e, z⟩
      · exact .inr ⟨c :: q', by rw [e1]; rfl, h1, e, z⟩
    · have ec : c = n := by omega
      cases r with
      | nil => exact .inr ⟨[], by rw [ec]; rfl, True.intro⟩
      | cons d r =>
        have := h3.1
        have := h3.2.1
        omega
theorem mem_pats : ∀ {n : Nat} {q : List Int}, q ∈ patsOf n ↔ Asc n (-1) q
  | 0, q => by
    constructor
    · intro h
      rw [List.mem_singleton.mp h]
      exact True.intro
    · intro h
      cases q with
      | nil => exact List.mem_singleton.mpr rfl
      | cons c r =>
        have h1 := h.1
        have h2 := h.2.1
        omega
  | n + 1, q => by
    show q ∈ patsOf n ++ (patsOf n).map (fun q => q ++ [(n : Int)]) ↔ Asc ((n : Int) + 1) (-1) q
    rw [List.mem_append, mem_pats, List.mem_map]
    constructor
    · rintro (h | ⟨p, hp, rfl⟩)
      · exact h.wide
      · exact (mem_pats.mp hp).snoc (by omega)
    · intro h
      rcases h.split with z | ⟨p, e, z⟩
      · exact .inl z
      · exact .inr ⟨p, mem_pats.mpr z, e.symm⟩
theorem pats_nodup : ∀ n, (patsOf n).Nodup
  | 0 => List.nodup_cons.mpr ⟨fun h => (by cases h), List.nodup_nil⟩
  | n + 1 => by
    show (patsOf n ++ (patsOf n).map fun q => q ++ [(n : Int)]).Nodup
    refine List.nodup_append.mpr ⟨pats_nodup n, ?_, fun a ha b hb e => ?_⟩
    · exact List.pairwise_map.mpr ((pats_nodup n).imp fun {x y} hne e => hne (List.append_cancel_right e))
    · obtain ⟨q, _, rfl⟩ := List.mem_map.mp hb
      rw [e] at ha
      have := (mem_pats.mp ha).mem n (List.mem_append_right _ (List.mem_singleton.mpr rfl))
      omega
/-- what a pattern's data tells -/
def unI : PyData → Int
  | .int i => i
  | _ => 0
def unP : PyData → List Int
  | .tuple l => l.map unI
  | _ => []
theorem unP_ct (c : List Int) : unP (ctP c) = c := by
  show (c.map PyData.int).map unI = c
  rw [List.map_map]
  exact (List.map_congr_left fun _ _ => rfl).trans (List.map_id c)
theorem dhs_of {H : Hp} {g : V × PyData → List Int} : ∀ {S : List (V × PyData)}, (∀ b ∈ S, Dh K H b.1 (ctD (g b))) → DhAll K H (S.map (·.1)) ((S.map g).map ctD)
  | [], _ => .nil
  | b :: S, h => .cons (h b (List.mem_cons_self ..)) (dhs_of fun z hz => h z (List.mem_cons_of_mem _ hz))
theorem pats_data {H : Hp} : ∀ {xs : List V} {qs : List (List Int)}, DhAll K H xs (qs.map ctD) → ∃ bs : List (V × PyData), bs.map (·.1) = xs ∧ bs.map (fun b => unP b.2) = qs ∧ ∀ b ∈ bs, Dh K H b.1 (ctD (unP b.2)) ∧ b.2 = ctP (unP b.2)
  | [], [], _ => ⟨[], rfl, rfl, fun b hb => by cases hb⟩
  | x :: xs, c :: qs, h => by
    rw [List.map_cons] at h
    cases h with
    | cons h t =>
      obtain ⟨bs, e, e2, hb⟩ := pats_data t
      refine ⟨(x, ctP c) :: bs, by rw [List.map_cons, e], by rw [List.map_cons, e2, unP_ct], fun b hm => ?_⟩
      rcases List.mem_cons.mp hm with z | z
      · rw [z, unP_ct]
        exact ⟨h, rfl⟩
      · exact hb b z
  | x :: xs, [], h => by cases h
  | [], c :: qs, h => by cases h
theorem le_pats (a b : List Int) : (!PySem.W.dataLt (ctP b) (ctP a)) = decide (a ≤ b) := by
  have e : PySem.W.dataLt (ctP b) (ctP a) = decide (b < a) := (PySem.W.dataLt_tuple _ _).trans (PySem.W.dataLt_ints b a)
  rw [e]
  by_cases h : b < a
  · have h' : ¬ a ≤ b := fun r => List.not_lt.mpr r h
    simp [h, h']
  · have h' : a ≤ b := List.not_lt.mp h
    simp [h, h']
theorem sorted_pats {qs : List (List Int)} (nd : qs.Nodup) : (qs.mergeSort fun a b => decide (a ≤ b)).Pairwise fun a b => HT.lexLt a b = true := by
  have h1 := List.pairwise_mergeSort (le := fun a b : List Int => decide (a ≤ b)) (fun a b c x y => decide_eq_true (List.le_trans (of_decide_eq_true x) (of_decide_eq_true y))) (fun a b => by
    rcases List.le_total a b with x | x <;> simp [x]) qs
  have h2 : (qs.mergeSort fun a b => decide (a ≤ b)).Nodup := (List.mergeSort_perm qs _).nodup_iff.mpr nd
  refine (h1.and h2).imp fun {a b} ⟨x, y⟩ => ?_
  rw [lexLt_dec]
  refine decide_eq_true ?_
  by_cases z : a < b
  · exact z
  · exact absurd (List.le_antisymm (of_decide_eq_true x) (List.not_lt.mp z)) y
theorem sort_pats {H : Hp} {a : Addr} {xs : List V} {qs : List (List Int)} {Q : VK} (hs : SqL K H a xs) (hd : DhAll K H xs (qs.map ctD)) (few : ∀ q ∈ qs, q.length ≤ 5)
    (q : ∀ p ys (qs' : List (List Int)), H p = none → DhAll K H ys (qs'.map ctD) → qs' = (qs.mergeSort fun a b => decide (a ≤ b)) → Q (.ref p) (upd H p (.lst ys))) : rSortTs K [.ref a] H Q := by
  obtain ⟨bs, e, e2, hb⟩ := pats_data hd
  refine ⟨a, bs, rfl, by rw [e]; exact hs, fun b hm => ?_, ?_, fun p np => ?_⟩
  · obtain ⟨h1, h2⟩ := hb b hm
    refine ⟨by rw [h2]; exact dp_ct h1, ⟨_, h2⟩, ?_⟩
    rw [h2]
    have z := (lay_ct (unP b.2)).2
    omega
  · intro d hd d' hd'
    obtain ⟨b, hm, rfl⟩ := List.mem_map.mp hd
    obtain ⟨b', hm', rfl⟩ := List.mem_map.mp hd'
    rw [(hb b hm).2, (hb b' hm').2]
    show PySem.W.alikeAll ((unP b.2).map PyData.int) ((unP b'.2).map PyData.int) = true
    exact PySem.W.alike_ints _ _
  · have pm := List.mergeSort_perm bs (PySem.W.dataLe false (fun b : V × PyData => b.2))
    refine q p _ ((bs.mergeSort (PySem.W.dataLe false (fun b : V × PyData => b.2))).map fun b => unP b.2) np (dhs_of fun b hm => (hb b (pm.mem_iff.mp hm)).1) ?_
    rw [← e2]
    refine List.map_mergeSort (s := fun a b : List Int => decide (a ≤ b)) fun b hm b' hm' => ?_
    rw [PySem.W.dataLe_eq]
    show (!PySem.W.dataLt b'.2 b.2) = _
    rw [(hb b hm).2, (hb b' hm').2, unP_ct, unP_ct]
    exact le_pats _ _
structure PatsAll (n : Nat) (qs : List (List Int)) : Prop where
  nd : qs.Nodup
  all : ∀ q, q ∈ qs ↔ Asc n (-1) q
  len : qs.length = 2 ^ n
  asc : qs.Pairwise fun a b => HT.lexLt a b = true
theorem pats_all {n : Nat} {qs : List (List Int)} (e : qs = (patsOf n).mergeSort fun a b => decide (a ≤ b)) : PatsAll n qs := by
  have h : qs.Perm (patsOf n) := by
    rw [e]
    exact List.mergeSort_perm _ _
  exact ⟨h.nodup_iff.mpr (pats_nodup n), fun q => h.mem_iff.trans mem_pats, by rw [h.length_eq, pats_len], by rw [e]; exact sorted_pats (pats_nodup n)⟩
theorem cta_of {H : Hp} {n : Nat} : ∀ {xs : List V} {qs : List (List Int)}, DhAll K H xs (qs.map ctD) → (∀ q ∈ qs, Asc n (-1) q) → CtA K H n xs
  | [], _, _, _ => fun x hx => by cases hx
  | x :: xs, q :: qs, h, ha => by
    rw [List.map_cons] at h
    cases h with
    | cons h1 t =>
      intro y hy
      rcases List.mem_cons.mp hy with e | e
      · rw [e]
        exact ⟨q, h1, ha q (List.mem_cons_self ..)⟩
      · exact cta_of t (fun z hz => ha z (List.mem_cons_of_mem _ hz)) y e
  | x :: xs, [], h, _ => by cases h
def spPats (K : PySem.W.Frag) : Sp := fun vs H Q _ => ∃ n : Nat, vs = [.int n] ∧ n ≤ 5 ∧ ∀ (p : Addr) (xs : List V) (qs : List (List Int)) (H' : Hp), H p = none → Same H H' → H' p = some (.lst xs) → DhAll K H' xs (qs.map ctD) → PatsAll n qs → Q (.ref p) H'
theorem pow5 {n : Nat} (h : n ≤ 5) : 1 ≤ 2 ^ n ∧ 2 ^ n ≤ 32 := ⟨Nat.one_le_two_pow, Nat.le_trans (Nat.pow_le_pow_right (by decide) h) (by decide)⟩
theorem ok_law_patterns (T : Txt K mg) : FnOk P w K mg base CX0 1 T.f_law_patterns T.d_law_patterns ["columns"] (spPats K) := by
  refine T.F_law_patterns.ok sc_law_patterns (fun vs H Q E h => ?_) (fun cdv A outer s H vs Q E hr h => ?_)
  · obtain ⟨_, rfl, _⟩ := h
    rfl
  · obtain ⟨n, rfl, hn, q⟩ := h
    refine ⟨_, (pss_cons (ps_set (i := 1) sc_law_patterns.nd rfl (.inl rfl) (pe_lst (pa_cons (pe_tup pa_nil) pa_nil)))
      (pss_cons (ps_for PassesOwn.never rfl (pi_range1 (by rfl) T.z_range (pa_cons (pv 0) pa_nil)) (pg_name (i := 2) sc_law_patterns.nd rfl (.inr rfl)) (pss_one (ps_set (i := 1) sc_law_patterns.nd rfl (.inl rfl) (pe_op op_cat (pv 1) (pe_lc (own := [("pattern", 3)]) rfl sc_law_patterns.nd (pi_listK K (pv 1)) (blkOk_by (N := N_law_patterns) (sc := defScope s_law_patterns) (by decide +kernel)) (fun _ _ _ _ _ => (pg_name (i := 3) sc_law_patterns.nd rfl (.inl rfl))) (fun _ _ _ _ _ => pts_nil) (fun _ _ _ _ _ => (pe_op (op_catK K) (pv 3) (pe_tup (pa_cons (pv 2) pa_nil)))))))))
      (pss_one (ps_ret (pe_callB (call_sortTsK (K := K) hr.units) (by rfl) T.z_sorted (by decide +kernel) (pa_cons (pv 1) pa_nil)))))), ?_⟩
    refine ⟨by show 0 ≤ sizeLine; decide, fun t nt => ⟨by show 1 ≤ sizeLine; decide, fun f nf => ?_⟩⟩
    have s1 : Same H (upd H t (.tup [])) := same_new nt
    have e1 : (upd H t (.tup [])) t = some (.tup []) := upd_same
    generalize upd H t (.tup []) = H1 at s1 e1 nf ⊢
    have s2 : Same H1 (upd H1 f (.lst [.ref t])) := same_new nf
    have e2 : (upd H1 f (.lst [.ref t])) f = some (.lst [.ref t]) := upd_same
    generalize upd H1 f (.lst [.ref t]) = H2 at s2 e2 ⊢
    have s12 := s1.trans s2
    refine ⟨_, rfl, n, rfl, by omega, by omega, for_range (lo := 0) (n := ((n : Nat) : Int).toNat) (fun i σ H' => ∃ (f : Addr) (xs : List V) (y2 y3 : Option V), σ = [some (.int n), some (.ref f), y2, y3] ∧ Same H H' ∧ H' f = some (.lst xs) ∧ DhAll K H' xs ((patsOf i).map ctD))
      ⟨f, _, none, none, rfl, s12, e2, .cons (.tup (SqT.of (s2 _ _ e1)) .nil) .nil⟩ ?_ ?_⟩
    · rintro i σ H0 hi ⟨f, xs, y2, y3, rfl, sm, hf, hc⟩
      rw [Int.toNat_natCast] at hi
      have h32 := pow5 (show i ≤ 5 by omega)
      have hlen : xs.length = 2 ^ i := by rw [hc.length, List.length_map, pats_len]
      refine ⟨_, rfl, ?_⟩
      refine ⟨_, rfl, f, rfl, ⟨xs, SqL.of hf⟩, fun D nD => lc_list (K := K) (xs := xs) (fun j H' => ∃ acc, Same H0 H' ∧ H' D = some (.lst acc) ∧ acc.length = j ∧ DhAll K H' acc (((patsOf i).take j).map fun q => ctD (q ++ [(i : Int)]))) ⟨[], same_new nD, upd_same, rfl, by rw [List.take_zero]; exact .nil⟩ (fun j H' _ ⟨_, s', _⟩ => s'.seq (SqL.of hf)) ?_ ?_⟩
      · rintro j x H' hx ⟨acc, s', hD, hal, hac⟩
        obtain ⟨d, hd, hxc⟩ := hc.get hx
        obtain ⟨c, hcq, rfl⟩ := map_at hd
        have hasc := mem_pats.mp (List.mem_of_getElem? hcq)
        have hjl := (List.getElem?_eq_some_iff.mp hx).1
        refine ⟨rfl, ?_⟩
        dsimp only [tYes]
        rw [if_pos rfl]
        have hc5 : c.length ≤ 1000 := by
          have := hasc.len (by omega)
          omega
        refine ⟨_, rfl, _, rfl, by show 1 ≤ sizeLine; decide, fun r nr => cat_ct (K := K) (c := c) (j := (0 + (i : Int))) (hxc.ext (.of (s'.trans (same_new nr)))) hc5 upd_same fun v H3 s4 hv => ?_⟩
        have s5 : Same H' H3 := (same_new nr).trans s4
        refine ⟨acc, s5 _ _ hD, sz_small (by omega), acc ++ [v], Same.put nD (s'.trans s5), upd_same, by rw [List.length_append, hal]; rfl, ?_⟩
        have ep : Ext H3 (upd H3 D (.lst (acc ++ [v]))) := Ext.put (s5 _ _ hD)
        rw [List.take_add_one, hcq, List.map_append]
        refine ((hac.ext (.of s5)).ext ep).snoc ?_
        rw [Int.zero_add] at hv
        exact hv.ext ep
      · rintro H' ⟨acc, s', hD, hal, hac⟩
        have hal2 : acc.length = 2 ^ i := by rw [hal, hlen]
        rw [List.take_of_length_le (by rw [pats_len, hlen]; exact Nat.le_refl _)] at hac
        refine ⟨f, D, xs, acc, rfl, rfl, s' _ _ hf, hD, Nat.le_of_lt (sz_small (by omega)), fun p np => ?_⟩
        have sp : Same H' (upd H' p (.lst (xs ++ acc))) := same_new np
        refine ⟨p, _, _, _, rfl, (sm.trans s').trans sp, upd_same, ?_⟩
        show DhAll K _ (xs ++ acc) ((patsOf i ++ (patsOf i).map fun q => q ++ [(i : Int)]).map ctD)
        rw [List.map_append, List.map_map]
        exact DhAll.append (hc.ext (.of (s'.trans sp))) (hac.ext (.of sp))
    · rintro σ H' ⟨f, xs, y2, y3, rfl, sm, hf, hc⟩
      rw [Int.toNat_natCast] at hc
      refine ⟨_, rfl, sort_pats (SqL.of hf) hc (fun q hq => by have := (mem_pats.mp hq).len (by omega); omega) fun p ys qs' np hd pm => ?_⟩
      have sp : Same H' (upd H' p (.lst ys)) := same_new np
      exact q p ys qs' _ (sm.free np) (sm.trans sp) upd_same (hd.ext (.of sp)) (pats_all pm)

end
end Fm
namespace Fm
open PySem PySem.Spec PyProof.Rows L2
section
variable {P : Program} {w : World} {K : PySem.W.Frag} {mg : Str → Option Value} {base : Heap}

abbrev at0 (c : List Int) (k : Int) : Int := c.getD k.toNat 0
theorem contGo_iff : ∀ {ss c : List Int}, contGo ss (c.map Dt.int) = true ↔ ∀ (i : Nat) (x s : Int), c[i]? = some x → ss[i]? = some s → 0 ≤ x ∧ x < s
  | [], c => ⟨fun _ i x s _ h => by simp at h, fun _ => by cases c <;> rfl⟩
  | s :: ss, [] => ⟨fun _ i x s h => by simp at h, fun _ => rfl⟩
  | s :: ss, x :: c => by
    have e : contGo (s :: ss) ((x :: c).map Dt.int) = if 0 ≤ x ∧ x < s then contGo ss (c.map Dt.int) else false := rfl
    rw [e]
    constructor
    · intro h i y t hy ht
      by_cases hx : 0 ≤ x ∧ x < s
      · rw [if_pos hx] at h
        cases i with
        | zero =>
          have e1 : x = y := by simpa using hy
          have e2 : s = t := by simpa using ht
          rw [← e1, ← e2]
          exact hx
        | succ i => exact contGo_iff.mp h i y t (by simpa using hy) (by simpa using ht)
      · rw [if_neg hx] at h
        cases h
    · intro h
      rw [if_pos (h 0 x s rfl rfl)]
      exact contGo_iff.mpr fun i y t hy ht => h (i + 1) y t (by simpa using hy) (by simpa using ht)
theorem isCt_iff {ss c : List Int} : IsCt ss c ↔ c.length = ss.length ∧ ∀ (i : Nat) (x s : Int), c[i]? = some x → ss[i]? = some s → 0 ≤ x ∧ x < s := by
  have e : (ctD c).isCont ss = ((c.map Dt.int).length == ss.length && contGo ss (c.map Dt.int)) := rfl
  unfold IsCt
  rw [e, Bool.and_eq_true, contGo_iff, List.length_map]
  simp
theorem mem_step {found : List (List Int)} {s : Int} {c : List Int} : c ∈ stepC found s ↔ ∃ b ∈ found, ∃ w : Nat, w < s.toNat ∧ c = b ++ [(w : Int)] := by
  unfold stepC
  rw [List.mem_flatMap]
  constructor
  · rintro ⟨b, hb, hc⟩
    obtain ⟨w, hw, rfl⟩ := List.mem_map.mp hc
    exact ⟨b, hb, w, List.mem_range.mp hw, rfl⟩
  · rintro ⟨b, hb, w, hw, rfl⟩
    exact ⟨b, hb, List.mem_map.mpr ⟨w, List.mem_range.mpr hw, rfl⟩⟩
theorem mem_allC_take {ss : List Int} : ∀ (i : Nat), i ≤ ss.length → ∀ c, c ∈ allC (ss.take i) ↔ c.length = i ∧ ∀ (j : Nat) (x s : Int), c[j]? = some x → ss[j]? = some s → 0 ≤ x ∧ x < s
  | 0, _, c => by
    have e : allC (ss.take 0) = [[]] := rfl
    rw [e, List.mem_singleton]
    constructor
    · rintro rfl
      exact ⟨rfl, fun j x s h => by simp at h⟩
    · rintro ⟨h, _⟩
      exact List.length_eq_zero_iff.mp h
  | i + 1, h, c => by
    have hi : i < ss.length := h
    have e : ss[i]? = some ss[i] := List.getElem?_eq_getElem hi
    have e' : ss.take (i + 1) = ss.take i ++ [ss[i]] := by rw [List.take_add_one, e]; rfl
    rw [e', allC_snoc, mem_step]
    constructor
    · rintro ⟨b, hb, w, hw, rfl⟩
      obtain ⟨hl, hall⟩ := (mem_allC_take i (Nat.le_of_lt hi) b).mp hb
      refine ⟨by rw [List.length_append, hl]; rfl, fun j x s hx hs => ?_⟩
      by_cases hj : j < i
      · rw [List.getElem?_append_left (by omega)] at hx
        exact hall j x s hx hs
      · have hj2 : j < (b ++ [(w : Int)]).length := (List.getElem?_eq_some_iff.mp hx).1
        rw [List.length_append, hl] at hj2
        have ej : j = i := by
          have : ([(w : Int)] : List Int).length = 1 := rfl
          omega
        subst ej
        rw [List.getElem?_append_right (by omega), hl, Nat.sub_self] at hx
        have ex : (w : Int) = x := by simpa using hx
        rw [e] at hs
        have es := Option.some.inj hs
        omega
    · rintro ⟨hl, hall⟩
      have hil : i < c.length := by omega
      refine ⟨c.take i, (mem_allC_take i (Nat.le_of_lt hi) _).mpr ⟨by rw [List.length_take]; omega, fun j x s hx hs => ?_⟩, (c[i]).toNat, ?_, ?_⟩
      · have hj : j < (c.take i).length := (List.getElem?_eq_some_iff.mp hx).1
        rw [List.length_take] at hj
        rw [List.getElem?_take_of_lt (by omega)] at hx
        exact hall j x s hx hs
      · have := hall i c[i] ss[i] (List.getElem?_eq_getElem hil) e
        omega
      · have := hall i c[i] ss[i] (List.getElem?_eq_getElem hil) e
        have e2 : ((c[i].toNat : Nat) : Int) = c[i] := by omega
        rw [e2]
        have e3 : c.take (i + 1) = c.take i ++ [c[i]] := by rw [List.take_add_one, List.getElem?_eq_getElem hil]; rfl
        rw [← e3, List.take_of_length_le (by omega)]
theorem mem_allC {ss c : List Int} : c ∈ allC ss ↔ IsCt ss c := by
  have q := mem_allC_take (ss := ss) ss.length (Nat.le_refl _) c
  rw [List.take_length] at q
  rw [q, isCt_iff]
theorem at0_some {c : List Int} {k : Int} (h0 : 0 ≤ k) (h1 : k < c.length) : c[k.toNat]? = some (at0 c k) := by
  have hl : k.toNat < c.length := by omega
  show _ = some (c.getD k.toNat 0)
  rw [List.getD_eq_getElem?_getD, List.getElem?_eq_getElem hl]
  rfl

/-! ### cells picked, boxes judged -/
def picks (ps c : List Int) : List Int := ps.map fun p => c.getD p.toNat 0
theorem picks_len (ps c : List Int) : (picks ps c).length = ps.length := List.length_map _
theorem pick_at {ps c : List Int} {i : Nat} {p : Int} (h : ps[i]? = some p) (hr : InR ps c.length) : atI (c.map V.int) p = some (.int (c.getD p.toNat 0)) ∧ (picks ps c).take (i + 1) = (picks ps c).take i ++ [c.getD p.toNat 0] := by
  obtain ⟨h0, h1⟩ := hr p (List.mem_of_getElem? h)
  have hl : p.toNat < c.length := by omega
  have e : c[p.toNat]? = some (c.getD p.toNat 0) := by
    rw [List.getD_eq_getElem?_getD, List.getElem?_eq_getElem hl]
    rfl
  refine ⟨at_of (j := p.toNat) (by omega) ?_, ?_⟩
  · rw [List.getElem?_map, e]
    rfl
  · have e2 : (picks ps c)[i]? = some (c.getD p.toNat 0) := by
      unfold picks
      rw [List.getElem?_map, h]
      rfl
    rw [List.take_add_one, e2]
    rfl
/-- [t[x] for x in ps] -/
theorem lc_pick {H : Hp} {σ : L2.St} {Q : VK} {a b : Addr} {ps cs : List Int} {kx kc : Nat} {tp : TE} (htp : ∀ R : VK, R (.ref a) H → tp σ H R) (ha : SqT K H a (ps.map V.int)) (hb : SqT K H b (cs.map V.int)) (hr : InR ps cs.length) (hl : ps.length ≤ 1000)
    (hw : ∀ x, wipe ((wipe σ [kx]).set kx (some x)) [kx] = wipe σ [kx]) (hc : ∀ x : V, ((wipe σ [kx]).set kx (some x))[kc]? = some (some (.ref b))) (hx : ∀ x : V, ((wipe σ [kx]).set kx (some x))[kx]? = some (some x))
    (q : ∀ D H', H D = none → Same H H' → H' D = some (.lst ((picks ps cs).map V.int)) → Q (.ref D) H') :
    tLc (iTup K tp) (gName kx) tYes (tOp (rIxT K) (tVar kc) (tVar kx)) [kx] σ H Q := by
  refine htp _ ⟨a, rfl, ⟨_, ha⟩, fun D hD => lc_tup (K := K) (xs := ps.map V.int) (fun i H' => Same H H' ∧ H' D = some (.lst (((picks ps cs).take i).map V.int))) ⟨same_new hD, upd_same⟩ (fun i H' _ p => (Ext.of p.1).sqT ha) ?_ ?_⟩
  · rintro i x H' hi ⟨sm, hDl⟩
    obtain ⟨p, rfl, hp⟩ := int_at hi
    obtain ⟨e1, e2⟩ := pick_at hp hr
    refine ⟨hw _, ?_⟩
    dsimp only [tYes]
    rw [if_pos rfl]
    refine ⟨_, hc _, _, hx _, b, _, p, _, rfl, rfl, (Ext.of sm).sqT hb, e1, _, hDl, ?_, fun c o e => ?_, ?_⟩
    · rw [List.length_map, List.length_take]
      exact sz_small (by have := picks_len ps cs; omega)
    · rw [upd_ne (ne_of_none e hD)]
      exact sm _ _ e
    · rw [upd_same, e2, List.map_append]
      rfl
  · rintro H' ⟨sm, hDl⟩
    rw [List.length_map, ← picks_len ps cs, List.take_length] at hDl
    exact q D H' hD sm hDl
def boxD (ps ws : List Int) : Dt := .tup [ctD ps, ctD ws]
abbrev boxP (ps ws : List Int) : PyData := .tuple [ctP ps, ctP ws]
theorem lay_box (ps ws : List Int) : (boxP ps ws).canLay0 = true ∧ (boxP ps ws).depth ≤ 2 := by
  obtain ⟨h1, h2⟩ := lay_all (f := fun c => ctP c) (n := 1) lay_ct [ps, ws]
  exact ⟨h1, Nat.succ_le_succ h2⟩
theorem shaped_box (ps ws : List Int) : SeqAt.shaped (boxP ps ws) = true := shaped_of (lay_box ps ws) (by decide)
theorem eqv_box (a b c d : List Int) : PyData.eqv (boxP a b) (boxP c d) = decide (a = c ∧ b = d) := by
  have q := eqv_all (f := fun c => ctP c) eqv_ct [a, b] [c, d]
  rw [PyData.eqv]
  refine Eq.trans q ?_
  by_cases e1 : a = c <;> by_cases e2 : b = d <;> simp [e1, e2]
theorem box_inv {K : PySem.W.Frag} {H : Hp} {v : V} {ps ws : List Int} (h : Dh K H v (boxD ps ws)) : ∃ a v1 v2, v = .ref a ∧ SqT K H a [v1, v2] ∧ Dh K H v1 (ctD ps) ∧ Dh K H v2 (ctD ws) := by
  obtain ⟨a, xs, rfl, s, t⟩ := h.tup_inv
  obtain ⟨v1, v2, rfl, h1, h2⟩ := dh_two t
  exact ⟨a, v1, v2, rfl, s, h1, h2⟩
theorem dp_box {K : PySem.W.Frag} {H : Hp} {v : V} {ps ws : List Int} (h : Dh K H v (boxD ps ws)) : Dp K H v (boxP ps ws) := by
  obtain ⟨a, v1, v2, rfl, s, h1, h2⟩ := box_inv h
  exact .tup s (.cons (dp_ct h1) (.cons (dp_ct h2) .nil))
def spLBox (K : PySem.W.Frag) : Sp := fun vs H Q _ => ∃ (ps c : List Int) (v1 v2 : V), vs = [v1, v2] ∧ Dh K H v1 (ctD ps) ∧ Dh K H v2 (ctD c) ∧ InR ps c.length ∧ ps.length ≤ 1000 ∧ ∀ v H', Same H H' → Dh K H' v (boxD ps (picks ps c)) → Q v H'
theorem ok_law_box (T : Txt K mg) : FnOk P w K mg base CX0 1 T.f_law_box T.d_law_box ["pattern", "content"] (spLBox K) := by
  refine T.F_law_box.ok sc_law_box (fun vs H Q E h => ?_) (fun cdv A outer s H vs Q E hr h => ?_)
  · obtain ⟨_, _, _, _, rfl, _⟩ := h
    rfl
  · obtain ⟨ps, c, v1, v2, rfl, h1, h2, hin, hl, q⟩ := h
    obtain ⟨a, rfl, ha⟩ := ct_inv h1
    obtain ⟨b, rfl, hb⟩ := ct_inv h2
    refine ⟨_, (pss_one (ps_ret (pe_tup (pa_cons (pv 0) (pa_cons (pe_callTy (call_tupleK K) (by rfl) T.z_tuple (by decide +kernel) (pa_cons (pe_lc (own := [("c", 2)]) rfl sc_law_box.nd (pi_tupK K (pv 0)) (blkOk_by (N := N_law_box) (sc := defScope s_law_box) (by decide +kernel)) (fun _ _ _ _ _ => (pg_name (i := 2) sc_law_box.nd rfl (.inl rfl))) (fun _ _ _ _ _ => pts_nil) (fun _ _ _ _ _ => (pe_ix (ix_tupK K) (pv 1) (pv 2) (fun _ _ => rfl)))) pa_nil)) pa_nil))))), ?_⟩
    refine ⟨_, rfl, ?_⟩
    dsimp only [tCB, tCons]
    refine lc_pick (K := K) (kx := 2) (kc := 1) (tp := tVar 0) (σ := [some (.ref a), some (.ref b), none]) (fun R hR => ⟨_, rfl, hR⟩) ha hb hin hl (fun _ => rfl) (fun _ => rfl) (fun _ => rfl) fun D H' hD sm hDl => ?_
    refine ⟨D, _, rfl, .inl ⟨SqL.of hDl, fun l nl => ⟨by show 2 ≤ sizeLine; decide, fun r nr => ?_⟩⟩⟩
    have s1 : Same H' (upd H' l (.tup ((picks ps c).map V.int))) := same_new nl
    have s2 : Same (upd H' l (.tup ((picks ps c).map V.int))) (upd (upd H' l (.tup ((picks ps c).map V.int))) r (.tup [.ref a, .ref l])) := same_new nr
    exact q _ _ (sm.trans (s1.trans s2)) (.tup (SqT.of upd_same) (.cons (h1.ext (.of (sm.trans (s1.trans s2)))) (.cons (dh_ct (SqT.of (s2 _ _ upd_same))) .nil)))
theorem box_dh {H : Hp} {b : Addr} {q : List Int × List Int} : BoxAt K H b q → Dh K H (.ref b) (boxD q.1 q.2) := fun ⟨_, _, s, h1, h2⟩ => .tup s (.cons (dh_ct h1) (.cons (dh_ct h2) .nil))
theorem nat1100 {x : Int} (h : x.natAbs ≤ 100000) : x.natAbs < 2 ^ 1100 := by
  have h6 := pow_1100
  have y : 100000 ≤ 1000 * top300 := by decide +kernel
  omega
/-- a box of a part pattern, right -/
def BoxOk (ss : List Int) (q : List Int × List Int) : Prop := Asc ss.length (-1) q.1 ∧ ∃ c, IsCt ss c ∧ q.2 = picks q.1 c
def spBoxOf (K : PySem.W.Frag) : Sp := fun vs H Q _ => ∃ (a b : Addr) (ss : List Int) (q : List Int × List Int), vs = [.ref a, .ref b] ∧ SqT K H a (ss.map V.int) ∧ ss.length ≤ 5 ∧ BoxAt K H b q ∧ BoxOk ss q ∧ ∀ H', Same H H' → Q (.bl true) H'
theorem box_cont {ss : List Int} {q : List Int × List Int} (h : BoxOk ss q) : IsCt (picks q.1 ss) q.2 := by
  obtain ⟨asc, c, hc, e⟩ := h
  obtain ⟨cl, cb⟩ := isCt_iff.mp hc
  refine isCt_iff.mpr ⟨by rw [e]; unfold picks; rw [List.length_map, List.length_map], fun i x s hx hs => ?_⟩
  rw [e] at hx
  unfold picks at hx hs
  rw [List.getElem?_map] at hx hs
  obtain ⟨k, hk, rfl⟩ := Option.map_eq_some_iff.mp hx
  rw [hk] at hs
  have hs' : ss.getD k.toNat 0 = s := Option.some.inj hs
  have hk2 := asc.inR k (List.mem_of_getElem? hk)
  have k1 : k.toNat < ss.length := by omega
  refine cb k.toNat _ _ ?_ (by rw [List.getElem?_eq_getElem k1, ← hs', List.getD_eq_getElem?_getD, List.getElem?_eq_getElem k1]; rfl)
  rw [List.getElem?_eq_getElem (by omega), List.getD_eq_getElem?_getD, List.getElem?_eq_getElem (by omega)]
  rfl
theorem ok_is_box_of (T : Txt K mg) : FnOk P w K mg base CX0 3 T.f_is_box_of T.d_is_box_of ["sizes", "thing"] (spBoxOf K) := by
  refine T.F_is_box_of.ok sc_is_box_of (fun vs H Q E h => ?_) (fun cdv A outer s H vs Q E hr h => ?_)
  · obtain ⟨_, _, _, _, rfl, _⟩ := h
    rfl
  · obtain ⟨a, b, ss, q', rfl, ha, h5, hb, hok, q⟩ := h
    have hd := box_dh hb
    have hct := box_cont hok
    obtain ⟨asc, _⟩ := hok
    have hl : q'.1.length ≤ 1000 := by
      have := asc.len (by omega)
      omega
    obtain ⟨pa, wa, hbt, hpa, hwa⟩ := hb
    refine ⟨_, (pss_cons (ps_if (pt_not (pt_val (pe_call (ok_is_pair T) (hr.mono (by decide)) (by rfl) T.g_is_pair T.F_is_pair.kp T.b_is_pair .nil pass0 (pa_cons (pv 1) pa_nil)))) (pss_one (ps_ret pe_bl)) pss_nil)
      (pss_cons (ps_asg (pv 1) (pg_tupK K (n := 2) rfl (pgs_cons (pg_name (i := 2) sc_is_box_of.nd rfl (.inl rfl)) (pgs_cons (pg_name (i := 3) sc_is_box_of.nd rfl (.inl rfl)) pgs_nil))))
      (pss_cons (ps_if (pt_not (pt_val (pe_call (ok_is_pattern T) hr (by rfl) T.g_is_pattern T.F_is_pattern.kp T.b_is_pattern .nil pass0 (pa_cons (pe_callB (call_lenK K) (by rfl) T.z_len PySem.boot_len (pa_cons (pv 0) pa_nil)) (pa_cons (pv 2) pa_nil))))) (pss_one (ps_ret pe_bl)) pss_nil)
      (pss_one (ps_ret (pe_call (ok_is_content T) hr (by rfl) T.g_is_content T.F_is_content.kp T.b_is_content .nil pass0 (pa_cons (pe_lc (own := [("column", 4)]) rfl sc_is_box_of.nd (pi_tupK K (pv 2)) (blkOk_by (N := N_is_box_of) (sc := defScope s_is_box_of) (by decide +kernel)) (fun _ _ _ _ _ => (pg_name (i := 4) sc_is_box_of.nd rfl (.inl rfl))) (fun _ _ _ _ _ => pts_nil) (fun _ _ _ _ _ => (pe_ix (ix_tupK K) (pv 0) (pv 4) (fun _ _ => rfl)))) (pa_cons (pv 3) pa_nil)))))))), ?_⟩
    refine ⟨_, rfl, spD_bl (.cons hd .nil) rfl fun H1 s1 => ⟨_, rfl, ?_⟩⟩
    refine iteF ?_
    have e1 := Ext.of s1
    refine ⟨_, rfl, b, _, rfl, e1.sqT hbt, rfl, _, _, rfl, _, _, rfl, rfl, ?_⟩
    refine ⟨_, rfl, a, _, rfl, .inr (e1.sqT ha), _, rfl, spD_bl (.cons (.int _) (.cons (dh_ct (e1.sqT hpa)) .nil)) rfl fun H2 s2 => ⟨_, rfl, ?_⟩⟩
    rw [List.length_map, asc.isPat]
    refine iteF ?_
    have e2 := Ext.of (s1.trans s2)
    dsimp only [tNext, tRet, tCall, tCons]
    refine lc_pick (K := K) (kx := 4) (kc := 0) (tp := tVar 2) (σ := [some (.ref a), some (.ref b), some (.ref pa), some (.ref wa), none]) (fun R hR => ⟨_, rfl, hR⟩) (e2.sqT hpa) (e2.sqT ha) asc.inR hl (fun _ => rfl) (fun _ => rfl) (fun _ => rfl) fun D H3 hD s3 hDl => ?_
    refine ⟨_, rfl, true, D, _, _, ctD q'.2, rfl, SqL.of hDl, dh_ct ((Ext.of ((s1.trans s2).trans s3)).sqT hwa), fun H4 s4 => ?_⟩
    rw [show (ctD q'.2).isCont (picks q'.1 ss) = true from hct]
    exact q H4 (((s1.trans s2).trans s3).trans s4)

def tDGetBR (K : PySem.W.Frag) (P : Program) (w : World) (td ty : TE) : TE := fun σ H Q => td σ H fun x H1 => ty σ H1 fun y H2 => ∃ (a b : Addr) (q : List Int × List Int) (L : BoxL) (v : V), x = .ref a ∧ y = .ref b ∧ Rd H2 a (DBO P w a L) ∧ BoxesAt K H2 L ∧ BoxAt K H2 b q ∧ findB L q = some v ∧ Q v H2
section
variable {X : Cx}
theorem pe_dgetBR {o i : Expr} {pos : Pos} {td ty : TE} (hu : X.A.units + 64 < cLine) (ho : PE X o td) (hi : PE X i ty) (hs : NoSl i) (eK : X.K = K := by rfl) (eP : X.prog = P := by rfl) (ew : X.w = w := by rfl) : PE X (.Subscript o i pos) (tDGetBR K P w td ty) := by
  subst eK eP ew
  refine ⟨fun pins s σ H Q I h => ?_⟩
  refine subD_of PySem.F.slot_dict_getitem.lookup hs (thn (ho.run pins s σ H _ I h) fun u s1 ⟨x, H1, I1, rx, q1⟩ => thn (hi.run pins s1 σ H1 _ I1 q1) fun iv s2 ⟨y, H2, I2, ry, a, b, q, L, v, ex, ey, ha, hL, hb, hv, q2⟩ => ?_)
  subst ex ey
  cases rx
  cases ry
  obtain ⟨xs, hF, hd⟩ := Inv.dbo I2 ha
  have dd := boxes_full I2 hF hd hL
  have rl := hF.find q
  rw [hv] at rl
  cases hz : atKey xs (bk q) with
  | none =>
    rw [hz] at rl
    exact (show False from rl).elim
  | some p =>
    rw [hz] at rl
    exact ⟨dd.typeIs, wpAny_getItem_heap (knd := NK X.prog X.w) (show X.A.units + 1 + 8 < cLine by omega) (Inv.boxKey I2 hb) dd hz ⟨_, H2, I2.tok _, rl, q2⟩⟩
end

end
end Fm
namespace Fm
open PySem PySem.Spec PyProof.Rows L2
section
variable {P : Program} {w : World} {K : PySem.W.Frag} {mg : Str → Option Value} {base : Heap}

/-! ### products; sums of shares over one bottom -/
def timesZ (p q : Int × Int) : Int × Int := lowZ (p.1 * q.1) (p.2 * q.2)
theorem times_low {a b B C : Int} (hB : 0 < B) (hC : 0 < C) (ha : 0 ≤ a) (hb : 0 ≤ b) : timesZ (lowZ a B) (lowZ b C) = lowZ (a * b) (B * C) := by
  obtain ⟨a1, a2⟩ := low_parts (t := a) hB
  obtain ⟨b1, b2⟩ := low_parts (t := b) hC
  have p1 := low_pos hB ha
  have p2 := low_pos hC hb
  unfold timesZ
  generalize (lowZ a B).1 = x at *
  generalize (lowZ a B).2 = y at *
  generalize (lowZ b C).1 = u at *
  generalize (lowZ b C).2 = v at *
  generalize gz a B = g at a1 a2
  generalize gz b C = h at b1 b2
  refine low_cross (Int.mul_pos p1 p2) (Int.mul_pos hB hC) ?_
  rw [a1, b1]
  conv => lhs; rw [a2, b2]
  ac_rfl
theorem times_pre {n m B C : Nat} {p q : Int × Int} (hp : Fr n B p) (hq : Fr m C q) : 0 < p.2 * q.2 ∧ p.2 * q.2 ≤ ((B * C : Nat) : Int) ∧ 0 ≤ p.1 * q.1 := by
  have a1 := hp.pos
  have a2 := hq.pos
  refine ⟨Int.mul_pos a1 a2, ?_, Int.mul_nonneg hp.top0 hq.top0⟩
  rw [Int.natCast_mul]
  exact Int.mul_le_mul hp.bot hq.bot (Int.le_of_lt a2) (by omega)
def spTimes (K : PySem.W.Frag) : Sp := fun vs H Q _ => ∃ (a b : Addr) (p q : Int × Int) (n m B C : Nat), vs = [.ref a, .ref b] ∧ SqT K H a [.int p.1, .int p.2] ∧ SqT K H b [.int q.1, .int q.2] ∧ Fr n B p ∧ Fr m C q ∧ n + m ≤ 1000 ∧ B * C ≤ top300 ∧ 1 ≤ B ∧ 1 ≤ C ∧ ∀ v H', Same H H' → Dh K H' v (frD (timesZ p q)) → Q v H'
theorem ok_times (T : Txt K mg) : FnOk P w K mg base CX0 2 T.f_times T.d_times ["one", "other"] (spTimes K) := by
  refine T.F_times.ok sc_times (fun vs H Q E h => ?_) (fun cdv A outer s H vs Q E hr h => ?_)
  · obtain ⟨_, _, _, _, _, _, _, _, rfl, _⟩ := h
    rfl
  · obtain ⟨a, b, p, q', n, m, B, C, rfl, ha, hb, fp, fq, nm, bc, b1, c1, q⟩ := h
    have lB : B ≤ top300 := Nat.le_trans (Nat.le_mul_of_pos_right _ c1) bc
    have lC : C ≤ top300 := Nat.le_trans (Nat.le_mul_of_pos_left _ b1) bc
    obtain ⟨x1, x2⟩ := fp.bds (by omega) lB
    obtain ⟨y1, y2⟩ := fq.bds (by omega) lC
    obtain ⟨h1, h2, h3⟩ := times_pre fp fq
    refine ⟨_, (pss_one (ps_ret (pe_call (ok_fraction T) hr (by rfl) T.g_fraction T.F_fraction.kp T.b_fraction .nil pass0 (pa_cons (pe_op op_mulW (pe_ix (ix_tupK K) (pv 0) pe_int (fun _ _ => rfl)) (pe_ix (ix_tupK K) (pv 1) pe_int (fun _ _ => rfl))) (pa_cons (pe_op op_mulW (pe_ix (ix_tupK K) (pv 0) pe_int (fun _ _ => rfl)) (pe_ix (ix_tupK K) (pv 1) pe_int (fun _ _ => rfl))) pa_nil))))), ?_⟩
    refine ⟨_, rfl, a, _, 0, _, rfl, rfl, ha, atI_nat (j := 0) rfl, _, rfl, b, _, 0, _, rfl, rfl, hb, atI_nat (j := 0) rfl, _, _, rfl, rfl, wide_of x1 y1, ?_⟩
    refine ⟨_, rfl, a, _, 1, _, rfl, rfl, ha, atI_nat (j := 1) rfl, _, rfl, b, _, 1, _, rfl, rfl, hb, atI_nat (j := 1) rfl, _, _, rfl, rfl, wide_of x2 y2, ?_⟩
    exact ⟨_, _, rfl, h1, Int.le_trans h2 (by omega), h3, q⟩
theorem ok_law_times (T : Txt K mg) : FnOk P w K mg base CX0 2 T.f_law_times T.d_law_times ["one", "other"] (spTimes K) := by
  refine T.F_law_times.ok sc_law_times (fun vs H Q E h => ?_) (fun cdv A outer s H vs Q E hr h => ?_)
  · obtain ⟨_, _, _, _, _, _, _, _, rfl, _⟩ := h
    rfl
  · obtain ⟨a, b, p, q', n, m, B, C, rfl, ha, hb, fp, fq, nm, bc, b1, c1, q⟩ := h
    have lB : B ≤ top300 := Nat.le_trans (Nat.le_mul_of_pos_right _ c1) bc
    have lC : C ≤ top300 := Nat.le_trans (Nat.le_mul_of_pos_left _ b1) bc
    obtain ⟨x1, x2⟩ := fp.bds (by omega) lB
    obtain ⟨y1, y2⟩ := fq.bds (by omega) lC
    obtain ⟨h1, h2, h3⟩ := times_pre fp fq
    refine ⟨_, (pss_one (ps_ret (pe_call (ok_law_low T) hr (by rfl) T.g_law_low T.F_law_low.kp T.b_law_low .nil pass0 (pa_cons (pe_op op_mulW (pe_ix (ix_tupK K) (pv 0) pe_int (fun _ _ => rfl)) (pe_ix (ix_tupK K) (pv 1) pe_int (fun _ _ => rfl))) (pa_cons (pe_op op_mulW (pe_ix (ix_tupK K) (pv 0) pe_int (fun _ _ => rfl)) (pe_ix (ix_tupK K) (pv 1) pe_int (fun _ _ => rfl))) pa_nil))))), ?_⟩
    refine ⟨_, rfl, a, _, 0, _, rfl, rfl, ha, atI_nat (j := 0) rfl, _, rfl, b, _, 0, _, rfl, rfl, hb, atI_nat (j := 0) rfl, _, _, rfl, rfl, wide_of x1 y1, ?_⟩
    refine ⟨_, rfl, a, _, 1, _, rfl, rfl, ha, atI_nat (j := 1) rfl, _, rfl, b, _, 1, _, rfl, rfl, hb, atI_nat (j := 1) rfl, _, _, rfl, rfl, wide_of x2 y2, ?_⟩
    exact ⟨_, _, rfl, h1, Int.le_trans h2 (by omega), h3, q⟩
def lcmL (l : List (Int × Int)) : Nat := l.foldl (fun b p => Nat.lcm b p.2.natAbs) 1
theorem lcmL_snoc (l : List (Int × Int)) (p : Int × Int) : lcmL (l ++ [p]) = Nat.lcm (lcmL l) p.2.natAbs := by
  unfold lcmL
  rw [List.foldl_append]
  rfl
theorem lcm_fold : ∀ (l : List (Int × Int)) (b D : Nat), b ∣ D → (∀ p ∈ l, p.2.natAbs ∣ D) → l.foldl (fun b p => Nat.lcm b p.2.natAbs) b ∣ D ∧ b ∣ l.foldl (fun b p => Nat.lcm b p.2.natAbs) b ∧ ∀ p ∈ l, p.2.natAbs ∣ l.foldl (fun b p => Nat.lcm b p.2.natAbs) b
  | [], b, D, hb, _ => ⟨hb, Nat.dvd_refl _, fun p hp => by cases hp⟩
  | p :: l, b, D, hb, h => by
    obtain ⟨h1, h2, h3⟩ := lcm_fold l (Nat.lcm b p.2.natAbs) D (Nat.lcm_dvd hb (h p (List.mem_cons_self ..))) fun q hq => h q (List.mem_cons_of_mem _ hq)
    refine ⟨h1, Nat.dvd_trans (Nat.dvd_lcm_left _ _) h2, fun q hq => ?_⟩
    rcases List.mem_cons.mp hq with e | e
    · rw [e]
      exact Nat.dvd_trans (Nat.dvd_lcm_right _ _) h2
    · exact h3 q e
def spCb (K : PySem.W.Frag) : Sp := fun vs H Q _ => ∃ (a : Addr) (xs : List V) (l : List (Int × Int)) (D : Nat), vs = [.ref a] ∧ SqL K H a xs ∧ DhAll K H xs (l.map frD) ∧ (∀ p ∈ l, p.2.natAbs ∣ D) ∧ 0 < D ∧ D < 2 ^ 63 ∧ ∀ H', Same H H' → Q (.int (lcmL l : Nat)) H'
theorem ok_common_bottom (T : Txt K mg) : FnOk P w K mg base CX0 1 T.f_common_bottom T.d_common_bottom ["parts"] (spCb K) := by
  refine T.F_common_bottom.ok sc_common_bottom (fun vs H Q E h => ?_) (fun cdv A outer s H vs Q E hr h => ?_)
  · obtain ⟨_, _, _, _, rfl, _⟩ := h
    rfl
  · obtain ⟨a, xs, l, D, rfl, ha, hx, hd, d0, d1, q⟩ := h
    have hl := hx.length
    rw [List.length_map] at hl
    refine ⟨_, (pss_cons (ps_set (i := 1) sc_common_bottom.nd rfl (.inl rfl) pe_int)
      (pss_cons (ps_for PassesOwn.never rfl (pi_listK K (pv 0)) (pg_name (i := 2) sc_common_bottom.nd rfl (.inl rfl)) (pss_one (ps_set (i := 1) sc_common_bottom.nd rfl (.inl rfl) (pe_callBfun call_lcm (by rfl) T.w_lcm (pa_cons (pv 1) (pa_cons (pe_ix (ix_tupK K) (pv 2) pe_int (fun _ _ => rfl)) pa_nil))))))
      (pss_one (ps_ret (pv 1))))), ?_⟩
    refine ⟨_, rfl, a, rfl, ⟨_, ha⟩, for_list (K := K) (xs := xs) (fun i σ H' => ∃ (y2 : Option V), σ = [some (.ref a), some (.int (lcmL (l.take i) : Nat)), y2] ∧ Same H H')
      ⟨none, rfl, .refl _⟩ (fun i σ H' _ ⟨_, _, sm⟩ => sm.seq ha) ?_ ?_⟩
    · rintro i x σ H' hxi ⟨y2, rfl, sm⟩
      obtain ⟨d, hd', hxd⟩ := hx.get hxi
      obtain ⟨p, hp, rfl⟩ := map_at hd'
      obtain ⟨xa, rfl, hxa⟩ := fr_inv (hxd.ext (.of sm))
      have e2 : l.take (i + 1) = l.take i ++ [p] := by rw [List.take_add_one, hp]; rfl
      have pm := List.mem_of_getElem? hp
      have b1 : lcmL (l.take i) ∣ D := (lcm_fold (l.take i) 1 D (Nat.one_dvd _) fun q hq => hd q (List.mem_of_mem_take hq)).1
      have b2 := Nat.le_of_dvd d0 b1
      have b3 := Nat.le_of_dvd d0 (hd p pm)
      refine ⟨_, rfl, _, rfl, xa, _, 1, _, rfl, rfl, hxa, atI_nat (j := 1) rfl, _, _, rfl, by rw [Int.natAbs_natCast]; omega, by omega, some (.ref xa), ?_, sm⟩
      rw [e2, lcmL_snoc, Int.natAbs_natCast]
      rfl
    · rintro σ H' ⟨y2, rfl, sm⟩
      rw [hl, List.take_length]
      exact ⟨_, rfl, q H' sm⟩
/-- shares a/D: what their sum is -/
def spTot (K : PySem.W.Frag) : Sp := fun vs H Q _ => ∃ (a : Addr) (xs : List V) (as : List Int) (D : Int), vs = [.ref a] ∧ SqL K H a xs ∧ DhAll K H xs (as.map fun t => frD (lowZ t D)) ∧ (∀ t ∈ as, 0 ≤ t ∧ t ≤ D) ∧ 0 < D ∧ D < 2 ^ 63 ∧ xs.length ≤ 1000 ∧ ∀ v H', Same H H' → Dh K H' v (frD (lowZ as.sum D)) → Q v H'
theorem sum_nonneg : ∀ {l : List Int}, (∀ t ∈ l, 0 ≤ t) → 0 ≤ l.sum
  | [], _ => Int.le_refl 0
  | t :: l, h => by
    rw [List.sum_cons]
    have := h t (List.mem_cons_self ..)
    have := sum_nonneg fun t ht => h t (List.mem_cons_of_mem _ ht)
    omega
theorem sum_mul : ∀ (l : List Int) (k : Int), (l.map (· * k)).sum = l.sum * k
  | [], k => by simp
  | t :: l, k => by rw [List.map_cons, List.sum_cons, List.sum_cons, sum_mul l k, Int.add_mul]
theorem low_dvd {t D : Int} (hD : 0 < D) : (lowZ t D).2.natAbs ∣ D.natAbs := by
  obtain ⟨_, e⟩ := low_parts (t := t) hD
  exact ⟨(gz t D).natAbs, by conv => lhs; rw [e]
                             rw [Int.natAbs_mul, Nat.mul_comm]⟩
/-- a share in parts of the common bottom -/
theorem low_scale {t D B : Int} (hD : 0 < D) (ht : 0 ≤ t) (hB : (lowZ t D).2 ∣ B) : (lowZ t D).1 * (B / (lowZ t D).2) * D = t * B := by
  obtain ⟨a1, a2⟩ := low_parts (t := t) hD
  have p1 := low_pos hD ht
  obtain ⟨k, hk⟩ := hB
  rw [hk, Int.mul_ediv_cancel_left _ (by omega)]
  generalize (lowZ t D).1 = x at *
  generalize (lowZ t D).2 = y at *
  generalize gz t D = g at a1 a2
  rw [a1]
  conv => lhs; rw [a2]
  ac_rfl
theorem ok_total (T : Txt K mg) : FnOk P w K mg base CX0 2 T.f_total T.d_total ["parts"] (spTot K) := by
  refine T.F_total.ok sc_total (fun vs H Q E h => ?_) (fun cdv A outer s H vs Q E hr h => ?_)
  · obtain ⟨_, _, _, _, rfl, _⟩ := h
    rfl
  · obtain ⟨a, xs, as, D, rfl, ha, hx, hd, d0, d1, hl9, q⟩ := h
    have hl := hx.length
    rw [List.length_map] at hl
    have hx2 : DhAll K H xs ((as.map fun t => lowZ t D).map frD) := by rw [List.map_map]; exact hx
    have dv : ∀ p ∈ as.map (fun t => lowZ t D), p.2.natAbs ∣ D.natAbs := fun p hp => by
      obtain ⟨t, _, rfl⟩ := List.mem_map.mp hp
      exact low_dvd d0
    obtain ⟨f1, _, f3⟩ := lcm_fold (as.map fun t => lowZ t D) 1 D.natAbs (Nat.one_dvd _) dv
    have f1 : lcmL (as.map fun t => lowZ t D) ∣ D.natAbs := f1
    have f3 : ∀ p ∈ as.map (fun t => lowZ t D), p.2.natAbs ∣ lcmL (as.map fun t => lowZ t D) := f3
    refine ⟨_, (pss_cons (ps_set (i := 1) sc_total.nd rfl (.inr rfl) (pe_call (ok_common_bottom T) hr (by rfl) T.g_common_bottom T.F_common_bottom.kp T.b_common_bottom .nil pass0 (pa_cons (pv 0) pa_nil)))
      (pss_one (ps_ret (pe_call (ok_fraction T) hr (by rfl) T.g_fraction T.F_fraction.kp T.b_fraction .nil pass0 (pa_cons (pe_callB (cr_sum rfl) (by rfl) T.z_sum (by decide +kernel) (pa_cons (pe_lc (own := [("part", 2)]) rfl sc_total.nd (pi_listK K (pv 0)) (blkOk_by (N := N_total) (sc := defScope s_total) (by decide +kernel)) (fun _ _ _ _ _ => (pg_name (i := 2) sc_total.nd rfl (.inl rfl))) (fun _ _ _ _ _ => pts_nil) (fun _ _ _ _ _ => (pe_op op_mulW (pe_ix (ix_tupK K) (pv 2) pe_int (fun _ _ => rfl)) (pe_op op_fdivW (pv 1) (pe_ix (ix_tupK K) (pv 2) pe_int (fun _ _ => rfl)))))) pa_nil)) (pa_cons (pv 1) pa_nil)))))), ?_⟩
    refine ⟨_, rfl, a, xs, as.map (fun t => lowZ t D), D.natAbs, rfl, ha, hx2, dv, by omega, by omega, fun H1 s1 => ?_⟩
    generalize lcmL (as.map fun t => lowZ t D) = B at f1 f3 ⊢
    have B0 : 0 < B := Nat.pos_of_dvd_of_pos f1 (by omega)
    have BD : B ≤ D.natAbs := Nat.le_of_dvd (by omega) f1
    have pow : (2 : Nat) ^ 63 ≤ 2 ^ 1100 := by decide +kernel
    refine ⟨_, rfl, a, rfl, ⟨_, s1.seq ha⟩, fun E0 hE => lc_list (K := K) (xs := xs) (fun i H' => Same H H' ∧ H' E0 = some (.lst (((as.take i).map fun t => (lowZ t D).1 * ((B : Int) / (lowZ t D).2)).map V.int)))
      ⟨s1.trans (same_new hE), upd_same⟩ (fun i H' _ ⟨sm, _⟩ => sm.seq ha) ?_ ?_⟩
    · rintro i x H' hxi ⟨sm, hDl⟩
      obtain ⟨d, hd', hxd⟩ := hx.get hxi
      obtain ⟨t, htm, rfl⟩ := map_at hd'
      have tm := List.mem_of_getElem? htm
      obtain ⟨t0, t1⟩ := hd t tm
      obtain ⟨xa, rfl, hxa⟩ := fr_inv (hxd.ext (.of sm))
      have fr := low_fr (n := 1) (B := D.toNat) (t := t) d0 (by omega) t0 (by omega)
      have p2 := fr.pos
      have p3 := fr.bot
      have p1 := fr.top0
      have p4 := fr.top
      have b2 : (lowZ t D).2.natAbs < 2 ^ 1100 := by omega
      have b1 : (lowZ t D).1.natAbs < 2 ^ 1100 := by omega
      have b3 : ((B : Int) / (lowZ t D).2).natAbs < 2 ^ 1100 := by
        have z : (B : Int) / (lowZ t D).2 ≤ B := Int.ediv_le_self _ (by omega)
        have z0 : 0 ≤ (B : Int) / (lowZ t D).2 := Int.ediv_nonneg (by omega) (by omega)
        omega
      refine ⟨rfl, ?_⟩
      dsimp only [tYes]
      rw [if_pos rfl]
      refine ⟨_, rfl, xa, _, 0, _, rfl, rfl, hxa, atI_nat (j := 0) rfl, _, rfl, _, rfl, xa, _, 1, _, rfl, rfl, hxa, atI_nat (j := 1) rfl, _, _, rfl, rfl, wide_div p2 b2 (by decide) (by decide), _, _, rfl, rfl, wide_of b1 b3, _, hDl, ?_, ?_, ?_⟩
      · rw [List.length_map, List.length_map, List.length_take]
        exact sz_small (by omega)
      · refine fun b o e => ?_
        rw [upd_ne (ne_of_none (s1 _ _ e) hE)]
        exact sm _ _ e
      · rw [upd_same, List.take_add_one, htm, List.map_append, List.map_append]
        rfl
    · rintro H' ⟨sm, hDl⟩
      rw [hl, List.take_length] at hDl
      generalize hns : as.map (fun t => (lowZ t D).1 * ((B : Int) / (lowZ t D).2)) = ns at hDl ⊢
      refine ⟨E0, ns, rfl, SqL.of hDl, ?_⟩
      have cross : ns.sum * D = as.sum * B := by
        rw [← sum_mul, ← sum_mul, ← hns, List.map_map]
        congr 1
        refine List.map_congr_left fun t ht => ?_
        exact low_scale d0 (hd t ht).1 (by
          have z := f3 _ (List.mem_map.mpr ⟨t, ht, rfl⟩)
          exact Int.natAbs_dvd_natAbs.mp (by rw [Int.natAbs_natCast]; exact z))
      have n0 : 0 ≤ ns.sum := by
        refine sum_nonneg fun t ht => ?_
        rw [← hns] at ht
        obtain ⟨u, hu, rfl⟩ := List.mem_map.mp ht
        have fr := low_fr (n := 1) (B := D.toNat) (t := u) d0 (by omega) (hd u hu).1 (by have := (hd u hu).2; omega)
        exact Int.mul_nonneg fr.top0 (Int.ediv_nonneg (by omega) (Int.le_of_lt fr.pos))
      refine ⟨_, rfl, ns.sum, (B : Int), rfl, by omega, ?_, n0, fun v H2 s2 hv => q v H2 (sm.trans s2) ?_⟩
      · have z : (2 : Nat) ^ 63 ≤ top300 := by decide +kernel
        omega
      · rw [low_cross d0 (by omega) (show as.sum * (B : Int) = ns.sum * D from cross.symm)]
        exact hv

end
end Fm
namespace Fm
open PySem PySem.Spec PyProof.Rows L2
section
variable {P : Program} {w : World} {K : PySem.W.Frag} {mg : Str → Option Value} {base : Heap}

/-! ### boxes with one column more, or one less -/
abbrev Up (p : List Int) : Prop := p.Pairwise (· < ·)
def pos (c : Int) (p : List Int) : Nat := (p.filter fun x => decide (x < c)).length
def insA (c : Int) (p : List Int) : List Int := p.take (pos c p) ++ c :: p.drop (pos c p)
def lat (q : Box) (c w : Int) : Box := (insA c q.1, q.2.take (pos c q.1) ++ w :: q.2.drop (pos c q.1))
def delB (q : Box) (c : Int) : Box := (q.1.erase c, q.2.eraseIdx (q.1.idxOf c))
def valB (q : Box) (c : Int) : Int := q.2.getD (q.1.idxOf c) 0
def boxAt (p c : List Int) : Box := (p, picks p c)
theorem asc_up {n : Int} : ∀ {l : Int} {p : List Int}, Asc n l p → Up p
  | _, [], _ => .nil
  | l, c :: r, ⟨h1, h2, h3⟩ => .cons (fun x hx => (h3.mem x hx).1) (asc_up h3)
theorem up_asc {n : Int} : ∀ {l : Int} {p : List Int}, Up p → (∀ x ∈ p, l < x ∧ x < n) → Asc n l p
  | _, [], _, _ => True.intro
  | l, c :: r, h, hb => by
    obtain ⟨h1, h2⟩ := List.pairwise_cons.mp h
    exact ⟨(hb c (List.mem_cons_self ..)).1, (hb c (List.mem_cons_self ..)).2, up_asc h2 fun x hx => ⟨h1 x hx, (hb x (List.mem_cons_of_mem _ hx)).2⟩⟩
theorem up_nodup {p : List Int} (h : Up p) : p.Nodup := h.imp fun h e => by omega
theorem up_same {p r : List Int} (hp : Up p) (hr : Up r) (h : p.Perm r) : p = r := h.eq_of_pairwise (le := fun a b : Int => a < b) (fun a b _ _ h1 h2 => by omega) hp hr
theorem pos_le (c : Int) (p : List Int) : pos c p ≤ p.length := List.length_filter_le _ _
theorem up_split {p : List Int} (h : Up p) (c : Int) : (∀ x ∈ p.take (pos c p), x < c) ∧ ∀ x ∈ p.drop (pos c p), ¬ x < c := by
  induction h with
  | nil => exact ⟨fun x hx => by simp at hx, fun x hx => by simp at hx⟩
  | @cons x p h1 _ ih =>
    by_cases hx : x < c
    · have e : pos c (x :: p) = pos c p + 1 := by
        unfold pos
        rw [List.filter_cons_of_pos (by simpa using hx)]
        rfl
      rw [e, List.take_succ_cons, List.drop_succ_cons]
      refine ⟨fun y hy => ?_, ih.2⟩
      rcases List.mem_cons.mp hy with z | z
      · rw [z]; exact hx
      · exact ih.1 y z
    · have e : pos c (x :: p) = 0 := by
        unfold pos
        rw [List.length_eq_zero_iff, List.filter_eq_nil_iff]
        intro y hy
        rcases List.mem_cons.mp hy with z | z
        · rw [z]; simpa using hx
        · have := h1 y z
          simp only [decide_eq_true_eq]
          omega
      rw [e]
      refine ⟨fun y hy => by simp at hy, fun y hy => ?_⟩
      rw [List.drop_zero] at hy
      rcases List.mem_cons.mp hy with z | z
      · rw [z]; exact hx
      · have := h1 y z
        omega
theorem insA_perm (c : Int) (p : List Int) : (insA c p).Perm (c :: p) := by
  unfold insA
  have z := List.perm_middle (a := c) (l₁ := p.take (pos c p)) (l₂ := p.drop (pos c p))
  rwa [List.take_append_drop] at z
theorem insA_mem {c : Int} {p : List Int} {x : Int} : x ∈ insA c p ↔ x = c ∨ x ∈ p := by
  rw [(insA_perm c p).mem_iff, List.mem_cons]
theorem insA_len (c : Int) (p : List Int) : (insA c p).length = p.length + 1 := by rw [(insA_perm c p).length_eq, List.length_cons]
theorem insA_up {c : Int} {p : List Int} (h : Up p) (hc : c ∉ p) : Up (insA c p) := by
  obtain ⟨h1, h2⟩ := up_split h c
  have hd : ∀ x ∈ p.drop (pos c p), c < x := fun x hx => by
    have := h2 x hx
    have ne : x ≠ c := fun e => hc (e ▸ List.mem_of_mem_drop hx)
    omega
  refine List.pairwise_append.mpr ⟨h.sublist (List.take_sublist _ _), .cons (fun x hx => hd x hx) (h.sublist (List.drop_sublist _ _)), fun x hx y hy => ?_⟩
  have := h1 x hx
  rcases List.mem_cons.mp hy with z | z
  · rw [z]; exact this
  · have := hd y z
    omega
theorem take_pos (c : Int) {p r : List Int} (hl : r.length = p.length) : (r.take (pos c p)).length = pos c p := by
  rw [List.length_take]
  have := pos_le c p
  omega
theorem insA_idx {c : Int} {p : List Int} (hc : c ∉ p) : (insA c p).idxOf c = pos c p := by
  unfold insA
  rw [List.idxOf_append, if_neg fun h => hc (List.mem_of_mem_take h), List.idxOf_cons_self, take_pos c rfl, Nat.zero_add]
theorem insA_erase {c : Int} {p : List Int} (hc : c ∉ p) : (insA c p).erase c = p := by
  unfold insA
  rw [List.erase_append_right _ fun h => hc (List.mem_of_mem_take h), List.erase_cons_head, List.take_append_drop]
theorem erase_not {c : Int} {p : List Int} (h : Up p) : c ∉ p.erase c := (up_nodup h).not_mem_erase
theorem erase_up {c : Int} {p : List Int} (h : Up p) : Up (p.erase c) := h.sublist List.erase_sublist
theorem erase_insA {c : Int} {p : List Int} (h : Up p) (hc : c ∈ p) : insA c (p.erase c) = p :=
  up_same (insA_up (erase_up h) (erase_not h)) h ((insA_perm c _).trans (List.perm_cons_erase hc).symm)
theorem pos_erase {c : Int} {p : List Int} (h : Up p) (hc : c ∈ p) : pos c (p.erase c) = p.idxOf c := by
  conv => rhs; rw [← erase_insA h hc]
  exact (insA_idx (erase_not h)).symm
theorem del_lat {q : Box} {c w : Int} (hc : c ∉ q.1) (hl : q.2.length = q.1.length) : delB (lat q c w) c = q := by
  unfold delB lat
  dsimp only
  rw [insA_erase hc, insA_idx hc]
  have e : (q.2.take (pos c q.1) ++ w :: q.2.drop (pos c q.1)).eraseIdx (pos c q.1) = q.2 := by
    rw [List.eraseIdx_append_of_length_le (by rw [take_pos c hl]; exact Nat.le_refl _), take_pos c hl, Nat.sub_self]
    show q.2.take _ ++ q.2.drop _ = q.2
    exact List.take_append_drop _ _
  rw [e]
theorem val_lat {q : Box} {c w : Int} (hc : c ∉ q.1) (hl : q.2.length = q.1.length) : valB (lat q c w) c = w := by
  unfold valB lat
  dsimp only
  rw [insA_idx hc, List.getD_eq_getElem?_getD, List.getElem?_append_right (by rw [take_pos c hl]; exact Nat.le_refl _), take_pos c hl, Nat.sub_self]
  rfl
theorem lat_del {q : Box} {c : Int} (h : Up q.1) (hc : c ∈ q.1) (hl : q.2.length = q.1.length) : lat (delB q c) c (valB q c) = q := by
  unfold lat delB valB
  dsimp only
  rw [erase_insA h hc, pos_erase h hc]
  have hk : q.1.idxOf c < q.2.length := by
    rw [hl]
    exact List.idxOf_lt_length_of_mem hc
  generalize q.1.idxOf c = k at hk
  have e : (q.2.eraseIdx k).take k ++ q.2.getD k 0 :: (q.2.eraseIdx k).drop k = q.2 := by
    have e1 : (q.2.take k).length = k := by rw [List.length_take]; omega
    rw [List.eraseIdx_eq_take_drop_succ, List.take_append_of_le_length (by omega), List.take_of_length_le (by omega), List.drop_append_of_le_length (by omega), List.drop_of_length_le (by omega), List.nil_append, List.getD_eq_getElem?_getD, List.getElem?_eq_getElem hk]
    show q.2.take k ++ q.2[k] :: q.2.drop (k + 1) = q.2
    rw [← List.drop_eq_getElem_cons hk, List.take_append_drop]
  rw [e]
theorem lat_inj {q : Box} {c w v : Int} (hc : c ∉ q.1) (hl : q.2.length = q.1.length) (h : lat q c w = lat q c v) : w = v := by
  have z : valB (lat q c w) c = valB (lat q c v) c := congrArg (fun b => valB b c) h
  rwa [val_lat hc hl, val_lat hc hl] at z
theorem lat_at {p : List Int} {ct : List Int} (c : Int) : lat (boxAt p ct) c (ct.getD c.toNat 0) = boxAt (insA c p) ct := by
  unfold lat boxAt insA picks
  rw [List.map_append, List.map_cons, List.map_take, List.map_drop]
theorem map_eraseIdx18 (f : Int → Int) : ∀ (l : List Int) (k : Nat), (l.map f).eraseIdx k = (l.eraseIdx k).map f
  | [], _ => by simp
  | _ :: _, 0 => rfl
  | x :: l, k + 1 => by
    show f x :: (l.map f).eraseIdx k = f x :: (l.eraseIdx k).map f
    rw [map_eraseIdx18 f l k]
theorem del_at {p ct : List Int} (c : Int) : delB (boxAt p ct) c = boxAt (p.erase c) ct := by
  unfold delB boxAt picks
  dsimp only
  rw [List.erase_eq_eraseIdx_of_idxOf rfl, map_eraseIdx18]
theorem box_at {ss : List Int} {q : Box} (h : BoxOk ss q) : ∃ ct, IsCt ss ct ∧ q = boxAt q.1 ct := by
  obtain ⟨_, ct, h1, h2⟩ := h
  exact ⟨ct, h1, Prod.ext rfl h2⟩
theorem at_box {ss p ct : List Int} (h : Asc ss.length (-1) p) (hc : IsCt ss ct) : BoxOk ss (boxAt p ct) := ⟨h, ct, hc, rfl⟩
theorem box_len {ss : List Int} {q : Box} (h : BoxOk ss q) : q.2.length = q.1.length := by
  obtain ⟨_, ct, _, e⟩ := h
  rw [e]
  exact picks_len _ _
theorem insA_asc {n c : Int} {p : List Int} (h : Asc n (-1) p) (hc : c ∉ p) (c0 : 0 ≤ c) (c1 : c < n) : Asc n (-1) (insA c p) := by
  refine up_asc (insA_up (asc_up h) hc) fun x hx => ?_
  rcases insA_mem.mp hx with e | e
  · rw [e]; omega
  · exact h.mem x e
theorem erase_asc {n c : Int} {p : List Int} (h : Asc n (-1) p) : Asc n (-1) (p.erase c) := up_asc (erase_up (asc_up h)) fun x hx => h.mem x (List.mem_of_mem_erase hx)
theorem picks_set {p ct : List Int} {c w : Int} (hc : c ∉ p) (hp : ∀ x ∈ p, 0 ≤ x) (c0 : 0 ≤ c) : picks p (ct.set c.toNat w) = picks p ct := by
  unfold picks
  refine List.map_congr_left fun x hx => ?_
  have ne : c.toNat ≠ x.toNat := fun e => hc (by have := hp x hx; have : c = x := by omega
                                                 exact this ▸ hx)
  rw [List.getD_eq_getElem?_getD, List.getD_eq_getElem?_getD, List.getElem?_set_ne ne]
theorem lat_ok {ss : List Int} {q : Box} {c w : Int} (h : BoxOk ss q) (hc : c ∉ q.1) (c0 : 0 ≤ c) (c1 : c < ss.length) (w0 : 0 ≤ w) (w1 : w < ss.getD c.toNat 0) : BoxOk ss (lat q c w) := by
  obtain ⟨ct, hct, e⟩ := box_at h
  obtain ⟨cl, cb⟩ := isCt_iff.mp hct
  have hk : c.toNat < ct.length := by omega
  have ct' : IsCt ss (ct.set c.toNat w) := by
    refine isCt_iff.mpr ⟨by rw [List.length_set]; exact cl, fun i x s hx hs => ?_⟩
    by_cases hi : i = c.toNat
    · subst hi
      rw [List.getElem?_set_self hk] at hx
      cases hx
      rw [List.getD_eq_getElem?_getD, hs] at w1
      exact ⟨w0, w1⟩
    · rw [List.getElem?_set_ne (Ne.symm hi)] at hx
      exact cb i x s hx hs
  have e2 : q = boxAt q.1 (ct.set c.toNat w) := by
    conv => lhs; rw [e]
    unfold boxAt
    rw [picks_set hc (fun x hx => by have := h.1.mem x hx; omega) c0]
  have e3 : (ct.set c.toNat w).getD c.toNat 0 = w := by
    rw [List.getD_eq_getElem?_getD, List.getElem?_set_self hk]
    rfl
  have e4 := lat_at (p := q.1) (ct := ct.set c.toNat w) c
  rw [e3, ← e2] at e4
  rw [e4]
  exact at_box (insA_asc h.1 hc c0 c1) ct'
theorem del_ok {ss : List Int} {q : Box} {c : Int} (h : BoxOk ss q) : BoxOk ss (delB q c) := by
  obtain ⟨ct, hct, e⟩ := box_at h
  rw [e, del_at]
  exact at_box (erase_asc h.1) hct
/-- the worth of a column in a box -/
theorem val_ok {ss : List Int} {q : Box} {c : Int} (h : BoxOk ss q) (hc : c ∈ q.1) : 0 ≤ valB q c ∧ valB q c < ss.getD c.toNat 0 := by
  obtain ⟨cl, cb⟩ := isCt_iff.mp (box_cont h)
  have hl := box_len h
  have hk : q.1.idxOf c < q.1.length := List.idxOf_lt_length_of_mem hc
  have e : q.1[q.1.idxOf c]? = some c := by rw [List.getElem?_eq_getElem hk, List.getElem_idxOf]
  have e1 : q.2[q.1.idxOf c]? = some (valB q c) := by
    unfold valB
    rw [List.getD_eq_getElem?_getD, List.getElem?_eq_getElem (by omega)]
    rfl
  refine cb _ _ _ e1 ?_
  unfold picks
  rw [List.getElem?_map, e]
  rfl
/-- what comes to a box by a column -/
theorem lat_iff {ss : List Int} {q r : Box} {c : Int} (hq : BoxOk ss q) (hr : BoxOk ss r) (hc : c ∉ r.1) : (∃ w, lat r c w = q) ↔ c ∈ q.1 ∧ r = delB q c := by
  constructor
  · rintro ⟨w, rfl⟩
    exact ⟨insA_mem.mpr (.inl rfl), (del_lat hc (box_len hr)).symm⟩
  · rintro ⟨h1, rfl⟩
    exact ⟨valB q c, lat_del (asc_up hq.1) h1 (box_len hq)⟩
theorem del_len {q : Box} {c : Int} (hc : c ∈ q.1) : (delB q c).1.length + 1 = q.1.length := by
  have z := (List.perm_cons_erase hc).length_eq
  rw [List.length_cons] at z
  exact z.symm
theorem del_notin {ss : List Int} {q : Box} (h : BoxOk ss q) (c : Int) : c ∉ (delB q c).1 := erase_not (asc_up h.1)

end
end Fm
namespace Fm
open PySem PySem.Spec PyProof.Rows L2
section
variable {P : Program} {w : World} {K : PySem.W.Frag} {mg : Str → Option Value} {base : Heap}

/-! ### shares that go along edges, from box to box -/
abbrev Mvs := List (Int × Int)
abbrev MovT := List (Box × Mvs)
abbrev Edge := Box × Box × Int
def stepE (g : Box → Int) (e : Edge) : Box → Int := fun x => if x = e.2.1 then g x + g e.1 * e.2.2 else g x
def goE (g : Box → Int) (E : List Edge) : Box → Int := E.foldl stepE g
theorem goE_cons (g : Box → Int) (e : Edge) (E : List Edge) : goE g (e :: E) = goE (stepE g e) E := rfl
theorem goE_app (g : Box → Int) (E F : List Edge) : goE g (E ++ F) = goE (goE g E) F := List.foldl_append ..
theorem goE_other : ∀ {E : List Edge} {g : Box → Int} {x : Box}, (∀ e ∈ E, e.2.1 ≠ x) → goE g E x = g x
  | [], _, _, _ => rfl
  | e :: E, g, x, h => by
    rw [goE_cons, goE_other fun e' he => h e' (List.mem_cons_of_mem _ he)]
    unfold stepE
    rw [if_neg fun z => h e (List.mem_cons_self ..) z.symm]
theorem goE_mono : ∀ {E : List Edge} {g : Box → Int}, (∀ x, 0 ≤ g x) → (∀ e ∈ E, 0 ≤ e.2.2) → ∀ x, g x ≤ goE g E x
  | [], _, _, _, _ => Int.le_refl _
  | e :: E, g, h0, h, x => by
    have up : ∀ x, g x ≤ stepE g e x := fun x => by
      unfold stepE
      split
      · have := Int.mul_nonneg (h0 e.1) (h e (List.mem_cons_self ..))
        omega
      · exact Int.le_refl _
    have z := goE_mono (E := E) (g := stepE g e) (fun x => Int.le_trans (h0 x) (up x)) (fun e' he => h e' (List.mem_cons_of_mem _ he)) x
    rw [goE_cons]
    exact Int.le_trans (up x) z
def intoE (X : Box → Int) (E : List Edge) (q : Box) : Int := ((E.filter fun e => decide (e.2.1 = q)).map fun e => X e.1 * e.2.2).sum
theorem intoE_cons (X : Box → Int) (e : Edge) (E : List Edge) (q : Box) : intoE X (e :: E) q = (if e.2.1 = q then X e.1 * e.2.2 else 0) + intoE X E q := by
  unfold intoE
  by_cases h : e.2.1 = q
  · rw [List.filter_cons_of_pos (by simpa using h), if_pos h]
    rfl
  · rw [List.filter_cons_of_neg (by simpa using h), if_neg h, Int.zero_add]
theorem intoE_app (X : Box → Int) (q : Box) : ∀ (E F : List Edge), intoE X (E ++ F) q = intoE X E q + intoE X F q
  | [], F => by
    show _ = 0 + _
    rw [Int.zero_add]
    rfl
  | e :: E, F => by rw [List.cons_append, intoE_cons, intoE_cons, intoE_app X q E F, Int.add_assoc]
theorem intoE_flat {α : Type} (X : Box → Int) (q : Box) (ed : α → List Edge) : ∀ ks : List α, intoE X (ks.flatMap ed) q = (ks.map fun r => intoE X (ed r) q).sum
  | [] => rfl
  | r :: ks => by rw [List.flatMap_cons, intoE_app, intoE_flat X q ed ks, List.map_cons, List.sum_cons]
/-- nothing comes to where something has left -/
structure OrdE (E : List Edge) : Prop where
  pw : E.Pairwise fun e e' => e'.2.1 ≠ e.1
  own : ∀ e ∈ E, e.2.1 ≠ e.1
theorem goE_fix : ∀ {E : List Edge} {g : Box → Int}, OrdE E → ∀ x, goE g E x = g x + intoE (goE g E) E x
  | [], g, _, x => by show g x = g x + 0; omega
  | e :: E, g, h, x => by
    obtain ⟨p1, p2⟩ := List.pairwise_cons.mp h.pw
    have ow := h.own e (List.mem_cons_self ..)
    have e1 : goE g (e :: E) e.1 = g e.1 := by
      rw [goE_cons, goE_other fun e' he => p1 e' he]
      unfold stepE
      rw [if_neg fun z => ow z.symm]
    have ih := goE_fix (E := E) (g := stepE g e) ⟨p2, fun e' he => h.own e' (List.mem_cons_of_mem _ he)⟩ x
    rw [intoE_cons, e1]
    rw [goE_cons]
    rw [ih]
    unfold stepE
    by_cases hx : e.2.1 = x
    · rw [if_pos hx.symm, if_pos hx, Int.add_assoc]
    · rw [if_neg fun z => hx z.symm, if_neg hx, Int.zero_add]
theorem ordE_of {E : List Edge} (h1 : ∀ e ∈ E, e.2.1.1.length = e.1.1.length + 1) (h2 : E.Pairwise fun e e' => e.1.1.length ≤ e'.1.1.length) : OrdE E where
  pw := List.Pairwise.imp_of_mem (fun {e e'} _ he' hle z => by
    have := h1 e' he'
    rw [z] at this
    omega) h2
  own := fun e he z => by
    have := h1 e he
    rw [z] at this
    omega
/-! ### sums -/
theorem sum_all0 {α : Type} {f : α → Int} : ∀ {as : List α}, (∀ a ∈ as, f a = 0) → (as.map f).sum = 0
  | [], _ => rfl
  | a :: as, h => by rw [List.map_cons, List.sum_cons, h a (List.mem_cons_self ..), sum_all0 fun b hb => h b (List.mem_cons_of_mem _ hb)]; rfl
theorem sum_plus {α : Type} (f g : α → Int) : ∀ as : List α, (as.map fun a => f a + g a).sum = (as.map f).sum + (as.map g).sum
  | [] => rfl
  | a :: as => by
    rw [List.map_cons, List.map_cons, List.map_cons, List.sum_cons, List.sum_cons, List.sum_cons, sum_plus f g as]
    omega
theorem sum_comm {α β : Type} (f : α → β → Int) (bs : List β) : ∀ as : List α, (as.map fun a => (bs.map fun b => f a b).sum).sum = (bs.map fun b => (as.map fun a => f a b).sum).sum
  | [] => (sum_all0 fun _ _ => rfl).symm
  | a :: as => by
    rw [List.map_cons, List.sum_cons, sum_comm f bs as, ← sum_plus]
    rfl
theorem sum_one {α : Type} [DecidableEq α] (f : α → Int) {a : α} : ∀ {as : List α}, as.Nodup → (as.map fun x => if x = a then f x else 0).sum = if a ∈ as then f a else 0
  | [], _ => rfl
  | b :: as, nd => by
    obtain ⟨h1, h2⟩ := List.nodup_cons.mp nd
    rw [List.map_cons, List.sum_cons, sum_one f h2]
    by_cases e : b = a
    · subst e
      rw [if_pos rfl, if_neg h1, if_pos (List.mem_cons_self ..), Int.add_zero]
    · rw [if_neg e, Int.zero_add]
      by_cases m : a ∈ as
      · rw [if_pos m, if_pos (List.mem_cons_of_mem _ m)]
      · rw [if_neg m, if_neg fun z => (List.mem_cons.mp z).elim (fun z => e z.symm) m]
theorem sum_same {α : Type} {f g : α → Int} {as : List α} (h : ∀ a ∈ as, f a = g a) : (as.map f).sum = (as.map g).sum := by rw [List.map_congr_left h]
theorem sum_le18 {α : Type} {f g : α → Int} : ∀ {as : List α}, (∀ a ∈ as, f a ≤ g a) → (as.map f).sum ≤ (as.map g).sum
  | [], _ => Int.le_refl _
  | a :: as, h => by
    rw [List.map_cons, List.map_cons, List.sum_cons, List.sum_cons]
    exact Int.add_le_add (h a (List.mem_cons_self ..)) (sum_le18 fun b hb => h b (List.mem_cons_of_mem _ hb))
theorem sum_pos {α : Type} {f : α → Int} : ∀ {as : List α} {a : α}, (∀ a ∈ as, 0 ≤ f a) → a ∈ as → 0 < f a → 0 < (as.map f).sum
  | b :: as, a, h, hm, ha => by
    rw [List.map_cons, List.sum_cons]
    have z := h b (List.mem_cons_self ..)
    have z2 : 0 ≤ (as.map f).sum := sum_nonneg fun t ht => by
      obtain ⟨c, hc, rfl⟩ := List.mem_map.mp ht
      exact h c (List.mem_cons_of_mem _ hc)
    rcases List.mem_cons.mp hm with e | e
    · subst e; omega
    · have := sum_pos (fun c hc => h c (List.mem_cons_of_mem _ hc)) e ha
      omega
theorem sum_pos_inv {α : Type} {f : α → Int} {as : List α} (h : 0 < (as.map f).sum) : ∃ a ∈ as, 0 < f a := Classical.byContradiction fun z => by
  have : (as.map f).sum ≤ (as.map fun _ => (0 : Int)).sum := sum_le18 fun a ha => Int.not_lt.mp fun y => z ⟨a, ha, y⟩
  rw [sum_all0 fun _ _ => rfl] at this
  omega
/-! ### moves told as data -/
def mvOf (M : MovT) (q : Box) : Mvs := ((M.find? fun m => decide (m.1 = q)).map (·.2)).getD []
def wt (M : MovT) (q : Box) (c : Int) : Int := ((mvOf M q).map fun x => if x.1 = c then x.2 else 0).sum
def inS (M : MovT) (X : Box → Int) (q : Box) : Int := (q.1.map fun c => X (delB q c) * wt M (delB q c) c).sum
theorem into_in {M : MovT} {X : Box → Int} {q : Box} {ks : List Box} {edm : Box → Int × Int → List Edge} (nd : ks.Nodup) (nq : q.1.Nodup)
    (hed : ∀ r ∈ ks, ∀ x ∈ mvOf M r, intoE X (edm r x) q = if x.1 ∈ q.1 ∧ r = delB q x.1 then X r * x.2 else 0) (hout : ∀ c ∈ q.1, delB q c ∉ ks → wt M (delB q c) c = 0) :
    intoE X (ks.flatMap fun r => (mvOf M r).flatMap (edm r)) q = inS M X q := by
  rw [intoE_flat]
  have one : ∀ r ∈ ks, intoE X ((mvOf M r).flatMap (edm r)) q = (q.1.map fun c => if r = delB q c then X r * wt M r c else 0).sum := fun r hr => by
    rw [intoE_flat, sum_same (hed r hr)]
    have e : (q.1.map fun c => if r = delB q c then X r * wt M r c else 0).sum = (q.1.map fun c => ((mvOf M r).map fun x => if x.1 = c then (if r = delB q c then X r * x.2 else 0) else 0).sum).sum := by
      refine sum_same fun c _ => ?_
      by_cases hc : r = delB q c
      · simp only [if_pos hc]
        unfold wt
        have z := sum_mul ((mvOf M r).map fun x => if x.1 = c then x.2 else 0) (X r)
        rw [Int.mul_comm, ← z, List.map_map]
        refine sum_same fun x _ => ?_
        show (if x.1 = c then x.2 else 0) * X r = if x.1 = c then X r * x.2 else 0
        split
        · exact Int.mul_comm _ _
        · exact Int.zero_mul _
      · simp only [if_neg hc]
        exact (sum_all0 fun x _ => by split <;> rfl).symm
    rw [e, ← sum_comm]
    refine sum_same fun x _ => ?_
    have z := sum_one (fun c => if r = delB q c then X r * x.2 else 0) (a := x.1) nq
    have z2 : (q.1.map fun c => if x.1 = c then (if r = delB q c then X r * x.2 else 0) else 0).sum = (q.1.map fun c => if c = x.1 then (if r = delB q c then X r * x.2 else 0) else 0).sum := sum_same fun c _ => by
      by_cases h : x.1 = c
      · rw [if_pos h, if_pos h.symm]
      · rw [if_neg h, if_neg fun y => h y.symm]
    rw [z2, z]
    by_cases h1 : x.1 ∈ q.1
    · rw [if_pos h1]
      by_cases h2 : r = delB q x.1
      · rw [if_pos ⟨h1, h2⟩, if_pos h2]
      · rw [if_neg fun y => h2 y.2, if_neg h2]
    · rw [if_neg h1, if_neg fun y => h1 y.1]
  rw [sum_same one, sum_comm]
  unfold inS
  refine sum_same fun c hc => ?_
  have z := sum_one (fun r => X r * wt M r c) (a := delB q c) nd
  rw [z]
  by_cases h : delB q c ∈ ks
  · rw [if_pos h]
  · rw [if_neg h, hout c hc h, Int.mul_zero]
/-! ### the share with which a box comes -/
def fN (M : MovT) : Nat → Box → Int
  | 0, _ => 1
  | k + 1, q => (q.1.map fun c => fN M k (delB q c) * wt M (delB q c) c).sum
def FF (M : MovT) (q : Box) : Int := fN M q.1.length q
theorem FF_step {M : MovT} {q : Box} (h : q.1 ≠ []) : FF M q = inS M (FF M) q := by
  obtain ⟨k, hk⟩ : ∃ k, q.1.length = k + 1 := ⟨q.1.length - 1, by have := List.length_pos_iff.mpr h; omega⟩
  unfold FF inS
  rw [hk]
  show (q.1.map _).sum = _
  refine sum_same fun c hc => ?_
  have := del_len hc
  have e : (delB q c).1.length = k := by omega
  show _ = fN M (delB q c).1.length (delB q c) * _
  rw [e]
theorem FF_zero {M : MovT} {q : Box} (h : q.1 = []) : FF M q = 1 := by
  unfold FF
  rw [h]
  rfl
theorem FF_unique {M : MovT} {ss : List Int} {G : Box → Int} (h0 : ∀ q, BoxOk ss q → q.1 = [] → G q = 1) (h1 : ∀ q, BoxOk ss q → q.1 ≠ [] → G q = inS M G q) : ∀ (n : Nat) (q : Box), q.1.length = n → BoxOk ss q → G q = FF M q := by
  intro n
  induction n with
  | zero =>
    intro q hq ok
    have e := List.length_eq_zero_iff.mp hq
    rw [h0 q ok e, FF_zero e]
  | succ n ih =>
    intro q hq ok
    have ne : q.1 ≠ [] := fun e => by rw [e] at hq; cases hq
    rw [h1 q ok ne, FF_step ne]
    refine sum_same fun c hc => ?_
    have := del_len hc
    rw [ih (delB q c) (by omega) (del_ok ok)]

end
end Fm
namespace Fm
open PySem PySem.Spec PyProof.Rows L2
section
variable {P : Program} {w : World} {K : PySem.W.Frag} {mg : Str → Option Value} {base : Heap}

/-! ### right moves -/
def START : Box := ([], [])
/-- all shares are told over this bottom -/
def D18 : Int := 2520
structure MvOk (n : Int) (p : List Int) (ms : Mvs) : Prop where
  up : (ms.map (·.1)).Pairwise (· < ·)
  col : ∀ x ∈ ms, -1 ≤ x.1 ∧ x.1 < n ∧ x.1 ∉ p
  part : ∀ x ∈ ms, 1 ≤ x.2 ∧ x.2 ≤ D18
  all : (ms.map (·.2)).sum = D18
structure MovOk (ss : List Int) (M : MovT) : Prop where
  nd : (M.map (·.1)).Nodup
  start : START ∈ M.map (·.1)
  box : ∀ m ∈ M, BoxOk ss m.1
  mv : ∀ m ∈ M, MvOk ss.length m.1.1 m.2
  shut : ∀ m ∈ M, ∀ x ∈ m.2, x.1 ≠ -1 → ∀ w, 0 ≤ w → w < ss.getD x.1.toNat 0 → lat m.1 x.1 w ∈ M.map (·.1)
  come : ∀ m ∈ M, m.1 ≠ START → ∃ m' ∈ M, ∃ x ∈ m'.2, x.1 ≠ -1 ∧ ∃ w, 0 ≤ w ∧ w < ss.getD x.1.toNat 0 ∧ m.1 = lat m'.1 x.1 w
theorem mvOf_some {M : MovT} {q : Box} {x : Int × Int} (h : x ∈ mvOf M q) : ∃ m ∈ M, m.1 = q ∧ m.2 = mvOf M q := by
  unfold mvOf at *
  cases e : M.find? fun m => decide (m.1 = q) with
  | none =>
    rw [e] at h
    cases h
  | some m => exact ⟨m, List.mem_of_find?_eq_some e, by simpa using List.find?_some e, rfl⟩
theorem mvOf_mem {M : MovT} (nd : (M.map (·.1)).Nodup) {m : Box × Mvs} (hm : m ∈ M) : mvOf M m.1 = m.2 := by
  unfold mvOf
  cases e : M.find? fun u => decide (u.1 = m.1) with
  | none =>
    have z := List.find?_eq_none.mp e m hm
    simp at z
  | some u =>
    have hu := List.mem_of_find?_eq_some e
    have e1 : u.1 = m.1 := by simpa using List.find?_some e
    have z : u = m := by
      obtain ⟨i, hi⟩ := List.mem_iff_getElem?.mp hu
      obtain ⟨j, hj⟩ := List.mem_iff_getElem?.mp hm
      have h1 : (M.map (·.1))[i]? = some m.1 := by rw [List.getElem?_map, hi, ← e1]; rfl
      have h2 : (M.map (·.1))[j]? = some m.1 := by rw [List.getElem?_map, hj]; rfl
      have ij : i = j := (List.getElem?_inj (by rw [List.length_map]; exact (List.getElem?_eq_some_iff.mp hi).1) nd).mp (h1.trans h2.symm)
      rw [ij, hj] at hi
      exact (Option.some.inj hi).symm
    rw [z]
    rfl
theorem mvOf_none {M : MovT} {q : Box} (h : q ∉ M.map (·.1)) : mvOf M q = [] := by
  cases e : mvOf M q with
  | nil => rfl
  | cons x l =>
    obtain ⟨m, hm, e1, _⟩ := mvOf_some (M := M) (q := q) (x := x) (by rw [e]; exact List.mem_cons_self ..)
    exact (h (List.mem_map.mpr ⟨m, hm, e1⟩)).elim
theorem wt_out {M : MovT} {q : Box} (h : q ∉ M.map (·.1)) (c : Int) : wt M q c = 0 := by
  unfold wt
  rw [mvOf_none h]
  rfl
variable {ss : List Int} {M : MovT}
theorem MovOk.mvs (ok : MovOk ss M) (q : Box) : (∀ x ∈ mvOf M q, 1 ≤ x.2 ∧ x.2 ≤ D18) ∧ ((mvOf M q).map (·.2)).sum ≤ D18 := by
  by_cases h : q ∈ M.map (·.1)
  · obtain ⟨m, hm, rfl⟩ := List.mem_map.mp h
    rw [mvOf_mem ok.nd hm]
    exact ⟨(ok.mv m hm).part, Int.le_of_eq (ok.mv m hm).all⟩
  · rw [mvOf_none h]
    exact ⟨fun x hx => (by cases hx), by decide⟩
theorem MovOk.wt0 (ok : MovOk ss M) (q : Box) (c : Int) : 0 ≤ wt M q c ∧ wt M q c ≤ D18 := by
  obtain ⟨h1, h2⟩ := ok.mvs q
  unfold wt
  refine ⟨sum_nonneg fun t ht => ?_, Int.le_trans (sum_le18 (g := (·.2)) fun x hx => ?_) h2⟩
  · obtain ⟨x, hx, rfl⟩ := List.mem_map.mp ht
    have := (h1 x hx).1
    split <;> omega
  · have := (h1 x hx).1
    show (if x.1 = c then x.2 else 0) ≤ x.2
    split <;> omega
theorem MovOk.fN0 (ok : MovOk ss M) : ∀ (k : Nat) (q : Box), 0 ≤ fN M k q
  | 0, _ => (show (0 : Int) ≤ 1 by decide)
  | k + 1, q => sum_nonneg fun t ht => by
    obtain ⟨c, _, rfl⟩ := List.mem_map.mp ht
    exact Int.mul_nonneg (ok.fN0 k _) (ok.wt0 _ c).1
theorem MovOk.FF0 (ok : MovOk ss M) (q : Box) : 0 ≤ FF M q := ok.fN0 _ _
/-- no more than so many times the bottom -/
def fac : Nat → Nat
  | 0 => 1
  | k + 1 => (k + 1) * fac k
theorem sum_const {α : Type} (c : Int) : ∀ as : List α, (as.map fun _ => c).sum = (as.length : Int) * c
  | [] => by simp
  | a :: as => by
    rw [List.map_cons, List.sum_cons, sum_const c as, List.length_cons, Int.natCast_add, Int.add_mul]
    omega
theorem MovOk.fN_le (ok : MovOk ss M) : ∀ (k : Nat) (q : Box), q.1.length = k → fN M k q ≤ (fac k : Nat) * D18 ^ k
  | 0, _, _ => (show (1 : Int) ≤ (fac 0 : Nat) * D18 ^ 0 by decide)
  | k + 1, q, hq => by
    show (q.1.map fun c => fN M k (delB q c) * wt M (delB q c) c).sum ≤ _
    have h0 : (0 : Int) ≤ (fac k : Nat) * D18 ^ k := Int.mul_nonneg (by omega) (Int.pow_nonneg (by decide))
    have z := sum_le18 (as := q.1) (f := fun c => fN M k (delB q c) * wt M (delB q c) c) (g := fun _ => ((fac k : Nat) * D18 ^ k) * D18) fun c hc => by
      have hl : (delB q c).1.length = k := by have := del_len hc; omega
      exact Int.mul_le_mul (ok.fN_le k _ hl) (ok.wt0 _ c).2 (ok.wt0 _ c).1 h0
    refine Int.le_trans z ?_
    rw [sum_const, hq, show fac (k + 1) = (k + 1) * fac k from rfl, Int.natCast_mul, Int.pow_succ]
    refine Int.le_of_eq ?_
    ac_rfl
theorem fac_le : ∀ k, k ≤ 5 → fac k ≤ 120 := by decide
theorem MovOk.FF_le (ok : MovOk ss M) {q : Box} (h : q.1.length ≤ 5) : FF M q ≤ 120 * D18 ^ q.1.length := by
  refine Int.le_trans (ok.fN_le _ q rfl) (Int.mul_le_mul_of_nonneg_right ?_ (Int.pow_nonneg (by decide)))
  have := fac_le _ h
  omega
/-- a box comes at all: it is a stand -/
theorem MovOk.FF_pos (ok : MovOk ss M) : ∀ (n : Nat) (q : Box), q.1.length = n → BoxOk ss q → (0 < FF M q ↔ q ∈ M.map (·.1)) := by
  have nil_start : ∀ {q : Box}, BoxOk ss q → q.1 = [] → q = START := fun {q} hq e => by
    have := box_len hq
    rw [e] at this
    exact Prod.ext e (List.length_eq_zero_iff.mp this)
  intro n
  induction n with
  | zero =>
    intro q hq bo
    have e := List.length_eq_zero_iff.mp hq
    rw [FF_zero e, nil_start bo e]
    exact ⟨fun _ => ok.start, fun _ => by decide⟩
  | succ n ih =>
    intro q hq bo
    have ne : q.1 ≠ [] := fun e => by rw [e] at hq; cases hq
    rw [FF_step ne]
    constructor
    · intro h
      obtain ⟨c, hc, hp⟩ := sum_pos_inv h
      have w0 := ok.wt0 (delB q c) c
      have wp : 0 < wt M (delB q c) c := by
        rcases Int.lt_or_le 0 (wt M (delB q c) c) with z | z
        · exact z
        · have e : wt M (delB q c) c = 0 := by omega
          rw [e, Int.mul_zero] at hp
          omega
      obtain ⟨x, hx, hx2⟩ := sum_pos_inv wp
      have xc : x.1 = c := Classical.byContradiction fun z => by rw [if_neg z] at hx2; omega
      obtain ⟨m, hm, e1, e2⟩ := mvOf_some hx
      rw [← e2] at hx
      have c0 : c ≠ -1 := fun e => by
        have := bo.1.mem c hc
        omega
      obtain ⟨v0, v1⟩ := val_ok bo hc
      have z := ok.shut m hm x hx (by rw [xc]; exact c0) (valB q c) v0 (by rw [xc]; exact v1)
      rw [e1, xc, lat_del (asc_up bo.1) hc (box_len bo)] at z
      exact z
    · intro h
      obtain ⟨m, hm, e⟩ := List.mem_map.mp h
      have ns : m.1 ≠ START := fun z => ne (by rw [← e, z]; rfl)
      obtain ⟨m', hm', x, hx, c0, w, w0, w1, e2⟩ := ok.come m hm ns
      obtain ⟨c1, c2, c3⟩ := (ok.mv m' hm').col x hx
      have bo' := ok.box m' hm'
      rw [e] at e2
      have hd : delB q x.1 = m'.1 := by rw [e2]; exact del_lat c3 (box_len bo')
      have hin : x.1 ∈ q.1 := by rw [e2]; exact insA_mem.mpr (.inl rfl)
      have hl := del_len hin
      have p1 := (ih (delB q x.1) (by omega) (del_ok bo)).mpr (by rw [hd]; exact List.mem_map.mpr ⟨m', hm', rfl⟩)
      have p2 : 0 < wt M (delB q x.1) x.1 := by
        unfold wt
        refine sum_pos (a := x) (fun y hy => ?_) ?_ ?_
        · have := ((ok.mvs (delB q x.1)).1 y hy).1
          split <;> omega
        · rw [hd, mvOf_mem ok.nd hm']
          exact hx
        · rw [if_pos rfl]
          have := ((ok.mv m' hm').part x hx).1
          omega
      refine sum_pos (a := x.1) (fun c _ => Int.mul_nonneg (ok.FF0 _) (ok.wt0 _ c).1) hin (Int.mul_pos p1 p2)

end
end Fm
namespace Fm
open PySem PySem.Spec PyProof.Rows L2
section
variable {P : Program} {w : World} {K : PySem.W.Frag} {mg : Str → Option Value} {base : Heap}

def cutI (c : List Int) (lo hi : Option Int) : List Int := (c.drop (HT.sIx c.length 0 lo)).take (HT.sIx c.length c.length hi - HT.sIx c.length 0 lo)
theorem slice_ct {H : Hp} {x : V} {c : List Int} {lo hi : Option Int} {Q : VK} (hx : Dh K H x (ctD c)) (q : ∀ v H', Same H H' → Dh K H' v (ctD (cutI c lo hi)) → Q v H') : rSlA K x lo hi H Q := by
  obtain ⟨a, rfl, ha⟩ := ct_inv hx
  have e : cutV (c.map V.int) lo hi = (cutI c lo hi).map V.int := by
    unfold cutV cutI
    rw [List.length_map, List.map_take, List.map_drop]
  refine ⟨a, _, rfl, ha, ⟨fun hw => ?_, fun _ p np => ?_⟩⟩
  · have e2 : cutI c lo hi = c := by
      rw [List.length_map] at hw
      unfold cutI
      rw [hw.1, hw.2, List.drop_zero, Nat.sub_zero, List.take_length]
    exact q _ H (Same.refl H) (by rw [e2]; exact hx)
  · rw [e]
    exact q _ _ (same_new np) (dh_ct (SqT.of upd_same))
theorem cutI_take {c : List Int} {k : Nat} (h : k ≤ c.length) : cutI c none (some (k : Int)) = c.take k := by
  unfold cutI
  rw [HT.sIx_none, HT.sIx_nat, List.drop_zero, Nat.sub_zero, Nat.min_eq_left h]
theorem cutI_drop {c : List Int} {k : Nat} (h : k ≤ c.length) : cutI c (some (k : Int)) none = c.drop k := by
  unfold cutI
  rw [HT.sIx_none, HT.sIx_nat, Nat.min_eq_left h]
  exact List.take_of_length_le (by rw [List.length_drop]; omega)

/-- what a comprehension over known things has collected -/
structure Got (K : PySem.W.Frag) (H0 : Hp) (D : Addr) (ds : List Dt) (H : Hp) : Prop where
  same : Same H0 H
  got : ∃ acc, H D = some (.lst acc) ∧ DhAll K H acc ds
theorem Got.put {H0 H H' : Hp} {D : Addr} {ds : List Dt} {d : Dt} {v : V} (nD : H0 D = none) (g : Got K H0 D ds H) (s : Same H H') (h : Dh K H' v d) (hl : ds.length ≤ 10000) : ∃ acc, H' D = some (.lst acc) ∧ acc.length < sizeLine ∧ Got K H0 D (ds ++ [d]) (upd H' D (.lst (acc ++ [v]))) := by
  obtain ⟨acc, h1, h2⟩ := g.got
  have hD := s _ _ h1
  have ep := Ext.put (ys := acc ++ [v]) hD
  refine ⟨acc, hD, sz_small (by have := h2.length; omega), Same.put nD (g.same.trans s), acc ++ [v], upd_same, ?_⟩
  have key : ∀ {xs : List V} {es : List Dt}, DhAll K (upd H' D (.lst (acc ++ [v]))) xs es → DhAll K (upd H' D (.lst (acc ++ [v]))) (xs ++ [v]) (es ++ [d]) := by
    intro xs es z
    induction es generalizing xs with
    | nil =>
      cases z
      exact .cons (h.ext ep) .nil
    | cons e es ih =>
      cases z with
      | cons z1 z2 => exact .cons z1 (ih z2)
  exact key ((h2.ext (.of s)).ext ep)
theorem Got.zero {H0 : Hp} {D : Addr} (nD : H0 D = none) : Got K H0 D [] (upd H0 D (.lst [])) := ⟨same_new nD, [], upd_same, .nil⟩
theorem dhAll_at {H : Hp} : ∀ {xs : List V} {ds : List Dt} {i : Nat} {x : V}, DhAll K H xs ds → xs[i]? = some x → ∃ d, ds[i]? = some d ∧ Dh K H x d
  | _, _, _, _, .nil, e => by simp at e
  | v :: _, _, 0, x, .cons (d := d) h _, e => by
    have e : v = x := by simpa using e
    subst e
    exact ⟨d, rfl, h⟩
  | _, _, i + 1, x, .cons _ t, e => dhAll_at (i := i) t (by simpa using e)
theorem cat_cts {H : Hp} {Q : VK} {x y : V} {c d : List Int} (hc : Dh K H x (ctD c)) (hd : Dh K H y (ctD d)) (hl : c.length + d.length ≤ 1000) (q : ∀ v H', Same H H' → Dh K H' v (ctD (c ++ d)) → Q v H') : rCatA K x y H Q := by
  obtain ⟨a, rfl, s⟩ := ct_inv hc
  obtain ⟨b, rfl, t⟩ := ct_inv hd
  refine ⟨a, b, _, _, rfl, rfl, s, t, ?_, fun e => ?_, fun _ e => ?_, fun _ _ p hp => ?_⟩
  · rw [List.length_map, List.length_map]
    exact Nat.le_of_lt (sz_small (by omega))
  · have e0 : c = [] := List.map_eq_nil_iff.mp e
    subst e0
    exact q _ _ (Same.refl H) hd
  · have e0 : d = [] := List.map_eq_nil_iff.mp e
    subst e0
    rw [List.append_nil] at q
    exact q _ _ (Same.refl H) hc
  · refine q _ _ (same_new hp) (dh_ct ?_)
    rw [List.map_append]
    exact SqT.of upd_same
abbrev bxD (q : Box) : Dt := boxD q.1 q.2
theorem dh_box {H : Hp} {v : V} {q : Box} (h : Dh K H v (bxD q)) : ∃ a, v = .ref a ∧ BoxAt K H a q := by
  obtain ⟨a, v1, v2, rfl, s, h1, h2⟩ := box_inv h
  obtain ⟨pa, rfl, s1⟩ := ct_inv h1
  obtain ⟨wa, rfl, s2⟩ := ct_inv h2
  exact ⟨a, rfl, pa, wa, s, s1, s2⟩
theorem BoxAt.ext {H H' : Hp} {b : Addr} {q : List Int × List Int} (e : Ext H H') : BoxAt K H b q → BoxAt K H' b q := fun ⟨pa, wa, h1, h2, h3⟩ => ⟨pa, wa, e.sqT h1, e.sqT h2, e.sqT h3⟩
theorem sizes_at {ss : List Int} (ok : SizesOk ss) {c : Int} (c0 : 0 ≤ c) (c1 : c < ss.length) : atI (ss.map V.int) c = some (.int (ss.getD c.toNat 0)) ∧ 2 ≤ ss.getD c.toNat 0 ∧ ss.getD c.toNat 0 ≤ 4 := by
  obtain ⟨_, _, hm⟩ := ok.facts
  have hk : c.toNat < ss.length := by omega
  have e : ss[c.toNat]? = some (ss.getD c.toNat 0) := by
    rw [List.getD_eq_getElem?_getD, List.getElem?_eq_getElem hk]
    rfl
  refine ⟨at_of (j := c.toNat) (by omega) ?_, hm _ (List.mem_of_getElem? e)⟩
  rw [List.getElem?_map, e]
  rfl

def spBw (K : PySem.W.Frag) : Sp := fun vs H Q _ => ∃ (sz b : Addr) (c : Int) (ss : List Int) (r : Box), vs = [.ref sz, .ref b, .int c] ∧ SqT K H sz (ss.map V.int) ∧ SizesOk ss ∧ BoxAt K H b r ∧ BoxOk ss r ∧ 0 ≤ c ∧ c < ss.length ∧
  ∀ D xs H', H D = none → Same H H' → H' D = some (.lst xs) → DhAll K H' xs (((List.range (ss.getD c.toNat 0).toNat).map fun w : Nat => lat r c w).map bxD) → Q (.ref D) H'
theorem ok_boxes_with (T : Txt K mg) : FnOk P w K mg base CX0 1 T.f_boxes_with T.d_boxes_with ["sizes", "box", "column"] (spBw K) := by
  refine T.F_boxes_with.ok sc_boxes_with (fun vs H Q E h => ?_) (fun cdv A outer s H vs Q E hr h => ?_)
  · obtain ⟨_, _, _, _, _, rfl, _⟩ := h
    rfl
  · obtain ⟨sz, b, c, ss, r, rfl, hsz, ok, hb, bo, c0, c1, q⟩ := h
    obtain ⟨_, s5, _⟩ := ok.facts
    obtain ⟨hat, n2, n4⟩ := sizes_at ok c0 c1
    generalize hn : ss.getD c.toNat 0 = n at hat n2 n4 q
    obtain ⟨pa, wa, hbs, hp, hw⟩ := hb
    have hl := box_len bo
    have pl := bo.1.len (by omega)
    have pp := pos_le c r.1
    refine ⟨_, (pss_cons (ps_asg (pv 1) (pg_tupK K (n := 2) rfl (pgs_cons (pg_name (i := 5) sc_boxes_with.nd rfl (.inl rfl)) (pgs_cons (pg_name (i := 6) sc_boxes_with.nd rfl (.inr rfl)) pgs_nil))))
      (pss_cons (ps_set (i := 3) sc_boxes_with.nd rfl (.inr rfl) (pe_callB (call_lenK K) (by rfl) T.z_len PySem.boot_len (pa_cons (pe_lc (own := [("other", 8)]) rfl sc_boxes_with.nd (pi_tupK K (pv 5)) (blkOk_by (N := N_boxes_with) (sc := defScope s_boxes_with) (by decide +kernel)) (fun _ _ _ _ _ => (pg_name (i := 8) sc_boxes_with.nd rfl (.inl rfl))) (fun _ _ _ _ _ => (pts_one (pt_cmpR op_lt (pv 8) (pv 2) (nomark _)))) (fun _ _ _ _ _ => (pv 8))) pa_nil)))
      (pss_cons (ps_set (i := 4) sc_boxes_with.nd rfl (.inr rfl) (pe_op (op_catK K) (pe_op (op_catK K) (pe_slice (sl_tupK K) (pv 5) po_none (po_some (pv 3))) (pe_tup (pa_cons (pv 2) pa_nil))) (pe_slice (sl_tupK K) (pv 5) (po_some (pv 3)) po_none)))
      (pss_one (ps_ret (pe_lc (own := [("worth", 7)]) rfl sc_boxes_with.nd (pi_range1 (by rfl) T.z_range (pa_cons (pe_ix (ix_tupK K) (pv 0) (pv 2) (fun _ _ => rfl)) pa_nil)) (blkOk_by (N := N_boxes_with) (sc := defScope s_boxes_with) (by decide +kernel)) (fun _ _ _ _ _ => (pg_name (i := 7) sc_boxes_with.nd rfl (.inl rfl))) (fun _ _ _ _ _ => pts_nil) (fun _ _ _ _ _ => (pe_tup (pa_cons (pv 4) (pa_cons (pe_op (op_catK K) (pe_op (op_catK K) (pe_slice (sl_tupK K) (pv 6) po_none (po_some (pv 3))) (pe_tup (pa_cons (pv 7) pa_nil))) (pe_slice (sl_tupK K) (pv 6) (po_some (pv 3)) po_none)) pa_nil)))))))))), ?_⟩
    refine ⟨_, rfl, b, _, rfl, hbs, rfl, _, _, rfl, _, _, rfl, rfl, ?_⟩
    refine ⟨_, rfl, pa, rfl, ⟨_, hp⟩, fun D nD => lc_tup (K := K) (xs := r.1.map V.int) (fun j H' => Same H H' ∧ H' D = some (.lst (((r.1.take j).filter fun x => decide (x < c)).map V.int))) ⟨same_new nD, upd_same⟩ (fun j H' _ g => (Ext.of g.1).sqT hp) ?_ ?_⟩
    · rintro j x H1 hx ⟨sm, hD⟩
      obtain ⟨y, rfl, hy⟩ := int_at hx
      have e2 : r.1.take (j + 1) = r.1.take j ++ [y] := by rw [List.take_add_one, hy]; rfl
      refine ⟨rfl, _, rfl, _, rfl, _, _, rfl, rfl, decide (y < c), rfl, ?_⟩
      dsimp only
      by_cases hlt : y < c
      · rw [decide_eq_true hlt, if_pos rfl]
        refine ⟨_, rfl, _, hD, ?_, fun b o e => ?_, ?_⟩
        · rw [List.length_map]
          have z := List.length_filter_le (fun x => decide (x < c)) (r.1.take j)
          rw [List.length_take] at z
          exact sz_small (by omega)
        · rw [upd_ne (ne_of_none e nD)]
          exact sm _ _ e
        · rw [upd_same, e2, List.filter_append, List.filter_cons_of_pos (by simpa using hlt), List.map_append]
          rfl
      · rw [decide_eq_false hlt, if_neg Bool.false_ne_true]
        refine ⟨sm, ?_⟩
        rw [e2, List.filter_append, List.filter_cons_of_neg (by simpa using hlt), List.filter_nil, List.append_nil]
        exact hD
    · rintro H1 ⟨sm, hD⟩
      rw [List.length_map, List.take_length] at hD
      refine ⟨D, _, rfl, .inl (SqL.of hD), ?_⟩
      have e1 : (((r.1.filter fun x => decide (x < c)).map V.int).length) = pos c r.1 := by rw [List.length_map]; rfl
      rw [e1]
      have dp : Dh K H1 (.ref pa) (ctD r.1) := dh_ct ((Ext.of sm).sqT hp)
      have dw : Dh K H1 (.ref wa) (ctD r.2) := dh_ct ((Ext.of sm).sqT hw)
      refine ⟨_, rfl, _, rfl, _, rfl, slice_ct (lo := none) (hi := some ((pos c r.1 : Nat) : Int)) dp fun v1 H2 s2 d1 => ?_⟩
      rw [cutI_take pp] at d1
      refine ⟨_, rfl, by show 1 ≤ sizeLine; decide, fun t3 n3 => ?_⟩
      have s3 : Same H2 (upd H2 t3 (.tup [.int c])) := same_new n3
      refine cat_cts (d := [c]) (d1.ext (.of s3)) (dh_ct (SqT.of upd_same)) (by rw [List.length_take]; show _ + 1 ≤ 1000; omega) fun v4 H4 s4 d4 => ?_
      have s24 := s2.trans (s3.trans s4)
      refine ⟨_, rfl, _, rfl, _, rfl, ?_⟩
      dsimp only [tNoPart]
      refine slice_ct (lo := some ((pos c r.1 : Nat) : Int)) (hi := none) (dp.ext (.of s24)) fun v5 H5 s5 d5 => ?_
      rw [cutI_drop pp] at d5
      refine cat_cts (d4.ext (.of s5)) d5 (by rw [List.length_append, List.length_take, List.length_drop]; show _ + 1 + _ ≤ 1000; omega) fun v6 H6 s6 d6 => ?_
      have ew : r.1.take (pos c r.1) ++ [c] ++ r.1.drop (pos c r.1) = insA c r.1 := by
        rw [List.append_assoc]
        rfl
      rw [ew] at d6
      have s16 : Same H1 H6 := s24.trans (s5.trans s6)
      have s06 := sm.trans s16
      have dw6 := dw.ext (.of s16)
      refine ⟨_, rfl, _, rfl, sz, _, c, _, rfl, rfl, (Ext.of s06).sqT hsz, hat, n, rfl, by omega, by omega, fun D2 nD2 => lc_range (lo := 0) (n := n.toNat) (fun j H' => Got K H6 D2 ((((List.range n.toNat).take j).map fun w : Nat => lat r c w).map bxD) H') (.zero nD2) ?_ ?_⟩
      · intro j H7 hj g
        have e2 : (List.range n.toNat).take (j + 1) = (List.range n.toNat).take j ++ [j] := by rw [List.take_add_one, List.getElem?_range hj]; rfl
        have d7 := d6.ext (.of g.same)
        have w7 := dw6.ext (.of g.same)
        rw [Int.zero_add]
        refine ⟨rfl, ?_⟩
        dsimp only [tYes]
        rw [if_pos rfl]
        refine ⟨_, rfl, _, rfl, _, rfl, _, rfl, slice_ct (lo := none) (hi := some ((pos c r.1 : Nat) : Int)) w7 fun v1 H2 s2 d1 => ?_⟩
        have pw : pos c r.1 ≤ r.2.length := by rw [hl]; exact pp
        rw [cutI_take pw] at d1
        refine ⟨_, rfl, by show 1 ≤ sizeLine; decide, fun t3 n3 => ?_⟩
        have s3 : Same H2 (upd H2 t3 (.tup [.int (j : Nat)])) := same_new n3
        refine cat_cts (d := [(j : Int)]) (d1.ext (.of s3)) (dh_ct (SqT.of upd_same)) (by rw [List.length_take]; show _ + 1 ≤ 1000; omega) fun v4 H4 s4 d4 => ?_
        have s24 := s2.trans (s3.trans s4)
        refine ⟨_, rfl, _, rfl, _, rfl, ?_⟩
        dsimp only [tNoPart]
        refine slice_ct (lo := some ((pos c r.1 : Nat) : Int)) (hi := none) (w7.ext (.of s24)) fun v5 H5 s5 d5 => ?_
        rw [cutI_drop pw] at d5
        refine cat_cts (d4.ext (.of s5)) d5 (by rw [List.length_append, List.length_take, List.length_drop]; show _ + 1 + _ ≤ 1000; omega) fun v8 H8 s8 d8 => ?_
        have ew2 : r.2.take (pos c r.1) ++ [(j : Int)] ++ r.2.drop (pos c r.1) = (lat r c j).2 := by
          rw [List.append_assoc]
          rfl
        rw [ew2] at d8
        have s78 := s24.trans (s5.trans s8)
        refine ⟨by show 2 ≤ sizeLine; decide, fun t9 n9 => ?_⟩
        have s9 : Same H8 (upd H8 t9 (.tup [v6, v8])) := same_new n9
        have dbx : Dh K (upd H8 t9 (.tup [v6, v8])) (.ref t9) (bxD (lat r c j)) := .tup (SqT.of upd_same) (.cons (d7.ext (.of (s78.trans s9))) (.cons (d8.ext (.of s9)) .nil))
        have z := g.put nD2 (s78.trans s9) dbx (by rw [List.length_map, List.length_map, List.length_take]; omega)
        rw [e2, List.map_append, List.map_append]
        exact z
      · intro H7 g
        obtain ⟨acc, hD2, hacc⟩ := g.got
        rw [List.take_of_length_le (by rw [List.length_range]; exact Nat.le_refl _)] at hacc
        exact q D2 acc H7 (s06.free nD2) (s06.trans g.same) hD2 hacc

end
end Fm
namespace Fm
open PySem PySem.Spec PyProof.Rows L2
section
variable {P : Program} {w : World} {K : PySem.W.Frag} {mg : Str → Option Value} {base : Heap}

/-! ### boxes by their number of columns -/
theorem data_zip {α : Type} {f : α → Dt} {H : Hp} : ∀ {xs : List V} {bl : List α}, DhAll K H xs (bl.map f) → ∃ cs : List (V × α), cs.map (·.1) = xs ∧ cs.map (·.2) = bl ∧ ∀ b ∈ cs, Dh K H b.1 (f b.2)
  | [], [], _ => ⟨[], rfl, rfl, fun b hb => by cases hb⟩
  | x :: xs, c :: qs, h => by
    rw [List.map_cons] at h
    cases h with
    | cons h t =>
      obtain ⟨bs, e, e2, hb⟩ := data_zip t
      refine ⟨(x, c) :: bs, by rw [List.map_cons, e], by rw [List.map_cons, e2], fun b hm => ?_⟩
      rcases List.mem_cons.mp hm with z | z
      · rw [z]
        exact h
      · exact hb b z
  | x :: xs, [], h => by cases h
  | [], c :: qs, h => by cases h
theorem data_of {α : Type} {f : α → Dt} {H : Hp} : ∀ {cs : List (V × α)}, (∀ b ∈ cs, Dh K H b.1 (f b.2)) → DhAll K H (cs.map (·.1)) ((cs.map (·.2)).map f)
  | [], _ => .nil
  | b :: S, h => .cons (h b (List.mem_cons_self ..)) (data_of fun z hz => h z (List.mem_cons_of_mem _ hz))
def lpD (q : Box) : Dt := .tup [.int q.1.length, bxD q]
def lpP (q : Box) : PyData := .tuple [.int q.1.length, boxP q.1 q.2]
theorem dp_lp {H : Hp} {v : V} {q : Box} (h : Dh K H v (lpD q)) : Dp K H v (lpP q) := by
  obtain ⟨a, xs, rfl, s, t⟩ := h.tup_inv
  obtain ⟨v1, v2, rfl, h1, h2⟩ := dh_two t
  cases h1
  exact .tup s (.cons (.int _) (.cons (dp_box h2) .nil))
theorem alike_lp (p q : Box) : PySem.W.alike (lpP p) (lpP q) = true := by
  have one : ∀ x y : List Int, PySem.W.alike (ctP x) (ctP y) = true := fun x y => PySem.W.alike_ints x y
  show PySem.W.alikeAll [.int _, boxP p.1 p.2] [.int _, boxP q.1 q.2] = true
  have b : PySem.W.alike (boxP p.1 p.2) (boxP q.1 q.2) = true := by
    show PySem.W.alikeAll [ctP p.1, ctP p.2] [ctP q.1, ctP q.2] = true
    rw [PySem.W.alikeAll, one, PySem.W.alikeAll, one, PySem.W.alikeAll]
    rfl
  rw [PySem.W.alikeAll, PySem.W.alikeAll, b, PySem.W.alikeAll]
  rfl
theorem lp_depth (q : Box) : (lpP q).depth ≤ 60 := by
  have z := (lay_box q.1 q.2).2
  show max (PyData.int _).depth (max (boxP q.1 q.2).depth 0) + 1 ≤ 60
  show max 0 (max (boxP q.1 q.2).depth 0) + 1 ≤ 60
  omega
theorem le_lp {p q : Box} (h : PySem.W.dataLt (lpP q) (lpP p) = false) : p.1.length ≤ q.1.length := by
  have b : PySem.W.alike (boxP q.1 q.2) (boxP p.1 p.2) = true := by
    have one : ∀ x y : List Int, PySem.W.alike (ctP x) (ctP y) = true := fun x y => PySem.W.alike_ints x y
    show PySem.W.alikeAll [ctP q.1, ctP q.2] [ctP p.1, ctP p.2] = true
    rw [PySem.W.alikeAll, one, PySem.W.alikeAll, one, PySem.W.alikeAll]
    rfl
  unfold lpP at h
  rw [PySem.W.dataLt_pair (by simp only [PySem.W.alike]) b, PySem.W.dataLt_int] at h
  by_cases e : PyData.eqv (.int (q.1.length : Int)) (.int (p.1.length : Int)) = true
  · have e' : ((q.1.length : Int) == (p.1.length : Int)) = true := e
    have := beq_iff_eq.mp e'
    omega
  · rw [if_neg e] at h
    have := of_decide_eq_false h
    omega
theorem sort_by {H : Hp} {a : Addr} {xs : List V} {bl : List Box} {Q : VK} (hs : SqL K H a xs) (hd : DhAll K H xs (bl.map lpD))
    (q : ∀ p ys (S : List Box), H p = none → DhAll K H ys (S.map lpD) → S.Perm bl → S.Pairwise (fun a b => a.1.length ≤ b.1.length) → Q (.ref p) (upd H p (.lst ys))) : rSortTs K [.ref a] H Q := by
  obtain ⟨cs, e, e2, hb⟩ := data_zip hd
  have e1 : (cs.map fun b => (b.1, lpP b.2)).map (·.1) = xs := by
    rw [List.map_map, ← e]
    rfl
  refine ⟨a, cs.map fun b => (b.1, lpP b.2), rfl, by rw [e1]; exact hs, fun b hm => ?_, ?_, fun p np => ?_⟩
  · obtain ⟨z, hz, rfl⟩ := List.mem_map.mp hm
    exact ⟨dp_lp (hb z hz), ⟨_, rfl⟩, lp_depth _⟩
  · intro d hd d' hd'
    obtain ⟨b, hm, rfl⟩ := List.mem_map.mp hd
    obtain ⟨b', hm', rfl⟩ := List.mem_map.mp hd'
    obtain ⟨z, hz, rfl⟩ := List.mem_map.mp hm
    obtain ⟨z', hz', rfl⟩ := List.mem_map.mp hm'
    exact alike_lp z.2 z'.2
  · have key := List.map_mergeSort (r := PySem.W.dataLe false (fun b : V × Box => lpP b.2)) (s := PySem.W.dataLe false (fun b : V × PyData => b.2)) (f := fun b : V × Box => (b.1, lpP b.2)) (l := cs) fun a _ b _ => rfl
    rw [← key, List.map_map]
    generalize hW : cs.mergeSort (PySem.W.dataLe false (fun b : V × Box => lpP b.2)) = W
    have pm : W.Perm cs := by rw [← hW]; exact List.mergeSort_perm _ _
    have srt : W.Pairwise fun a b => a.2.1.length ≤ b.2.1.length := by
      have z := List.pairwise_mergeSort (le := PySem.W.dataLe false (fun b : V × Box => lpP b.2)) (fun a b c h1 h2 => ?_) (fun a b => ?_) cs
      · rw [hW] at z
        exact z.imp fun {a b} h => le_lp (by
          have h' : (!PySem.W.dataLt (lpP b.2) (lpP a.2)) = true := h
          simpa using h')
      · have h1' : PySem.W.dataLt (lpP b.2) (lpP a.2) = false := by simpa [PySem.W.dataLe_eq] using h1
        have h2' : PySem.W.dataLt (lpP c.2) (lpP b.2) = false := by simpa [PySem.W.dataLe_eq] using h2
        show (!PySem.W.dataLt (lpP c.2) (lpP a.2)) = true
        cases h3 : PySem.W.dataLt (lpP c.2) (lpP a.2) with
        | false => rfl
        | true =>
          rcases PyProof.Rows.lex_negTrans _ (PySem.W.keyToks (lpP b.2)) _ h3 with z | z
          · exact absurd (h2'.symm.trans z) (by decide)
          · exact absurd (h1'.symm.trans z) (by decide)
      · show (!PySem.W.dataLt (lpP b.2) (lpP a.2) || !PySem.W.dataLt (lpP a.2) (lpP b.2)) = true
        cases h1 : PySem.W.dataLt (lpP b.2) (lpP a.2) with
        | false => rfl
        | true =>
          cases h2 : PySem.W.dataLt (lpP a.2) (lpP b.2) with
          | false => rfl
          | true => exact absurd ((PyProof.Rows.lex_trans _ _ _ h1 h2).symm.trans (PyProof.Rows.lex_irrefl _)) (by decide)
    have z := q p (W.map (·.1)) (W.map (·.2)) np (data_of fun b hm => hb b (pm.mem_iff.mp hm)) (by rw [← e2]; exact pm.map _) (List.pairwise_map.mpr srt)
    exact z

end
end Fm
namespace Fm
open PySem PySem.Spec PyProof.Rows L2
section
variable {P : Program} {w : World} {K : PySem.W.Frag} {mg : Str → Option Value} {base : Heap}

def spByC (K : PySem.W.Frag) : Sp := fun vs H Q _ => ∃ (l : Addr) (xs : List V) (bl : List Box), vs = [.ref l] ∧ SqL K H l xs ∧ DhAll K H xs (bl.map bxD) ∧ bl.length ≤ 1000 ∧
  ∀ D ys (S : List Box) H', H D = none → Same H H' → H' D = some (.lst ys) → DhAll K H' ys (S.map bxD) → S.Perm bl → S.Pairwise (fun a b => a.1.length ≤ b.1.length) → Q (.ref D) H'
theorem ok_by_columns (T : Txt K mg) : FnOk P w K mg base CX0 1 T.f_by_columns T.d_by_columns ["boxes"] (spByC K) := by
  refine T.F_by_columns.ok sc_by_columns (fun vs H Q E h => ?_) (fun cdv A outer s H vs Q E hr h => ?_)
  · obtain ⟨_, _, _, rfl, _⟩ := h
    rfl
  · obtain ⟨l, xs, bl, rfl, hl, hx, few, q⟩ := h
    have xl := hx.length
    rw [List.length_map] at xl
    refine ⟨_, (pss_one (ps_ret (pe_lc (own := [("_", 1), ("box", 2)]) rfl sc_by_columns.nd (pi_listK K (pe_callB (call_sortTsK (K := K) hr.units) (by rfl) T.z_sorted (by decide +kernel) (pa_cons (pe_lc (own := [("box", 2)]) rfl sc_by_columns.nd (pi_listK K (pv 0)) (blkOk_by (N := N_by_columns) (sc := defScope s_by_columns) (by decide +kernel)) (fun _ _ _ _ _ => (pg_name (i := 2) sc_by_columns.nd rfl (.inl rfl))) (fun _ _ _ _ _ => pts_nil) (fun _ _ _ _ _ => (pe_tup (pa_cons (pe_callB (call_lenK K) (by rfl) T.z_len PySem.boot_len (pa_cons (pe_ix (ix_tupK K) (pv 2) pe_int (fun _ _ => rfl)) pa_nil)) (pa_cons (pv 2) pa_nil))))) pa_nil))) (blkOk_by (N := N_by_columns) (sc := defScope s_by_columns) (by decide +kernel)) (fun _ _ _ _ _ => (pg_tupK K (n := 2) rfl (pgs_cons (pg_name (i := 1) sc_by_columns.nd rfl (.inl rfl)) (pgs_cons (pg_name (i := 2) sc_by_columns.nd rfl (.inl rfl)) pgs_nil)))) (fun _ _ _ _ _ => pts_nil) (fun _ _ _ _ _ => (pv 2))))), ?_⟩
    refine ⟨_, rfl, l, rfl, ⟨_, hl⟩, fun D nD => lc_list (K := K) (xs := xs) (fun j H' => Got K H D ((bl.take j).map lpD) H') (.zero nD) (fun j H' _ g => g.same.seq hl) ?_ ?_⟩
    · intro j x H1 hxj g
      obtain ⟨d, hd, hxd⟩ := hx.get hxj
      obtain ⟨b, hb, rfl⟩ := map_at hd
      have hxd1 := hxd.ext (.of g.same)
      obtain ⟨a, v1, v2, rfl, hs, h1, h2⟩ := box_inv hxd1
      obtain ⟨pa, rfl, hp⟩ := ct_inv h1
      have e2 : bl.take (j + 1) = bl.take j ++ [b] := by rw [List.take_add_one, hb]; rfl
      refine ⟨rfl, ?_⟩
      dsimp only [tYes]
      rw [if_pos rfl]
      refine ⟨_, rfl, a, _, 0, _, rfl, rfl, hs, atI_nat (j := 0) rfl, pa, _, rfl, .inr hp, _, rfl, by show 2 ≤ sizeLine; decide, fun t nt => ?_⟩
      rw [List.length_map]
      have st : Same H1 (upd H1 t (.tup [.int (b.1.length : Nat), .ref a])) := same_new nt
      have z := g.put nD st (show Dh K _ (.ref t) (lpD b) from .tup (SqT.of upd_same) (.cons (.int _) (.cons (hxd1.ext (.of st)) .nil))) (by rw [List.length_map, List.length_take]; omega)
      rw [e2, List.map_append]
      exact z
    · intro H1 g
      obtain ⟨acc, hD, hacc⟩ := g.got
      rw [xl, List.take_length] at hacc
      dsimp only [tNil]
      refine sort_by (SqL.of hD) hacc fun p ys S np hys pm srt => ?_
      have sp : Same H1 (upd H1 p (.lst ys)) := same_new np
      have yl := hys.length
      rw [List.length_map] at yl
      have hy2 := hys.ext (.of sp)
      refine ⟨p, rfl, ⟨_, SqL.of upd_same⟩, fun D2 nD2 => lc_list (K := K) (xs := ys) (fun j H' => Got K (upd H1 p (.lst ys)) D2 ((S.take j).map bxD) H') (.zero nD2) (fun j H' _ g => g.same.seq (SqL.of upd_same)) ?_ ?_⟩
      · intro j x H2 hxj g2
        obtain ⟨d, hd, hxd⟩ := hy2.get hxj
        obtain ⟨b, hb, rfl⟩ := map_at hd
        obtain ⟨a, zs, rfl, hs, t⟩ := (hxd.ext (.of g2.same)).tup_inv
        obtain ⟨v1, v2, rfl, h1, h2⟩ := dh_two t
        have e2 : S.take (j + 1) = S.take j ++ [b] := by rw [List.take_add_one, hb]; rfl
        have sl : S.length = bl.length := pm.length_eq
        refine ⟨a, _, rfl, hs, rfl, _, _, rfl, _, _, rfl, rfl, ?_⟩
        dsimp only [tYes]
        refine ⟨rfl, ?_⟩
        rw [if_pos rfl]
        have z := g2.put nD2 (.refl _) h2 (by rw [List.length_map, List.length_take]; omega)
        rw [e2, List.map_append]
        exact ⟨_, rfl, z⟩
      · intro H2 g2
        obtain ⟨acc2, hD2, hacc2⟩ := g2.got
        rw [yl, List.take_length] at hacc2
        have s0 : Same H (upd H1 p (.lst ys)) := g.same.trans sp
        exact q D2 acc2 S H2 (s0.free nD2) (s0.trans g2.same) hD2 hacc2 pm srt
abbrev mvD (x : Int × Int) : Dt := .tup [.int x.1, frD (lowZ x.2 D18)]
abbrev mvsD (ms : Mvs) : Dt := .tup (ms.map mvD)
def withB (ss : List Int) (r : Box) (c : Int) : List Box := (List.range (ss.getD c.toNat 0).toNat).map fun w : Nat => lat r c w
def afterB (ss : List Int) (r : Box) (ms : Mvs) : List Box := ms.flatMap fun x => if x.1 = -1 then [] else withB ss r x.1
def spAft (K : PySem.W.Frag) : Sp := fun vs H Q _ => ∃ (sz b : Addr) (v : V) (ss : List Int) (r : Box) (ms : Mvs), vs = [.ref sz, .ref b, v] ∧ SqT K H sz (ss.map V.int) ∧ SizesOk ss ∧ BoxAt K H b r ∧ BoxOk ss r ∧ Dh K H v (mvsD ms) ∧ MvOk ss.length r.1 ms ∧ ms.length ≤ 100 ∧
  ∀ D xs H', H D = none → Same H H' → H' D = some (.lst xs) → DhAll K H' xs ((afterB ss r ms).map bxD) → Q (.ref D) H'
theorem after_len {ss : List Int} (ok : SizesOk ss) {r : Box} : ∀ {ms : Mvs}, (∀ x ∈ ms, -1 ≤ x.1 ∧ x.1 < ss.length) → (afterB ss r ms).length ≤ 4 * ms.length
  | [], _ => Nat.zero_le _
  | x :: ms, h => by
    have ih := after_len ok (r := r) (ms := ms) fun y hy => h y (List.mem_cons_of_mem _ hy)
    unfold afterB at ih ⊢
    rw [List.flatMap_cons, List.length_append, List.length_cons]
    by_cases e : x.1 = -1
    · rw [if_pos e]
      show 0 + _ ≤ _
      omega
    · rw [if_neg e]
      have hx := h x (List.mem_cons_self ..)
      have z := (sizes_at ok (c := x.1) (by omega) hx.2).2.2
      have hl : (withB ss r x.1).length ≤ 4 := by
        unfold withB
        rw [List.length_map, List.length_range]
        exact Int.toNat_le.mpr z
      omega
theorem ok_boxes_after (T : Txt K mg) : FnOk P w K mg base CX0 2 T.f_boxes_after T.d_boxes_after ["sizes", "stand", "moves"] (spAft K) := by
  refine T.F_boxes_after.ok sc_boxes_after (fun vs H Q E h => ?_) (fun cdv A outer s H vs Q E hr h => ?_)
  · obtain ⟨_, _, _, _, _, _, rfl, _⟩ := h
    rfl
  · obtain ⟨sz, b, v, ss, r, ms, rfl, hsz, ok, hb, bo, hv, mo, m5, q⟩ := h
    obtain ⟨a, xs, rfl, ha, hx⟩ := hv.tup_inv
    have xl := hx.length
    rw [List.length_map] at xl
    refine ⟨_, (pss_cons (ps_set (i := 3) sc_boxes_after.nd rfl (.inl rfl) (pe_lst pa_nil))
      (pss_cons (ps_for PassesOwn.never rfl (pi_tupK K (pv 2)) (pg_tupK K (n := 2) rfl (pgs_cons (pg_name (i := 4) sc_boxes_after.nd rfl (.inl rfl)) (pgs_cons (pg_name (i := 5) sc_boxes_after.nd rfl (.inl rfl)) pgs_nil))) (pss_one (ps_if (pt_cmpR op_ne (pv 4) (pe_glob (by rfl) T.k_STOP.1 T.k_STOP.2) (nomark _)) (pss_one (ps_expr (pe_bm PySem.F.plainAttrs_list PySem.F.slot_list_extend PySem.F.type_list_extend mt_extend (pv 3) (pa_cons (pe_call (ok_boxes_with T) hr (by rfl) T.g_boxes_with T.F_boxes_with.kp T.b_boxes_with .nil pass0 (pa_cons (pv 0) (pa_cons (pv 1) (pa_cons (pv 4) pa_nil)))) pa_nil)))) pss_nil)))
      (pss_one (ps_ret (pv 3))))), ?_⟩
    refine ⟨Nat.zero_le _, fun D nD => ?_⟩
    have s0 : Same H (upd H D (.lst [])) := same_new nD
    refine ⟨_, rfl, a, rfl, ⟨_, (Ext.of s0).sqT ha⟩, for_tup (K := K) (xs := xs) (fun j σ H' => ∃ y4 y5 : Option V, σ = [some (.ref sz), some (.ref b), some (.ref a), some (.ref D), y4, y5] ∧ Got K H D ((afterB ss r (ms.take j)).map bxD) H')
      ⟨none, none, rfl, .zero nD⟩ (fun j σ H' _ ⟨_, _, _, g⟩ => (Ext.of g.same).sqT ha) ?_ ?_⟩
    · rintro j x σ H1 hxj ⟨y4, y5, rfl, g⟩
      obtain ⟨d, hd, hxd⟩ := hx.get hxj
      obtain ⟨m, hm, rfl⟩ := map_at hd
      have mm := List.mem_of_getElem? hm
      obtain ⟨m1, m2, m3⟩ := mo.col m mm
      obtain ⟨t, zs, rfl, ht, tl⟩ := (hxd.ext (.of g.same)).tup_inv
      obtain ⟨v1, v2, rfl, h1, h2⟩ := dh_two tl
      cases h1
      have e2 : ms.take (j + 1) = ms.take j ++ [m] := by rw [List.take_add_one, hm]; rfl
      have e3 : afterB ss r (ms.take (j + 1)) = afterB ss r (ms.take j) ++ (if m.1 = -1 then [] else withB ss r m.1) := by
        rw [e2]
        unfold afterB
        rw [List.flatMap_append, List.flatMap_cons, List.flatMap_nil, List.append_nil]
      refine ⟨t, _, rfl, ht, rfl, _, _, rfl, _, _, rfl, rfl, ?_⟩
      refine ⟨_, rfl, rfl, _, rfl, ?_⟩
      by_cases hc : m.1 = -1
      · rw [decide_eq_true (show V.int m.1 = V.int (-1) by rw [hc])]
        refine iteF ?_
        rw [if_pos hc, List.append_nil] at e3
        rw [← e3] at g
        exact ⟨_, _, rfl, g⟩
      · rw [decide_eq_false (show ¬ V.int m.1 = V.int (-1) from fun z => hc (V.int.inj z))]
        refine iteT ?_
        rw [if_neg hc] at e3
        obtain ⟨acc, hD, hacc⟩ := g.got
        have al := hacc.length
        rw [List.length_map] at al
        have hl1 := after_len ok (r := r) (ms := ms.take j) fun y hy => ⟨(mo.col y (List.mem_of_mem_take hy)).1, (mo.col y (List.mem_of_mem_take hy)).2.1⟩
        rw [List.length_take] at hl1
        have z4 := (sizes_at ok (c := m.1) (by omega) m2).2.2
        have hl2 : (withB ss r m.1).length ≤ 4 := by
          unfold withB
          rw [List.length_map, List.length_range]
          exact Int.toNat_le.mpr z4
        refine ⟨_, rfl, .inl ⟨rfl, _, SqL.of hD⟩, _, rfl, _, rfl, _, rfl, sz, b, m.1, ss, r, rfl, (Ext.of g.same).sqT hsz, ok, hb.ext (.of g.same), bo, by omega, m2, fun F zs H2 nF s2 hF hzs => ?_⟩
        have zl := hzs.length
        rw [List.length_map] at zl
        have zl' : zs.length = (withB ss r m.1).length := zl
        refine ⟨D, F, acc, zs, rfl, rfl, s2 _ _ hD, hF, Nat.le_of_lt (sz_small (by omega)), _, _, rfl, Same.put nD (g.same.trans s2), acc ++ zs, upd_same, ?_⟩
        rw [e3, List.map_append]
        exact ((hacc.ext (.of s2)).append hzs).ext (Ext.put (s2 _ _ hD))
    · rintro σ H1 ⟨y4, y5, rfl, g⟩
      rw [xl, List.take_length] at g
      obtain ⟨acc, hD, hacc⟩ := g.got
      exact ⟨_, rfl, q D acc H1 nD g.same hD hacc⟩

end
end Fm
namespace Fm
open PySem PySem.Spec PyProof.Rows L2
section
variable {P : Program} {w : World} {K : PySem.W.Frag} {mg : Str → Option Value} {base : Heap}

theorem eqv_fr (p q : Int × Int) : PyData.eqv (ctP [p.1, p.2]) (ctP [q.1, q.2]) = decide (p = q) := by
  rw [eqv_ct, Bool.eq_iff_iff]
  obtain ⟨a, b⟩ := p
  obtain ⟨c, d⟩ := q
  simp
theorem any_in (ps : List Int) (c : Int) : ((ps.map PyData.int).any fun z => PyData.eqv z (.int c)) = decide (c ∈ ps) := by
  rw [Bool.eq_iff_iff, List.any_eq_true, decide_eq_true_eq]
  constructor
  · rintro ⟨z, hz, e⟩
    obtain ⟨x, hx, rfl⟩ := List.mem_map.mp hz
    have e' : (x == c) = true := e
    rw [← beq_iff_eq.mp e']
    exact hx
  · intro h
    exact ⟨.int c, List.mem_map.mpr ⟨c, h, rfl⟩, beq_self_eq_true c⟩
theorem mv_share {x : Int} (h1 : 1 ≤ x) (h2 : x ≤ D18) : (frD (lowZ x D18)).isSh0 = true ∧ lowZ x D18 ≠ (0, 1) ∧ Fr 1 2520 (lowZ x D18) := by
  have d0 : (0 : Int) < D18 := by decide
  have fr := low_fr (n := 1) (B := 2520) (t := x) d0 (by decide) (by omega) (by omega)
  have g := low_gcd (t := x) d0 (by omega)
  have p1 := fr.pos
  have p2 := fr.top0
  have p3 := fr.top
  refine ⟨?_, fun e => ?_, fr⟩
  · have e : (frD (lowZ x D18)).isSh0 = ((decide ((lowZ x D18).2 ≥ 1) && decide (gz (lowZ x D18).1 (lowZ x D18).2 = 1)) && (decide (0 ≤ (lowZ x D18).1) && decide ((lowZ x D18).1 ≤ (lowZ x D18).2))) := rfl
    rw [e, decide_eq_true g, decide_eq_true (show (lowZ x D18).2 ≥ 1 by omega), decide_eq_true p2, decide_eq_true (show (lowZ x D18).1 ≤ (lowZ x D18).2 by omega)]
    rfl
  · have z := (low_parts (t := x) d0).1
    rw [e] at z
    omega
theorem MvOk.len {n : Int} {p : List Int} {ms : Mvs} (h : MvOk n p ms) (n5 : n ≤ 5) (n0 : 0 ≤ n) : ms.length ≤ 6 := by
  have a : Asc n (-2) (ms.map (·.1)) := up_asc h.up fun c hc => by
    obtain ⟨x, hx, rfl⟩ := List.mem_map.mp hc
    have := h.col x hx
    omega
  have := a.lenA (by omega)
  rw [List.length_map] at this
  omega
def spIsMv (K : PySem.W.Frag) : Sp := fun vs H Q _ => ∃ (n : Int) (p : Addr) (v : V) (ps : List Int) (ms : Mvs), vs = [.int n, .ref p, v] ∧ 0 ≤ n ∧ n ≤ 5 ∧ SqT K H p (ps.map V.int) ∧ Dh K H v (mvsD ms) ∧ MvOk n ps ms ∧ ∀ H', Same H H' → Q (.bl true) H'
theorem ok_is_moves (T : Txt K mg) : FnOk P w K mg base CX0 4 T.f_is_moves T.d_is_moves ["columns", "pattern", "thing"] (spIsMv K) := by
  refine T.F_is_moves.ok sc_is_moves (fun vs H Q E h => ?_) (fun cdv A outer s H vs Q E hr h => ?_)
  · obtain ⟨_, _, _, _, _, rfl, _⟩ := h
    rfl
  · obtain ⟨n, p, v, ps, ms, rfl, n0, n5, hp, hv, mo, q⟩ := h
    obtain ⟨t, ty, ki, kt, kb⟩ := hv.kinds
    obtain ⟨a, xs, rfl, ha, hx⟩ := hv.tup_inv
    have xl := hx.length
    rw [List.length_map] at xl
    have m6 := mo.len n5 n0
    refine ⟨_, (pss_cons (ps_if (pt_not (pt_val (pe_callB (call_isiK' K) (by rfl) T.z_isinstance (by decide +kernel) (pa_cons (pv 2) (pa_cons (pe_bltn (v := .ty "tuple") (by rfl) T.z_tuple (by decide +kernel) rfl) pa_nil))))) (pss_one (ps_ret pe_bl)) pss_nil)
      (pss_cons (ps_set (i := 3) sc_is_moves.nd rfl (.inl rfl) pe_non)
      (pss_cons (ps_set (i := 4) sc_is_moves.nd rfl (.inl rfl) (pe_lst pa_nil))
      (pss_cons (ps_for PassesOwn.never rfl (pi_tupK K (pv 2)) (pg_name (i := 5) sc_is_moves.nd rfl (.inl rfl)) (pss_cons (ps_if (pt_not (pt_val (pe_call (ok_is_pair T) (hr.mono (by decide)) (by rfl) T.g_is_pair T.F_is_pair.kp T.b_is_pair .nil pass0 (pa_cons (pv 5) pa_nil)))) (pss_one (ps_ret pe_bl)) pss_nil)
      (pss_cons (ps_asg (pv 5) (pg_tupK K (n := 2) rfl (pgs_cons (pg_name (i := 6) sc_is_moves.nd rfl (.inl rfl)) (pgs_cons (pg_name (i := 7) sc_is_moves.nd rfl (.inl rfl)) pgs_nil))))
      (pss_cons (ps_if (PW.pt (pw_or (pt_not (pt_val (pe_call (ok_is_whole T) (hr.mono (by decide)) (by rfl) T.g_is_whole T.F_is_whole.kp T.b_is_whole .nil pass0 (pa_cons (pv 6) pa_nil)))) (pw_or (pt_not (pt_chain op_le op_lt (pe_glob (by rfl) T.k_STOP.1 T.k_STOP.2) (pv 6) (pv 0))) (pw_or1 (pt_cmpR (op_inT (K := K) (room65 hr)) (pv 6) (pv 1) (by rfl)))))) (pss_one (ps_ret pe_bl)) pss_nil)
      (pss_cons (ps_if (PW.pt (pw_or (pt_not (pt_val (pe_call (ok_is_share T) hr (by rfl) T.g_is_share T.F_is_share.kp T.b_is_share .nil pass0 (pa_cons (pv 7) pa_nil)))) (pw_or (pt_cmpR (op_eqK K hr.units) (pv 7) (pe_glob (by rfl) T.g_ZERO (show L2.RelV (.ref T.v_ZERO) _ from rfl)) (nomark _)) (pw_or1 (PW.pt (pw_and (pt_cmpR op_notN (pv 3) pe_non (nomark _)) (pw_and1 (pt_cmpR op_le (pv 6) (pv 3) (nomark _))))))))) (pss_one (ps_ret pe_bl)) pss_nil)
      (pss_cons (ps_set (i := 3) sc_is_moves.nd rfl (.inl rfl) (pv 6))
      (pss_one (ps_expr (pe_bm PySem.F.plainAttrs_list PySem.F.slot_list_append PySem.F.type_list_append mt_append (pv 4) (pa_cons (pv 7) pa_nil))))))))))
      (pss_one (ps_ret (pe_cmpR (op_eqK K hr.units) (pe_call (ok_total T) (hr.mono (by decide)) (by rfl) T.g_total T.F_total.kp T.b_total .nil pass0 (pa_cons (pv 4) pa_nil)) (pe_glob (by rfl) T.g_ONE (show L2.RelV (.ref T.v_ONE) _ from rfl)) (nomark _)))))))), ?_⟩
    refine ⟨_, rfl, _, _, _, _, _, rfl, .ty _, ty, kt, _, rfl, iteF ?_⟩
    refine ⟨Nat.zero_le _, fun D nD => ?_⟩
    have s0 : Same H (upd H D (.lst [])) := same_new nD
    refine ⟨_, rfl, a, rfl, ⟨_, (Ext.of s0).sqT ha⟩, for_tup (K := K) (xs := xs) (fun j σ H' => ∃ (y3 : V) (y5 y6 y7 : Option V), σ = [some (.int n), some (.ref p), some (.ref a), some y3, some (.ref D), y5, y6, y7] ∧ Got K H D ((ms.take j).map fun x => frD (lowZ x.2 D18)) H' ∧ ((y3 = .non ∧ j = 0) ∨ ∃ x, ms[j - 1]? = some x ∧ 1 ≤ j ∧ y3 = .int x.1))
      ⟨.non, none, none, none, rfl, .zero nD, .inl ⟨rfl, rfl⟩⟩ (fun j σ H' _ ⟨_, _, _, _, _, g, _⟩ => (Ext.of g.same).sqT ha) ?_ ?_⟩
    · rintro j x σ H1 hxj ⟨y3, y5, y6, y7, rfl, g, hlast⟩
      obtain ⟨d, hd, hxd⟩ := hx.get hxj
      obtain ⟨m, hm, rfl⟩ := map_at hd
      have mm := List.mem_of_getElem? hm
      obtain ⟨m1, m2, m3⟩ := mo.col m mm
      obtain ⟨r1, r2⟩ := mo.part m mm
      obtain ⟨sh, nz, _⟩ := mv_share r1 r2
      have e2 : ms.take (j + 1) = ms.take j ++ [m] := by rw [List.take_add_one, hm]; rfl
      refine ⟨_, rfl, spD_bl (.cons (hxd.ext (.of g.same)) .nil) rfl fun H2 s2 => ⟨_, rfl, iteF ?_⟩⟩
      have s02 := g.same.trans s2
      obtain ⟨b, ys, rfl, hb, hy⟩ := (hxd.ext (.of s02)).tup_inv
      obtain ⟨w1, w2, rfl, h1, h2⟩ := dh_two hy
      cases h1
      refine ⟨_, rfl, b, _, rfl, hb, rfl, _, _, rfl, w2, _, rfl, rfl, ?_⟩
      refine ⟨_, rfl, spD_bl (.cons (.int _) .nil) rfl fun H3 s3 => ⟨_, rfl, iteF ?_⟩⟩
      have s03 := s02.trans s3
      refine ⟨_, rfl, _, _, rfl, rfl, _, rfl, ?_⟩
      rw [decide_eq_true (show (-1 : Int) ≤ m.1 from m1)]
      refine iteT ?_
      refine ⟨_, rfl, _, _, rfl, rfl, _, rfl, ?_⟩
      rw [decide_eq_true (show m.1 < n from m2)]
      refine iteF ?_
      refine ⟨_, rfl, _, rfl, .int m.1, ps.map PyData.int, .int _, .tup ((Ext.of s03).sqT hp) (dp_ints ps), rfl, shaped_ct ps, _, rfl, ?_⟩
      rw [any_in, decide_eq_false m3]
      refine iteF ?_
      refine ⟨_, rfl, spD_bl (b := true) (.cons (h2.ext (.of s3)) .nil) (congrArg (fun b => some (Dt.bl b)) sh) fun H4 s4 => ⟨_, rfl, ?_⟩⟩
      have s34 := s3.trans s4
      have s04 := s03.trans s4
      refine iteF ?_
      have h4 := h2.ext (.of s34)
      refine ⟨_, rfl, ctP [(lowZ m.2 D18).1, (lowZ m.2 D18).2], ctP [0, 1], dp_ct h4, .tup (T.k_ZERO H4) (dp_ints [0, 1]), shaped_ct _, shaped_ct _, _, rfl, ?_⟩
      rw [eqv_fr (lowZ m.2 D18) (0, 1), decide_eq_false nz]
      refine iteF ?_
      have last_lt : ∀ x, ms[j - 1]? = some x → 1 ≤ j → x.1 < m.1 := fun x hx hj => by
        have e1 : (ms.map (·.1))[j - 1]? = some x.1 := by rw [List.getElem?_map, hx]; rfl
        have e2 : (ms.map (·.1))[j]? = some m.1 := by rw [List.getElem?_map, hm]; rfl
        obtain ⟨l1, f1⟩ := List.getElem?_eq_some_iff.mp e1
        obtain ⟨l2, f2⟩ := List.getElem?_eq_some_iff.mp e2
        have z := List.pairwise_iff_getElem.mp mo.up (j - 1) j l1 l2 (by omega)
        rw [f1, f2] at z
        exact z
      obtain ⟨acc, hD, hacc⟩ := g.got
      have al := hacc.length
      rw [List.length_map, List.length_take] at al
      have s14 := s2.trans s34
      have z := g.put nD s14 (show Dh K H4 w2 (frD (lowZ m.2 D18)) from h4) (by rw [List.length_map, List.length_take]; omega)
      obtain ⟨acc', hD', hl', g'⟩ := z
      have ap : Got K H D ((ms.take (j + 1)).map fun x => frD (lowZ x.2 D18)) (upd H4 D (.lst (acc' ++ [w2]))) := by
        rw [e2, List.map_append]
        exact g'
      rcases hlast with ⟨rfl, rfl⟩ | ⟨x, hx, hj, rfl⟩
      · refine ⟨_, rfl, rfl, _, rfl, ?_⟩
        rw [decide_eq_true (show V.non = V.non from rfl)]
        refine iteF (iteF ?_)
        refine ⟨_, rfl, ?_⟩
        refine ⟨_, rfl, .inl ⟨rfl, _, SqL.of hD'⟩, _, rfl, D, acc', _, rfl, rfl, hD', hl', ?_⟩
        exact ⟨_, _, _, _, rfl, ap, .inr ⟨m, hm, by omega, rfl⟩⟩
      · refine ⟨_, rfl, rfl, _, rfl, ?_⟩
        rw [decide_eq_false (show ¬ V.int x.1 = V.non from fun z => nomatch z)]
        refine iteT ?_
        refine ⟨_, rfl, _, rfl, _, _, rfl, rfl, _, rfl, ?_⟩
        have lt := last_lt x hx hj
        rw [decide_eq_false (show ¬ m.1 ≤ x.1 by omega)]
        refine iteF ?_
        refine ⟨_, rfl, ?_⟩
        refine ⟨_, rfl, .inl ⟨rfl, _, SqL.of hD'⟩, _, rfl, D, acc', _, rfl, rfl, hD', hl', ?_⟩
        exact ⟨_, _, _, _, rfl, ap, .inr ⟨m, hm, by omega, rfl⟩⟩
    · rintro σ H1 ⟨y3, y5, y6, y7, rfl, g, hlast⟩
      rw [xl, List.take_length] at g
      obtain ⟨acc, hD, hacc⟩ := g.got
      have e0 : (ms.map fun x => frD (lowZ x.2 D18)) = (ms.map (·.2)).map fun t => frD (lowZ t D18) := by rw [List.map_map]; rfl
      rw [e0] at hacc
      have al := hacc.length
      rw [List.length_map, List.length_map] at al
      refine ⟨_, rfl, D, acc, ms.map (·.2), D18, rfl, SqL.of hD, hacc, fun t ht => ?_, by decide, by decide, by omega, fun v H2 s2 hv2 => ?_⟩
      · obtain ⟨x, hx, rfl⟩ := List.mem_map.mp ht
        have := mo.part x hx
        omega
      · rw [mo.all, low_one (by decide)] at hv2
        refine ⟨ctP [1, 1], ctP [1, 1], dp_ct hv2, .tup (T.k_ONE H2) (dp_ints [1, 1]), shaped_ct _, shaped_ct _, ?_⟩
        rw [eqv_fr (1, 1) (1, 1), decide_eq_true rfl]
        exact q H2 (g.same.trans s2)

end
end Fm
namespace Fm
open PySem PySem.Spec PyProof.Rows L2
section
variable {P : Program} {w : World} {K : PySem.W.Frag} {mg : Str → Option Value} {base : Heap}

/-! ### data without things of other kinds: they stand wherever their tuples stand -/
mutual
def Dt.plain : Dt → Bool
  | .tup ds => plainAll ds
  | .oth _ => false
  | _ => true
def plainAll : List Dt → Bool
  | [] => true
  | d :: ds => d.plain && plainAll ds
end
mutual
theorem Dh.mv {H H' : Hp} (mv : ∀ {a : Addr} {xs : List V}, SqT K H a xs → SqT K H' a xs) : ∀ {v : V} {d : Dt}, Dh K H v d → d.plain = true → Dh K H' v d
  | _, _, .non, _ => .non
  | _, _, .bl b, _ => .bl b
  | _, _, .int i, _ => .int i
  | _, _, .str x, _ => .str x
  | _, _, .tup s h, p => .tup (mv s) (DhAll.mv mv h p)
  | _, _, .oth _ _ _, p => absurd (show false = true from p) (by decide)
theorem DhAll.mv {H H' : Hp} (mv : ∀ {a : Addr} {xs : List V}, SqT K H a xs → SqT K H' a xs) : ∀ {vs : List V} {ds : List Dt}, DhAll K H vs ds → plainAll ds = true → DhAll K H' vs ds
  | _, _, .nil, _ => .nil
  | _, _, .cons (d := d) (ds := ds) h t, p => by
    have p' : (d.plain && plainAll ds) = true := p
    rw [Bool.and_eq_true] at p'
    exact .cons (Dh.mv mv h p'.1) (DhAll.mv mv t p'.2)
end
theorem plain_all : ∀ {ds : List Dt}, (∀ d ∈ ds, d.plain = true) → plainAll ds = true
  | [], _ => rfl
  | d :: ds, h => by
    show (d.plain && plainAll ds) = true
    rw [h d (List.mem_cons_self ..), plain_all fun x hx => h x (List.mem_cons_of_mem _ hx)]
    rfl
theorem plain_ct (c : List Int) : (ctD c).plain = true := plain_all fun d hd => by
  obtain ⟨i, _, rfl⟩ := List.mem_map.mp hd
  rfl

theorem none_back {H H' : Hp} {b : Addr} (s : Same H H') (h : H' b = none) : H b = none := by
  cases e : H b with
  | none => rfl
  | some o =>
    have := s _ _ e
    rw [h] at this
    cases this
theorem sqT_but {H H' : Hp} {a d : Addr} {xs : List V} {φ : Heap → Prop} (hd : H d = some (.ext φ)) (sb : ∀ b o, b ≠ d → H b = some o → H' b = some o) (h : SqT K H a xs) : SqT K H' a xs := by
  rcases h with (h | ⟨u, h⟩) | h
  · exact .inl (.inl (sb _ _ (ne_of h hd fun e => by cases e) h))
  · exact .inl (.inr ⟨u, sb _ _ (ne_of h hd fun e => by cases e) h⟩)
  · exact .inr h
theorem lc_keysB {d : Addr} {o : Obj} {L : BoxL} {g : TG} {tt : TT} {te : TE} {vs : List Nat} {σ : L2.St} {H1 : Hp} {D : Addr} {Qd : Hp → Prop} (Pv : Nat → Hp → Prop) (h0 : Pv 0 (upd H1 D (.lst []))) (hl : ∀ i H, Pv i H → H d = some (.frz o (DBO P w d L)))
    (hs : ∀ i p H, L[i]? = some p → Pv i H → g (.ref p.1) (wipe σ vs) H fun σ2 H2 => wipe σ2 vs = wipe σ vs ∧ tt σ2 H2 fun b H3 =>
      if b = true then te σ2 H3 fun y H4 => ∃ acc, H4 D = some (.lst acc) ∧ acc.length < sizeLine ∧ Pv (i + 1) (upd H4 D (.lst (acc ++ [y]))) else Pv (i + 1) H3) (hd : ∀ H, Pv L.length H → Qd H) :
    ∃ W : Nat → Nat → Hp → Prop, (∃ m, W 0 m (upd H1 D (.lst []))) ∧ ∀ i m H, W i m H →
      ((ItkB P w d o L).stop i H ∧ Qd H) ∨ ((ItkB P w d o L).go i H ∧ ∃ Nx : Hp → Prop, (∀ H', Nx H' → ∃ m', m' < m ∧ W (i + 1) m' H') ∧ ∀ x H', (ItkB P w d o L).yld i H x H' → g x (wipe σ vs) H' fun σ2 H2 => wipe σ2 vs = wipe σ vs ∧ tt σ2 H2 fun b H3 =>
        if b = true then te σ2 H3 fun y H4 => ∃ acc, H4 D = some (.lst acc) ∧ acc.length < sizeLine ∧ Nx (upd H4 D (.lst (acc ++ [y]))) else Nx H3) := by
  refine ⟨fun i m H => m = L.length - i ∧ i ≤ L.length ∧ Pv i H, ⟨L.length, by simp, Nat.zero_le _, h0⟩, ?_⟩
  rintro i m H ⟨rfl, hi, p⟩
  have q := hl i H p
  by_cases hlt : i < L.length
  · refine .inr ⟨⟨q, hlt⟩, Pv (i + 1), fun H' p' => ⟨L.length - (i + 1), by omega, rfl, hlt, p'⟩, fun x H' y => ?_⟩
    obtain ⟨e, p0, hp, rfl⟩ := y
    subst e
    exact hs i p0 _ hp p
  · have e : i = L.length := by omega
    subst e
    exact .inl ⟨⟨q, Nat.le_refl _⟩, hd H p⟩
theorem for_keysB {d : Addr} {o : Obj} {L : BoxL} {g : TG} {tb : TS} {D : Ends} {σ : L2.St} {H : Hp} (Pv : Nat → L2.St → Hp → Prop) (h0 : Pv 0 σ H) (hl : ∀ i σ H, Pv i σ H → H d = some (.frz o (DBO P w d L)))
    (hs : ∀ (i : Nat) (p : Addr × Box × V) (σ : L2.St) (H : Hp), L[i]? = some p → Pv i σ H → g (.ref p.1) σ H fun σ2 H2 => tb { D with nx := Pv (i + 1), ct := Pv (i + 1), bk := D.nx } σ2 H2)
    (hd : ∀ σ H, Pv L.length σ H → D.nx σ H) :
    ∃ W : Nat → Nat → L2.St → Hp → Prop, (∃ m, W 0 m σ H) ∧ ∀ i m σ H, W i m σ H →
      ((ItkB P w d o L).stop i H ∧ D.nx σ H) ∨ ((ItkB P w d o L).go i H ∧ ∃ N : L2.St → Hp → Prop, (∀ σ' H', N σ' H' → ∃ m', m' < m ∧ W (i + 1) m' σ' H') ∧ ∀ v H', (ItkB P w d o L).yld i H v H' → g v σ H' fun σ2 H2 => tb { D with nx := N, ct := N, bk := D.nx } σ2 H2) := by
  refine ⟨fun i m σ H => i + m = L.length ∧ Pv i σ H, ⟨_, Nat.zero_add _, h0⟩, ?_⟩
  rintro i m σ H ⟨em, p⟩
  cases m with
  | zero =>
    have ei : i = L.length := em
    refine .inl ⟨⟨hl i σ H p, Nat.le_of_eq ei.symm⟩, hd σ H ?_⟩
    rw [← ei]
    exact p
  | succ m =>
    refine .inr ⟨⟨hl i σ H p, by omega⟩, Pv (i + 1), fun σ' H' p' => ⟨m, Nat.lt_succ_self m, by omega, p'⟩, fun v H' y => ?_⟩
    obtain ⟨rfl, a, ha, rfl⟩ := y
    exact hs i a σ _ ha p
theorem dc_keysB {d D : Addr} {o : Obj} {L0 : BoxL} {g : TG} {tk tv : TE} {vs : List Nat} {σ : L2.St} {H1 : Hp} {Qd : Hp → Prop} (Pv : Nat → Hp → Prop) (h0 : Pv 0 (upd H1 D (DBO P w D []))) (hl : ∀ i H, Pv i H → H d = some (.frz o (DBO P w d L0)))
    (hs : ∀ i p H, L0[i]? = some p → Pv i H → g (.ref p.1) (wipe σ vs) H fun σ2 H2 => wipe σ2 vs = wipe σ vs ∧ tk σ2 H2 fun y H3 => tv σ2 H3 fun z H4 => ∃ (b : Addr) (q : Box) (L : BoxL), y = .ref b ∧ BoxAt K H4 b q ∧ H4 D = some (DBO P w D L) ∧ BoxesAt K H4 L ∧ (∀ p ∈ L, p.2.1 ≠ q) ∧ L.length ≤ 1000 ∧
      Pv (i + 1) (upd H4 D (DBO P w D (L ++ [(b, q, z)]))))
    (hd : ∀ H, Pv L0.length H → Qd H) :
    ∃ W : Nat → Nat → Hp → Prop, (∃ m, W 0 m (upd H1 D (DBO P w D []))) ∧ ∀ i m H, W i m H →
      ((ItkB P w d o L0).stop i H ∧ Qd H) ∨ ((ItkB P w d o L0).go i H ∧ ∃ Nx : Hp → Prop, (∀ H', Nx H' → ∃ m', m' < m ∧ W (i + 1) m' H') ∧ ∀ x H', (ItkB P w d o L0).yld i H x H' → g x (wipe σ vs) H' fun σ2 H2 => wipe σ2 vs = wipe σ vs ∧ tk σ2 H2 fun y H3 => tv σ2 H3 fun z H4 =>
        ∃ (b : Addr) (q : Box) (L : BoxL), y = .ref b ∧ BoxAt K H4 b q ∧ H4 D = some (DBO P w D L) ∧ BoxesAt K H4 L ∧ (∀ p ∈ L, p.2.1 ≠ q) ∧ L.length ≤ 1000 ∧ Nx (upd H4 D (DBO P w D (L ++ [(b, q, z)])))) := by
  refine ⟨fun i m H => i + m = L0.length ∧ Pv i H, ⟨_, Nat.zero_add _, h0⟩, ?_⟩
  rintro i m H ⟨em, p⟩
  cases m with
  | zero =>
    have ei : i = L0.length := em
    refine .inl ⟨⟨hl i H p, Nat.le_of_eq ei.symm⟩, hd H ?_⟩
    rw [← ei]
    exact p
  | succ m =>
    refine .inr ⟨⟨hl i H p, by omega⟩, Pv (i + 1), fun H' p' => ⟨m, Nat.lt_succ_self m, by omega, p'⟩, fun x H' y => ?_⟩
    obtain ⟨rfl, a, ha, rfl⟩ := y
    exact hs i a _ ha p
/-- the moves, with where they stand -/
structure MvAt (K : PySem.W.Frag) (H : Hp) (L : BoxL) (M : MovT) : Prop where
  keys : L.map (·.2.1) = M.map (·.1)
  box : BoxesAt K H L
  val : ∀ e ∈ L, Dh K H e.2.2 (mvsD (mvOf M e.2.1))
theorem plain_mvs (ms : Mvs) : (mvsD ms).plain = true := plain_all fun d hd => by
  obtain ⟨x, _, rfl⟩ := List.mem_map.mp hd
  rfl
theorem BoxAt.mvs {H H' : Hp} (mv : ∀ {a : Addr} {xs : List V}, SqT K H a xs → SqT K H' a xs) {b : Addr} {q : Box} : BoxAt K H b q → BoxAt K H' b q := fun ⟨pa, wa, h1, h2, h3⟩ => ⟨pa, wa, mv h1, mv h2, mv h3⟩
theorem MvAt.mv {H H' : Hp} {L : BoxL} {M : MovT} (mv : ∀ {a : Addr} {xs : List V}, SqT K H a xs → SqT K H' a xs) (h : MvAt K H L M) : MvAt K H' L M := ⟨h.keys, fun e he => (h.box e he).mvs mv, fun e he => (h.val e he).mv mv (plain_mvs _)⟩
theorem MvAt.ext {H H' : Hp} {L : BoxL} {M : MovT} (e : Ext H H') (h : MvAt K H L M) : MvAt K H' L M := h.mv e.sqT
theorem lock_in {H : Hp} {d : Addr} {φ : Heap → Prop} {o : HO} (hd : H d = some (.ext φ)) {a : Addr} {xs : List V} (h : SqT K H a xs) : SqT K (upd H d o) a xs := sqT_but hd (fun b u nb e => by rw [upd_ne nb]; exact e) h
theorem lock_back {H H' : Hp} {d : Addr} {u o : HO} (hd : H d = some u) (s : Same (upd H d o) H') : Same H (upd H' d u) := fun b x e => by
  by_cases z : b = d
  · subst z
    rw [upd_same, ← e, hd]
  · rw [upd_ne z]
    exact s b x (by rw [upd_ne z]; exact e)
theorem findB_in {L : BoxL} {q : Box} (h : q ∈ L.map (·.2.1)) : ∃ e ∈ L, e.2.1 = q ∧ findB L q = some e.2.2 := by
  unfold findB
  cases z : L.find? fun p => decide (p.2.1 = q) with
  | none =>
    obtain ⟨e, he, e2⟩ := List.mem_map.mp h
    have := List.find?_eq_none.mp z e he
    simp [e2] at this
  | some e => exact ⟨e, List.mem_of_find?_eq_some z, by simpa using List.find?_some z, rfl⟩
theorem findB_out {L : BoxL} {q : Box} (h : q ∉ L.map (·.2.1)) : findB L q = none := by
  unfold findB
  cases z : L.find? fun p => decide (p.2.1 = q) with
  | none => rfl
  | some e => exact (h (List.mem_map.mpr ⟨e, List.mem_of_find?_eq_some z, by simpa using List.find?_some z⟩)).elim
theorem MvAt.look {H : Hp} {L : BoxL} {M : MovT} (h : MvAt K H L M) {q : Box} (hq : q ∈ M.map (·.1)) : ∃ v, findB L q = some v ∧ Dh K H v (mvsD (mvOf M q)) := by
  rw [← h.keys] at hq
  obtain ⟨e, he, e1, e2⟩ := findB_in hq
  exact ⟨_, e2, e1 ▸ h.val e he⟩
theorem MvAt.isS {H : Hp} {L : BoxL} {M : MovT} (h : MvAt K H L M) (q : Box) : (findB L q).isSome = decide (q ∈ M.map (·.1)) := by
  by_cases hq : q ∈ M.map (·.1)
  · obtain ⟨v, e, _⟩ := h.look hq
    rw [e, decide_eq_true hq]
    rfl
  · rw [findB_out (by rw [h.keys]; exact hq), decide_eq_false hq]
    rfl

end
end Fm
namespace Fm
open PySem PySem.Spec PyProof.Rows L2
section
variable {P : Program} {w : World} {K : PySem.W.Frag} {mg : Str → Option Value} {base : Heap}

def spStd (K : PySem.W.Frag) (P : Program) (w : World) : Sp := fun vs H Q _ => ∃ (sz mv : Addr) (ss : List Int) (L : BoxL) (M : MovT), vs = [.ref sz, .ref mv] ∧ SqT K H sz (ss.map V.int) ∧ SizesOk ss ∧ H mv = some (DBO P w mv L) ∧ MvAt K H L M ∧ (∀ m ∈ M, BoxOk ss m.1) ∧ START ∈ M.map (·.1) ∧ M.length ≤ 1000 ∧
  ∀ H', Same H H' → Q (.bl true) H'
theorem ok_is_stands (T : Txt K mg) : FnOk P w K mg base CX0 4 T.f_is_stands T.d_is_stands ["sizes", "thing"] (spStd K P w) := by
  refine T.F_is_stands.ok sc_is_stands (fun vs H Q E h => ?_) (fun cdv A outer s H vs Q E hr h => ?_)
  · obtain ⟨_, _, _, _, _, rfl, _⟩ := h
    rfl
  · obtain ⟨sz, mv, ss, L, M, rfl, hsz, ok, hm, ma, mb, st, few, q⟩ := h
    obtain ⟨_, s5, _⟩ := ok.facts
    have ll : L.length = M.length := by
      have := congrArg List.length ma.keys
      rwa [List.length_map, List.length_map] at this
    refine ⟨_, (pss_one (ps_ret (pe_and (pe_callB (call_isiB (P := P) (w := w)) (by rfl) T.z_isinstance (by decide +kernel) (pa_cons (pv 1) (pa_cons (pe_bltn (v := .ty "dict") (by rfl) T.z_dict (by decide +kernel) rfl) pa_nil))) (pe_and (pe_callB (call_allK (K := K) rfl) (by rfl) T.z_all (by decide +kernel) (pa_cons (pe_lock (pe_lc (own := [("stand", 2)]) rfl sc_is_stands.nd (pi_keysB (P := P) (w := w) (pv 1)) (blkOk_by (N := N_is_stands) (sc := defScope s_is_stands) (by decide +kernel)) (fun _ _ _ _ _ => (pg_name (i := 2) sc_is_stands.nd rfl (.inl rfl))) (fun _ _ _ _ _ => pts_nil) (fun _ _ _ _ _ => (pe_call (ok_is_box_of T) hr (by rfl) T.g_is_box_of T.F_is_box_of.kp T.b_is_box_of .nil pass0 (pa_cons (pv 0) (pa_cons (pv 2) pa_nil)))))) pa_nil)) (pe_one (pe_cmpR (op_inB (K := K) (P := P) (w := w) hr.units) (pe_glob (by rfl) T.g_START (show L2.RelV (.ref T.v_START) _ from rfl)) (pv 1) (by rfl))))))), ?_⟩
    refine ⟨_, rfl, mv, L, rfl, .inl hm, ?_⟩
    refine ⟨_, rfl, iteT ?_⟩
    have mvIn : ∀ {o : HO} {a : Addr} {xs : List V}, SqT K H a xs → SqT K (upd H mv o) a xs := fun h => lock_in hm h
    refine ⟨mv, _, hm, trivial, fun od => ?_⟩
    refine ⟨_, rfl, mv, od, L, rfl, upd_same, fun D nD => lc_keysB (fun j H' => Same (upd H mv (.frz od (DBO P w mv L))) H' ∧ H' D = some (.lst ((List.replicate j true).map V.bl))) ⟨same_new nD, upd_same⟩ (fun j H' g => g.1 _ _ upd_same) ?_ ?_⟩
    · rintro j e H1 he ⟨sm, hD⟩
      have em := List.mem_of_getElem? he
      have bx : BoxAt K H1 e.1 e.2.1 := ((ma.box e em).mvs mvIn).ext (.of sm)
      have km : e.2.1 ∈ M.map (·.1) := by
        rw [← ma.keys]
        exact List.mem_map.mpr ⟨e, em, rfl⟩
      obtain ⟨m, hmm, em2⟩ := List.mem_map.mp km
      refine ⟨rfl, ?_⟩
      dsimp only [tYes]
      rw [if_pos rfl]
      refine ⟨_, rfl, _, rfl, sz, e.1, ss, e.2.1, rfl, (Ext.of sm).sqT (mvIn hsz), s5, bx, em2 ▸ mb m hmm, fun H2 s2 => ?_⟩
      refine ⟨_, s2 _ _ hD, ?_, ?_, ?_⟩
      · rw [List.length_map, List.length_replicate]
        have := (List.getElem?_eq_some_iff.mp he).1
        exact sz_small (by omega)
      · exact Same.put nD (sm.trans s2)
      · rw [upd_same, List.replicate_succ', List.map_append]
        rfl
    · rintro H1 ⟨sm, hD⟩
      refine ⟨sm _ _ upd_same, ?_⟩
      have nDm : D ≠ mv := fun e => by
        rw [e, upd_same] at nD
        cases nD
      have sb := lock_back hm sm
      refine ⟨D, List.replicate L.length true, rfl, SqL.of (by rw [upd_ne nDm]; exact hD), ?_⟩
      have ea : (List.replicate L.length true).all id = true := List.all_eq_true.mpr fun b hb => (List.mem_replicate.mp hb).2
      rw [ea]
      refine ⟨_, rfl, iteT ?_⟩
      refine ⟨_, rfl, T.v_START, mv, START, L, rfl, rfl, upd_same, (ma.ext (.of sb)).box, T.k_START _, ?_⟩
      rw [ma.isS, decide_eq_true st]
      exact q _ sb

end
end Fm
namespace Fm
open PySem PySem.Spec PyProof.Rows L2
section
variable {P : Program} {w : World} {K : PySem.W.Frag} {mg : Str → Option Value} {base : Heap}

theorem store_keys {L : BoxL} {b : Addr} {q : List Int × List Int} {v : V} : (storeB L b q v).map (·.2.1) = if (findB L q).isSome then L.map (·.2.1) else L.map (·.2.1) ++ [q] := by
  unfold storeB
  by_cases h : (findB L q).isSome = true
  · rw [if_pos h, if_pos h, List.map_map]
    refine List.map_congr_left fun p _ => ?_
    show (if p.2.1 = q then (p.1, p.2.1, v) else p).2.1 = p.2.1
    split <;> rfl
  · rw [if_neg h, if_neg h, List.map_append]
    rfl
theorem store_mem {L : BoxL} {b : Addr} {q : List Int × List Int} {v : V} {e : Addr × (List Int × List Int) × V} (h : e ∈ storeB L b q v) : e ∈ L ∨ (e.2.1 = q ∧ e.2.2 = v ∧ (e.1 = b ∨ ∃ p ∈ L, p.1 = e.1 ∧ p.2.1 = q)) := by
  unfold storeB at h
  by_cases hs : (findB L q).isSome = true
  · rw [if_pos hs] at h
    obtain ⟨p, hp, e1⟩ := List.mem_map.mp h
    by_cases hq : p.2.1 = q
    · rw [if_pos hq] at e1
      subst e1
      exact .inr ⟨hq, rfl, .inr ⟨p, hp, rfl, hq⟩⟩
    · rw [if_neg hq] at e1
      rw [← e1]
      exact .inl hp
  · rw [if_neg hs] at h
    rcases List.mem_append.mp h with h | h
    · exact .inl h
    · rw [List.mem_singleton.mp h]
      exact .inr ⟨rfl, rfl, .inl rfl⟩
theorem isS_iff {L : BoxL} {q : Box} : (findB L q).isSome = true ↔ q ∈ L.map (·.2.1) := by
  constructor
  · intro h
    by_cases hq : q ∈ L.map (·.2.1)
    · exact hq
    · rw [findB_out hq] at h
      cases h
  · intro h
    obtain ⟨e, _, _, e2⟩ := findB_in h
    rw [e2]
    rfl
/-! ### the stands told by their number of columns -/
def lvB (ls : BoxL) (k : Int) : BoxL := ls.filter fun e => decide ((e.2.1.1.length : Int) = k)
theorem lvB_snoc (ls : BoxL) (e : Addr × Box × V) (k : Int) : lvB (ls ++ [e]) k = lvB ls k ++ if (e.2.1.1.length : Int) = k then [e] else [] := by
  unfold lvB
  rw [List.filter_append]
  by_cases h : (e.2.1.1.length : Int) = k
  · rw [if_pos h, List.filter_cons_of_pos (by simpa using h)]
    rfl
  · rw [if_neg h, List.filter_cons_of_neg (by simpa using h)]
    rfl
structure TolK (H0 H : Hp) (td : Addr) (ls : BoxL) (kvs : List (Key × V)) : Prop where
  at_ : H td = some (.dK kvs)
  few : kvs.length ≤ ls.length
  yes : ∀ (k : Int) v, valV kvs (.inl k) = some v → ∃ l, v = .ref l ∧ l ≠ td ∧ H0 l = none ∧ H l = some (.lst ((lvB ls k).map fun e => .ref e.1))
  no : ∀ k : Int, valV kvs (.inl k) = none → lvB ls k = []
  inj : ∀ (k k' : Int) l, valV kvs (.inl k) = some (.ref l) → valV kvs (.inl k') = some (.ref l) → k = k'
def ToldAt (H0 H : Hp) (td : Addr) (ls : BoxL) : Prop := ∃ kvs, TolK H0 H td ls kvs
theorem ToldAt.same {H0 H H' : Hp} {td : Addr} {ls : BoxL} (s : Same H H') (h : ToldAt H0 H td ls) : ToldAt H0 H' td ls := by
  obtain ⟨kvs, h⟩ := h
  refine ⟨kvs, s _ _ h.at_, h.few, fun k v e => ?_, h.no, h.inj⟩
  obtain ⟨l, h1, h2, h3, h4⟩ := h.yes k v e
  exact ⟨l, h1, h2, h3, s _ _ h4⟩
/-- one more, where its list stands already -/
theorem TolK.more {H0 H : Hp} {td : Addr} {ls : BoxL} {kvs : List (Key × V)} (h : TolK H0 H td ls kvs) {e : Addr × Box × V} {l : Addr} (hv : valV kvs (.inl (e.2.1.1.length : Int)) = some (.ref l)) (hl : l ≠ td) :
    TolK H0 (upd H l (.lst (((lvB ls (e.2.1.1.length : Int)).map fun e => .ref e.1) ++ [.ref e.1]))) td (ls ++ [e]) kvs := by
  refine ⟨?_, ?_, fun k v hk => ?_, fun k hk => ?_, h.inj⟩
  · rw [upd_ne (Ne.symm hl)]
    exact h.at_
  · rw [List.length_append]
    have := h.few
    omega
  · obtain ⟨l', rfl, h2, h3, h4⟩ := h.yes k v hk
    refine ⟨l', rfl, h2, h3, ?_⟩
    rw [lvB_snoc]
    by_cases z : l' = l
    · subst z
      have ek := h.inj k _ l' hk hv
      subst ek
      rw [upd_same, if_pos rfl, List.map_append]
      rfl
    · have nk : ¬ (e.2.1.1.length : Int) = k := fun y => by
        rw [y, hk] at hv
        cases hv
        exact z rfl
      rw [upd_ne z, if_neg nk, List.append_nil]
      exact h4
  · rw [lvB_snoc, h.no k hk, if_neg fun y => by rw [y, hk] at hv; cases hv]
    rfl
/-- one more, with a list of its own -/
theorem TolK.new {H0 H : Hp} {td F : Addr} {ls : BoxL} {kvs : List (Key × V)} (h : TolK H0 H td ls kvs) {e : Addr × Box × V} (hv : valV kvs (.inl (e.2.1.1.length : Int)) = none) (hF : H F = none) (hF0 : H0 F = none) :
    TolK H0 (upd (upd H td (.dK (putK kvs (.inl (e.2.1.1.length : Int)) (.ref F)))) F (.lst [.ref e.1])) td (ls ++ [e]) (putK kvs (.inl (e.2.1.1.length : Int)) (.ref F)) := by
  have nF : F ≠ td := fun z => by
    rw [z, h.at_] at hF
    cases hF
  have old : ∀ k v, valV kvs (.inl k) = some v → v ≠ .ref F := fun k v hk z => by
    obtain ⟨l', e1, h2, h3, h4⟩ := h.yes k v hk
    rw [e1] at z
    cases z
    rw [hF] at h4
    cases h4
  refine ⟨?_, ?_, fun k v hk => ?_, fun k hk => ?_, fun k k' l h1 h2 => ?_⟩
  · rw [upd_ne (Ne.symm nF), upd_same]
  · rw [putK_new _ hv, List.length_append, List.length_append]
    have := h.few
    show _ + 1 ≤ _ + 1
    omega
  · rw [valV_put] at hk
    by_cases z : (Sum.inl k : Key) = .inl (e.2.1.1.length : Int)
    · rw [if_pos z] at hk
      cases hk
      have ek : k = (e.2.1.1.length : Int) := Sum.inl.inj z
      subst ek
      refine ⟨F, rfl, nF, hF0, ?_⟩
      rw [upd_same, lvB_snoc, h.no _ hv, if_pos rfl]
      rfl
    · rw [if_neg z] at hk
      obtain ⟨l', rfl, h2, h3, h4⟩ := h.yes k v hk
      have n1 : l' ≠ F := fun y => old k _ hk (by rw [y])
      refine ⟨l', rfl, h2, h3, ?_⟩
      rw [upd_ne n1, upd_ne h2, lvB_snoc, if_neg fun y => z (by rw [y]), List.append_nil]
      exact h4
  · rw [valV_put] at hk
    by_cases z : (Sum.inl k : Key) = .inl (e.2.1.1.length : Int)
    · rw [if_pos z] at hk
      cases hk
    · rw [if_neg z] at hk
      rw [lvB_snoc, h.no k hk, if_neg fun y => z (by rw [y])]
      rfl
  · rw [valV_put] at h1 h2
    by_cases z : (Sum.inl k : Key) = .inl (e.2.1.1.length : Int) <;> by_cases z' : (Sum.inl k' : Key) = .inl (e.2.1.1.length : Int)
    · exact (Sum.inl.inj z).trans (Sum.inl.inj z').symm
    · rw [if_pos z] at h1
      rw [if_neg z'] at h2
      cases h1
      exact (old k' _ h2 rfl).elim
    · rw [if_neg z] at h1
      rw [if_pos z'] at h2
      cases h2
      exact (old k _ h1 rfl).elim
    · rw [if_neg z] at h1
      rw [if_neg z'] at h2
      exact h.inj k k' l h1 h2
theorem ToldAt.but {H0 H : Hp} {td d : Addr} {ls : BoxL} {o u : HO} (hd : H0 d = some u) (hdt : d ≠ td) (h : ToldAt H0 H td ls) : ToldAt H0 (upd H d o) td ls := by
  obtain ⟨kvs, h⟩ := h
  refine ⟨kvs, by rw [upd_ne (Ne.symm hdt)]; exact h.at_, h.few, fun k v e => ?_, h.no, h.inj⟩
  obtain ⟨l, h1, h2, h3, h4⟩ := h.yes k v e
  refine ⟨l, h1, h2, h3, ?_⟩
  rw [upd_ne fun z => by rw [z, hd] at h3; cases h3]
  exact h4
theorem TolK.zero {H0 H : Hp} {td : Addr} (h : H td = some (.dK [])) : TolK H0 H td [] [] := ⟨h, Nat.le_refl _, fun _ _ e => (by cases e), fun _ _ => rfl, fun _ _ _ e => (by cases e)⟩

end
end Fm
namespace Fm
open PySem PySem.Spec PyProof.Rows L2
section
variable {P : Program} {w : World} {K : PySem.W.Frag} {mg : Str → Option Value} {base : Heap}

/-- the stands with so many columns -/
def lvl (M : MovT) (k : Nat) : List Box := (M.map (·.1)).filter fun q => decide (q.1.length = k)
theorem lvB_le (ls : BoxL) (k : Int) : (lvB ls k).length ≤ ls.length := List.length_filter_le _ _
theorem lvB_lvl {H : Hp} {L : BoxL} {M : MovT} (h : MvAt K H L M) (k : Nat) : (lvB L (k : Int)).map (·.2.1) = lvl M k := by
  unfold lvB lvl
  rw [← h.keys, List.filter_map]
  congr 1
  refine List.filter_congr fun e _ => ?_
  show decide ((e.2.1.1.length : Int) = (k : Int)) = decide (e.2.1.1.length = k)
  by_cases z : e.2.1.1.length = k
  · rw [decide_eq_true z, decide_eq_true (by omega)]
  · rw [decide_eq_false z, decide_eq_false (by omega)]
theorem lvl_mem {M : MovT} {k : Nat} {q : Box} : q ∈ lvl M k ↔ q ∈ M.map (·.1) ∧ q.1.length = k := by
  unfold lvl
  rw [List.mem_filter, decide_eq_true_eq]
theorem zero_level {ss : List Int} {M : MovT} (mo : MovOk ss M) {q : Box} : (q ∈ M.map (·.1) ∧ q.1.length = 0) ↔ q = START := by
  constructor
  · rintro ⟨h, h0⟩
    obtain ⟨m, hm, rfl⟩ := List.mem_map.mp h
    have e1 := List.length_eq_zero_iff.mp h0
    have e2 := box_len (mo.box m hm)
    rw [h0] at e2
    exact Prod.ext e1 (List.length_eq_zero_iff.mp e2)
  · rintro rfl
    exact ⟨mo.start, rfl⟩
theorem lat_len (q : Box) (c w : Int) : (lat q c w).1.length = q.1.length + 1 := insA_len c q.1
theorem after_mem {ss : List Int} {r q : Box} {ms : Mvs} : q ∈ afterB ss r ms ↔ ∃ x ∈ ms, x.1 ≠ -1 ∧ q ∈ withB ss r x.1 := by
  unfold afterB
  rw [List.mem_flatMap]
  constructor
  · rintro ⟨x, hx, h⟩
    by_cases e : x.1 = -1
    · rw [if_pos e] at h
      cases h
    · rw [if_neg e] at h
      exact ⟨x, hx, e, h⟩
  · rintro ⟨x, hx, e, h⟩
    exact ⟨x, hx, by rw [if_neg e]; exact h⟩
theorem with_mem {ss : List Int} {r q : Box} {c : Int} : q ∈ withB ss r c ↔ ∃ w : Int, 0 ≤ w ∧ w < ss.getD c.toNat 0 ∧ q = lat r c w := by
  unfold withB
  rw [List.mem_map]
  constructor
  · rintro ⟨w, hw, rfl⟩
    have := List.mem_range.mp hw
    exact ⟨w, by omega, by omega, rfl⟩
  · rintro ⟨w, h0, h1, rfl⟩
    have e : ((w.toNat : Nat) : Int) = w := by omega
    exact ⟨w.toNat, List.mem_range.mpr (by omega), by rw [e]⟩
theorem next_level {ss : List Int} {M : MovT} (mo : MovOk ss M) {q : Box} {k : Nat} : (q ∈ M.map (·.1) ∧ q.1.length = k + 1) ↔ ∃ r, (r ∈ M.map (·.1) ∧ r.1.length = k) ∧ q ∈ afterB ss r (mvOf M r) := by
  constructor
  · rintro ⟨h, hk⟩
    obtain ⟨m, hm, rfl⟩ := List.mem_map.mp h
    have ns : m.1 ≠ START := fun e => by rw [e] at hk; cases hk
    obtain ⟨m', hm', x, hx, c0, w, w0, w1, e⟩ := mo.come m hm ns
    refine ⟨m'.1, ⟨List.mem_map.mpr ⟨m', hm', rfl⟩, ?_⟩, after_mem.mpr ⟨x, by rw [mvOf_mem mo.nd hm']; exact hx, c0, with_mem.mpr ⟨w, w0, w1, e⟩⟩⟩
    rw [e, lat_len] at hk
    omega
  · rintro ⟨r, ⟨hr, hk⟩, h⟩
    obtain ⟨m, hm, rfl⟩ := List.mem_map.mp hr
    obtain ⟨x, hx, c0, h2⟩ := after_mem.mp h
    obtain ⟨w, w0, w1, rfl⟩ := with_mem.mp h2
    rw [mvOf_mem mo.nd hm] at hx
    exact ⟨mo.shut m hm x hx c0 w w0 w1, by rw [lat_len, hk]⟩
theorem stored {L : BoxL} {b : Addr} {q : Box} {v : V} : ((L.map (·.2.1)).Nodup → ((storeB L b q v).map (·.2.1)).Nodup) ∧ ∀ x, x ∈ (storeB L b q v).map (·.2.1) ↔ x ∈ L.map (·.2.1) ∨ x = q := by
  rw [store_keys]
  by_cases h : (findB L q).isSome = true
  · rw [if_pos h]
    have hq := isS_iff.mp h
    refine ⟨id, fun x => ⟨.inl, fun z => z.elim id fun e => e ▸ hq⟩⟩
  · rw [if_neg h]
    have hq : q ∉ L.map (·.2.1) := fun z => h (isS_iff.mpr z)
    refine ⟨fun nd => ?_, fun x => by rw [List.mem_append, List.mem_singleton]⟩
    exact List.nodup_append.mpr ⟨nd, List.nodup_cons.mpr ⟨by simp, List.nodup_nil⟩, fun a ha b hb e => hq (by rw [List.mem_singleton.mp hb] at e; exact e ▸ ha)⟩
theorem store_boxes {H : Hp} {L : BoxL} {b : Addr} {q : Box} {v : V} (h : BoxesAt K H L) (hb : BoxAt K H b q) : BoxesAt K H (storeB L b q v) := fun e he => by
  rcases store_mem he with z | ⟨e1, _, e3⟩
  · exact h e z
  · rcases e3 with e3 | ⟨p, hp, e4, e5⟩
    · rw [e1, e3]
      exact hb
    · rw [e1, ← e4, ← e5]
      exact h p hp

end
end Fm
namespace Fm
open PySem PySem.Spec PyProof.Rows L2
section
variable {P : Program} {w : World} {K : PySem.W.Frag} {mg : Str → Option Value} {base : Heap}

def spWr (K : PySem.W.Frag) (P : Program) (w : World) : Sp := fun vs H Q _ => ∃ (sz mv : Addr) (ss : List Int) (L : BoxL) (M : MovT), vs = [.ref sz, .ref mv] ∧ SqT K H sz (ss.map V.int) ∧ SizesOk ss ∧ H mv = some (DBO P w mv L) ∧ MvAt K H L M ∧ MovOk ss M ∧ M.length ≤ 1000 ∧ (∀ k, (lvl M k).length ≤ 31) ∧
  ∀ H', Same H H' → Q .non H'
theorem ok_wrong_stand (T : Txt K mg) : FnOk P w K mg base CX0 5 T.f_wrong_stand T.d_wrong_stand ["sizes", "moves"] (spWr K P w) := by
  refine T.F_wrong_stand.ok sc_wrong_stand (fun vs H Q E h => ?_) (fun cdv A outer s H vs Q E hr h => ?_)
  · obtain ⟨_, _, _, _, _, rfl, _⟩ := h
    rfl
  · obtain ⟨sz, mv, ss, L, M, rfl, hsz, ok, hm, ma, mo, few, lv, q⟩ := h
    obtain ⟨_, s5, _⟩ := ok.facts
    have ll : L.length = M.length := by
      have := congrArg List.length ma.keys
      rwa [List.length_map, List.length_map] at this
    have hu := Nat.lt_of_le_of_lt (Nat.add_le_add_left (show 1 ≤ 64 by decide) _) hr.units
    refine ⟨_, (pss_cons (ps_set (i := 2) sc_wrong_stand.nd rfl (.inl rfl) pe_dnewK)
      (pss_cons (ps_lock (ps_for PassesOwn.never rfl (pi_keysB (P := P) (w := w) (pv 1)) (pg_name (i := 3) sc_wrong_stand.nd rfl (.inl rfl)) (pss_one (ps_expr (pe_bm PySem.F.plainAttrs_list PySem.F.slot_list_append PySem.F.type_list_append mt_append (pe_dsetd (pv 2) (pe_callB (call_lenK K) (by rfl) T.z_len PySem.boot_len (pa_cons (pe_ix (ix_tupK K) (pv 3) pe_int (fun _ _ => rfl)) pa_nil)) (pe_lst pa_nil) ⟨rfl, by rfl, by rfl, by rfl⟩) (pa_cons (pv 3) pa_nil))))))
      (pss_cons (ps_set (i := 4) sc_wrong_stand.nd rfl (.inl rfl) (pe_dispB (K := K) (P := P) (w := w) hr.units (hl := (show (1 : Nat) ≤ 15 by decide)) (pe_glob (by rfl) T.g_START (show L2.RelV (.ref T.v_START) _ from rfl)) pe_bl))
      (pss_cons (ps_for PassesOwn.never rfl (pi_range1 (by rfl) T.z_range (pa_cons (pe_op op_add (pe_callB (call_lenK K) (by rfl) T.z_len PySem.boot_len (pa_cons (pv 0) pa_nil)) pe_int) pa_nil)) (pg_name (i := 5) sc_wrong_stand.nd rfl (.inl rfl)) (pss_cons (ps_set (i := 6) sc_wrong_stand.nd rfl (.inl rfl) (pe_dnewB (P := P) (w := w)))
      (pss_cons (ps_for PassesOwn.never rfl (pi_listK K (pe_callB (call_sortSB (K := K) (P := P) (w := w) rfl hr.units) (by rfl) T.z_sorted (by decide +kernel) (pa_cons (pe_callTy (call_setOfB (K := K) (P := P) (w := w) rfl hr.units) (by rfl) T.z_set (by decide +kernel) (pa_cons (pe_op op_cat (pe_callTy (call_listE (P := P) (w := w) rfl) (by rfl) T.z_list (by decide +kernel) (pa_cons (pv 4) pa_nil)) (pe_dget2 hu (pv 2) (pv 5) (pe_lst pa_nil) ⟨rfl, by rfl, by rfl, by rfl⟩)) pa_nil)) pa_nil))) (pg_name (i := 3) sc_wrong_stand.nd rfl (.inl rfl)) (pss_cons (ps_if (PW.pt (pw_or (pt_cmpR (op_notinB (K := K) (P := P) (w := w) hr.units) (pv 3) (pv 4) (by rfl)) (pw_or (pt_cmpR (op_notinB (K := K) (P := P) (w := w) hr.units) (pv 3) (pv 1) (by rfl)) (pw_or1 (pt_not (pt_val (pe_call (ok_is_moves T) hr (by rfl) T.g_is_moves T.F_is_moves.kp T.b_is_moves .nil pass0 (pa_cons (pe_callB (call_lenK K) (by rfl) T.z_len PySem.boot_len (pa_cons (pv 0) pa_nil)) (pa_cons (pe_ix (ix_tupK K) (pv 3) pe_int (fun _ _ => rfl)) (pa_cons (pe_dgetBR (K := K) (P := P) (w := w) hr.units (pv 1) (pv 3) (fun _ _ => rfl)) pa_nil)))))))))) (pss_one (ps_ret (pv 3))) pss_nil)
      (pss_one (ps_for PassesOwn.never rfl (pi_listK K (pe_call (ok_boxes_after T) (hr.mono (by decide)) (by rfl) T.g_boxes_after T.F_boxes_after.kp T.b_boxes_after .nil pass0 (pa_cons (pv 0) (pa_cons (pv 3) (pa_cons (pe_dgetBR (K := K) (P := P) (w := w) hr.units (pv 1) (pv 3) (fun _ _ => rfl)) pa_nil))))) (pg_name (i := 7) sc_wrong_stand.nd rfl (.inl rfl)) (pss_one (ps_dputR (K := K) (P := P) (w := w) hr.units (pv 6) (pv 7) pe_bl rfl))))))
      (pss_one (ps_set (i := 4) sc_wrong_stand.nd rfl (.inl rfl) (pv 6))))))
      (pss_one (ps_ret pe_non)))))), ?_⟩
    intro td ntd
    have s1 : Same H (upd H td (.dK [])) := same_new ntd
    have htd : (upd H td (.dK [])) td = some (.dK []) := upd_same
    generalize upd H td (.dK []) = H1 at s1 htd
    have hm1 := s1 _ _ hm
    have mvIn : ∀ {o : HO} {a : Addr} {xs : List V}, SqT K H1 a xs → SqT K (upd H1 mv o) a xs := fun h => lock_in hm1 h
    have ne1 : td ≠ mv := fun e => by rw [e, hm] at ntd; cases ntd
    refine ⟨mv, _, hm1, trivial, fun od => ?_⟩
    generalize hHf : upd H1 mv (.frz od (DBO P w mv L)) = Hf
    have hfm : Hf mv = some (.frz od (DBO P w mv L)) := by rw [← hHf]; exact upd_same
    have htf : Hf td = some (.dK []) := by rw [← hHf, upd_ne ne1]; exact htd
    refine ⟨_, rfl, mv, od, L, rfl, hfm, for_keysB (fun i σ H' => ∃ y3 : Option V, σ = [some (.ref sz), some (.ref mv), some (.ref td), y3, none, none, none, none] ∧ Same H (upd H' mv (DBO P w mv L)) ∧ H' mv = some (.frz od (DBO P w mv L)) ∧ ToldAt H H' td (L.take i)) ?z ?l ?s ?d⟩
    case z =>
      refine ⟨none, rfl, ?_, hfm, [], TolK.zero htf⟩
      exact s1.trans (lock_back hm1 (by rw [hHf]; exact Same.refl _))
    case l =>
      rintro i σ H' ⟨_, _, _, h, _⟩
      exact h
    case s =>
      rintro i e σ H2 he ⟨y3, rfl, sb, hlm, tol⟩
      have em := List.mem_of_getElem? he
      have il := (List.getElem?_eq_some_iff.mp he).1
      have et : L.take (i + 1) = L.take i ++ [e] := by rw [List.take_add_one, he]; rfl
      obtain ⟨kvs, tk⟩ := tol
      obtain ⟨pa, wa, hb, hp, hw⟩ : BoxAt K H2 e.1 e.2.1 := by
        have z := ((ma.box e em).mvs fun h => (Ext.of sb).sqT h)
        exact z.mvs fun h => by
          have y := sqT_but (H := upd H2 mv (DBO P w mv L)) (H' := H2) (d := mv) upd_same (fun b u nb e => by rw [upd_ne nb] at e; exact e) h
          exact y
      have lp : ((e.2.1.1.map V.int).length : Int) = (e.2.1.1.length : Int) := by rw [List.length_map]
      refine ⟨_, rfl, td, rfl, .inl ⟨kvs, .inl tk.at_⟩, ?_⟩
      refine ⟨_, rfl, e.1, _, 0, _, rfl, rfl, hb, atI_nat (j := 0) rfl, pa, _, rfl, .inr hp, Nat.zero_le _, fun F nF => ?_⟩
      have sF : Same H2 (upd H2 F (.lst [])) := same_new nF
      have nFtd : F ≠ td := fun z => by rw [z, tk.at_] at nF; cases nF
      have nFmv : F ≠ mv := fun z => by rw [z, hlm] at nF; cases nF
      have nF0 : H F = none := by
        cases z : H F with
        | none => rfl
        | some u =>
          have := sb _ _ z
          rw [upd_ne nFmv, nF] at this
          cases this
      have el : ∀ (l : Addr) (x : HO) (G : Hp), l ≠ mv → upd (upd G l x) mv (DBO P w mv L) = upd (upd G mv (DBO P w mv L)) l x := fun l x G hne => by
        funext b
        by_cases h1 : b = mv
        · subst h1
          rw [upd_same, upd_ne (Ne.symm hne), upd_same]
        · rw [upd_ne h1]
          by_cases h2 : b = l
          · subst h2
            rw [upd_same, upd_same]
          · rw [upd_ne h2, upd_ne h2, upd_ne h1]
      rw [lp]
      refine ⟨kvs, .inl (e.2.1.1.length : Int), by rw [upd_ne (Ne.symm nFtd)]; exact tk.at_, rfl, sz_small (by have := tk.few; rw [List.length_take] at this; omega), fun v hv => ?_, fun hv => ?_⟩
      · obtain ⟨l, rfl, hltd, hl0, hl⟩ := tk.yes _ v hv
        have nlF : l ≠ F := fun z => by rw [z, nF] at hl; cases hl
        have nlm : l ≠ mv := fun z => by rw [z, hm] at hl0; cases hl0
        have hlF : (upd H2 F (.lst [])) l = some (.lst ((lvB (L.take i) (e.2.1.1.length : Int)).map fun e => .ref e.1)) := by rw [upd_ne nlF]; exact hl
        refine ⟨.inl ⟨rfl, _, SqL.of hlF⟩, _, rfl, l, _, _, rfl, rfl, hlF, ?_, ?_⟩
        · have z := lvB_le (L.take i) (e.2.1.1.length : Int)
          rw [List.length_take] at z
          rw [List.length_map]
          exact sz_small (by omega)
        · refine ⟨_, rfl, ?_, ?_, kvs, ?_⟩
          · rw [el _ _ _ nlm, el _ _ _ nFmv]
            exact Same.put hl0 (Same.put nF0 sb)
          · rw [upd_ne (Ne.symm nlm), upd_ne (Ne.symm nFmv)]
            exact hlm
          · rw [et]
            have tkF : TolK H (upd H2 F (.lst [])) td (L.take i) kvs := by
              obtain ⟨a1, a2, a3, a4, a5⟩ := tk
              refine ⟨sF _ _ a1, a2, fun k v hk => ?_, a4, a5⟩
              obtain ⟨l', b1, b2, b3, b4⟩ := a3 k v hk
              exact ⟨l', b1, b2, b3, sF _ _ b4⟩
            exact tkF.more hv hltd
      · have hF2 : (upd (upd H2 F (.lst [])) td (.dK (putK kvs (.inl (e.2.1.1.length : Int)) (.ref F)))) F = some (.lst []) := by rw [upd_ne nFtd, upd_same]
        refine ⟨.inl ⟨rfl, _, SqL.of hF2⟩, _, rfl, F, _, _, rfl, rfl, hF2, by decide, ?_⟩
        have swap : upd (upd (upd H2 F (.lst [])) td (.dK (putK kvs (.inl (e.2.1.1.length : Int)) (.ref F)))) F (.lst ([] ++ [.ref e.1])) = upd (upd H2 td (.dK (putK kvs (.inl (e.2.1.1.length : Int)) (.ref F)))) F (.lst [.ref e.1]) := by
          funext b
          by_cases h1 : b = F
          · subst h1
            rw [upd_same, upd_same]
            rfl
          · rw [upd_ne h1, upd_ne h1]
            by_cases h2 : b = td
            · subst h2
              rw [upd_same, upd_same]
            · rw [upd_ne h2, upd_ne h2, upd_ne h1]
        rw [swap]
        refine ⟨_, rfl, ?_, ?_, putK kvs (.inl (e.2.1.1.length : Int)) (.ref F), ?_⟩
        · rw [el _ _ _ nFmv, el _ _ _ ne1]
          exact Same.put nF0 (Same.put ntd sb)
        · rw [upd_ne (Ne.symm nFmv), upd_ne (Ne.symm ne1)]
          exact hlm
        · rw [et]
          exact tk.new hv nF nF0
    case d =>
      rintro σ H2 ⟨y3, rfl, sb, hlm, tol⟩
      rw [List.take_length] at tol
      refine ⟨hlm, ?_⟩
      have tol2 := tol.but (o := DBO P w mv L) hm (Ne.symm ne1)
      have hm2 : (upd H2 mv (DBO P w mv L)) mv = some (DBO P w mv L) := upd_same
      generalize upd H2 mv (DBO P w mv L) = H3 at sb tol2 hm2 ⊢
      intro ca nca
      have s34 : Same H3 (upd H3 ca (DBO P w ca [])) := same_new nca
      refine ⟨T.v_START, START, .bl true, rfl, upd_same, T.k_START _, ?_⟩
      have hca4 : (upd (upd H3 ca (DBO P w ca [])) ca (DBO P w ca [(T.v_START, START, .bl true)])) ca = some (DBO P w ca [(T.v_START, START, .bl true)]) := upd_same
      have s4 : Same H3 (upd (upd H3 ca (DBO P w ca [])) ca (DBO P w ca [(T.v_START, START, .bl true)])) := Same.put nca s34
      have nca0 : H ca = none := none_back sb nca
      generalize upd (upd H3 ca (DBO P w ca [])) ca (DBO P w ca [(T.v_START, START, .bl true)]) = H4 at s4 hca4
      have tol4 := tol2.same s4
      have sb4 := sb.trans s4
      refine ⟨_, rfl, sz, _, rfl, .inr ((Ext.of sb4).sqT hsz), _, _, rfl, rfl, _, rfl, ?_⟩
      rw [List.length_map]
      refine ⟨by omega, by omega, for_range (lo := 0) (n := ((ss.length : Int) + 1).toNat) (fun k σ H' => ∃ (y3 y5 y6 y7 : Option V) (ca : Addr) (Lc : BoxL), σ = [some (.ref sz), some (.ref mv), some (.ref td), y3, some (.ref ca), y5, y6, y7] ∧ Same H H' ∧ ToldAt H H' td L ∧ H' ca = some (DBO P w ca Lc) ∧ BoxesAt K H' Lc ∧ (Lc.map (·.2.1)).Nodup ∧ ∀ q, q ∈ Lc.map (·.2.1) ↔ q ∈ M.map (·.1) ∧ q.1.length = k) ?z ?s ?d⟩
      case z =>
        refine ⟨y3, none, none, none, ca, _, rfl, sb4, tol4, hca4, fun e he => ?_, List.nodup_cons.mpr ⟨by simp, List.nodup_nil⟩, fun q => ?_⟩
        · rw [List.mem_singleton.mp he]
          exact T.k_START _
        · rw [zero_level mo]
          simp
      case d =>
        rintro σ H5 ⟨_, _, _, _, _, _, rfl, s5', _⟩
        exact q H5 s5'
      case s =>
        rintro k σ G hk ⟨y3, y5, y6, y7, ca, Lc, rfl, sG, tol, hca, bc, nd, mem⟩
        rw [Int.zero_add]
        intro fa nfa
        have s1 : Same G (upd G fa (DBO P w fa [])) := same_new nfa
        have hfa1 : (upd G fa (DBO P w fa [])) fa = some (DBO P w fa []) := upd_same
        generalize upd G fa (DBO P w fa []) = G1 at s1 hfa1
        have sG1 := sG.trans s1
        obtain ⟨kvs, tk⟩ := id (tol.same s1)
        have lcp : Lc.map (·.2.1) = Lc.map (·.2.1) := rfl
        have perm : (Lc.map (·.2.1)).Perm (lvl M k) := (List.perm_ext_iff_of_nodup nd (mo.nd.sublist List.filter_sublist)).mpr fun q => (mem q).trans lvl_mem.symm
        have lcl : Lc.length ≤ 31 := by
          have z := perm.length_eq
          rw [List.length_map] at z
          have := lv k
          omega
        have lbl : (lvB L (k : Int)).length ≤ 31 := by
          have z := congrArg List.length (lvB_lvl ma k)
          rw [List.length_map] at z
          have := lv k
          omega
        have nfa0 : H fa = none := none_back sG nfa
        dsimp only [tSeq, tAsg, gName, List.set_cons_succ, List.set_cons_zero]
        -- the stands to be looked at
        refine ⟨_, rfl, ca, DBO P w ca Lc, _, rfl, .inl (s1 _ _ hca), isD_box.e, ?_, fun q1 nq1 => ?_⟩
        · unfold mixB
          rw [List.length_map, List.length_map]
          omega
        have exs : ((mixB Lc).map fun e => (e.1, e.2.2)).map (·.1) = Lc.map fun e => V.ref e.1 := by
          unfold mixB
          rw [List.map_map, List.map_map]
          rfl
        rw [exs]
        have s2 : Same G1 (upd G1 q1 (.lst (Lc.map fun e => V.ref e.1))) := same_new nq1
        have hq2 : (upd G1 q1 (.lst (Lc.map fun e => V.ref e.1))) q1 = some (.lst (Lc.map fun e => V.ref e.1)) := upd_same
        generalize upd G1 q1 (.lst (Lc.map fun e => V.ref e.1)) = G2 at s2 hq2 ⊢
        refine ⟨_, rfl, td, rfl, .inl ⟨kvs, .inl (s2 _ _ tk.at_)⟩, _, rfl, Nat.zero_le _, fun F nF => ⟨_, .inl ⟨kvs, .inl (k : Int), .inl ?_, rfl, rfl⟩, ?_⟩⟩
        · rw [upd_ne fun z => by rw [← z, s2 _ _ tk.at_] at nF; cases nF]
          exact s2 _ _ tk.at_
        have s3 : Same G2 (upd G2 F (.lst [])) := same_new nF
        have hF3 : (upd G2 F (.lst [])) F = some (.lst []) := upd_same
        generalize upd G2 F (.lst []) = G3 at s3 hF3 ⊢
        have s13 := s2.trans s3
        obtain ⟨b, hb, hbl⟩ : ∃ b, (valV kvs (.inl (k : Int))).getD (.ref F) = .ref b ∧ G3 b = some (.lst ((lvB L (k : Int)).map fun e => .ref e.1)) := by
          cases hv : valV kvs (.inl (k : Int)) with
          | none => exact ⟨F, rfl, by rw [tk.no _ hv]; exact hF3⟩
          | some v =>
            obtain ⟨l, rfl, _, _, h4⟩ := tk.yes _ v hv
            exact ⟨l, rfl, s13 _ _ h4⟩
        rw [hb]
        refine ⟨q1, b, _, _, rfl, rfl, s3 _ _ hq2, hbl, Nat.le_of_lt (sz_small (by rw [List.length_map, List.length_map]; omega)), fun p np => ?_⟩
        have s4' : Same G3 (upd G3 p (.lst ((Lc.map fun e => V.ref e.1) ++ (lvB L (k : Int)).map fun e => V.ref e.1))) := same_new np
        have hp4 : (upd G3 p (.lst ((Lc.map fun e => V.ref e.1) ++ (lvB L (k : Int)).map fun e => V.ref e.1))) p = some (.lst ((Lc.map fun e => V.ref e.1) ++ (lvB L (k : Int)).map fun e => V.ref e.1)) := upd_same
        generalize upd G3 p (.lst ((Lc.map fun e => V.ref e.1) ++ (lvB L (k : Int)).map fun e => V.ref e.1)) = G4 at s4' hp4 ⊢
        have s14 := s13.trans s4'
        have sG4 := sG1.trans s14
        have bk4 : ∀ e ∈ (Lc.map fun e => ((e.1, e.2.1) : Addr × Box)) ++ (lvB L (k : Int)).map fun e => (e.1, e.2.1), BoxAt K G4 e.1 e.2 ∧ e.2 ∈ lvl M k := fun e he => by
          rcases List.mem_append.mp he with z | z
          · obtain ⟨x, hx, rfl⟩ := List.mem_map.mp z
            exact ⟨(bc x hx).ext (.of (s1.trans s14)), lvl_mem.mpr ((mem _).mp (List.mem_map.mpr ⟨x, hx, rfl⟩))⟩
          · obtain ⟨x, hx, rfl⟩ := List.mem_map.mp z
            refine ⟨(ma.box x (List.mem_filter.mp hx).1).ext (.of sG4), ?_⟩
            rw [← lvB_lvl ma k]
            exact List.mem_map.mpr ⟨x, hx, rfl⟩
        refine ⟨p, (Lc.map fun e => ((e.1, e.2.1) : Addr × Box)) ++ (lvB L (k : Int)).map fun e => (e.1, e.2.1), rfl, SqL.of ?_, fun e he => (bk4 e he).1, ?_, fun sa L1 nsa sub cov nd1 => ?_⟩
        · rw [hp4, List.map_append, List.map_map, List.map_map]
          rfl
        · rw [List.length_append, List.length_map, List.length_map]
          omega
        have s5' : Same G4 (upd G4 sa (SetBO P w sa L1)) := same_new nsa
        have hs5 : (upd G4 sa (SetBO P w sa L1)) sa = some (SetBO P w sa L1) := upd_same
        generalize upd G4 sa (SetBO P w sa L1) = G5 at s5' hs5 ⊢
        refine ⟨sa, L1, rfl, hs5, fun e he => (bk4 e (sub e he)).1.ext (.of s5'), fun L2 p2 pm few2 asc np2 => ?_⟩
        have s6 : Same G5 (upd G5 p2 (.lst (L2.map fun q => V.ref q.1))) := same_new np2
        have hp6 : (upd G5 p2 (.lst (L2.map fun q => V.ref q.1))) p2 = some (.lst (L2.map fun q => V.ref q.1)) := upd_same
        generalize upd G5 p2 (.lst (L2.map fun q => V.ref q.1)) = G6 at s6 hp6 ⊢
        have s46 := s5'.trans s6
        have s16 := s14.trans s46
        have sG6 := sG1.trans s16
        have bx6 : ∀ e ∈ L2, BoxAt K G6 e.1 e.2 ∧ e.2 ∈ lvl M k := fun e he => by
          obtain ⟨z1, z2⟩ := bk4 e (sub e (pm.mem_iff.mp he))
          exact ⟨z1.ext (.of s46), z2⟩
        have cov2 : ∀ q ∈ lvl M k, q ∈ L2.map (·.2) := fun q hq => by
          rw [(pm.map (·.2)).mem_iff]
          rw [← lvB_lvl ma k] at hq
          obtain ⟨x, hx, rfl⟩ := List.mem_map.mp hq
          exact cov (x.1, x.2.1) (List.mem_append_right _ (List.mem_map.mpr ⟨x, hx, rfl⟩))
        have hca6 := s16 _ _ (s1 _ _ hca)
        have hfa6 := s16 _ _ hfa1
        have hma6 := ma.ext (.of sG6)
        have hmv6 := sG6 _ _ hm
        have tol6 : ToldAt H G6 td L := ToldAt.same s16 ⟨kvs, tk⟩
        clear hbl hb hq2 hF3 hp4 hs5 s46 s5' s6 s4' s13 s2 s3 bk4
        refine ⟨p2, rfl, ⟨_, SqL.of hp6⟩, for_list (K := K) (xs := L2.map fun q => V.ref q.1) (fun j σ H' => ∃ (y3 y7 : Option V) (La : BoxL), σ = [some (.ref sz), some (.ref mv), some (.ref td), y3, some (.ref ca), some (.int k), some (.ref fa), y7] ∧ Same G H' ∧ (∀ b o, b ≠ fa → G6 b = some o → H' b = some o) ∧ H' fa = some (DBO P w fa La) ∧ BoxesAt K H' La ∧ (La.map (·.2.1)).Nodup ∧ La.length ≤ 24 * j ∧ ∀ q, q ∈ La.map (·.2.1) ↔ ∃ e ∈ L2.take j, q ∈ afterB ss e.2 (mvOf M e.2)) ?z ?l ?s ?d⟩
        case z => exact ⟨y3, y7, [], rfl, s1.trans s16, fun _ _ _ e => e, hfa6, fun e he => (by cases he), List.nodup_nil, Nat.zero_le _, fun q => by simp⟩
        case l =>
          rintro j σ H' _ ⟨_, _, _, _, _, fr, _⟩
          refine SqL.of (fr p2 _ (fun z => ?_) hp6)
          rw [z, hfa6] at hp6
          unfold DBO at hp6
          cases hp6
        case s =>
          rintro j x σ H' hxj ⟨y3, y7, La, rfl, sG', fr, hfa', ba, na, la16, mem'⟩
          obtain ⟨e, he, rfl⟩ := map_at hxj
          have em := List.mem_of_getElem? he
          obtain ⟨be6, le⟩ := bx6 e em
          obtain ⟨lk, lke⟩ := lvl_mem.mp le
          have mv6 : ∀ {a : Addr} {xs : List V}, SqT K G6 a xs → SqT K H' a xs := fun h => sqT_but hfa6 fr h
          have sH' := sG.trans sG'
          have hca' := sG' _ _ hca
          have hmv' := sH' _ _ hm
          have ma' := ma.ext (.of sH')
          have be' := be6.mvs mv6
          have bc' : BoxesAt K H' Lc := fun x hx => (bc x hx).ext (.of sG')
          have hsz' := (Ext.of sH').sqT hsz
          refine ⟨_, rfl, _, rfl, e.1, ca, e.2, Lc, rfl, rfl, hca', bc', be', _, rfl, ?_⟩
          rw [isS_iff.mpr ((mem e.2).mpr ⟨lk, lke⟩)]
          refine iteF ?_
          refine ⟨_, rfl, _, rfl, e.1, mv, e.2, L, rfl, rfl, hmv', ma'.box, be', _, rfl, ?_⟩
          rw [ma'.isS, decide_eq_true lk]
          refine iteF ?_
          obtain ⟨m, hmm, hme⟩ := List.mem_map.mp lk
          have mok : MvOk ss.length e.2.1 (mvOf M e.2) := by
            rw [← hme, mvOf_mem mo.nd hmm]
            exact mo.mv m hmm
          have bok : BoxOk ss e.2 := by
            rw [← hme]
            exact mo.box m hmm
          obtain ⟨v, hv, dv⟩ := ma'.look lk
          obtain ⟨pa, wa, hb0, hp0, hw0⟩ := id be'
          refine ⟨_, rfl, sz, _, rfl, .inr hsz', ?_⟩
          have m6 := mok.len (by omega) (by omega)
          rw [List.length_map]
          refine ⟨_, rfl, e.1, _, 0, _, rfl, rfl, hb0, atI_nat (j := 0) rfl, _, rfl, _, rfl, mv, e.1, e.2, L, v, rfl, rfl, .inl hmv', ma'.box, be', hv, ?_⟩
          refine ⟨ss.length, pa, v, e.2.1, mvOf M e.2, rfl, by omega, by omega, hp0, dv, mok, fun H2 s2 => ⟨_, rfl, iteF ?_⟩⟩
          have sG2 := sG'.trans s2
          have fr2 : ∀ b o, b ≠ fa → G6 b = some o → H2 b = some o := fun b o nb h => s2 _ _ (fr b o nb h)
          have e2' := Ext.of s2
          refine ⟨_, rfl, _, rfl, _, rfl, _, rfl, mv, e.1, e.2, L, v, rfl, rfl, .inl (s2 _ _ hmv'), (ma'.ext e2').box, be'.ext e2', hv, ?_⟩
          refine ⟨sz, e.1, v, ss, e.2, mvOf M e.2, rfl, e2'.sqT hsz', ok, be'.ext e2', bok, dv.ext e2', mok, by omega, fun D ys H3 nD s3 hD hys => ?_⟩
          have yl := hys.length
          rw [List.length_map] at yl
          have al := after_len ok (r := e.2) (ms := mvOf M e.2) fun x hx => ⟨(mok.col x hx).1, (mok.col x hx).2.1⟩
          have nDfa : D ≠ fa := fun z => by rw [z, s2 _ _ hfa'] at nD; cases nD
          have il := (List.getElem?_eq_some_iff.mp he).1
          have jl : j < 64 := by omega
          have et : L2.take (j + 1) = L2.take j ++ [e] := by rw [List.take_add_one, he]; rfl
          have nfaG : G fa = none := nfa
          have hfa3 := s3 _ _ (s2 _ _ hfa')
          have ba3 : BoxesAt K H3 La := fun x hx => (ba x hx).ext (.of (s2.trans s3))
          refine ⟨D, rfl, ⟨_, SqL.of hD⟩, for_list (K := K) (xs := ys) (fun i σ H'' => ∃ (y7 : Option V) (Lb : BoxL), σ = [some (.ref sz), some (.ref mv), some (.ref td), some (.ref e.1), some (.ref ca), some (.int k), some (.ref fa), y7] ∧ Same G H'' ∧ (∀ b o, b ≠ fa → H3 b = some o → H'' b = some o) ∧ H'' fa = some (DBO P w fa Lb) ∧ BoxesAt K H'' Lb ∧ (Lb.map (·.2.1)).Nodup ∧ Lb.length ≤ La.length + i ∧ ∀ q, q ∈ Lb.map (·.2.1) ↔ q ∈ La.map (·.2.1) ∨ q ∈ (afterB ss e.2 (mvOf M e.2)).take i) ?z9 ?l9 ?s9 ?d9⟩
          case z9 => exact ⟨y7, La, rfl, sG2.trans s3, fun _ _ _ h => h, hfa3, ba3, na, Nat.le_refl _, fun q => by simp⟩
          case l9 =>
            rintro i σ H'' _ ⟨_, _, _, _, fr3, _⟩
            exact SqL.of (fr3 D _ nDfa hD)
          case s9 =>
            rintro i x σ H'' hxi ⟨y7, Lb, rfl, sG'', fr3, hfa'', bb, nb, lbl, memb⟩
            obtain ⟨d, hd, hxd⟩ := hys.get hxi
            obtain ⟨bx, hbx, rfl⟩ := map_at hd
            obtain ⟨ab, rfl, hab⟩ := dh_box hxd
            have hab' : BoxAt K H'' ab bx := hab.mvs fun h => sqT_but hfa3 fr3 h
            have ixl := (List.getElem?_eq_some_iff.mp hbx).1
            obtain ⟨st1, st2⟩ := stored (L := Lb) (b := ab) (q := bx) (v := .bl true)
            have lst : (storeB Lb ab bx (.bl true)).length ≤ Lb.length + 1 := by
              unfold storeB
              split
              · rw [List.length_map]
                omega
              · rw [List.length_append]
                exact Nat.le_refl _
            have eti : (afterB ss e.2 (mvOf M e.2)).take (i + 1) = (afterB ss e.2 (mvOf M e.2)).take i ++ [bx] := by rw [List.take_add_one, hbx]; rfl
            refine ⟨_, rfl, _, rfl, fa, ab, bx, Lb, rfl, rfl, hfa'', bb, hab', by omega, ?_⟩
            refine ⟨_, _, rfl, Same.put nfaG sG'', fun b o nb' h => ?_, upd_same, fun e' he' => ?_, st1 nb, by omega, fun q => ?_⟩
            · rw [upd_ne nb']
              exact fr3 b o nb' h
            · exact ((store_boxes bb hab') e' he').mvs fun h => sqT_but hfa'' (fun b u nb e => by rw [upd_ne nb]; exact e) h
            · rw [st2, memb, eti, List.mem_append, List.mem_singleton, or_assoc]
          case d9 =>
            rintro σ H'' ⟨y7, Lb, rfl, sG'', fr3, hfa'', bb, nb, lbl, memb⟩
            rw [yl, List.take_length] at memb
            rw [yl] at lbl
            refine ⟨_, _, Lb, rfl, sG'', fun b o nb' h => fr3 b o nb' (s3 _ _ (fr2 b o nb' h)), hfa'', bb, nb, by omega, fun q => ?_⟩
            rw [memb, mem', et]
            constructor
            · rintro (⟨e', he', hq⟩ | hq)
              · exact ⟨e', List.mem_append_left _ he', hq⟩
              · exact ⟨e, List.mem_append_right _ (List.mem_singleton.mpr rfl), hq⟩
            · rintro ⟨e', he', hq⟩
              rcases List.mem_append.mp he' with z | z
              · exact .inl ⟨e', z, hq⟩
              · rw [List.mem_singleton.mp z] at hq
                exact .inr hq
        case d =>
          rintro σ H' ⟨y3, y7, La, rfl, sG', fr, hfa', ba, na, la16, mem'⟩
          rw [List.length_map, List.take_length] at mem'
          refine ⟨_, rfl, ?_⟩
          refine ⟨_, _, _, _, fa, La, rfl, sG.trans sG', ?_, hfa', ba, na, fun q => ?_⟩
          · exact ToldAt.same sG' tol
          · rw [mem', next_level mo]
            constructor
            · rintro ⟨e, he, hq⟩
              exact ⟨e.2, lvl_mem.mp (bx6 e he).2, hq⟩
            · rintro ⟨r, hr, hq⟩
              obtain ⟨e, he, rfl⟩ := List.mem_map.mp (cov2 r (lvl_mem.mpr hr))
              exact ⟨e, he, hq⟩

end
end Fm
namespace Fm
open PySem PySem.Spec PyProof.Rows L2
section
variable {P : Program} {w : World} {K : PySem.W.Frag} {mg : Str → Option Value} {base : Heap}

/-! ### the edges, and that going along them gives the shares -/
theorem intoE_map {α : Type} (X : Box → Int) (q : Box) (f : α → Edge) : ∀ l : List α, intoE X (l.map f) q = (l.map fun a => if (f a).2.1 = q then X (f a).1 * (f a).2.2 else 0).sum
  | [] => rfl
  | a :: l => by rw [List.map_cons, List.map_cons, List.sum_cons, intoE_cons, intoE_map X q f l]
def edP (ss : List Int) (r : Box) (x : Int × Int) : List Edge := if x.1 = -1 then [] else (withB ss r x.1).map fun b => (r, b, x.2)
def edL (ct : List Int) (r : Box) (x : Int × Int) : List Edge := if x.1 = -1 then [] else [(r, lat r x.1 (ct.getD x.1.toNat 0), x.2)]
theorem edP_in {ss : List Int} {X : Box → Int} {q r : Box} {x : Int × Int} (bq : BoxOk ss q) (br : BoxOk ss r) (hx : -1 ≤ x.1 ∧ x.1 < ss.length ∧ x.1 ∉ r.1) : intoE X (edP ss r x) q = if x.1 ∈ q.1 ∧ r = delB q x.1 then X r * x.2 else 0 := by
  unfold edP
  by_cases c0 : x.1 = -1
  · rw [if_pos c0, if_neg fun z => by
      have := bq.1.mem x.1 z.1
      omega]
    rfl
  · rw [if_neg c0]
    unfold withB
    rw [List.map_map, intoE_map]
    by_cases h : x.1 ∈ q.1 ∧ r = delB q x.1
    · rw [if_pos h]
      obtain ⟨h1, h2⟩ := h
      obtain ⟨v0, v1⟩ := val_ok bq h1
      have key : ∀ w : Nat, lat r x.1 w = q ↔ w = (valB q x.1).toNat := fun w => by
        constructor
        · intro e
          have z : lat r x.1 w = lat r x.1 (valB q x.1) := by
            rw [e, h2, lat_del (asc_up bq.1) h1 (box_len bq)]
          have := lat_inj hx.2.2 (box_len br) z
          omega
        · intro e
          have e2 : ((w : Nat) : Int) = valB q x.1 := by omega
          rw [e2, h2, lat_del (asc_up bq.1) h1 (box_len bq)]
      have z := sum_one (fun _ : Nat => X r * x.2) (a := (valB q x.1).toNat) (as := List.range (ss.getD x.1.toNat 0).toNat) List.nodup_range
      rw [if_pos (List.mem_range.mpr (by omega))] at z
      rw [← z]
      refine sum_same fun w _ => ?_
      show (if lat r x.1 w = q then X r * x.2 else 0) = _
      by_cases e : w = (valB q x.1).toNat
      · rw [if_pos e, if_pos ((key w).mpr e)]
      · rw [if_neg e, if_neg fun y => e ((key w).mp y)]
    · rw [if_neg h]
      refine sum_all0 fun w _ => ?_
      show (if lat r x.1 w = q then X r * x.2 else 0) = 0
      rw [if_neg fun y => h ((lat_iff bq br hx.2.2).mp ⟨w, y⟩)]
theorem edL_in {ss ct : List Int} {X : Box → Int} {q r : Box} {x : Int × Int} (bq : BoxOk ss q) (br : BoxOk ss r) (hq : q = boxAt q.1 ct) (hx : -1 ≤ x.1 ∧ x.1 < ss.length ∧ x.1 ∉ r.1) : intoE X (edL ct r x) q = if x.1 ∈ q.1 ∧ r = delB q x.1 then X r * x.2 else 0 := by
  unfold edL
  by_cases c0 : x.1 = -1
  · rw [if_pos c0, if_neg fun z => by
      have := bq.1.mem x.1 z.1
      omega]
    rfl
  · rw [if_neg c0, intoE_cons]
    show (if lat r x.1 (ct.getD x.1.toNat 0) = q then X r * x.2 else 0) + 0 = _
    rw [Int.add_zero]
    by_cases h : x.1 ∈ q.1 ∧ r = delB q x.1
    · rw [if_pos h, if_pos]
      obtain ⟨h1, h2⟩ := h
      have e : delB q x.1 = boxAt (q.1.erase x.1) ct := by
        conv => lhs; rw [hq]
        exact del_at x.1
      rw [h2, e, lat_at, erase_insA (asc_up bq.1) h1, ← hq]
    · rw [if_neg h, if_neg fun y => h ((lat_iff bq br hx.2.2).mp ⟨_, y⟩)]
def init18 (q : Box) : Int := if q = START then 1 else 0
theorem FF_uniq {M : MovT} {S : Box → Prop} {G : Box → Int} (hS : ∀ q, S q → ∀ c ∈ q.1, S (delB q c)) (h0 : ∀ q, S q → q.1 = [] → G q = 1) (h1 : ∀ q, S q → q.1 ≠ [] → G q = inS M G q) : ∀ (n : Nat) (q : Box), q.1.length = n → S q → G q = FF M q := by
  intro n
  induction n with
  | zero =>
    intro q hq ok
    have e := List.length_eq_zero_iff.mp hq
    rw [h0 q ok e, FF_zero e]
  | succ n ih =>
    intro q hq ok
    have ne : q.1 ≠ [] := fun e => by rw [e] at hq; cases hq
    rw [h1 q ok ne, FF_step ne]
    refine sum_same fun c hc => ?_
    have := del_len hc
    rw [ih (delB q c) (by omega) (hS q ok c hc)]
theorem go_FF {ss : List Int} {M : MovT} (mo : MovOk ss M) {S : Box → Prop} {ks : List Box} {edm : Box → Int × Int → List Edge} (nd : ks.Nodup) (srt : ks.Pairwise fun a b => a.1.length ≤ b.1.length) (kk : ∀ r ∈ ks, r ∈ M.map (·.1))
    (src : ∀ r x, ∀ e ∈ edm r x, e.1 = r ∧ e.2.1.1.length = r.1.length + 1)
    (hS : ∀ q, S q → BoxOk ss q ∧ ∀ c ∈ q.1, S (delB q c)) (hed : ∀ (X : Box → Int) (q r : Box) (x : Int × Int), S q → BoxOk ss r → r ∈ ks → (-1 ≤ x.1 ∧ x.1 < ss.length ∧ x.1 ∉ r.1) → intoE X (edm r x) q = if x.1 ∈ q.1 ∧ r = delB q x.1 then X r * x.2 else 0)
    (hall : ∀ q, S q → q ∈ M.map (·.1) → q ∈ ks) {q : Box} (hq : S q) : goE init18 (ks.flatMap fun r => (mvOf M r).flatMap (edm r)) q = FF M q := by
  have inn : ∀ e ∈ ks.flatMap fun r => (mvOf M r).flatMap (edm r), ∃ r ∈ ks, e.1 = r ∧ e.2.1.1.length = r.1.length + 1 := fun e he => by
    obtain ⟨r, hr, h2⟩ := List.mem_flatMap.mp he
    obtain ⟨x, hx, h3⟩ := List.mem_flatMap.mp h2
    exact ⟨r, hr, src r x e h3⟩
  have ord : OrdE (ks.flatMap fun r => (mvOf M r).flatMap (edm r)) := by
    refine ordE_of (fun e he => ?_) ?_
    · obtain ⟨r, _, h1, h2⟩ := inn e he
      rw [h2, h1]
    · refine List.pairwise_flatMap.mpr ⟨fun r _ => ?_, srt.imp fun {a b} h e he e' he' => ?_⟩
      · refine List.Pairwise.imp_of_mem (R := fun _ _ => True) (fun {e e'} he he' _ => ?_) (List.pairwise_of_forall (fun _ _ => trivial))
        obtain ⟨x, _, h3⟩ := List.mem_flatMap.mp he
        obtain ⟨x', _, h3'⟩ := List.mem_flatMap.mp he'
        rw [(src r x e h3).1, (src r x' e' h3').1]
        exact Nat.le_refl _
      · obtain ⟨x, _, h3⟩ := List.mem_flatMap.mp he
        obtain ⟨x', _, h3'⟩ := List.mem_flatMap.mp he'
        rw [(src a x e h3).1, (src b x' e' h3').1]
        exact h
  refine FF_uniq (S := S) (fun q h => (hS q h).2) (fun q h e => ?_) (fun q h ne => ?_) _ q rfl hq
  · have es : q = START := (zero_level mo).mp ⟨?_, by rw [e]; rfl⟩
    · rw [es, goE_other]
      · rfl
      · intro x hx z
        obtain ⟨r, _, _, h2⟩ := inn x hx
        rw [z] at h2
        cases h2
    · have bl := box_len (hS q h).1
      rw [e] at bl
      have : q = START := Prod.ext e (List.length_eq_zero_iff.mp bl)
      rw [this]
      exact mo.start
  · rw [goE_fix ord]
    have i0 : init18 q = 0 := by
      unfold init18
      rw [if_neg fun z => ne (by rw [z]; rfl)]
    rw [i0, Int.zero_add]
    refine into_in nd (up_nodup (asc_up (hS q h).1.1)) (fun r hr x hx => ?_) (fun c hc hno => ?_)
    · obtain ⟨m, hm, rfl⟩ := List.mem_map.mp (kk r hr)
      have hx' := hx
      rw [mvOf_mem mo.nd hm] at hx'
      exact hed _ q m.1 x h (mo.box m hm) hr ((mo.mv m hm).col x hx')
    · exact wt_out (fun z => hno (hall _ ((hS q h).2 c hc) z)) c
theorem edP_src {ss : List Int} {r : Box} {x : Int × Int} : ∀ e ∈ edP ss r x, e.1 = r ∧ e.2.1.1.length = r.1.length + 1 := fun e he => by
  unfold edP at he
  by_cases c0 : x.1 = -1
  · rw [if_pos c0] at he
    cases he
  · rw [if_neg c0] at he
    obtain ⟨b, hb, rfl⟩ := List.mem_map.mp he
    obtain ⟨w, _, _, rfl⟩ := with_mem.mp hb
    exact ⟨rfl, lat_len _ _ _⟩
theorem edL_src {ct : List Int} {r : Box} {x : Int × Int} : ∀ e ∈ edL ct r x, e.1 = r ∧ e.2.1.1.length = r.1.length + 1 := fun e he => by
  unfold edL at he
  by_cases c0 : x.1 = -1
  · rw [if_pos c0] at he
    cases he
  · rw [if_neg c0] at he
    rw [List.mem_singleton.mp he]
    exact ⟨rfl, lat_len _ _ _⟩
/-- the program's way -/
theorem goP_FF {ss : List Int} {M : MovT} (mo : MovOk ss M) {ks : List Box} (pm : ks.Perm (M.map (·.1))) (srt : ks.Pairwise fun a b => a.1.length ≤ b.1.length) {q : Box} (hq : BoxOk ss q) : goE init18 (ks.flatMap fun r => (mvOf M r).flatMap (edP ss r)) q = FF M q :=
  go_FF mo (S := BoxOk ss) (pm.nodup_iff.mpr mo.nd) srt (fun r hr => pm.mem_iff.mp hr) (fun r x => edP_src) (fun q h => ⟨h, fun c _ => del_ok h⟩) (fun X q r x h br _ hx => edP_in h br hx) (fun q _ h => pm.mem_iff.mpr h) hq
/-- the law's way, within one content -/
theorem goL_FF {ss ct : List Int} {M : MovT} (mo : MovOk ss M) {ks : List Box} (nd : ks.Nodup) (srt : ks.Pairwise fun a b => a.1.length ≤ b.1.length) (mem : ∀ r, r ∈ ks ↔ r ∈ M.map (·.1) ∧ r = boxAt r.1 ct) {q : Box} (hq : BoxOk ss q) (hc : q = boxAt q.1 ct) : goE init18 (ks.flatMap fun r => (mvOf M r).flatMap (edL ct r)) q = FF M q :=
  go_FF mo (S := fun q => BoxOk ss q ∧ q = boxAt q.1 ct) nd srt (fun r hr => ((mem r).mp hr).1) (fun r x => edL_src) (fun q h => ⟨h.1, fun c _ => ⟨del_ok h.1, by
    have e : delB q c = boxAt (q.1.erase c) ct := by
      conv => lhs; rw [h.2]
      exact del_at c
    rw [e]
    rfl⟩⟩) (fun X q r x h br _ hx => edL_in h.1 br h.2 hx) (fun q h hk => (mem q).mpr ⟨hk, h.2⟩) ⟨hq, hc⟩

end
end Fm
namespace Fm
open PySem PySem.Spec PyProof.Rows L2
section
variable {P : Program} {w : World} {K : PySem.W.Frag} {mg : Str → Option Value} {base : Heap}

/-! ### the asker -/
abbrev afs (v1 v2 : V) : List (Str × V) := putF "moves" v2 (putF "sizes" v1 [])
theorem sqT_ins {H H' : Hp} {a x : Addr} {xs : List V} {C dx : Addr} {fs : List (Str × V)} (hx : H x = some (.ins C dx fs)) (sb : ∀ b o, b ≠ x → H b = some o → H' b = some o) (h : SqT K H a xs) : SqT K H' a xs := by
  rcases h with (h | ⟨u, h⟩) | h
  · exact .inl (.inl (sb _ _ (ne_of h hx fun e => by cases e) h))
  · exact .inl (.inr ⟨u, sb _ _ (ne_of h hx fun e => by cases e) h⟩)
  · exact .inr h
theorem findB_self {H : Hp} {L : BoxL} {M : MovT} (ma : MvAt K H L M) (nd : (M.map (·.1)).Nodup) {e : Addr × Box × V} (he : e ∈ L) : findB L e.2.1 = some e.2.2 := by
  obtain ⟨e', he', e1, e2⟩ := findB_in (L := L) (q := e.2.1) (List.mem_map.mpr ⟨e, he, rfl⟩)
  rw [← ma.keys] at nd
  have z : e' = e := by
    obtain ⟨i, hi⟩ := List.mem_iff_getElem?.mp he'
    obtain ⟨j, hj⟩ := List.mem_iff_getElem?.mp he
    have h1 : (L.map (·.2.1))[i]? = some e.2.1 := by rw [List.getElem?_map, hi, ← e1]; rfl
    have h2 : (L.map (·.2.1))[j]? = some e.2.1 := by rw [List.getElem?_map, hj]; rfl
    have ij : i = j := (List.getElem?_inj (by rw [List.length_map]; exact (List.getElem?_eq_some_iff.mp hi).1) nd).mp (h1.trans h2.symm)
    rw [ij, hj] at hi
    exact (Option.some.inj hi).symm
  rw [e2, z]
def spAsk (K : PySem.W.Frag) (P : Program) (w : World) (C : Addr) : Sp := fun vs H Q _ => ∃ (x dx sz mv : Addr) (ss : List Int) (L : BoxL) (M : MovT), vs = [.ref x, .ref sz, .ref mv] ∧ H x = some (.ins C dx []) ∧ SqT K H sz (ss.map V.int) ∧ SizesOk ss ∧ H mv = some (DBO P w mv L) ∧ MvAt K H L M ∧ MovOk ss M ∧ M.length ≤ 1000 ∧ (∀ k, (lvl M k).length ≤ 31) ∧
  ∀ md H', H md = none → H' x = some (.ins C dx (afs (.ref sz) (.ref md))) → H' md = some (DBO P w md L) → (∀ b o, b ≠ x → H b = some o → H' b = some o) → Q .non H'
theorem ok_Asker_init (T : Txt K mg) : FnOk P w K mg base CX0 6 T.f_Asker_init T.d_Asker_init ["self", "sizes", "moves"] (spAsk K P w T.c_Asker) := by
  refine T.F_Asker_init.ok sc_Asker_init (fun vs H Q E h => ?_) (fun cdv A outer s H vs Q E hr h => ?_)
  · obtain ⟨_, _, _, _, _, _, _, rfl, _⟩ := h
    rfl
  · obtain ⟨x, dx, sz, mv, ss, L, M, rfl, hx, hsz, ok, hm, ma, mo, few, lv, q⟩ := h
    have ok' : (ctD ss).isSizes = true := ok
    have ll : L.length = M.length := by
      have := congrArg List.length ma.keys
      rwa [List.length_map, List.length_map] at this
    refine ⟨_, (pss_cons (ps_if (pt_not (pt_val (pe_call (ok_is_sizes T) (hr.mono (by decide)) (by rfl) T.g_is_sizes T.F_is_sizes.kp T.b_is_sizes .nil pass0 (pa_cons (pv 1) pa_nil)))) (pss_one ps_never) pss_nil)
      (pss_cons (ps_if (pt_not (pt_val (pe_call (ok_is_stands (P := P) (w := w) T) (hr.mono (by decide)) (by rfl) T.g_is_stands T.F_is_stands.kp T.b_is_stands .nil pass0 (pa_cons (pv 1) (pa_cons (pv 2) pa_nil))))) (pss_one ps_never) pss_nil)
      (pss_cons (ps_set (i := 3) sc_Asker_init.nd rfl (.inl rfl) (pe_call (ok_wrong_stand (P := P) (w := w) T) hr (by rfl) T.g_wrong_stand T.F_wrong_stand.kp T.b_wrong_stand .nil pass0 (pa_cons (pv 1) (pa_cons (pv 2) pa_nil))))
      (pss_cons (ps_if (pt_cmpR op_notN (pv 3) pe_non (nomark _)) (pss_one ps_never) pss_nil)
      (pss_cons (ps_fld (pv 0) (pv 1) rfl)
      (pss_one (ps_fld (pv 0) (pe_lock (pe_dcB (K := K) (P := P) (w := w) (own := [("stand", 4)]) rfl hr.units sc_Asker_init.nd (pi_keysB (P := P) (w := w) (pv 2)) (blkOk_by (N := N_Asker_init) (sc := defScope s_Asker_init) (by decide +kernel)) (fun _ _ _ _ _ => (pg_name (i := 4) sc_Asker_init.nd rfl (.inl rfl))) (fun _ _ _ _ _ => (pv 4)) (fun _ _ _ _ _ => (pe_dgetBR (K := K) (P := P) (w := w) hr.units (pv 2) (pv 4) (fun _ _ => rfl))))) rfl))))))), ?_⟩
    refine ⟨_, rfl, spD_bl (.cons (dh_ct hsz) .nil) rfl fun H1 s1 => ⟨_, rfl, ?_⟩⟩
    rw [ok']
    refine iteF ?_
    have hm1 := s1 _ _ hm
    refine ⟨_, rfl, _, rfl, sz, mv, ss, L, M, rfl, (Ext.of s1).sqT hsz, ok, hm1, ma.ext (.of s1), mo.box, mo.start, few, fun H2 s2 => ⟨_, rfl, iteF ?_⟩⟩
    have s12 := s1.trans s2
    refine ⟨_, rfl, _, rfl, sz, mv, ss, L, M, rfl, (Ext.of s12).sqT hsz, ok, s12 _ _ hm, ma.ext (.of s12), mo, few, lv, fun H3 s3 => ?_⟩
    have s13 := s12.trans s3
    refine ⟨_, rfl, rfl, _, rfl, ?_⟩
    rw [decide_eq_true (show V.non = V.non from rfl)]
    refine iteF ?_
    have hx3 := s13 _ _ hx
    refine ⟨_, rfl, _, rfl, x, T.c_Asker, dx, _, rfl, hx3, T.l_Asker, T.aq_sizes, by show 0 < 1000; decide, ?_⟩
    have nxm : mv ≠ x := ne_of hm hx fun e => by
      unfold DBO at e
      cases e
    have fr4 : ∀ b o, b ≠ x → H b = some o → (upd H3 x (.ins T.c_Asker dx (putF "sizes" (.ref sz) []))) b = some o := fun b o nb e => by
      rw [upd_ne nb]
      exact s13 _ _ e
    have hx4 : (upd H3 x (.ins T.c_Asker dx (putF "sizes" (.ref sz) []))) x = some (.ins T.c_Asker dx (putF "sizes" (.ref sz) [])) := upd_same
    generalize upd H3 x (.ins T.c_Asker dx (putF "sizes" (.ref sz) [])) = H4 at fr4 hx4
    have hm4 := fr4 _ _ nxm hm
    have ma4 : MvAt K H4 L M := ma.mv fun h => sqT_ins hx fr4 h
    refine ⟨mv, _, hm4, trivial, fun od => ?_⟩
    have mvf : ∀ {a : Addr} {xs : List V}, SqT K H4 a xs → SqT K (upd H4 mv (.frz od (DBO P w mv L))) a xs := fun h => lock_in hm4 h
    have hmf : (upd H4 mv (.frz od (DBO P w mv L))) mv = some (.frz od (DBO P w mv L)) := upd_same
    refine ⟨_, rfl, mv, od, L, rfl, hmf, fun D nD => dc_keysB (fun j H' => Same (upd H4 mv (.frz od (DBO P w mv L))) H' ∧ H' D = some (DBO P w D (L.take j))) ⟨same_new nD, upd_same⟩ (fun j H' g => g.1 _ _ hmf) ?_ ?_⟩
    · rintro j e H5 he ⟨sm, hD⟩
      have em := List.mem_of_getElem? he
      have jl := (List.getElem?_eq_some_iff.mp he).1
      have ma5 : MvAt K H5 L M := (ma4.mv mvf).ext (.of sm)
      have et : L.take (j + 1) = L.take j ++ [e] := by rw [List.take_add_one, he]; rfl
      refine ⟨rfl, ?_⟩
      refine ⟨_, rfl, _, rfl, _, rfl, mv, e.1, e.2.1, L, e.2.2, rfl, rfl, .inr ⟨_, sm _ _ hmf⟩, ma5.box, ma5.box e em, findB_self ma mo.nd em, ?_⟩
      refine ⟨e.1, e.2.1, L.take j, rfl, ma5.box e em, hD, fun p hp => ma5.box p (List.mem_of_mem_take hp), fun p hp z => ?_, ?_, Same.put nD sm, ?_⟩
      · have nd := mo.nd
        rw [← ma.keys] at nd
        obtain ⟨i, hi⟩ := List.mem_iff_getElem?.mp hp
        have il := (List.getElem?_eq_some_iff.mp hi).1
        rw [List.length_take] at il
        rw [List.getElem?_take_of_lt (by omega)] at hi
        have h1 : (L.map (·.2.1))[i]? = some e.2.1 := by rw [List.getElem?_map, hi, ← z]; rfl
        have h2 : (L.map (·.2.1))[j]? = some e.2.1 := by rw [List.getElem?_map, he]; rfl
        have ij : i = j := (List.getElem?_inj (by rw [List.length_map]; omega) nd).mp (h1.trans h2.symm)
        omega
      · rw [List.length_take]
        omega
      · rw [upd_same, et]
    · rintro H5 ⟨sm, hD⟩
      rw [List.take_length] at hD
      refine ⟨sm _ _ hmf, ?_⟩
      have sb := lock_back hm4 sm
      have nDm : D ≠ mv := fun z => by rw [z, hmf] at nD; cases nD
      have nDx : D ≠ x := fun z => by
        rw [z, upd_ne (Ne.symm nxm), hx4] at nD
        cases nD
      have nD0 : H D = none := by
        cases z : H D with
        | none => rfl
        | some u =>
          have := fr4 _ _ nDx z
          rw [upd_ne nDm, this] at nD
          cases nD
      refine ⟨_, rfl, x, T.c_Asker, dx, _, rfl, sb _ _ hx4, T.l_Asker, T.aq_moves, by show 1 < 1000; decide, ?_⟩
      refine q D _ nD0 upd_same ?_ fun b o nb e => ?_
      · rw [upd_ne nDx, upd_ne nDm]
        exact hD
      · rw [upd_ne nb]
        exact sb _ _ (fr4 _ _ nb e)

end
end Fm
namespace Fm
open PySem PySem.Spec PyProof.Rows L2
section
variable {P : Program} {w : World} {K : PySem.W.Frag} {mg : Str → Option Value} {base : Heap}

/-! ### a dict from stands to shares -/
structure ValG (K : PySem.W.Frag) (H : Hp) (Lf : BoxL) (M : MovT) (g : Box → Int) : Prop where
  keys : Lf.map (·.2.1) = M.map (·.1)
  box : BoxesAt K H Lf
  val : ∀ e ∈ Lf, Dh K H e.2.2 (frD (lowZ (g e.2.1) (D18 ^ e.2.1.1.length)))
theorem plain_fr (p : Int × Int) : (frD p).plain = true := plain_ct _
theorem ValG.mv {H H' : Hp} {Lf : BoxL} {M : MovT} {g : Box → Int} (mv : ∀ {a : Addr} {xs : List V}, SqT K H a xs → SqT K H' a xs) (h : ValG K H Lf M g) : ValG K H' Lf M g := ⟨h.keys, fun e he => (h.box e he).mvs mv, fun e he => (h.val e he).mv mv (plain_fr _)⟩
theorem ValG.ext {H H' : Hp} {Lf : BoxL} {M : MovT} {g : Box → Int} (e : Ext H H') (h : ValG K H Lf M g) : ValG K H' Lf M g := h.mv e.sqT
theorem ValG.look {H : Hp} {Lf : BoxL} {M : MovT} {g : Box → Int} (h : ValG K H Lf M g) {q : Box} (hq : q ∈ M.map (·.1)) : ∃ v, findB Lf q = some v ∧ Dh K H v (frD (lowZ (g q) (D18 ^ q.1.length))) := by
  rw [← h.keys] at hq
  obtain ⟨e, he, e1, e2⟩ := findB_in hq
  exact ⟨_, e2, e1 ▸ h.val e he⟩
theorem ValG.put {H : Hp} {Lf : BoxL} {M : MovT} {g : Box → Int} (h : ValG K H Lf M g) {b : Addr} {q : Box} {v : V} {y : Int} (hb : BoxAt K H b q) (hq : q ∈ M.map (·.1)) (hv : Dh K H v (frD (lowZ y (D18 ^ q.1.length)))) :
    ValG K H (storeB Lf b q v) M (fun x => if x = q then y else g x) := by
  have hs : (findB Lf q).isSome = true := isS_iff.mpr (by rw [h.keys]; exact hq)
  refine ⟨by rw [store_keys, if_pos hs]; exact h.keys, store_boxes h.box hb, fun e he => ?_⟩
  unfold storeB at he
  rw [if_pos hs] at he
  obtain ⟨p, hp, e1⟩ := List.mem_map.mp he
  by_cases z : p.2.1 = q
  · rw [if_pos z] at e1
    subst e1
    show Dh K H v (frD (lowZ (if p.2.1 = q then y else g p.2.1) (D18 ^ p.2.1.1.length)))
    rw [if_pos z, z]
    exact hv
  · rw [if_neg z] at e1
    subst e1
    rw [if_neg z]
    exact h.val p hp
theorem ValG.congr {H : Hp} {Lf : BoxL} {M : MovT} {g g' : Box → Int} (h : ValG K H Lf M g) (e : ∀ q ∈ M.map (·.1), g q = g' q) : ValG K H Lf M g' := ⟨h.keys, h.box, fun x hx => by
  rw [← e x.2.1 (by rw [← h.keys]; exact List.mem_map.mpr ⟨x, hx, rfl⟩)]
  exact h.val x hx⟩
theorem init_nn (q : Box) : 0 ≤ init18 q := by
  unfold init18
  split <;> decide
theorem edges_nn {ss : List Int} {M : MovT} (mo : MovOk ss M) (S : List Box) (edm : Box → Int × Int → List Edge) (hw : ∀ r x, ∀ e ∈ edm r x, e.2.2 = x.2) : ∀ e ∈ S.flatMap fun r => (mvOf M r).flatMap (edm r), 0 ≤ e.2.2 := fun e he => by
  obtain ⟨r, _, h2⟩ := List.mem_flatMap.mp he
  obtain ⟨x, hx, h3⟩ := List.mem_flatMap.mp h2
  rw [hw r x e h3]
  have := ((mo.mvs r).1 x hx).1
  omega
/-- what has come so far -/
theorem part_le {ss : List Int} {M : MovT} (mo : MovOk ss M) (s5 : ss.length ≤ 5) {E P R : List Edge} (hE : E = P ++ R) (nn : ∀ e ∈ E, 0 ≤ e.2.2) {q : Box} (hq : BoxOk ss q) (hF : goE init18 E q = FF M q) : 0 ≤ goE init18 P q ∧ goE init18 P q ≤ 120 * D18 ^ q.1.length := by
  have n1 : ∀ e ∈ P, 0 ≤ e.2.2 := fun e he => nn e (by rw [hE]; exact List.mem_append_left _ he)
  have n2 : ∀ e ∈ R, 0 ≤ e.2.2 := fun e he => nn e (by rw [hE]; exact List.mem_append_right _ he)
  have h0 : ∀ x, 0 ≤ goE init18 P x := fun x => Int.le_trans (init_nn x) (goE_mono init_nn n1 x)
  refine ⟨h0 q, ?_⟩
  have h1 := goE_mono h0 n2 q
  rw [← goE_app, ← hE, hF] at h1
  have pl := hq.1.len (by omega)
  exact Int.le_trans h1 (mo.FF_le (by omega))
theorem d18_nat (k : Nat) : D18 ^ k = ((2520 ^ k : Nat) : Int) := by
  unfold D18
  rw [Int.natCast_pow]
  rfl
theorem fr18 {t : Int} {k : Nat} (h0 : 0 ≤ t) (h1 : t ≤ 120 * D18 ^ k) : Fr 120 (2520 ^ k) (lowZ t (D18 ^ k)) := by
  have p : (0 : Int) < D18 ^ k := Int.pow_pos (by decide)
  exact low_fr p (by rw [d18_nat]; exact Int.le_refl _) h0 h1
theorem pow18 : ∀ k, k ≤ 6 → 2520 ^ k * 2520 ^ k ≤ top300 ∧ 2520 ^ k * 2520 ≤ top300 := by decide +kernel
/-- one step of an edge: what is added, and that its numbers are small -/
theorem step_low {x y a : Int} {k : Nat} (x0 : 0 ≤ x) (y0 : 0 ≤ y) (a0 : 0 ≤ a) : plusZ (lowZ y (D18 ^ (k + 1))) (timesZ (lowZ x (D18 ^ k)) (lowZ a D18)) = lowZ (y + x * a) (D18 ^ (k + 1)) := by
  have p : (0 : Int) < D18 ^ k := Int.pow_pos (by decide)
  have p' : (0 : Int) < D18 ^ (k + 1) := Int.pow_pos (by decide)
  rw [times_low p (by decide) x0 a0, ← Int.pow_succ, plus_low p' y0 (Int.mul_nonneg x0 a0)]
theorem step_fr {x a : Int} {k : Nat} (x0 : 0 ≤ x) (x1 : x ≤ 120 * D18 ^ k) (a0 : 1 ≤ a) (a1 : a ≤ D18) : Fr 120 (2520 ^ (k + 1)) (timesZ (lowZ x (D18 ^ k)) (lowZ a D18)) := by
  have p : (0 : Int) < D18 ^ k := Int.pow_pos (by decide)
  rw [times_low p (by decide) x0 (by omega), ← Int.pow_succ]
  refine fr18 (Int.mul_nonneg x0 (by omega)) ?_
  rw [Int.pow_succ, ← Int.mul_assoc]
  exact Int.mul_le_mul x1 a1 (by omega) (Int.mul_nonneg (by decide) (Int.le_of_lt p))

end
end Fm
namespace Fm
open PySem PySem.Spec PyProof.Rows L2
section
variable {P : Program} {w : World} {K : PySem.W.Frag} {mg : Str → Option Value} {base : Heap}

theorem flat_split {α β : Type} (f : α → List β) {l : List α} {i : Nat} {a : α} (h : l[i]? = some a) : l.flatMap f = (l.take i).flatMap f ++ (f a ++ (l.drop (i + 1)).flatMap f) := by
  have hl := (List.getElem?_eq_some_iff.mp h).1
  have e : l = l.take i ++ a :: l.drop (i + 1) := by
    obtain ⟨h1, h2⟩ := List.getElem?_eq_some_iff.mp h
    rw [← h2, ← List.drop_eq_getElem_cons h1, List.take_append_drop]
  conv => lhs; rw [e]
  rw [List.flatMap_append, List.flatMap_cons]
theorem flat_next {α β : Type} (f : α → List β) {l : List α} {i : Nat} {a : α} (h : l[i]? = some a) : (l.take (i + 1)).flatMap f = (l.take i).flatMap f ++ f a := by
  have e : l.take (i + 1) = l.take i ++ [a] := by rw [List.take_add_one, h]; rfl
  rw [e, List.flatMap_append, List.flatMap_cons, List.flatMap_nil, List.append_nil]
/-- at x: the asker with these sizes and moves -/
structure AskAt (K : PySem.W.Frag) (P : Program) (w : World) (C : Addr) (H : Hp) (x : Addr) (ss : List Int) (L : BoxL) (M : MovT) : Prop where
  ex : ∃ dx sz md, H x = some (.ins C dx (afs (.ref sz) (.ref md))) ∧ SqT K H sz (ss.map V.int) ∧ H md = some (DBO P w md L)
  ma : MvAt K H L M
  mo : MovOk ss M
  ok : SizesOk ss
  few : M.length ≤ 1000
theorem AskAt.same {C : Addr} {H H' : Hp} {x : Addr} {ss : List Int} {L : BoxL} {M : MovT} (s : Same H H') (h : AskAt K P w C H x ss L M) : AskAt K P w C H' x ss L M := by
  obtain ⟨dx, sz, md, h1, h2, h3⟩ := h.ex
  exact ⟨⟨dx, sz, md, s _ _ h1, (Ext.of s).sqT h2, s _ _ h3⟩, h.ma.ext (.of s), h.mo, h.ok, h.few⟩
def spAllC (K : PySem.W.Frag) (P : Program) (w : World) (C : Addr) : Sp := fun vs H Q _ => ∃ (x : Addr) (ss : List Int) (L : BoxL) (M : MovT), vs = [.ref x] ∧ AskAt K P w C H x ss L M ∧
  ∀ fd Lf H', H fd = none → Same H H' → H' fd = some (DBO P w fd Lf) → ValG K H' Lf M (FF M) → Q (.ref fd) H'
theorem ok_all_coming (T : Txt K mg) : FnOk P w K mg base CX0 3 T.f_all_coming T.d_all_coming ["asker"] (spAllC K P w T.c_Asker) := by
  refine T.F_all_coming.ok sc_all_coming (fun vs H Q E h => ?_) (fun cdv A outer s H vs Q E hr h => ?_)
  · obtain ⟨_, _, _, _, rfl, _⟩ := h
    rfl
  · obtain ⟨x, ss, L, M, rfl, ask, q⟩ := h
    obtain ⟨dx, sz, md, hx, hsz, hmd⟩ := ask.ex
    have ma := ask.ma
    have mo := ask.mo
    have ok := ask.ok
    have few := ask.few
    obtain ⟨_, s5, _⟩ := ok.facts
    have ll : L.length = M.length := by
      have := congrArg List.length ma.keys
      rwa [List.length_map, List.length_map] at this
    refine ⟨_, (pss_cons (ps_lock (ps_setDcB (K := K) (P := P) (w := w) (i := 1) (own := [("stand", 2)]) rfl hr.units sc_all_coming.nd rfl rfl (sw_trueD rfl rfl rfl (by decide +kernel)) (pi_keysB (P := P) (w := w) (pe_fld (pv 0) rfl)) (blkOk_by (N := N_all_coming) (sc := defScope s_all_coming) (by decide +kernel)) (fun _ _ _ _ _ => (pg_name (i := 2) sc_all_coming.nd rfl (.inl rfl))) (fun _ _ _ _ _ => (pv 2)) (fun _ _ _ _ _ => (pe_glob (by rfl) T.g_ZERO (show L2.RelV (.ref T.v_ZERO) _ from rfl)))))
      (pss_cons (ps_dputR (K := K) (P := P) (w := w) hr.units (pv 1) (pe_glob (by rfl) T.g_START (show L2.RelV (.ref T.v_START) _ from rfl)) (pe_glob (by rfl) T.g_ONE (show L2.RelV (.ref T.v_ONE) _ from rfl)) rfl)
      (pss_cons (ps_for PassesOwn.never rfl (pi_listK K (pe_call (ok_by_columns T) (hr.mono (by decide)) (by rfl) T.g_by_columns T.F_by_columns.kp T.b_by_columns .nil pass0 (pa_cons (pe_callTy (call_listE (P := P) (w := w) rfl) (by rfl) T.z_list (by decide +kernel) (pa_cons (pe_fld (pv 0) rfl) pa_nil)) pa_nil))) (pg_name (i := 2) sc_all_coming.nd rfl (.inl rfl)) (pss_one (ps_for PassesOwn.never rfl (pi_tupK K (pe_dgetBR (K := K) (P := P) (w := w) hr.units (pe_fld (pv 0) rfl) (pv 2) (fun _ _ => rfl))) (pg_tupK K (n := 2) rfl (pgs_cons (pg_name (i := 3) sc_all_coming.nd rfl (.inl rfl)) (pgs_cons (pg_name (i := 4) sc_all_coming.nd rfl (.inl rfl)) pgs_nil))) (pss_one (ps_if (pt_cmpR op_ne (pv 3) (pe_glob (by rfl) T.k_STOP.1 T.k_STOP.2) (nomark _)) (pss_one (ps_for PassesOwn.never rfl (pi_listK K (pe_call (ok_boxes_with T) (hr.mono (by decide)) (by rfl) T.g_boxes_with T.F_boxes_with.kp T.b_boxes_with .nil pass0 (pa_cons (pe_fld (pv 0) rfl) (pa_cons (pv 2) (pa_cons (pv 3) pa_nil))))) (pg_name (i := 5) sc_all_coming.nd rfl (.inl rfl)) (pss_one (ps_dputR (K := K) (P := P) (w := w) hr.units (pv 1) (pv 5) (pe_call (ok_plus T) hr (by rfl) T.g_plus T.F_plus.kp T.b_plus .nil pass0 (pa_cons (pe_dgetBR (K := K) (P := P) (w := w) hr.units (pv 1) (pv 5) (fun _ _ => rfl)) (pa_cons (pe_call (ok_times T) hr (by rfl) T.g_times T.F_times.kp T.b_times .nil pass0 (pa_cons (pe_dgetBR (K := K) (P := P) (w := w) hr.units (pv 1) (pv 2) (fun _ _ => rfl)) (pa_cons (pv 4) pa_nil))) pa_nil))) rfl)))) pss_nil)))))
      (pss_one (ps_ret (pv 1)))))), ?_⟩
    have nxm : x ≠ md := ne_of hx hmd fun e => by
      unfold DBO at e
      cases e
    refine ⟨md, _, hmd, trivial, fun od => ?_⟩
    have mvf : ∀ {a : Addr} {xs : List V}, SqT K H a xs → SqT K (upd H md (.frz od (DBO P w md L))) a xs := fun h => lock_in hmd h
    have hmf : (upd H md (.frz od (DBO P w md L))) md = some (.frz od (DBO P w md L)) := upd_same
    have hxf : (upd H md (.frz od (DBO P w md L))) x = some (.ins T.c_Asker dx (afs (.ref sz) (.ref md))) := by rw [upd_ne nxm]; exact hx
    refine ⟨_, rfl, x, _, dx, _, _, rfl, hxf, T.l_Asker, T.aq_moves, rfl, md, od, L, rfl, hmf, fun D nD => dc_keysB (fun j H' => Same (upd H md (.frz od (DBO P w md L))) H' ∧ H' D = some (DBO P w D ((L.take j).map fun e => (e.1, e.2.1, .ref T.v_ZERO)))) ⟨same_new nD, upd_same⟩ (fun j H' g => g.1 _ _ hmf) ?_ ?_⟩
    · rintro j e H5 he ⟨sm, hD⟩
      have em := List.mem_of_getElem? he
      have jl := (List.getElem?_eq_some_iff.mp he).1
      have ma5 : MvAt K H5 L M := (ma.mv mvf).ext (.of sm)
      have et : L.take (j + 1) = L.take j ++ [e] := by rw [List.take_add_one, he]; rfl
      refine ⟨rfl, ?_⟩
      refine ⟨_, rfl, e.1, e.2.1, (L.take j).map fun e => (e.1, e.2.1, .ref T.v_ZERO), rfl, ma5.box e em, hD, fun p hp => ?_, fun p hp z => ?_, ?_, Same.put nD sm, ?_⟩
      · obtain ⟨p0, hp0, rfl⟩ := List.mem_map.mp hp
        exact ma5.box p0 (List.mem_of_mem_take hp0)
      · obtain ⟨p0, hp0, rfl⟩ := List.mem_map.mp hp
        have nd := mo.nd
        rw [← ma.keys] at nd
        obtain ⟨i, hi⟩ := List.mem_iff_getElem?.mp hp0
        have il := (List.getElem?_eq_some_iff.mp hi).1
        rw [List.length_take] at il
        rw [List.getElem?_take_of_lt (by omega)] at hi
        have h1 : (L.map (·.2.1))[i]? = some e.2.1 := by rw [List.getElem?_map, hi, ← z]; rfl
        have h2 : (L.map (·.2.1))[j]? = some e.2.1 := by rw [List.getElem?_map, he]; rfl
        have ij : i = j := (List.getElem?_inj (by rw [List.length_map]; omega) nd).mp (h1.trans h2.symm)
        omega
      · rw [List.length_map, List.length_take]
        omega
      · rw [upd_same, et, List.map_append]
        rfl
    · rintro H5 ⟨sm, hD⟩
      rw [List.take_length] at hD
      refine ⟨sm _ _ hmf, ?_⟩
      have sb := lock_back hmd sm
      have nDm : D ≠ md := fun z => by rw [z, hmf] at nD; cases nD
      have nD0 : H D = none := by
        rw [upd_ne nDm] at nD
        exact nD
      have hD6 : (upd H5 md (DBO P w md L)) D = some (DBO P w D (L.map fun e => (e.1, e.2.1, .ref T.v_ZERO))) := by rw [upd_ne nDm]; exact hD
      generalize upd H5 md (DBO P w md L) = H6 at sb hD6 ⊢
      have kf : (L.map fun e => ((e.1, e.2.1, .ref T.v_ZERO) : Addr × Box × V)).map (·.2.1) = M.map (·.1) := by
        rw [List.map_map, ← ma.keys]
        rfl
      have v0 : ValG K H6 (L.map fun e => (e.1, e.2.1, .ref T.v_ZERO)) M (fun _ => 0) := ⟨kf, fun e he => by
        obtain ⟨e0, he0, rfl⟩ := List.mem_map.mp he
        exact (ma.box e0 he0).ext (.of sb), fun e he => by
        obtain ⟨e0, he0, rfl⟩ := List.mem_map.mp he
        rw [low_zero (Int.pow_pos (by decide))]
        exact dh_ct (c := [0, 1]) (T.k_ZERO H6)⟩
      dsimp only [tSeq, tAsg, gName]
      refine ⟨_, rfl, D, T.v_START, START, _, rfl, rfl, hD6, v0.box, T.k_START H6, by rw [List.length_map]; omega, ?_⟩
      have v1 := v0.put (T.k_START H6) mo.start (v := .ref T.v_ONE) (y := 1) (dh_ct (c := [1, 1]) (T.k_ONE H6))
      have v1' : ValG K H6 (storeB (L.map fun e => (e.1, e.2.1, .ref T.v_ZERO)) T.v_START START (.ref T.v_ONE)) M init18 := v1.congr fun q _ => rfl
      have lS : (storeB (L.map fun e => ((e.1, e.2.1, .ref T.v_ZERO) : Addr × Box × V)) T.v_START START (.ref T.v_ONE)).length = M.length := by
        have z := congrArg List.length v1'.keys
        rwa [List.length_map, List.length_map] at z
      have v2 := v1'.mv fun h => sqT_but hD6 (fun b u nb e => by rw [upd_ne nb]; exact e) h (H' := upd H6 D (DBO P w D (storeB (L.map fun e => (e.1, e.2.1, .ref T.v_ZERO)) T.v_START START (.ref T.v_ONE))))
      have hD7 : (upd H6 D (DBO P w D (storeB (L.map fun e => (e.1, e.2.1, .ref T.v_ZERO)) T.v_START START (.ref T.v_ONE)))) D = some (DBO P w D (storeB (L.map fun e => (e.1, e.2.1, .ref T.v_ZERO)) T.v_START START (.ref T.v_ONE))) := upd_same
      have s7 : Same H (upd H6 D (DBO P w D (storeB (L.map fun e => (e.1, e.2.1, .ref T.v_ZERO)) T.v_START START (.ref T.v_ONE)))) := Same.put nD0 sb
      generalize upd H6 D (DBO P w D (storeB (L.map fun e => (e.1, e.2.1, .ref T.v_ZERO)) T.v_START START (.ref T.v_ONE))) = H7 at v2 hD7 s7 ⊢
      generalize storeB (L.map fun e => ((e.1, e.2.1, .ref T.v_ZERO) : Addr × Box × V)) T.v_START START (.ref T.v_ONE) = L7 at v2 hD7 lS
      clear v1 v1' v0 kf hD6 hD nD sm
      -- by columns
      refine ⟨_, rfl, x, _, dx, _, _, rfl, s7 _ _ hx, T.l_Asker, T.aq_moves, rfl, md, DBO P w md L, _, rfl, .inl (s7 _ _ hmd), isD_box.e, ?_, fun q1 nq1 => ?_⟩
      · unfold mixB
        rw [List.length_map, List.length_map]
        omega
      have exs : ((mixB L).map fun e => (e.1, e.2.2)).map (·.1) = L.map fun e => V.ref e.1 := by
        unfold mixB
        rw [List.map_map, List.map_map]
        rfl
      rw [exs]
      have s8 : Same H7 (upd H7 q1 (.lst (L.map fun e => V.ref e.1))) := same_new nq1
      have hq8 : (upd H7 q1 (.lst (L.map fun e => V.ref e.1))) q1 = some (.lst (L.map fun e => V.ref e.1)) := upd_same
      generalize upd H7 q1 (.lst (L.map fun e => V.ref e.1)) = H8 at s8 hq8 ⊢
      have s08 := s7.trans s8
      have dl : DhAll K H8 (L.map fun e => V.ref e.1) ((L.map (·.2.1)).map bxD) := by
        have z := data_of (K := K) (f := bxD) (H := H8) (cs := L.map fun e => (V.ref e.1, e.2.1)) fun b hb => by
          obtain ⟨e, he, rfl⟩ := List.mem_map.mp hb
          exact box_dh ((ma.box e he).ext (.of s08))
        have e1 : (L.map fun e => (V.ref e.1, e.2.1)).map (·.1) = L.map fun e => V.ref e.1 := by
          rw [List.map_map]
          rfl
        have e2 : (L.map fun e => (V.ref e.1, e.2.1)).map (·.2) = L.map (·.2.1) := by
          rw [List.map_map]
          rfl
        rw [e1, e2] at z
        exact z
      refine ⟨q1, _, L.map (·.2.1), rfl, SqL.of hq8, dl, by rw [List.length_map]; omega, fun F ys S H9 nF s9 hF hys pm srt => ?_⟩
      rw [ma.keys] at pm
      have s09 := s08.trans s9
      have yl := hys.length
      rw [List.length_map] at yl
      generalize hE : (S.flatMap fun r => (mvOf M r).flatMap (edP ss r)) = Ed
      have nnE : ∀ e ∈ Ed, 0 ≤ e.2.2 := by
        rw [← hE]
        refine edges_nn mo S _ fun r x e he => ?_
        unfold edP at he
        by_cases c0 : x.1 = -1
        · rw [if_pos c0] at he
          cases he
        · rw [if_neg c0] at he
          obtain ⟨b, _, rfl⟩ := List.mem_map.mp he
          rfl
      have toF : ∀ {q : Box}, BoxOk ss q → goE init18 Ed q = FF M q := fun hq => by
        rw [← hE]
        exact goP_FF mo pm srt hq
      have hD9 := s9 _ _ (s8 _ _ hD7)
      have v9 := v2.ext (.of (s8.trans s9))
      have nFD : F ≠ D := fun z => by rw [z, s8 _ _ hD7] at nF; cases nF
      refine ⟨F, rfl, ⟨_, SqL.of hF⟩, for_list (K := K) (xs := ys) (fun i σ H' => ∃ (y2 y3 y4 y5 : Option V) (Lf : BoxL), σ = [some (.ref x), some (.ref D), y2, y3, y4, y5] ∧ Same H H' ∧ (∀ b o, b ≠ D → H9 b = some o → H' b = some o) ∧ H' D = some (DBO P w D Lf) ∧ ValG K H' Lf M (goE init18 ((S.take i).flatMap fun r => (mvOf M r).flatMap (edP ss r)))) ?z1 ?l1 ?s1 ?d1⟩
      case z1 => exact ⟨none, none, none, none, L7, rfl, s09, fun _ _ _ e => e, hD9, v9⟩
      case l1 =>
        rintro i σ H' _ ⟨_, _, _, _, _, _, _, fr, _⟩
        exact SqL.of (fr F _ nFD hF)
      case d1 =>
        rintro σ H' ⟨_, _, _, _, Lf, rfl, s', fr, hD', vg⟩
        rw [yl, List.take_length, hE] at vg
        refine ⟨_, rfl, q D Lf H' nD0 s' hD' (vg.congr fun q' hq' => ?_)⟩
        obtain ⟨m, hm, rfl⟩ := List.mem_map.mp hq'
        exact toF (mo.box m hm)
      case s1 =>
        rintro i y σ H' hyi ⟨y2, y3, y4, y5, Lf, rfl, s', fr, hD', vg⟩
        obtain ⟨d, hd, hyd⟩ := hys.get hyi
        obtain ⟨r, hri, rfl⟩ := map_at hd
        obtain ⟨ra, rfl, hra⟩ := dh_box hyd
        have hra' : BoxAt K H' ra r := hra.mvs fun h => sqT_but hD9 fr h
        have rm := List.mem_of_getElem? hri
        have rk := pm.mem_iff.mp rm
        obtain ⟨m, hmm, hme⟩ := List.mem_map.mp rk
        have mok : MvOk ss.length r.1 (mvOf M r) := by
          rw [← hme, mvOf_mem mo.nd hmm]
          exact mo.mv m hmm
        have bok : BoxOk ss r := by
          rw [← hme]
          exact mo.box m hmm
        have ma' := ma.ext (.of s')
        obtain ⟨v, hv, dv⟩ := ma'.look rk
        obtain ⟨va, vxs, rfl, hva, hvx⟩ := dv.tup_inv
        have vl := hvx.length
        rw [List.length_map] at vl
        have split1 := flat_split (fun r => (mvOf M r).flatMap (edP ss r)) hri
        rw [hE] at split1
        generalize hP1 : (S.take i).flatMap (fun r => (mvOf M r).flatMap (edP ss r)) = P1 at vg split1
        generalize (S.drop (i + 1)).flatMap (fun r => (mvOf M r).flatMap (edP ss r)) = R1 at split1
        refine ⟨_, rfl, x, _, dx, _, _, rfl, s' _ _ hx, T.l_Asker, T.aq_moves, rfl, _, rfl, md, ra, r, L, .ref va, rfl, rfl, .inl (s' _ _ hmd), ma'.box, hra', hv, ?_⟩
        refine ⟨va, rfl, ⟨_, hva⟩, for_tup (K := K) (xs := vxs) (fun j σ H'' => ∃ (y3 y4 y5 : Option V) (Lf : BoxL), σ = [some (.ref x), some (.ref D), some (.ref ra), y3, y4, y5] ∧ Same H H'' ∧ (∀ b o, b ≠ D → H' b = some o → H'' b = some o) ∧ H'' D = some (DBO P w D Lf) ∧ ValG K H'' Lf M (goE init18 (P1 ++ ((mvOf M r).take j).flatMap (edP ss r)))) ?z2 ?l2 ?s2 ?d2⟩
        case z2 => exact ⟨y3, y4, y5, Lf, rfl, s', fun _ _ _ e => e, hD', by rw [List.take_zero, List.flatMap_nil, List.append_nil]; exact vg⟩
        case l2 =>
          rintro j σ H'' _ ⟨_, _, _, _, _, s'', _⟩
          exact sqT_but hD' (by rename_i h; exact h.1) hva
        case d2 =>
          rintro σ H'' ⟨y3, y4, y5, Lf, rfl, s'', fr2, hD'', vg2⟩
          rw [vl, List.take_length] at vg2
          refine ⟨_, _, _, _, Lf, rfl, s'', fun b o nb e => fr2 b o nb (fr b o nb e), hD'', ?_⟩
          rw [flat_next _ hri, hP1]
          exact vg2
        case s2 =>
          rintro j z σ H'' hzj ⟨y3, y4, y5, Lf, rfl, s'', fr2, hD'', vg2⟩
          obtain ⟨d2, hd2, hzd⟩ := hvx.get hzj
          obtain ⟨mc, hmj, rfl⟩ := map_at hd2
          have mm := List.mem_of_getElem? hmj
          obtain ⟨m1, m2, m3⟩ := mok.col mc mm
          obtain ⟨r1, r2⟩ := mok.part mc mm
          have mv2 : ∀ {a : Addr} {xs : List V}, SqT K H' a xs → SqT K H'' a xs := fun h => sqT_but hD' fr2 h
          obtain ⟨t, zs, rfl, ht, tl⟩ := (hzd.mv mv2 rfl).tup_inv
          obtain ⟨v1, v2, rfl, h1, h2⟩ := dh_two tl
          cases h1
          have split2 := flat_split (edP ss r) hmj
          rw [split2] at split1
          have next2 := flat_next (edP ss r) hmj
          generalize hP2 : ((mvOf M r).take j).flatMap (edP ss r) = P2 at vg2 split1 next2
          generalize ((mvOf M r).drop (j + 1)).flatMap (edP ss r) = R2 at split1
          rw [next2]
          refine ⟨t, _, rfl, ht, rfl, _, _, rfl, _, _, rfl, rfl, ?_⟩
          refine ⟨_, rfl, rfl, _, rfl, ?_⟩
          by_cases hc : mc.1 = -1
          · rw [decide_eq_true (show V.int mc.1 = V.int (-1) by rw [hc])]
            refine iteF ?_
            refine ⟨_, _, _, Lf, rfl, s'', fr2, hD'', ?_⟩
            unfold edP
            rw [if_pos hc, List.append_nil]
            exact vg2
          · rw [decide_eq_false (show ¬ V.int mc.1 = V.int (-1) from fun z => hc (V.int.inj z))]
            refine iteT ?_
            have hra2 := hra'.mvs mv2
            refine ⟨_, rfl, x, _, dx, _, _, rfl, s'' _ _ hx, T.l_Asker, T.aq_sizes, rfl, _, rfl, _, rfl, ?_⟩
            refine ⟨sz, ra, mc.1, ss, r, rfl, (Ext.of s'').sqT hsz, ok, hra2, bok, by omega, m2, fun F2 ws H3 nF2 s3 hF2 hws => ?_⟩
            have wl := hws.length
            rw [List.length_map] at wl
            have ewi : edP ss r mc = (withB ss r mc.1).map fun b => (r, b, mc.2) := by
              unfold edP
              rw [if_neg hc]
            rw [ewi] at split1 ⊢
            have nF2D : F2 ≠ D := fun z => by rw [z, hD''] at nF2; cases nF2
            have hD3 := s3 _ _ hD''
            refine ⟨F2, rfl, ⟨_, SqL.of hF2⟩, for_list (K := K) (xs := ws) (fun k σ G => ∃ (y5 : Option V) (Lf : BoxL), σ = [some (.ref x), some (.ref D), some (.ref ra), some (.int mc.1), some v2, y5] ∧ Same H G ∧ (∀ b o, b ≠ D → H3 b = some o → G b = some o) ∧ G D = some (DBO P w D Lf) ∧ ValG K G Lf M (goE init18 (P1 ++ (P2 ++ ((withB ss r mc.1).take k).map fun b => (r, b, mc.2))))) ?z3 ?l3 ?s3 ?d3⟩
            case z3 => exact ⟨y5, Lf, rfl, s''.trans s3, fun _ _ _ e => e, hD3, by rw [List.take_zero, List.map_nil, List.append_nil]; exact vg2.ext (.of s3)⟩
            case l3 =>
              rintro k σ G _ ⟨_, _, _, _, fr3, _⟩
              exact SqL.of (fr3 F2 _ nF2D hF2)
            case d3 =>
              rintro σ G ⟨y5, Lf, rfl, sG, fr3, hDG, vg3⟩
              have wl' : ws.length = (withB ss r mc.1).length := wl
              rw [wl', List.take_length] at vg3
              exact ⟨_, _, _, Lf, rfl, sG, fun b o nb e => fr3 b o nb (s3 _ _ (fr2 b o nb e)), hDG, vg3⟩
            case s3 =>
              rintro k y σ G hyk ⟨y5, Lf, rfl, sG, fr3, hDG, vg3⟩
              obtain ⟨d3, hd3, hyd3⟩ := hws.get hyk
              obtain ⟨b, hbk, rfl⟩ := map_at hd3
              have hbk : (withB ss r mc.1)[k]? = some b := hbk
              obtain ⟨ab, rfl, hab⟩ := dh_box hyd3
              have mv3 : ∀ {a : Addr} {xs : List V}, SqT K H3 a xs → SqT K G a xs := fun h => sqT_but hD3 fr3 h
              have habG := hab.mvs mv3
              have hraG := (hra2.ext (.of s3)).mvs mv3
              have h2G := (h2.ext (.of s3)).mv mv3 (plain_fr _)
              have bm := List.mem_of_getElem? hbk
              obtain ⟨wv, w0, w1, ebx⟩ := with_mem.mp bm
              have bk : b ∈ M.map (·.1) := by
                rw [ebx, ← hme]
                refine mo.shut m hmm mc ?_ hc wv w0 w1
                rw [← mvOf_mem mo.nd hmm, hme]
                exact mm
              have bl : b.1.length = r.1.length + 1 := by rw [ebx]; exact lat_len _ _ _
              have bbok : BoxOk ss b := by
                rw [ebx]
                exact lat_ok bok m3 (by omega) m2 w0 w1
              have nextk : ((withB ss r mc.1).take (k + 1)).map (fun b => (r, b, mc.2)) = ((withB ss r mc.1).take k).map (fun b => (r, b, mc.2)) ++ [(r, b, mc.2)] := by
                have e : (withB ss r mc.1).take (k + 1) = (withB ss r mc.1).take k ++ [b] := by rw [List.take_add_one, hbk]; rfl
                rw [e, List.map_append]
                rfl
              have splitk : (withB ss r mc.1).map (fun b => (r, b, mc.2)) = ((withB ss r mc.1).take k).map (fun b => (r, b, mc.2)) ++ ((withB ss r mc.1).drop k).map (fun b => (r, b, mc.2)) := by
                rw [← List.map_append, List.take_append_drop]
              have hpre : ∃ R, Ed = (P1 ++ (P2 ++ ((withB ss r mc.1).take k).map fun b => (r, b, mc.2))) ++ R := by
                refine ⟨((withB ss r mc.1).drop k).map (fun b => (r, b, mc.2)) ++ (R2 ++ R1), ?_⟩
                rw [split1, splitk]
                simp only [List.append_assoc]
              rw [nextk]
              generalize ((withB ss r mc.1).take k).map (fun b => (r, b, mc.2)) = P3 at vg3 hpre ⊢
              obtain ⟨R3, hR3⟩ := hpre
              have fold : goE init18 (P1 ++ (P2 ++ (P3 ++ [(r, b, mc.2)]))) = stepE (goE init18 (P1 ++ (P2 ++ P3))) (r, b, mc.2) := by
                rw [← List.append_assoc P2, ← List.append_assoc P1, goE_app]
                rfl
              rw [fold]
              obtain ⟨gr0, gr1⟩ := part_le mo s5 hR3 nnE bok (toF bok)
              obtain ⟨gb0, gb1⟩ := part_le mo s5 hR3 nnE bbok (toF bbok)
              generalize goE init18 (P1 ++ (P2 ++ P3)) = g at vg3 gr0 gr1 gb0 gb1 ⊢
              obtain ⟨vb, hvb, dvb⟩ := vg3.look bk
              obtain ⟨vr, hvr, dvr⟩ := vg3.look rk
              rw [bl] at dvb gb1
              have rl : r.1.length ≤ 5 := by
                have := bok.1.len (by omega)
                omega
              obtain ⟨fb, rfl, hfb⟩ := fr_inv dvb
              obtain ⟨fr', rfl, hfr⟩ := fr_inv dvr
              obtain ⟨fp, rfl, hfp⟩ := fr_inv h2G
              obtain ⟨pw1, pw2⟩ := pow18 (r.1.length + 1) (by omega)
              obtain ⟨_, pw3⟩ := pow18 r.1.length (by omega)
              refine ⟨_, rfl, _, rfl, D, ab, b, Lf, .ref fb, rfl, rfl, .inl hDG, vg3.box, habG, hvb, ?_⟩
              refine ⟨_, rfl, _, rfl, D, ra, r, Lf, .ref fr', rfl, rfl, .inl hDG, vg3.box, hraG, hvr, _, rfl, ?_⟩
              refine ⟨fr', fp, _, _, 120, 1, 2520 ^ r.1.length, 2520, rfl, hfr, hfp, fr18 gr0 gr1, (mv_share r1 r2).2.2, by decide, pw3, Nat.pos_of_ne_zero (by simp), by decide, fun v4 H4 s4 d4 => ?_⟩
              obtain ⟨ft, rfl, hft⟩ := fr_inv d4
              refine ⟨fb, ft, _, _, 120, 120, 2520 ^ (r.1.length + 1), 2520 ^ (r.1.length + 1), rfl, (Ext.of s4).sqT hfb, hft, fr18 gb0 gb1, step_fr gr0 gr1 r1 r2, by decide, pw1, Nat.pos_of_ne_zero (by simp), Nat.pos_of_ne_zero (by simp), fun v5 H5 s5' d5 => ?_⟩
              rw [step_low gr0 gb0 (by omega)] at d5
              have s45 := s4.trans s5'
              have vg5 := vg3.ext (.of s45)
              have hD5 := s45 _ _ hDG
              have lf : Lf.length = M.length := by
                have z := congrArg List.length vg3.keys
                rwa [List.length_map, List.length_map] at z
              refine ⟨_, rfl, _, rfl, D, ab, b, Lf, rfl, rfl, hD5, vg5.box, habG.ext (.of s45), by omega, ?_⟩
              refine ⟨_, _, rfl, Same.put nD0 (sG.trans s45), fun b' o nb e => ?_, upd_same, ?_⟩
              · rw [upd_ne nb]
                exact s45 _ _ (fr3 b' o nb e)
              · have vp := vg5.put (habG.ext (.of s45)) bk (v := v5) (y := g b + g r * mc.2) (by rw [bl]; exact d5)
                have vp2 := vp.mv fun h => sqT_but hD5 (fun b u nb e => by rw [upd_ne nb]; exact e) h (H' := upd H5 D (DBO P w D (storeB Lf ab b v5)))
                refine vp2.congr fun q' _ => ?_
                unfold stepE
                by_cases z : q' = b
                · rw [if_pos z, if_pos z, z]
                · rw [if_neg z, if_neg z]

end
end Fm
namespace Fm
open PySem PySem.Spec PyProof.Rows L2
section
variable {P : Program} {w : World} {K : PySem.W.Frag} {mg : Str → Option Value} {base : Heap}

def spCom (K : PySem.W.Frag) (P : Program) (w : World) (C : Addr) : Sp := fun vs H Q _ => ∃ (x b : Addr) (ss : List Int) (L : BoxL) (M : MovT) (q : Box), vs = [.ref x, .ref b] ∧ AskAt K P w C H x ss L M ∧ BoxAt K H b q ∧ BoxOk ss q ∧
  ∀ v H', Same H H' → Dh K H' v (frD (lowZ (FF M q) (D18 ^ q.1.length))) → Q v H'
theorem ok_coming (T : Txt K mg) : FnOk P w K mg base CX0 4 T.f_coming T.d_coming ["asker", "stand"] (spCom K P w T.c_Asker) := by
  refine T.F_coming.ok sc_coming (fun vs H Q E h => ?_) (fun cdv A outer s H vs Q E hr h => ?_)
  · obtain ⟨_, _, _, _, _, _, rfl, _⟩ := h
    rfl
  · obtain ⟨x, b, ss, L, M, q0, rfl, ask, hb, bok, q⟩ := h
    obtain ⟨dx, sz, md, hx, hsz, hmd⟩ := ask.ex
    have mo := ask.mo
    obtain ⟨_, s5, _⟩ := ask.ok.facts
    refine ⟨_, (pss_cons (ps_if (pt_not (pt_val (pe_call (ok_is_box_of T) hr (by rfl) T.g_is_box_of T.F_is_box_of.kp T.b_is_box_of .nil pass0 (pa_cons (pe_fld (pv 0) rfl) (pa_cons (pv 1) pa_nil))))) (pss_one ps_never) pss_nil)
      (pss_one (ps_ret (pe_dgetZ (K := K) (P := P) (w := w) hr.units (pe_call (ok_all_coming (P := P) (w := w) T) hr (by rfl) T.g_all_coming T.F_all_coming.kp T.b_all_coming .nil pass0 (pa_cons (pv 0) pa_nil)) (pv 1) (pe_glob (by rfl) T.g_ZERO (show L2.RelV (.ref T.v_ZERO) _ from rfl)) ⟨rfl, by rfl, by rfl, by rfl⟩)))), ?_⟩
    refine ⟨_, rfl, x, _, dx, _, _, rfl, hx, T.l_Asker, T.aq_sizes, rfl, _, rfl, sz, b, ss, q0, rfl, hsz, s5, hb, bok, fun H1 s1 => ⟨_, rfl, iteF ?_⟩⟩
    refine ⟨_, rfl, x, ss, L, M, rfl, ask.same s1, fun fd Lf H2 nfd s2 hfd vg => ⟨⟨fd, Lf, rfl, hfd⟩, ?_⟩⟩
    have s12 := s1.trans s2
    refine ⟨_, rfl, fd, b, Lf, q0, rfl, rfl, hfd, vg.box, hb.ext (.of s12), ?_⟩
    by_cases hq : q0 ∈ M.map (·.1)
    · obtain ⟨v, hv, dv⟩ := vg.look hq
      rw [hv]
      exact q v H2 s12 dv
    · rw [findB_out (by rw [vg.keys]; exact hq)]
      have z0 : FF M q0 = 0 := by
        have h1 := mo.FF0 q0
        have h2 : ¬ 0 < FF M q0 := fun z => hq ((mo.FF_pos _ q0 rfl bok).mp z)
        omega
      refine q _ H2 s12 ?_
      rw [z0, low_zero (Int.pow_pos (by decide))]
      exact dh_ct (c := [0, 1]) (T.k_ZERO H2)

end
end Fm
namespace Fm
open PySem PySem.Spec PyProof.Rows L2
section
variable {P : Program} {w : World} {K : PySem.W.Frag} {mg : Str → Option Value} {base : Heap}

/-! ### sorted of a tuple of ints -/
/-- the items are taken, laid as a new list, and sorted there -/
theorem sorted_tupI {prog : Program} {w : World} {A : Around} {E : Value → Shared → Prop} {s : Shared} {l : Addr} {vs : List Value} {ns : List Int} {Q : Value → Shared → Prop} (hl : IsTup s.heap l vs.toArray) (hI : IntsAre vs ns) (h64 : vs.length < 64)
    (q : ∀ (D : Addr) (h' : Heap) (out : Array Value) (e : Nat) (ns' : List Int), (∀ b o, s.heap.get? b = some o → h'.get? b = some o) → s.heap.get? D = none → h'.get? D = some (seqObj "list" out e) → IntsAre out.toList ns' → ns'.Perm ns → ns'.Pairwise (· ≤ ·) → Q (.ref D) { s with heap := h' }) :
    wpAny (model prog w) A (call (.builtin "sorted") [.ref l]) Q E s := by
  have few : vs.length ≤ sizeLine := by rw [sizeLine_eq]; omega
  obtain ⟨o, h1, h2, n, h3⟩ := hl
  refine Calls.call_function_entry kind_sorted plain_sorted entry_sorted (args_sorted1 _) ?_
  unfold Builtin.«sorted»
  refine wpAny_bind (m := checkCount "sorted" 1 1 _) (wpAny_pure ?_)
  refine wpAny_bind (wpAny_collect_seq l (.inr rfl) h1 h2 h3 (fun g kg => ?_) (by rw [List.size_toArray]; exact few))
  have old : ∀ b o, s.heap.get? b = some o → b < g.objs.size := fun b o z => Heap.lt_size (kg b o z)
  have new : (g.push (seqObj "list" vs.toArray 0)).get? g.objs.size = some (seqObj "list" vs.toArray 0) := Heap.get?_push_size _ rfl
  refine wpAny_bind (wpAny_newList ?_)
  refine wpAny_bind (wpAny_holding (wpAny_call_entry slot_list_sort ⟨_, new, rfl⟩ entry_list_sort (list_sort_tree (s := { s with heap := g.push (seqObj "list" vs.toArray 0) }) new hI h64 fun out ns' a1 a2 a3 => ⟨_, rfl, ?_⟩) (args_list_sort _)))
  obtain ⟨e, he⟩ := sortedHeap_at (out := out) new
  refine wpAny_pure ⟨_, rfl, q g.objs.size _ out e ns' (fun b o z => ?_) ?_ he a1 a2 a3⟩
  · have lt := old b o z
    rw [sortedHeap_old (Nat.ne_of_lt lt) (by rw [size_push']; exact Nat.lt_succ_of_lt lt), Heap.get?_push_ne _ _ _ (Nat.ne_of_lt lt)]
    exact kg b o z
  · cases z : s.heap.get? g.objs.size with
    | none => rfl
    | some o => exact absurd (old _ o z) (Nat.lt_irrefl _)
/-- sorted(list or tuple of ints) -/
def rSortedTI (K : PySem.W.Frag) : List V → Hp → VK → Prop := fun vs H Q => ∃ (a : Addr) (ns : List Int), vs = [V.ref a] ∧ (SqL K H a (ns.map V.int) ∨ SqT K H a (ns.map V.int)) ∧ ns.length < 64 ∧
  ∀ (ns' : List Int) (p : Addr), ns'.Perm ns → ns'.Pairwise (· ≤ ·) → H p = none → Q (.ref p) (upd H p (.lst (ns'.map V.int)))
theorem call_sortedTI {X : Cx} {K : PySem.W.Frag} (eK : X.K = K := by rfl) : CallR X (.builtin "sorted") (rSortedTI K) := by
  subst eK
  intro pins s σ H vs us Q I r h
  obtain ⟨a, ns, rfl, hs, h64, q⟩ := h
  rcases hs with hs | hs
  · exact cr_sorted pins s σ H _ us Q I r ⟨a, ns, rfl, hs, h64, q⟩
  · obtain ⟨its, rv, hl, _⟩ := I.tuple hs
    rw [Vals.ref1 r]
    have hi := rv.ints
    have hlen : ∀ {ns' : List Int}, ns'.Perm ns → (ns'.map V.int).length ≤ sizeLine := fun p => by rw [List.length_map, p.length_eq]; exact small64 h64
    refine sorted_tupI hl hi (by rw [hi.length]; exact h64) fun D g out e ns' kept hD he a1 a2 a3 => ?_
    have hn : H D = none := by
      cases z : H D with
      | none => rfl
      | some o => exact absurd hD (objOk_there (I.hok D o z))
    obtain ⟨m, hns, _⟩ := id I.loc
    have F : PyProof.Rows.Fr X.base X.env.locals s.heap m := ⟨hns, I.bk, Nat.le_trans I.ok.bsz I.ok.above⟩
    exact ⟨.ref D, upd H D (.lst (ns'.map V.int)), inv_news (t' := s.toks) I (F.kept kept) hns (fun b u _ z => kept b u z) hD hn ⟨hlen a2, out.toList, e, vals_of_ints a1, he⟩, rfl, q ns' D a2 a3 hn⟩

def spLater (K : PySem.W.Frag) : Sp := fun vs H Q _ => ∃ (b : Addr) (c w : Int) (ss : List Int) (q : Box), vs = [.ref b, .int c, .int w] ∧ BoxAt K H b q ∧ BoxOk ss q ∧ ss.length ≤ 5 ∧ c ∉ q.1 ∧ ∀ v H', Same H H' → Dh K H' v (bxD (lat q c w)) → Q v H'
theorem ok_law_later (T : Txt K mg) : FnOk P w K mg base CX0 1 T.f_law_later T.d_law_later ["stand", "c", "worth"] (spLater K) := by
  refine T.F_law_later.ok sc_law_later (fun vs H Q E h => ?_) (fun cdv A outer s H vs Q E hr h => ?_)
  · obtain ⟨_, _, _, _, _, rfl, _⟩ := h
    rfl
  · obtain ⟨b, c, wv, ss, r, rfl, ⟨pa, wa, hb, hp, hw⟩, bok, s5, hc, q⟩ := h
    have hl := box_len bok
    have pl := bok.1.len (by omega)
    have pp := pos_le c r.1
    refine ⟨_, (pss_cons (ps_set (i := 3) sc_law_later.nd rfl (.inl rfl) (pe_callTy (call_tupF (K := K)) (by rfl) T.z_tuple (by decide +kernel) (pa_cons (pe_callB (call_sortedTI (K := K)) (by rfl) T.z_sorted (by decide +kernel) (pa_cons (pe_op (op_catK K) (pe_ix (ix_tupK K) (pv 0) pe_int (fun _ _ => rfl)) (pe_tup (pa_cons (pv 1) pa_nil))) pa_nil)) pa_nil)))
      (pss_cons (ps_set (i := 4) sc_law_later.nd rfl (.inl rfl) (pe_ixF (K := K) (pv 3) (pa_cons (pv 1) pa_nil)))
      (pss_one (ps_ret (pe_tup (pa_cons (pv 3) (pa_cons (pe_op (op_catK K) (pe_op (op_catK K) (pe_slice (sl_tupK K) (pe_ix (ix_tupK K) (pv 0) pe_int (fun _ _ => rfl)) po_none (po_some (pv 4))) (pe_tup (pa_cons (pv 2) pa_nil))) (pe_slice (sl_tupK K) (pe_ix (ix_tupK K) (pv 0) pe_int (fun _ _ => rfl)) (po_some (pv 4)) po_none)) pa_nil))))))), ?_⟩
    refine ⟨_, rfl, b, _, 0, _, rfl, rfl, hb, atI_nat (j := 0) rfl, _, rfl, by show 1 ≤ sizeLine; decide, fun t nt => ?_⟩
    have s1 : Same H (upd H t (.tup [.int c])) := same_new nt
    refine cat_cts (c := r.1) (d := [c]) (dh_ct ((Ext.of s1).sqT hp)) (dh_ct (SqT.of upd_same)) (by show _ + 1 ≤ 1000; omega) fun v2 H2 s2 d2 => ?_
    have s12 := s1.trans s2
    obtain ⟨c2, rfl, hc2⟩ := ct_inv d2
    refine ⟨c2, r.1 ++ [c], rfl, .inr hc2, by rw [List.length_append]; show _ + 1 < 64; omega, fun ns p pm srt np => ?_⟩
    have ens : ns = insA c r.1 := by
      have ndI := up_nodup (insA_up (asc_up bok.1) hc)
      have pm2 : ns.Perm (insA c r.1) := (pm.trans List.perm_append_comm).trans (insA_perm c r.1).symm
      refine up_same ?_ (insA_up (asc_up bok.1) hc) pm2
      have nd := pm2.nodup_iff.mpr ndI
      exact (srt.and nd).imp fun {a b} h => by
        have := h.1
        have := h.2
        omega
    rw [ens]
    have s3 : Same H2 (upd H2 p (.lst ((insA c r.1).map V.int))) := same_new np
    have hp3 : (upd H2 p (.lst ((insA c r.1).map V.int))) p = some (.lst ((insA c r.1).map V.int)) := upd_same
    generalize upd H2 p (.lst ((insA c r.1).map V.int)) = H3 at s3 hp3
    refine ⟨p, _, rfl, SqL.of hp3, fun t3 ob nt3 hob => ?_⟩
    have s4 : Same H3 (upd H3 t3 (.frz ob (.tup ((insA c r.1).map V.int)))) := same_new nt3
    have hf4 : (upd H3 t3 (.frz ob (.tup ((insA c r.1).map V.int)))) t3 = some (.frz ob (.tup ((insA c r.1).map V.int))) := upd_same
    generalize upd H3 t3 (.frz ob (.tup ((insA c r.1).map V.int))) = H4 at s4 hf4
    have ht4 : SqT K H4 t3 ((insA c r.1).map V.int) := .inl (.inr ⟨ob, hf4⟩)
    have s04 := s12.trans (s3.trans s4)
    refine ⟨_, rfl, ⟨t3, ob, _, rfl, hf4, hob⟩, _, rfl, t3, insA c r.1, c, rfl, rfl, ht4, insA_mem.mpr (.inl rfl), ?_⟩
    rw [insA_idx hc]
    have dw : Dh K H4 (.ref wa) (ctD r.2) := dh_ct ((Ext.of s04).sqT hw)
    have pw : pos c r.1 ≤ r.2.length := by rw [hl]; exact pp
    refine ⟨_, rfl, _, rfl, b, _, 1, _, rfl, rfl, (Ext.of s04).sqT hb, atI_nat (j := 1) rfl, _, rfl, _, rfl, slice_ct (lo := none) (hi := some ((pos c r.1 : Nat) : Int)) dw fun v1 H5 s5' d1 => ?_⟩
    rw [cutI_take pw] at d1
    refine ⟨_, rfl, by show 1 ≤ sizeLine; decide, fun t6 n6 => ?_⟩
    have s6 : Same H5 (upd H5 t6 (.tup [.int wv])) := same_new n6
    refine cat_cts (d := [wv]) (d1.ext (.of s6)) (dh_ct (SqT.of upd_same)) (by rw [List.length_take]; show _ + 1 ≤ 1000; omega) fun v7 H7 s7 d7 => ?_
    have s47 := s5'.trans (s6.trans s7)
    refine ⟨_, rfl, b, _, 1, _, rfl, rfl, (Ext.of (s04.trans s47)).sqT hb, atI_nat (j := 1) rfl, _, rfl, _, rfl, ?_⟩
    dsimp only [tNoPart]
    refine slice_ct (lo := some ((pos c r.1 : Nat) : Int)) (hi := none) (dw.ext (.of s47)) fun v8 H8 s8 d8 => ?_
    rw [cutI_drop pw] at d8
    refine cat_cts (d7.ext (.of s8)) d8 (by rw [List.length_append, List.length_take, List.length_drop]; show _ + 1 + _ ≤ 1000; omega) fun v9 H9 s9 d9 => ?_
    have ew2 : r.2.take (pos c r.1) ++ [wv] ++ r.2.drop (pos c r.1) = (lat r c wv).2 := by
      rw [List.append_assoc]
      rfl
    rw [ew2] at d9
    have s49 := s47.trans (s8.trans s9)
    refine ⟨by show 2 ≤ sizeLine; decide, fun t9 n9 => ?_⟩
    have s10 : Same H9 (upd H9 t9 (.tup [.ref t3, v9])) := same_new n9
    exact q _ _ ((s04.trans s49).trans s10) (.tup (SqT.of upd_same) (.cons (dh_ct ((Ext.of (s49.trans s10)).sqT ht4)) (.cons (d9.ext (.of s10)) .nil)))

end
end Fm
namespace Fm
open PySem PySem.Spec PyProof.Rows L2
section
variable {P : Program} {w : World} {K : PySem.W.Frag} {mg : Str → Option Value} {base : Heap}

def taInts : List Int → TA
  | [] => tNil
  | i :: r => tCons (tC (.int i)) (taInts r)
def taTups : List (List Int) → TA
  | [] => tNil
  | c :: r => tCons (tTup (taInts c)) (taTups r)
theorem taInts_ok {σ : L2.St} {H : Hp} : ∀ (c : List Int) (Q : List V → Hp → Prop), Q (c.map V.int) H → taInts c σ H Q
  | [], Q, q => q
  | i :: r, Q, q => taInts_ok r (fun vs H1 => Q (V.int i :: vs) H1) q
theorem taTups_ok {σ : L2.St} : ∀ (css : List (List Int)) {H : Hp} (Q : List V → Hp → Prop), (∀ c ∈ css, c.length ≤ 1000) → (∀ vs H', Same H H' → DhAll K H' vs (css.map ctD) → Q vs H') → taTups css σ H Q
  | [], H, Q, _, q => q [] H (Same.refl H) .nil
  | c :: r, H, Q, hl, q => by
    refine taInts_ok c _ ⟨?_, fun p np => taTups_ok r (fun vs H1 => Q (V.ref p :: vs) H1) (fun d hd => hl d (List.mem_cons_of_mem _ hd)) fun vs H' s hv => ?_⟩
    · rw [List.length_map]
      exact Nat.le_of_lt (sz_small (by have := hl c (List.mem_cons_self ..); omega))
    · have s2 := (same_new (o := .tup (c.map V.int)) np).trans s
      exact q _ H' s2 (.cons (dh_ct (SqT.of (s _ _ upd_same))) hv)
theorem DhAll.mem {H : Hp} {vs : List V} {ds : List Dt} (h : DhAll K H vs ds) {v : V} (hv : v ∈ vs) : ∃ d, d ∈ ds ∧ Dh K H v d := by
  obtain ⟨i, hi, rfl⟩ := List.mem_iff_getElem.mp hv
  obtain ⟨d, e, hd⟩ := h.get (List.getElem?_eq_getElem hi)
  exact ⟨d, List.mem_of_getElem? e, hd⟩
abbrev sz18 : List (List Int) := [[2, 2, 2], [2, 3, 2], [3, 2, 2], [2, 2], [2, 2, 2], [3, 2], [2, 2, 3], [4]]
theorem sz18_ok : ∀ c ∈ sz18, SizesOk c := fun c hc => by
  have q : sz18.all (fun c => (Dt.tup (c.map Dt.int)).isSizes) = true := by decide
  exact List.all_eq_true.mp q c hc
def spSizes (K : PySem.W.Frag) : Sp := fun vs H Q _ => ∃ h c : Addr, vs = [.ref h] ∧ HandOk H h c ∧ ∀ v ss H', Keep h c H H' → ss ∈ sz18 → Dh K H' v (ctD ss) → Q v H'
theorem grow18 {H H' : Hp} {vs : List V} {ds : List Dt} {p : Addr} {c : List Int} (s : Same H H') (hv : DhAll K H' vs ds) (np : H' p = none) : Same H (upd H' p (.tup (c.map V.int))) ∧ DhAll K (upd H' p (.tup (c.map V.int))) (vs ++ [.ref p]) (ds ++ [ctD c]) :=
  ⟨s.trans (same_new np), (hv.ext (.of (same_new np))).snoc (dh_ct (SqT.of upd_same))⟩
theorem ok_law_sizes (T : Txt K mg) : FnOk P w K mg base CX0 2 T.f_law_sizes T.d_law_sizes ["hand"] (spSizes K) := by
  refine T.F_law_sizes.ok sc_law_sizes (fun vs H Q E h => ?_) (fun cdv A outer s H vs Q E hr h => ?_)
  · obtain ⟨_, _, rfl, _⟩ := h
    rfl
  · obtain ⟨h, ca, rfl, hx, q⟩ := h
    refine ⟨_, (pss_one (ps_ret (pe_ix (ix_listK K) (pe_lst (pa_cons (pe_tup (pa_cons pe_int (pa_cons pe_int (pa_cons pe_int pa_nil)))) (pa_cons (pe_tup (pa_cons pe_int (pa_cons pe_int (pa_cons pe_int pa_nil)))) (pa_cons (pe_tup (pa_cons pe_int (pa_cons pe_int (pa_cons pe_int pa_nil)))) (pa_cons (pe_tup (pa_cons pe_int (pa_cons pe_int pa_nil))) (pa_cons (pe_tup (pa_cons pe_int (pa_cons pe_int (pa_cons pe_int pa_nil)))) (pa_cons (pe_tup (pa_cons pe_int (pa_cons pe_int pa_nil))) (pa_cons (pe_tup (pa_cons pe_int (pa_cons pe_int (pa_cons pe_int pa_nil)))) (pa_cons (pe_tup (pa_cons pe_int pa_nil)) pa_nil))))))))) (pe_call (ok_law_draw T) hr (by rfl) T.g_law_draw T.F_law_draw.kp T.b_law_draw .nil pass0 (pa_cons (pv 0) (pa_cons pe_int pa_nil))) (fun _ _ => rfl)))), ?_⟩
    have g0 : Same H H ∧ DhAll K H [] [] := ⟨Same.refl H, .nil⟩
    refine ⟨by show 3 ≤ sizeLine; decide, fun p1 n1 => ?_⟩
    have g1 := grow18 (c := [2, 2, 2]) g0.1 g0.2 n1
    refine ⟨by show 3 ≤ sizeLine; decide, fun p2 n2 => ?_⟩
    have g2 := grow18 (c := [2, 3, 2]) g1.1 g1.2 n2
    refine ⟨by show 3 ≤ sizeLine; decide, fun p3 n3 => ?_⟩
    have g3 := grow18 (c := [3, 2, 2]) g2.1 g2.2 n3
    refine ⟨by show 2 ≤ sizeLine; decide, fun p4 n4 => ?_⟩
    have g4 := grow18 (c := [2, 2]) g3.1 g3.2 n4
    refine ⟨by show 3 ≤ sizeLine; decide, fun p5 n5 => ?_⟩
    have g5 := grow18 (c := [2, 2, 2]) g4.1 g4.2 n5
    refine ⟨by show 2 ≤ sizeLine; decide, fun p6 n6 => ?_⟩
    have g6 := grow18 (c := [3, 2]) g5.1 g5.2 n6
    refine ⟨by show 3 ≤ sizeLine; decide, fun p7 n7 => ?_⟩
    have g7 := grow18 (c := [2, 2, 3]) g6.1 g6.2 n7
    refine ⟨by show 1 ≤ sizeLine; decide, fun p8 n8 => ?_⟩
    have g8 := grow18 (c := [4]) g7.1 g7.2 n8
    refine ⟨by show 8 ≤ sizeLine; decide, fun p np => ?_⟩
    obtain ⟨s1, hv⟩ := g8
    have s2 := s1.trans (same_new (o := .lst [.ref p1, .ref p2, .ref p3, .ref p4, .ref p5, .ref p6, .ref p7, .ref p8]) np)
    have nph : p ≠ h := ((hx.same s1).ne np).1
    have hv2 := hv.ext (.of (same_new (o := .lst [.ref p1, .ref p2, .ref p3, .ref p4, .ref p5, .ref p6, .ref p7, .ref p8]) np))
    refine ⟨_, rfl, h, ca, 8, rfl, hx.same s2, by decide, by decide, fun d H2 d0 d1 k => ?_⟩
    have hd : d.toNat < 8 := by omega
    obtain ⟨x, hxx⟩ : ∃ x, ([] ++ [V.ref p1] ++ [V.ref p2] ++ [V.ref p3] ++ [V.ref p4] ++ [V.ref p5] ++ [V.ref p6] ++ [V.ref p7] ++ [V.ref p8])[d.toNat]? = some x := ⟨_, List.getElem?_eq_getElem hd⟩
    obtain ⟨dt, hdt, hxd⟩ := hv2.get hxx
    have hdt : (sz18.map ctD)[d.toNat]? = some dt := hdt
    obtain ⟨c, hc, rfl⟩ := map_at hdt
    refine ⟨p, _, d, x, rfl, rfl, SqL.of (k.rest _ _ nph upd_same), at_of (j := d.toNat) (by omega) hxx, ?_⟩
    exact q _ c H2 ((Keep.of hx s2).trans k) (List.mem_of_getElem? hc) (hxd.ext (Keep.ext (hx.same s2) k))

end
end Fm
namespace Fm
open PySem PySem.Spec PyProof.Rows L2
section
variable {P : Program} {w : World} {K : PySem.W.Frag} {mg : Str → Option Value} {base : Heap}

/-! ### shares that come to 1 -/
def spParts (K : PySem.W.Frag) : Sp := fun vs H Q _ => ∃ (h c : Addr) (m b : Nat), vs = [.ref h, .int m, .int b] ∧ HandOk H h c ∧ 1 ≤ m ∧ m ≤ b ∧ b ≤ 9 ∧ m ≤ 6 ∧
  ∀ p xs (ts : List Int) H', Keep h c H H' → H p = none → H' p = some (.lst xs) → DhAll K H' xs (ts.map fun t => frD (lowZ t b)) → ts.length = m → (∀ t ∈ ts, 1 ≤ t) → ts.sum = b → Q (.ref p) H'
theorem ok_law_parts (T : Txt K mg) : FnOk P w K mg base CX0 2 T.f_law_parts T.d_law_parts ["hand", "many", "bottom"] (spParts K) := by
  refine T.F_law_parts.ok sc_law_parts (fun vs H Q E h => ?_) (fun cdv A outer s H vs Q E hr h => ?_)
  · obtain ⟨_, _, _, _, rfl, _⟩ := h
    rfl
  · obtain ⟨h, ca, m, b, rfl, hx, m1, mb, b9, m6, q⟩ := h
    refine ⟨_, (pss_cons (ps_set (i := 3) sc_law_parts.nd rfl (.inl rfl) (pe_op op_sub (pv 2) (pv 1)))
      (pss_cons (ps_set (i := 4) sc_law_parts.nd rfl (.inl rfl) (pe_lst pa_nil))
      (pss_cons (ps_for PassesOwn.never rfl (pi_range1 (by rfl) T.z_range (pa_cons (pv 1) pa_nil)) (pg_name (i := 5) sc_law_parts.nd rfl (.inl rfl)) (pss_cons (ps_set (i := 6) sc_law_parts.nd rfl (.inl rfl) (pe_ifExp (pt_cmpR op_eq (pv 5) (pe_op op_sub (pv 1) pe_int) (nomark _)) (pv 3) (pe_call (ok_law_draw T) hr (by rfl) T.g_law_draw T.F_law_draw.kp T.b_law_draw .nil pass0 (pa_cons (pv 0) (pa_cons (pe_op op_add (pv 3) pe_int) pa_nil)))))
      (pss_cons (ps_expr (pe_bm PySem.F.plainAttrs_list PySem.F.slot_list_append PySem.F.type_list_append mt_append (pv 4) (pa_cons (pe_call (ok_law_low T) hr (by rfl) T.g_law_low T.F_law_low.kp T.b_law_low .nil pass0 (pa_cons (pe_op op_add pe_int (pv 6)) (pa_cons (pv 2) pa_nil))) pa_nil)))
      (pss_one (ps_set (i := 3) sc_law_parts.nd rfl (.inl rfl) (pe_op op_sub (pv 3) (pv 6)))))))
      (pss_one (ps_ret (pv 4)))))), ?_⟩
    refine ⟨_, rfl, _, rfl, _, _, rfl, rfl, Nat.zero_le _, fun D nD => ?_⟩
    have s1 : Same H (upd H D (.lst [])) := same_new nD
    have nDh := hx.ne nD
    refine ⟨_, rfl, _, rfl, by omega, by omega, for_range (lo := 0) (n := ((m : Int)).toNat) (fun k σ H' => ∃ (y5 y6 : Option V) (xs : List V) (ts : List Int) (lf : Int), σ = [some (.ref h), some (.int m), some (.int b), some (.int lf), some (.ref D), y5, y6] ∧ Keep h ca H H' ∧ H' D = some (.lst xs) ∧ DhAll K H' xs (ts.map fun t => frD (lowZ t b)) ∧ ts.length = k ∧ (∀ t ∈ ts, 1 ≤ t) ∧ 0 ≤ lf ∧ ts.sum + lf = b - m + k ∧ (k = m → lf = 0)) ?_ ?_ ?_⟩
    · exact ⟨none, none, [], [], _, rfl, Keep.of hx s1, upd_same, .nil, rfl, fun t ht => (by cases ht), by omega, by show (0 : Int) + _ = _; omega, fun e => by omega⟩
    · rintro k σ H1 hk ⟨y5, y6, xs, ts, lf, rfl, kp, hD, hxs, tl, t1, l0, tsum, _⟩
      rw [Int.toNat_natCast] at hk
      rw [Int.zero_add]
      have km : k < m := hk
      have b0 : (0 : Int) < b := by omega
      have b3 : (b : Int) ≤ (top300 : Int) := by
        have z : 9 ≤ top300 := by decide +kernel
        omega
      have xl := hxs.length
      rw [List.length_map] at xl
      refine ⟨_, rfl, _, rfl, _, _, rfl, rfl, rfl, _, rfl, ?_⟩
      have step : ∀ (mr : Int) (H2 : Hp), 0 ≤ mr → mr ≤ lf → (k + 1 = m → mr = lf) → Keep h ca H H2 → H2 D = some (.lst xs) → DhAll K H2 xs (ts.map fun t => frD (lowZ t b)) →
          ∀ (v : V) (H3 : Hp), Same H2 H3 → Dh K H3 v (frD (lowZ (1 + mr) b)) →
          ∃ (y5 y6 : Option V) (xs' : List V) (ts' : List Int) (lf' : Int), ([some (.ref h), some (.int m), some (.int b), some (.int (lf - mr)), some (.ref D), some (.int (k : Int)), some (.int mr)] : L2.St) = [some (.ref h), some (.int m), some (.int b), some (.int lf'), some (.ref D), y5, y6] ∧ Keep h ca H (upd H3 D (.lst (xs ++ [v]))) ∧ (upd H3 D (.lst (xs ++ [v]))) D = some (.lst xs') ∧ DhAll K (upd H3 D (.lst (xs ++ [v]))) xs' (ts'.map fun t => frD (lowZ t b)) ∧ ts'.length = k + 1 ∧ (∀ t ∈ ts', 1 ≤ t) ∧ 0 ≤ lf' ∧ ts'.sum + lf' = b - m + (k + 1 : Nat) ∧ (k + 1 = m → lf' = 0) := by
        intro mr H2 r0 r1 rl kp2 hD2 hx2 v H3 s3 hv
        refine ⟨_, _, xs ++ [v], ts ++ [1 + mr], lf - mr, rfl, Keep.put hx (kp2.same s3) nD, upd_same, ?_, by rw [List.length_append, tl]; rfl, fun t ht => ?_, by omega, ?_, fun e => by rw [rl e]; omega⟩
        · rw [List.map_append]
          exact ((hx2.ext (.of s3)).snoc hv).ext (Ext.put (s3 _ _ hD2))
        · rcases List.mem_append.mp ht with z | z
          · exact t1 t z
          · rw [List.mem_singleton.mp z]
            omega
        · rw [List.sum_append, List.sum_cons, List.sum_nil]
          omega
      by_cases hkm : k + 1 = m
      · rw [decide_eq_true (show V.int (k : Int) = V.int ((m : Int) - 1) by congr 1; omega)]
        refine iteT ?_
        refine ⟨_, rfl, ?_⟩
        refine ⟨_, rfl, .inl ⟨rfl, _, SqL.of hD⟩, _, rfl, _, _, rfl, rfl, _, rfl, 1 + lf, b, rfl, b0, b3, by omega, fun v H3 s3 hv => ?_⟩
        refine ⟨D, xs, v, rfl, rfl, s3 _ _ hD, sz_small (by omega), ?_⟩
        refine ⟨_, rfl, _, rfl, _, _, rfl, rfl, ?_⟩
        exact step lf H1 l0 (Int.le_refl _) (fun _ => rfl) kp hD hxs v H3 s3 hv
      · rw [decide_eq_false (show ¬ V.int (k : Int) = V.int ((m : Int) - 1) from fun e => hkm (by have := V.int.inj e; omega))]
        refine iteF ?_
        have lfb : lf ≤ 9 := by
          have z := sum_nonneg (l := ts) fun t ht => by have := t1 t ht; omega
          have z2 : (ts.map fun _ => (1 : Int)).sum ≤ (ts.map fun t => t).sum := sum_le18 fun t ht => t1 t ht
          rw [sum_const, List.map_id'] at z2
          omega
        refine ⟨_, rfl, _, rfl, _, _, rfl, rfl, h, ca, lf + 1, rfl, kp.hand, by omega, by omega, fun d H2 d0 d1 kk => ?_⟩
        have hD2 := kk.rest _ _ nDh.1 hD
        have hx2 := hxs.ext (Keep.ext kp.hand kk)
        refine ⟨_, rfl, .inl ⟨rfl, _, SqL.of hD2⟩, _, rfl, _, _, rfl, rfl, _, rfl, 1 + d, b, rfl, b0, b3, by omega, fun v H3 s3 hv => ?_⟩
        refine ⟨D, xs, v, rfl, rfl, s3 _ _ hD2, sz_small (by omega), ?_⟩
        refine ⟨_, rfl, _, rfl, _, _, rfl, rfl, ?_⟩
        exact step d H2 d0 (by omega) (fun e => absurd e hkm) (kp.trans kk) hD2 hx2 v H3 s3 hv
    · rintro σ H1 ⟨y5, y6, xs, ts, lf, rfl, kp, hD, hxs, tl, t1, l0, tsum, fin⟩
      rw [Int.toNat_natCast] at tl tsum fin
      have := fin rfl
      exact ⟨_, rfl, q D xs ts H1 kp nD hD hxs tl t1 (by omega)⟩

end
end Fm
namespace Fm
open PySem PySem.Spec PyProof.Rows L2
section
variable {P : Program} {w : World} {K : PySem.W.Frag} {mg : Str → Option Value} {base : Heap}

/-! ### moves that grow, stand by stand -/
def allB (ss : List Int) : List Box := (patsOf ss.length).flatMap fun p => (allC (picks p ss)).map fun c => (p, c)
theorem mem_allB {ss : List Int} {q : Box} (h : BoxOk ss q) : q ∈ allB ss := by
  unfold allB
  refine List.mem_flatMap.mpr ⟨q.1, mem_pats.mpr h.1, List.mem_map.mpr ⟨q.2, mem_allC.mpr (box_cont h), rfl⟩⟩
theorem nodup_le {α : Type} [DecidableEq α] : ∀ {l r : List α}, l.Nodup → (∀ x ∈ l, x ∈ r) → l.length ≤ r.length
  | [], _, _, _ => Nat.zero_le _
  | a :: l, r, nd, h => by
    obtain ⟨h1, h2⟩ := List.nodup_cons.mp nd
    have ha := h a (List.mem_cons_self ..)
    have z := nodup_le (l := l) (r := r.erase a) h2 fun x hx => (List.mem_erase_of_ne fun e => h1 (by rw [← e]; exact hx)).mpr (h x (List.mem_cons_of_mem _ hx))
    have e := (List.perm_cons_erase ha).length_eq
    rw [List.length_cons] at e ⊢
    omega
theorem few18 : (sz18.all fun ss => decide ((allB ss).length ≤ 36) && (List.range 6).all fun k => decide (((allB ss).filter fun q => decide (q.1.length = k)).length ≤ 31)) = true := by decide +kernel
theorem few_all {ss : List Int} (h : ss ∈ sz18) {l : List Box} (nd : l.Nodup) (hb : ∀ q ∈ l, BoxOk ss q) : l.length ≤ 36 ∧ ∀ k, (l.filter fun q => decide (q.1.length = k)).length ≤ 31 := by
  have z := List.all_eq_true.mp few18 ss h
  rw [Bool.and_eq_true, decide_eq_true_eq] at z
  refine ⟨Nat.le_trans (nodup_le nd fun q hq => mem_allB (hb q hq)) z.1, fun k => ?_⟩
  have s5 := (sz18_ok ss h).facts.2.1
  by_cases hk : k < 6
  · have z2 := of_decide_eq_true (List.all_eq_true.mp z.2 k (List.mem_range.mpr hk))
    refine Nat.le_trans (nodup_le (nd.sublist List.filter_sublist) fun q hq => ?_) z2
    obtain ⟨h1, h2⟩ := List.mem_filter.mp hq
    exact List.mem_filter.mpr ⟨mem_allB (hb q h1), h2⟩
  · have e : (l.filter fun q => decide (q.1.length = k)) = [] := List.filter_eq_nil_iff.mpr fun q hq => by
      have := (hb q hq).1.len (by omega)
      simp only [decide_eq_true_eq]
      omega
    rw [e]
    exact Nat.zero_le _
structure Grow (ss : List Int) (M : MovT) (W : List Box) : Prop where
  nd : (M.map (·.1)).Nodup
  box : ∀ m ∈ M, BoxOk ss m.1
  mv : ∀ m ∈ M, MvOk ss.length m.1.1 m.2
  wbox : ∀ q ∈ W, BoxOk ss q
  start : START ∈ M.map (·.1) ∨ START ∈ W
  shut : ∀ m ∈ M, ∀ x ∈ m.2, x.1 ≠ -1 → ∀ w, 0 ≤ w → w < ss.getD x.1.toNat 0 → lat m.1 x.1 w ∈ M.map (·.1) ∨ lat m.1 x.1 w ∈ W
  come : ∀ q, (q ∈ M.map (·.1) ∨ q ∈ W) → q ≠ START → ∃ m' ∈ M, ∃ x ∈ m'.2, x.1 ≠ -1 ∧ ∃ w, 0 ≤ w ∧ w < ss.getD x.1.toNat 0 ∧ q = lat m'.1 x.1 w
theorem start_ok {ss : List Int} (ok : SizesOk ss) : BoxOk ss START := by
  obtain ⟨_, _, hm⟩ := ok.facts
  refine ⟨True.intro, ss.map fun _ => 0, isCt_iff.mpr ⟨List.length_map _, fun i x s hx hs => ?_⟩, rfl⟩
  rw [List.getElem?_map, hs] at hx
  have := hm s (List.mem_of_getElem? hs)
  have ex : (0 : Int) = x := Option.some.inj hx
  omega
theorem Grow.zero {ss : List Int} (ok : SizesOk ss) : Grow ss [] [START] where
  nd := List.nodup_nil
  box := fun m hm => by cases hm
  mv := fun m hm => by cases hm
  wbox := fun q hq => by
    rw [List.mem_singleton.mp hq]
    exact start_ok ok
  start := .inr (List.mem_singleton.mpr rfl)
  shut := fun m hm => by cases hm
  come := fun q hq ne => by
    rcases hq with h | h
    · cases h
    · exact (ne (List.mem_singleton.mp h)).elim
theorem Grow.skip {ss : List Int} {M : MovT} {W : List Box} {q : Box} (g : Grow ss M (W ++ [q])) (hq : q ∈ M.map (·.1)) : Grow ss M W where
  nd := g.nd
  box := g.box
  mv := g.mv
  wbox := fun r hr => g.wbox r (List.mem_append_left _ hr)
  start := by
    rcases g.start with h | h
    · exact .inl h
    · rcases List.mem_append.mp h with z | z
      · exact .inr z
      · rw [List.mem_singleton.mp z]
        exact .inl hq
  shut := fun m hm x hx c0 w w0 w1 => by
    rcases g.shut m hm x hx c0 w w0 w1 with h | h
    · exact .inl h
    · rcases List.mem_append.mp h with z | z
      · exact .inr z
      · rw [List.mem_singleton.mp z]
        exact .inl hq
  come := fun r hr ne => g.come r (hr.elim .inl fun z => .inr (List.mem_append_left _ z)) ne
theorem Grow.more {ss : List Int} {M : MovT} {W : List Box} {q : Box} {ms : Mvs} (g : Grow ss M (W ++ [q])) (hq : q ∉ M.map (·.1)) (mo : MvOk ss.length q.1 ms) : Grow ss (M ++ [(q, ms)]) (W ++ afterB ss q ms) := by
  have bq := g.wbox q (List.mem_append_right _ (List.mem_singleton.mpr rfl))
  have keys : (M ++ [(q, ms)]).map (·.1) = M.map (·.1) ++ [q] := by rw [List.map_append]; rfl
  refine ⟨?_, fun m hm => ?_, fun m hm => ?_, fun r hr => ?_, ?_, fun m hm x hx c0 w w0 w1 => ?_, fun r hr ne => ?_⟩
  · rw [keys]
    exact List.nodup_append.mpr ⟨g.nd, List.nodup_cons.mpr ⟨by simp, List.nodup_nil⟩, fun a ha b hb e => hq (by rw [List.mem_singleton.mp hb] at e; exact e ▸ ha)⟩
  · rcases List.mem_append.mp hm with z | z
    · exact g.box m z
    · rw [List.mem_singleton.mp z]
      exact bq
  · rcases List.mem_append.mp hm with z | z
    · exact g.mv m z
    · rw [List.mem_singleton.mp z]
      exact mo
  · rcases List.mem_append.mp hr with z | z
    · exact g.wbox r (List.mem_append_left _ z)
    · obtain ⟨x, hx, c0, h2⟩ := after_mem.mp z
      obtain ⟨w, w0, w1, rfl⟩ := with_mem.mp h2
      obtain ⟨m1, m2, m3⟩ := mo.col x hx
      exact lat_ok bq m3 (by omega) m2 w0 w1
  · rw [keys]
    rcases g.start with h | h
    · exact .inl (List.mem_append_left _ h)
    · rcases List.mem_append.mp h with z | z
      · exact .inr (List.mem_append_left _ z)
      · exact .inl (List.mem_append_right _ z)
  · rw [keys]
    rcases List.mem_append.mp hm with z | z
    · rcases g.shut m z x hx c0 w w0 w1 with h | h
      · exact .inl (List.mem_append_left _ h)
      · rcases List.mem_append.mp h with y | y
        · exact .inr (List.mem_append_left _ y)
        · exact .inl (List.mem_append_right _ y)
    · rw [List.mem_singleton.mp z] at hx ⊢
      exact .inr (List.mem_append_right _ (after_mem.mpr ⟨x, hx, c0, with_mem.mpr ⟨w, w0, w1, rfl⟩⟩))
  · have old : ∀ {r : Box}, (r ∈ M.map (·.1) ∨ r ∈ W ++ [q]) → r ≠ START → ∃ m' ∈ M ++ [(q, ms)], ∃ x ∈ m'.2, x.1 ≠ -1 ∧ ∃ w, 0 ≤ w ∧ w < ss.getD x.1.toNat 0 ∧ r = lat m'.1 x.1 w := fun h ne => by
      obtain ⟨m', hm', z⟩ := g.come _ h ne
      exact ⟨m', List.mem_append_left _ hm', z⟩
    rw [keys] at hr
    rcases hr with h | h
    · rcases List.mem_append.mp h with y | y
      · exact old (.inl y) ne
      · exact old (.inr (List.mem_append_right _ y)) ne
    · rcases List.mem_append.mp h with y | y
      · exact old (.inr (List.mem_append_left _ y)) ne
      · obtain ⟨x, hx, c0, h2⟩ := after_mem.mp y
        obtain ⟨w, w0, w1, rfl⟩ := with_mem.mp h2
        exact ⟨(q, ms), List.mem_append_right _ (List.mem_singleton.mpr rfl), x, hx, c0, w, w0, w1, rfl⟩
theorem Grow.done {ss : List Int} {M : MovT} (g : Grow ss M []) : MovOk ss M where
  nd := g.nd
  start := g.start.resolve_right fun h => by cases h
  box := g.box
  mv := g.mv
  shut := fun m hm x hx c0 w w0 w1 => (g.shut m hm x hx c0 w w0 w1).resolve_right fun h => by cases h
  come := fun m hm ne => g.come m.1 (.inl (List.mem_map.mpr ⟨m, hm, rfl⟩)) ne
/-- shares of b told over 2520 -/
theorem share18 {b : Nat} (b1 : 1 ≤ b) (b9 : b ≤ 9) : ∃ f : Int, 0 < f ∧ f * b = D18 := by
  have z : ∀ b : Nat, b ≤ 9 → 1 ≤ b → (2520 / (b : Int)) * b = 2520 ∧ 0 < 2520 / (b : Int) := by decide
  exact ⟨2520 / (b : Int), (z b b9 b1).2, (z b b9 b1).1⟩

end
end Fm
namespace Fm
open PySem PySem.Spec PyProof.Rows L2
section
variable {P : Program} {w : World} {K : PySem.W.Frag} {mg : Str → Option Value} {base : Heap}

abbrev bxP (q : Box) : PyData := boxP q.1 q.2
theorem dp_bxs {H : Hp} : ∀ {xs : List V} {W : List Box}, DhAll K H xs (W.map bxD) → DpAll K H xs (W.map bxP)
  | [], [], _ => .nil
  | x :: xs, q :: W, h => by
    rw [List.map_cons] at h ⊢
    cases h with
    | cons h t => exact .cons (dp_box h) (dp_bxs t)
  | x :: xs, [], h => by cases h
  | [], c :: qs, h => by cases h
theorem shaped_bxs (W : List Box) : SeqAt.shaped (.list (W.map bxP)) = true := by
  obtain ⟨h1, h2⟩ := lay_all (f := fun q : Box => bxP q) (n := 2) (fun q => lay_box q.1 q.2) W
  exact shaped_of (n := 3) ⟨h1, Nat.succ_le_succ h2⟩ (by decide)
theorem eqv_nil (W : List PyData) : PyData.eqv (.list W) (.list []) = decide (W = []) := by
  cases W with
  | nil => rfl
  | cons x W => rfl
theorem dh_last {H : Hp} : ∀ {xs : List V} {ds : List Dt} {d : Dt}, DhAll K H xs (ds ++ [d]) → ∃ xs' v, xs = xs' ++ [v] ∧ DhAll K H xs' ds ∧ Dh K H v d
  | [], [], _, h => by cases h
  | x :: xs, [], d, h => by
    cases h with
    | cons h t =>
      cases t
      exact ⟨[], x, rfl, .nil, h⟩
  | x :: xs, e :: ds, d, h => by
    rw [List.cons_append] at h
    cases h with
    | cons h t =>
      obtain ⟨xs', v, rfl, h1, h2⟩ := dh_last t
      exact ⟨x :: xs', v, rfl, .cons h h1, h2⟩
  | [], e :: ds, d, h => by cases h
theorem shaped_ints18 (l : List Int) : SeqAt.shaped (.list (l.map PyData.int)) = true := by
  obtain ⟨h1, h2⟩ := lay_all (f := fun i : Int => PyData.int i) (n := 0) (fun i => ⟨rfl, Nat.le_refl _⟩) l
  exact shaped_of (n := 1) ⟨h1, Nat.succ_le_succ h2⟩ (by decide)
theorem MvAt.snoc {H : Hp} {L : BoxL} {M : MovT} {b : Addr} {q : Box} {v : V} {ms : Mvs} (ma : MvAt K H L M) (nq : q ∉ M.map (·.1)) (hb : BoxAt K H b q) (hv : Dh K H v (mvsD ms)) : MvAt K H (L ++ [(b, q, v)]) (M ++ [(q, ms)]) := by
  have old : ∀ r, r ∈ M.map (·.1) → mvOf (M ++ [(q, ms)]) r = mvOf M r := fun r hr => by
    unfold mvOf
    rw [List.find?_append]
    cases e : M.find? fun m => decide (m.1 = r) with
    | some m => rfl
    | none =>
      obtain ⟨m, hm, e2⟩ := List.mem_map.mp hr
      have := List.find?_eq_none.mp e m hm
      simp [e2] at this
  have new : mvOf (M ++ [(q, ms)]) q = ms := by
    unfold mvOf
    rw [List.find?_append]
    cases e : M.find? fun m => decide (m.1 = q) with
    | some m => exact (nq (List.mem_map.mpr ⟨m, List.mem_of_find?_eq_some e, by simpa using List.find?_some e⟩)).elim
    | none => simp
  refine ⟨by rw [List.map_append, List.map_append, ma.keys]; rfl, fun e he => ?_, fun e he => ?_⟩
  · rcases List.mem_append.mp he with z | z
    · exact ma.box e z
    · rw [List.mem_singleton.mp z]
      exact hb
  · rcases List.mem_append.mp he with z | z
    · rw [old e.2.1 (by rw [← ma.keys]; exact List.mem_map.mpr ⟨e, z, rfl⟩)]
      exact ma.val e z
    · rw [List.mem_singleton.mp z]
      show Dh K H v (mvsD (mvOf (M ++ [(q, ms)]) q))
      rw [new]
      exact hv
theorem zip_moves {n : Int} {p ks ts : List Int} {cs : List Int} {f : Int} {b : Nat} (sub : ks.Sublist cs) (csu : Up cs) (csm : ∀ c ∈ cs, -1 ≤ c ∧ c < n ∧ c ∉ p) (tl : ts.length = ks.length) (t1 : ∀ t ∈ ts, 1 ≤ t) (f0 : 0 < f) (fb : f * b = D18) (tsum : ts.sum = b) :
    MvOk n p (ks.zip (ts.map (· * f))) := by
  have m1 : (ks.zip (ts.map (· * f))).map (·.1) = ks := List.map_fst_zip (by rw [List.length_map, tl]; exact Nat.le_refl _)
  have m2 : (ks.zip (ts.map (· * f))).map (·.2) = ts.map (· * f) := List.map_snd_zip (by rw [List.length_map, tl]; exact Nat.le_refl _)
  have le1 : ∀ {l : List Int} {t : Int}, (∀ t ∈ l, 1 ≤ t) → t ∈ l → t ≤ l.sum := by
    intro l
    induction l with
    | nil => intro t _ h; cases h
    | cons x l ih =>
      intro t h1 ht
      rw [List.sum_cons]
      have x1 := h1 x (List.mem_cons_self ..)
      have nn := sum_nonneg (l := l) fun t ht => by have := h1 t (List.mem_cons_of_mem _ ht); omega
      rcases List.mem_cons.mp ht with e | e
      · omega
      · have := ih (fun t ht => h1 t (List.mem_cons_of_mem _ ht)) e
        omega
  refine ⟨by rw [m1]; exact csu.sublist sub, fun x hx => csm _ (sub.mem (by rw [← m1]; exact List.mem_map.mpr ⟨x, hx, rfl⟩)), fun x hx => ?_, ?_⟩
  · have hx2 : x.2 ∈ ts.map (· * f) := by rw [← m2]; exact List.mem_map.mpr ⟨x, hx, rfl⟩
    obtain ⟨t, ht, e⟩ := List.mem_map.mp hx2
    have a1 := t1 t ht
    have a2 := le1 t1 ht
    rw [tsum] at a2
    have b1 : 1 * f ≤ t * f := Int.mul_le_mul_of_nonneg_right a1 (Int.le_of_lt f0)
    have b2 : t * f ≤ b * f := Int.mul_le_mul_of_nonneg_right a2 (Int.le_of_lt f0)
    rw [Int.mul_comm (b : Int), fb] at b2
    have e : t * f = x.2 := e
    omega
  · rw [m2, sum_mul, tsum, Int.mul_comm, fb]
def spMovs (K : PySem.W.Frag) (P : Program) (w : World) : Sp := fun vs H Q _ => ∃ (h ca sz : Addr) (ss : List Int), vs = [.ref h, .ref sz] ∧ HandOk H h ca ∧ SqT K H sz (ss.map V.int) ∧ ss ∈ sz18 ∧
  ∀ mv L M H', Keep h ca H H' → H mv = none → H' mv = some (DBO P w mv L) → MvAt K H' L M → MovOk ss M → M.length ≤ 36 → (∀ k, (lvl M k).length ≤ 31) → Q (.ref mv) H'
theorem ok_law_moves (T : Txt K mg) : FnOk P w K mg base CX0 3 T.f_law_moves T.d_law_moves ["hand", "sizes"] (spMovs K P w) := by
  refine T.F_law_moves.ok sc_law_moves (fun vs H Q E h => ?_) (fun cdv A outer s H vs Q E hr h => ?_)
  · obtain ⟨_, _, _, _, rfl, _⟩ := h
    rfl
  · obtain ⟨h, ca, sz, ss, rfl, hx, hsz, hss, q⟩ := h
    have ok := sz18_ok ss hss
    obtain ⟨s1, s5, _⟩ := ok.facts
    have ss3 : ss.length ≤ 3 := (show ∀ s ∈ sz18, s.length ≤ 3 by decide) ss hss
    refine ⟨_, (pss_cons (ps_set (i := 2) sc_law_moves.nd rfl (.inl rfl) (pe_dnewB (P := P) (w := w)))
      (pss_cons (ps_set (i := 3) sc_law_moves.nd rfl (.inl rfl) (pe_lst (pa_cons (pe_tup (pa_cons (pe_tup pa_nil) (pa_cons (pe_tup pa_nil) pa_nil))) pa_nil)))
      (pss_cons (ps_for PassesOwn.never rfl (pi_range1 (by rfl) T.z_range (pa_cons pe_int pa_nil)) (pg_name (i := 4) sc_law_moves.nd rfl (.inl rfl)) (pss_cons (ps_if (pt_cmpR (op_eqK K hr.units) (pv 3) (pe_lst pa_nil) (nomark _)) (pss_one ps_break) pss_nil)
      (pss_cons (ps_set (i := 5) sc_law_moves.nd rfl (.inr rfl) (pe_bm0 PySem.F.plainAttrs_list PySem.F.slot_list_pop PySem.F.type_list_pop mt_pop (pv 3)))
      (pss_one (ps_if (pt_cmpR (op_notinB (K := K) (P := P) (w := w) hr.units) (pv 5) (pv 2) (by rfl)) (pss_cons (ps_set (i := 6) sc_law_moves.nd rfl (.inl rfl) (pe_op op_cat (pe_lst (pa_cons (pe_un un_neg pe_int) pa_nil)) (pe_lc (own := [("c", 9)]) rfl sc_law_moves.nd (pi_range1 (by rfl) T.z_range (pa_cons (pe_callB (call_lenK K) (by rfl) T.z_len PySem.boot_len (pa_cons (pv 1) pa_nil)) pa_nil)) (blkOk_by (N := N_law_moves) (sc := defScope s_law_moves) (by decide +kernel)) (fun _ _ _ _ _ => (pg_name (i := 9) sc_law_moves.nd rfl (.inl rfl))) (fun _ _ _ _ _ => (pts_one (pt_cmpR (op_notinT (K := K) (room65 hr)) (pv 9) (pe_ix (ix_tupK K) (pv 5) pe_int (fun _ _ => rfl)) (by rfl)))) (fun _ _ _ _ _ => (pv 9)))))
      (pss_cons (ps_set (i := 7) sc_law_moves.nd rfl (.inr rfl) (pe_lc (own := [("c", 9)]) rfl sc_law_moves.nd (pi_listK K (pv 6)) (blkOk_by (N := N_law_moves) (sc := defScope s_law_moves) (by decide +kernel)) (fun _ _ _ _ _ => (pg_name (i := 9) sc_law_moves.nd rfl (.inl rfl))) (fun _ _ _ _ _ => (pts_one (pt_cmpR op_gt (pe_call (ok_law_draw T) (hr.mono (by decide)) (by rfl) T.g_law_draw T.F_law_draw.kp T.b_law_draw .nil pass0 (pa_cons (pv 0) (pa_cons pe_int pa_nil))) pe_int (nomark _)))) (fun _ _ _ _ _ => (pv 9))))
      (pss_cons (ps_if (pt_cmpR (op_eqK K hr.units) (pv 7) (pe_lst pa_nil) (nomark _)) (pss_one (ps_set (i := 7) sc_law_moves.nd rfl (.inr rfl) (pe_lst (pa_cons (pe_ix (ix_listK K) (pv 6) (pe_call (ok_law_draw T) (hr.mono (by decide)) (by rfl) T.g_law_draw T.F_law_draw.kp T.b_law_draw .nil pass0 (pa_cons (pv 0) (pa_cons (pe_callB (call_lenK K) (by rfl) T.z_len PySem.boot_len (pa_cons (pv 6) pa_nil)) pa_nil))) (fun _ _ => rfl)) pa_nil)))) pss_nil)
      (pss_cons (ps_set (i := 8) sc_law_moves.nd rfl (.inr rfl) (pe_call (ok_law_parts T) hr (by rfl) T.g_law_parts T.F_law_parts.kp T.b_law_parts .nil pass0 (pa_cons (pv 0) (pa_cons (pe_callB (call_lenK K) (by rfl) T.z_len PySem.boot_len (pa_cons (pv 7) pa_nil)) (pa_cons (pe_op op_add (pe_callB (call_lenK K) (by rfl) T.z_len PySem.boot_len (pa_cons (pv 7) pa_nil)) (pe_call (ok_law_draw T) (hr.mono (by decide)) (by rfl) T.g_law_draw T.F_law_draw.kp T.b_law_draw .nil pass0 (pa_cons (pv 0) (pa_cons pe_int pa_nil)))) pa_nil)))))
      (pss_cons (ps_dputB (K := K) (P := P) (w := w) hr.units (pv 2) (pv 5) (pe_callTy (call_tupleK K) (by rfl) T.z_tuple (by decide +kernel) (pa_cons (pe_lc (own := [("k", 10)]) rfl sc_law_moves.nd (pi_range1 (by rfl) T.z_range (pa_cons (pe_callB (call_lenK K) (by rfl) T.z_len PySem.boot_len (pa_cons (pv 7) pa_nil)) pa_nil)) (blkOk_by (N := N_law_moves) (sc := defScope s_law_moves) (by decide +kernel)) (fun _ _ _ _ _ => (pg_name (i := 10) sc_law_moves.nd rfl (.inl rfl))) (fun _ _ _ _ _ => pts_nil) (fun _ _ _ _ _ => (pe_tup (pa_cons (pe_ix (ix_listK K) (pv 7) (pv 10) (fun _ _ => rfl)) (pa_cons (pe_ix (ix_listK K) (pv 8) (pv 10) (fun _ _ => rfl)) pa_nil))))) pa_nil)) rfl)
      (pss_one (ps_for PassesOwn.never rfl (pi_listK K (pv 7)) (pg_name (i := 9) sc_law_moves.nd rfl (.inr rfl)) (pss_one (ps_if (pt_cmpR op_ne (pv 9) (pe_un un_neg pe_int) (nomark _)) (pss_one (ps_expr (pe_bm PySem.F.plainAttrs_list PySem.F.slot_list_extend PySem.F.type_list_extend mt_extend (pv 3) (pa_cons (pe_lc (own := [("worth", 11)]) rfl sc_law_moves.nd (pi_range1 (by rfl) T.z_range (pa_cons (pe_ix (ix_tupK K) (pv 1) (pv 9) (fun _ _ => rfl)) pa_nil)) (blkOk_by (N := N_law_moves) (sc := defScope s_law_moves) (by decide +kernel)) (fun _ _ _ _ _ => (pg_name (i := 11) sc_law_moves.nd rfl (.inl rfl))) (fun _ _ _ _ _ => pts_nil) (fun _ _ _ _ _ => (pe_call (ok_law_later T) (hr.mono (by decide)) (by rfl) T.g_law_later T.F_law_later.kp T.b_law_later .nil pass0 (pa_cons (pv 5) (pa_cons (pv 9) (pa_cons (pv 11) pa_nil)))))) pa_nil)))) pss_nil))))))))) pss_nil)))))
      (pss_one (ps_ret (pv 2)))))), ?_⟩
    intro mv nmv
    have hm1 : (upd H mv (DBO P w mv [])) mv = some (DBO P w mv []) := upd_same
    have k1 := Keep.put (o := DBO P w mv []) hx (Keep.of hx (.refl _)) nmv
    generalize upd H mv (DBO P w mv []) = H1 at hm1 k1
    refine ⟨Nat.zero_le _, fun t1 n1 => ⟨Nat.zero_le _, fun t2 n2 => ⟨by show 2 ≤ sizeLine; decide, fun t3 n3 => ⟨by show 1 ≤ sizeLine; decide, fun wt nwt => ?_⟩⟩⟩⟩
    have k2 : Keep h ca H (upd (upd (upd (upd H1 t1 (.tup [])) t2 (.tup [])) t3 (.tup [.ref t1, .ref t2])) wt (.lst [.ref t3])) := k1.same ((same_new n1).trans ((same_new n2).trans ((same_new n3).trans (same_new nwt))))
    have n10 : mv ≠ t1 := fun e => by rw [← e, hm1] at n1; cases n1
    have hb3 : BoxAt K (upd (upd (upd (upd H1 t1 (.tup [])) t2 (.tup [])) t3 (.tup [.ref t1, .ref t2])) wt (.lst [.ref t3])) t3 START := by
      have a1 := (same_new (o := HO.tup []) n2).trans ((same_new (o := HO.tup [.ref t1, .ref t2]) n3).trans (same_new (o := HO.lst [.ref t3]) nwt))
      have a2 := (same_new (o := HO.tup [.ref t1, .ref t2]) n3).trans (same_new (o := HO.lst [.ref t3]) nwt)
      exact ⟨t1, t2, SqT.of ((same_new (o := HO.lst [.ref t3]) nwt) _ _ upd_same), SqT.of (a1 _ _ upd_same), SqT.of (a2 _ _ upd_same)⟩
    have hmv2 : (upd (upd (upd (upd H1 t1 (.tup [])) t2 (.tup [])) t3 (.tup [.ref t1, .ref t2])) wt (.lst [.ref t3])) mv = some (DBO P w mv []) := ((same_new n1).trans ((same_new n2).trans ((same_new n3).trans (same_new nwt)))) _ _ hm1
    have hwt2 : (upd (upd (upd (upd H1 t1 (.tup [])) t2 (.tup [])) t3 (.tup [.ref t1, .ref t2])) wt (.lst [.ref t3])) wt = some (.lst [.ref t3]) := upd_same
    have nwt1 : H1 wt = none := by
      have z := ((same_new (o := HO.tup []) n1).trans ((same_new (o := HO.tup []) n2).trans (same_new (o := HO.tup [.ref t1, .ref t2]) n3)))
      exact z.free nwt
    have nwt0 : H wt = none := Keep.free hx k1 nwt1
    have nwm : wt ≠ mv := fun e => by rw [e, hm1] at nwt1; cases nwt1
    generalize upd (upd (upd (upd H1 t1 (.tup [])) t2 (.tup [])) t3 (.tup [.ref t1, .ref t2])) wt (.lst [.ref t3]) = H2 at k2 hb3 hmv2 hwt2
    clear n1 n2 n3 nwt k1 hm1
    obtain ⟨nmh, nmc⟩ := hx.ne nmv
    obtain ⟨nwh, nwc⟩ := hx.ne nwt0
    refine ⟨_, rfl, by decide, by decide, for_range (lo := 0) (n := ((2000 : Int)).toNat) (fun t σ H' => ∃ (y4 y5 y6 y7 y8 y9 y10 y11 : Option V) (L : BoxL) (M : MovT) (xs : List V) (W : List Box), σ = [some (.ref h), some (.ref sz), some (.ref mv), some (.ref wt), y4, y5, y6, y7, y8, y9, y10, y11] ∧ Keep h ca H H' ∧ H' mv = some (DBO P w mv L) ∧ MvAt K H' L M ∧ H' wt = some (.lst xs) ∧ DhAll K H' xs (W.map bxD) ∧ Grow ss M W ∧ W.length + t ≤ 1 + 24 * M.length) ?z ?s ?d⟩
    case z => exact ⟨none, none, none, none, none, none, none, none, [], [], [.ref t3], [START], rfl, k2, hmv2, ⟨rfl, fun e he => (by cases he), fun e he => (by cases he)⟩, hwt2, .cons (box_dh hb3) .nil, Grow.zero ok, by decide⟩
    case d =>
      rintro σ G ⟨_, _, _, _, _, _, _, _, L, M, xs, W, rfl, kp, hmv, ma, hwt, hxs, gr, cnt⟩
      have few := (few_all hss gr.nd fun q hq => by
        obtain ⟨m, hm, rfl⟩ := List.mem_map.mp hq
        exact gr.box m hm).1
      rw [List.length_map] at few
      have e : ((2000 : Int)).toNat = 2000 := rfl
      omega
    case s =>
      rintro t σ G ht ⟨y4, y5, y6, y7, y8, y9, y10, y11, L, M, xs, W, rfl, kp, hmv, ma, hwt, hxs, gr, cnt⟩
      have few := few_all hss gr.nd fun q hq => by
        obtain ⟨m, hm, rfl⟩ := List.mem_map.mp hq
        exact gr.box m hm
      rw [List.length_map] at few
      have xl := hxs.length
      rw [List.length_map] at xl
      refine ⟨_, rfl, Nat.zero_le _, fun e0 ne0 => ?_⟩
      have s0 : Same G (upd G e0 (.lst [])) := same_new ne0
      have he0 : SqL K (upd G e0 (.lst [])) e0 [] := SqL.of upd_same
      refine ⟨.list (W.map bxP), .list [], .lst (SqL.of (s0 _ _ hwt)) (dp_bxs (hxs.ext (.of s0))), .lst he0 .nil, shaped_bxs W, rfl, _, rfl, ?_⟩
      rw [eqv_nil]
      generalize upd G e0 (.lst []) = G1 at s0
      have kp1 := kp.same s0
      by_cases hW : W.map bxP = []
      · rw [decide_eq_true hW]
        have W0 : W = [] := List.map_eq_nil_iff.mp hW
        subst W0
        refine iteT ?_
        exact ⟨_, rfl, q mv L M G1 kp1 nmv (s0 _ _ hmv) (ma.ext (.of s0)) gr.done few.1 few.2⟩
      · rw [decide_eq_false hW]
        refine iteF ?_
        obtain ⟨W', q0, eW⟩ : ∃ W' q0, W = W' ++ [q0] := by
          rcases List.eq_nil_or_concat W with z | ⟨W', q0, z⟩
          · rw [z] at hW
            exact (hW rfl).elim
          · exact ⟨W', q0, by rw [z]; simp⟩
        subst eW
        rw [List.map_append] at hxs
        obtain ⟨xs', v0, rfl, hxs', hv0⟩ := dh_last hxs
        obtain ⟨b0, rfl, hb0⟩ := dh_box hv0
        have hy : (xs' ++ [V.ref b0])[(xs' ++ [V.ref b0]).length - 1]? = some (.ref b0) := by
          rw [List.length_append]
          show (xs' ++ [V.ref b0])[xs'.length + 1 - 1]? = _
          rw [Nat.add_sub_cancel, List.getElem?_append_right (Nat.le_refl _), Nat.sub_self]
          rfl
        refine ⟨_, rfl, .inl ⟨rfl, _, SqL.of (s0 _ _ hwt)⟩, wt, _, _, rfl, rfl, s0 _ _ hwt, hy, ?_⟩
        rw [List.dropLast_concat]
        have ep := Ext.put (ys := xs') (s0 _ _ hwt)
        have kp2 := Keep.put (o := .lst xs') hx kp1 nwt0
        have ma2 := (ma.ext (.of s0)).ext ep
        have hxs2 := (hxs'.ext (.of s0)).ext ep
        have hb2 := (hb0.ext (.of s0)).ext ep
        have hmv2' : (upd G1 wt (.lst xs')) mv = some (DBO P w mv L) := by rw [upd_ne (Ne.symm nwm)]; exact s0 _ _ hmv
        have hwt2' : (upd G1 wt (.lst xs')) wt = some (.lst xs') := upd_same
        generalize upd G1 wt (.lst xs') = G2 at kp2 ma2 hxs2 hb2 hmv2' hwt2'
        clear ep hxs' hb0 hv0 hxs
        dsimp only [tSeq, tAsg, gName, List.set_cons_succ, List.set_cons_zero]
        refine ⟨_, rfl, _, rfl, b0, mv, q0, L, rfl, rfl, hmv2', ma2.box, hb2, _, rfl, ?_⟩
        rw [ma2.isS]
        rw [List.length_append] at cnt
        have cnt : W'.length + 1 + t ≤ 1 + 24 * M.length := cnt
        by_cases hq : q0 ∈ M.map (·.1)
        · rw [decide_eq_true hq]
          refine iteF ?_
          exact ⟨_, _, _, _, _, _, _, _, L, M, xs', W', rfl, kp2, hmv2', ma2, hwt2', hxs2, gr.skip hq, by omega⟩
        · rw [decide_eq_false hq]
          refine iteT ?_
          have hszG := (Keep.ext hx kp2).sqT hsz
          obtain ⟨pa, wa, hbs, hpa, hwa⟩ := id hb2
          have bq := gr.wbox q0 (List.mem_append_right _ (List.mem_singleton.mpr rfl))
          have pl := bq.1.len (by omega)
          -- what may be opened
          refine ⟨_, rfl, by show 1 ≤ sizeLine; decide, fun d3 nd3 => ?_⟩
          have s3 : Same G2 (upd G2 d3 (.lst [.int (-1)])) := same_new nd3
          have hd3 : (upd G2 d3 (.lst [.int (-1)])) d3 = some (.lst [.int (-1)]) := upd_same
          generalize upd G2 d3 (.lst [.int (-1)]) = G3 at s3 hd3
          refine ⟨_, rfl, sz, _, rfl, .inr ((Ext.of s3).sqT hszG), _, rfl, by rw [List.length_map]; omega, by rw [List.length_map]; omega, fun D nD => lc_range (lo := 0) (n := ((ss.map V.int).length : Int).toNat) (fun j H' => Same G3 H' ∧ H' D = some (.lst ((((List.range j).map fun i : Nat => (i : Int)).filter fun c => decide (c ∉ q0.1)).map V.int))) ⟨same_new nD, upd_same⟩ ?_ ?_⟩
          · rintro j H4 hj ⟨s4, hD⟩
            have ej : (List.range (j + 1)).map (fun i : Nat => (i : Int)) = (List.range j).map (fun i : Nat => (i : Int)) ++ [(j : Int)] := by
              rw [List.range_succ, List.map_append]
              rfl
            rw [Int.zero_add]
            refine ⟨rfl, ?_⟩
            refine ⟨_, rfl, _, rfl, b0, _, 0, _, rfl, rfl, (Ext.of (s3.trans s4)).sqT hbs, atI_nat (j := 0) rfl, .int j, q0.1.map PyData.int, .int _, .tup ((Ext.of (s3.trans s4)).sqT hpa) (dp_ints q0.1), rfl, shaped_ct q0.1, _, rfl, ?_⟩
            rw [any_in, ej, List.filter_append]
            by_cases hc : (j : Int) ∈ q0.1
            · rw [decide_eq_true hc, List.filter_cons_of_neg (by simpa using hc), List.filter_nil, List.append_nil]
              exact ⟨s4, hD⟩
            · rw [decide_eq_false hc, List.filter_cons_of_pos (by simpa using hc), List.filter_nil]
              refine ⟨_, rfl, _, hD, ?_, Same.put nD s4, ?_⟩
              · have z := List.length_filter_le (fun c => decide (c ∉ q0.1)) ((List.range j).map fun i : Nat => (i : Int))
                rw [List.length_map, List.length_range] at z
                rw [List.length_map]
                rw [List.length_map] at hj
                exact sz_small (by omega)
              · rw [upd_same, List.map_append]
                rfl
          rintro H4 ⟨s4, hD⟩
          rw [List.length_map] at hD
          have e5 : ((ss.length : Nat) : Int).toNat = ss.length := Int.toNat_natCast _
          rw [e5] at hD
          have colm : ∀ c ∈ ((List.range ss.length).map fun i : Nat => (i : Int)).filter (fun c => decide (c ∉ q0.1)), 0 ≤ c ∧ c < ss.length ∧ c ∉ q0.1 := fun c hc => by
            obtain ⟨h1, h2⟩ := List.mem_filter.mp hc
            obtain ⟨i, hi, rfl⟩ := List.mem_map.mp h1
            have := List.mem_range.mp hi
            exact ⟨by omega, by omega, by simpa using h2⟩
          have colu : Up (((List.range ss.length).map fun i : Nat => (i : Int)).filter fun c => decide (c ∉ q0.1)) := by
            refine List.Pairwise.filter _ (List.pairwise_map.mpr (List.pairwise_lt_range.imp fun h => by omega))
          have coll : (((List.range ss.length).map fun i : Nat => (i : Int)).filter fun c => decide (c ∉ q0.1)).length ≤ ss.length := by
            have z := List.length_filter_le (fun c => decide (c ∉ q0.1)) ((List.range ss.length).map fun i : Nat => (i : Int))
            rwa [List.length_map, List.length_range] at z
          generalize ((List.range ss.length).map fun i : Nat => (i : Int)).filter (fun c => decide (c ∉ q0.1)) = cols at hD colm colu coll
          refine ⟨d3, D, [.int (-1)], cols.map V.int, rfl, rfl, s4 _ _ hd3, hD, by
            have e1 : ([V.int (-1)] : List V).length = 1 := rfl
            have e2 : (cols.map V.int).length = cols.length := List.length_map _
            rw [e1, e2]
            exact Nat.le_of_lt (sz_small (by omega)), fun p6 np6 => ?_⟩
          have s6 : Same H4 (upd H4 p6 (.lst ([.int (-1)] ++ cols.map V.int))) := same_new np6
          have hp6 : (upd H4 p6 (.lst ([.int (-1)] ++ cols.map V.int))) p6 = some (.lst ((-1 :: cols).map V.int)) := upd_same
          generalize upd H4 p6 (.lst ([.int (-1)] ++ cols.map V.int)) = G6 at s6 hp6
          have s26 := s3.trans (s4.trans s6)
          have kp6 := kp2.same s26
          have np60 : H p6 = none := Keep.free hx (kp2.same (s3.trans s4)) np6
          have np6h := (hx.ne np60).1
          have csm : ∀ c ∈ (-1 :: cols), -1 ≤ c ∧ c < ss.length ∧ c ∉ q0.1 := fun c hc => by
            rcases List.mem_cons.mp hc with e | e
            · rw [e]
              refine ⟨by omega, by omega, fun z => ?_⟩
              have := bq.1.mem _ z
              omega
            · have := colm c e
              exact ⟨by omega, this.2.1, this.2.2⟩
          have csu : Up (-1 :: cols) := .cons (fun c hc => by have := (colm c hc).1; omega) colu
          have csl : (-1 :: cols).length ≤ 4 := by rw [List.length_cons]; omega
          generalize hcs : (-1 :: cols) = cs at hp6 csm csu csl
          have cs0 : 0 < cs.length := by rw [← hcs]; exact Nat.succ_pos _
          clear hcs colm colu coll hD hd3
          dsimp only [tSeq, tAsg, gName, List.set_cons_succ, List.set_cons_zero]
          -- those kept
          refine ⟨_, rfl, p6, rfl, ⟨_, SqL.of hp6⟩, fun D7 nD7 => lc_list (K := K) (xs := cs.map V.int) (fun j H' => ∃ ks : List Int, ks.Sublist (cs.take j) ∧ Keep h ca G6 H' ∧ H' D7 = some (.lst (ks.map V.int))) ⟨[], List.nil_sublist _, Keep.put kp6.hand (Keep.of kp6.hand (.refl _)) nD7, upd_same⟩ (fun j H' _ ⟨_, _, kk, _⟩ => SqL.of (kk.rest _ _ np6h hp6)) ?_ ?_⟩
          · rintro j x H7 hxj ⟨ks, sub, kk, hD7⟩
            obtain ⟨c, hc, rfl⟩ := map_at hxj
            have et : cs.take (j + 1) = cs.take j ++ [c] := by rw [List.take_add_one, hc]; rfl
            have nDh7 := kp6.hand.ne nD7
            refine ⟨rfl, ?_⟩
            refine ⟨_, rfl, h, ca, 3, rfl, kk.hand, by decide, by decide, fun d H8 d0 d1 k8 => ⟨_, _, rfl, rfl, decide (0 < d), rfl, ?_⟩⟩
            have hD8 := k8.rest _ _ nDh7.1 hD7
            dsimp only
            by_cases hd : 0 < d
            · rw [decide_eq_true hd, if_pos rfl]
              refine ⟨_, rfl, _, hD8, ?_, ks ++ [c], ?_, Keep.put kp6.hand (kk.trans k8) nD7, ?_⟩
              · have z := sub.length_le
                rw [List.length_take] at z
                rw [List.length_map]
                exact sz_small (by omega)
              · rw [et]
                exact sub.append (List.Sublist.refl _)
              · rw [upd_same, List.map_append]
                rfl
            · rw [decide_eq_false hd, if_neg Bool.false_ne_true]
              refine ⟨ks, ?_, kk.trans k8, hD8⟩
              rw [et]
              exact sub.trans (List.sublist_append_left _ _)
          rintro H7 ⟨ks, sub, kk, hD7⟩
          rw [List.length_map, List.take_length] at sub
          have nDh7 := kp6.hand.ne nD7
          have kp7 := kp6.trans kk
          have nD70 : H D7 = none := Keep.free hx kp6 nD7
          have s7all : ∀ b o, b ≠ h → G2 b = some o → H7 b = some o := fun b o nb e => kk.rest b o nb (s26 _ _ e)
          -- none kept: then one of them
          refine' (fun tail => ?usetail : (∀ (kd : Addr) (ks' : List Int) (G8 : Hp), ks'.Sublist cs → 0 < ks'.length → Keep h ca H7 G8 → kd ≠ wt → H kd = none → G8 kd = some (.lst (ks'.map V.int)) →
            tSeq _ _ _ [some (.ref h), some (.ref sz), some (.ref mv), some (.ref wt), some (.int (0 + (t : Nat))), some (.ref b0), some (.ref p6), some (.ref kd), y8, y9, y10, y11] G8) → _) ?tailx
          case usetail =>
            refine ⟨_, rfl, Nat.zero_le _, fun e0 ne0 => ?_⟩
            have s0' : Same H7 (upd H7 e0 (.lst [])) := same_new ne0
            refine ⟨.list (ks.map PyData.int), .list [], .lst (SqL.of (s0' _ _ hD7)) (dp_ints ks), .lst (SqL.of upd_same) .nil, shaped_ints18 ks, rfl, _, rfl, ?_⟩
            rw [eqv_nil]
            have k8 := Keep.of kp7.hand s0'
            have hD8 := s0' _ _ hD7
            generalize upd H7 e0 (.lst []) = H8 at k8 hD8
            by_cases hk : ks.map PyData.int = []
            · rw [decide_eq_true hk]
              refine iteT ?_
              have hp8 := k8.rest _ _ np6h (kk.rest _ _ np6h hp6)
              refine ⟨_, rfl, _, rfl, _, rfl, p6, _, rfl, .inl (SqL.of hp8), h, ca, ((cs.map V.int).length : Int), rfl, k8.hand, by rw [List.length_map]; omega, by rw [List.length_map]; omega, fun d H9 d0 d1 k9 => ?_⟩
              rw [List.length_map] at d1
              have hd : d.toNat < cs.length := by omega
              have hc : cs[d.toNat]? = some cs[d.toNat] := List.getElem?_eq_getElem hd
              refine ⟨p6, _, d, .int cs[d.toNat], rfl, rfl, SqL.of (k9.rest _ _ np6h hp8), at_of (j := d.toNat) (by omega) (by rw [List.getElem?_map, hc]; rfl), by show 1 ≤ sizeLine; decide, fun kd nkd => ?_⟩
              have nkd7 : H7 kd = none := Keep.free kp7.hand (k8.trans k9) nkd
              exact tail kd [cs[d.toNat]] _ (List.singleton_sublist.mpr (List.getElem_mem hd)) (Nat.succ_pos _) ((k8.trans k9).same (same_new nkd)) (fun y => by rw [y, k9.rest _ _ nwh (k8.rest _ _ nwh (kk.rest _ _ nwh (s26 _ _ hwt2')))] at nkd; cases nkd) (Keep.free hx kp7 nkd7) upd_same
            · rw [decide_eq_false hk]
              refine iteF ?_
              refine tail D7 ks H8 sub ?_ k8 (fun y => by rw [y, s26 _ _ hwt2'] at nD7; cases nD7) nD70 hD8
              cases ks with
              | nil => exact (hk rfl).elim
              | cons x l => exact Nat.succ_pos _
          case tailx =>
            intro kd ks' G8 sub' pos' k8 ne_kw nkd hkd
            have kp8 := kp7.trans k8
            obtain ⟨nkh, nkc⟩ := hx.ne nkd
            have kl : ks'.length ≤ 4 := Nat.le_trans sub'.length_le csl
            refine ⟨_, rfl, _, rfl, kd, _, rfl, .inl (SqL.of hkd), _, rfl, kd, _, rfl, .inl (SqL.of hkd), _, rfl, h, ca, 6, rfl, kp8.hand, by decide, by decide, fun d H9 d0 d1 k9 => ?_⟩
            obtain ⟨e, rfl⟩ : ∃ e : Nat, d = (e : Int) := ⟨d.toNat, by omega⟩
            rw [List.length_map]
            refine ⟨_, _, rfl, rfl, h, ca, ks'.length, ks'.length + e, rfl, k9.hand, pos', by omega, by omega, by omega, fun sd ys ts H10 k10 nsd hsd hys tl t1 tsum => ?_⟩
            dsimp only [tSeq, tAsg, gName, List.set_cons_succ, List.set_cons_zero]
            obtain ⟨f, f0, fb⟩ := share18 (b := ks'.length + e) (by omega) (by omega)
            have mok : MvOk ss.length q0.1 (ks'.zip (ts.map (· * f))) := zip_moves sub' csu csm tl t1 f0 fb tsum
            have mlen : (ks'.zip (ts.map (· * f))).length = ks'.length := by rw [List.length_zip, List.length_map, tl, Nat.min_self]
            have matJ : ∀ (j : Nat), j < ks'.length → ∃ c u, ks'[j]? = some c ∧ ts[j]? = some u ∧ (ks'.zip (ts.map (· * f)))[j]? = some (c, u * f) := fun j hj => by
              refine ⟨ks'[j], ts[j]'(by omega), List.getElem?_eq_getElem hj, List.getElem?_eq_getElem (by omega), ?_⟩
              rw [List.getElem?_zip_eq_some]
              exact ⟨List.getElem?_eq_getElem hj, by rw [List.getElem?_map, List.getElem?_eq_getElem (by omega)]; rfl⟩
            have mfst : (ks'.zip (ts.map (· * f))).map (·.1) = ks' := List.map_fst_zip (by rw [List.length_map, tl]; exact Nat.le_refl _)
            generalize ks'.zip (ts.map (· * f)) = ms at mok mlen matJ mfst
            have k2A : Keep h ca G2 H10 := (Keep.of kp2.hand s26).trans (kk.trans (k8.trans (k9.trans k10)))
            have hkd10 : H10 kd = some (.lst (ks'.map V.int)) := k10.rest _ _ nkh (k9.rest _ _ nkh hkd)
            have yl := hys.length
            rw [List.length_map, tl] at yl
            refine ⟨_, rfl, kd, _, rfl, .inl (SqL.of hkd10), _, rfl, by rw [List.length_map]; omega, by rw [List.length_map]; omega, fun D nD => lc_range (lo := 0) (n := ((ks'.map V.int).length : Int).toNat) (fun j H' => Got K H10 D ((ms.take j).map mvD) H') (.zero nD) ?_ ?_⟩
            · intro j H11 hj g
              rw [List.length_map, Int.toNat_natCast] at hj
              obtain ⟨c, u, hc, hu, hm⟩ := matJ j hj
              have et : ms.take (j + 1) = ms.take j ++ [(c, u * f)] := by rw [List.take_add_one, hm]; rfl
              obtain ⟨yv, hyv⟩ : ∃ yv, ys[j]? = some yv := ⟨_, List.getElem?_eq_getElem (by omega)⟩
              obtain ⟨dd, hdd, hyd⟩ := hys.get hyv
              rw [List.getElem?_map, hu] at hdd
              have edd : frD (lowZ u ((ks'.length + e : Nat) : Int)) = dd := Option.some.inj hdd
              have elow : lowZ u ((ks'.length + e : Nat) : Int) = lowZ (u * f) D18 := by rw [← fb, Int.mul_comm u f, low_mul f0]
              rw [Int.zero_add]
              refine ⟨rfl, ?_⟩
              dsimp only [tYes]
              rw [if_pos rfl]
              refine ⟨_, rfl, _, rfl, kd, _, j, .int c, rfl, rfl, SqL.of (g.same _ _ hkd10), at_of (j := j) rfl (by rw [List.getElem?_map, hc]; rfl), _, rfl, _, rfl, sd, _, j, yv, rfl, rfl, SqL.of (g.same _ _ hsd), at_of (j := j) rfl hyv, by show 2 ≤ sizeLine; decide, fun tn ntn => ?_⟩
              have sn : Same H11 (upd H11 tn (.tup [.int c, yv])) := same_new ntn
              have dn : Dh K (upd H11 tn (.tup [.int c, yv])) (.ref tn) (mvD (c, u * f)) := .tup (SqT.of upd_same) (.cons (.int c) (.cons (by
                have z := hyd.ext (.of (g.same.trans sn))
                rw [← edd, elow] at z
                exact z) .nil))
              have z := g.put nD sn dn (by rw [List.length_map, List.length_take]; omega)
              rw [et, List.map_append]
              exact z
            intro H11 g
            rw [List.length_map, Int.toNat_natCast, ← mlen, List.take_length] at g
            obtain ⟨acc, hD, hacc⟩ := g.got
            refine ⟨D, _, rfl, .inl ⟨SqL.of hD, fun tt ntt => ?_⟩⟩
            have s12 : Same H11 (upd H11 tt (.tup acc)) := same_new ntt
            have dtt : Dh K (upd H11 tt (.tup acc)) (.ref tt) (mvsD ms) := .tup (SqT.of upd_same) (hacc.ext (.of s12))
            have s1012 := g.same.trans s12
            generalize upd H11 tt (.tup acc) = H12 at s12 dtt s1012
            have k2B := k2A.same s1012
            have e2B := Keep.ext kp2.hand k2B
            have hmv12 := k2B.rest _ _ nmh hmv2'
            have hwt12 := k2B.rest _ _ nwh hwt2'
            have ma12 := ma2.ext e2B
            have hb12 := hb2.ext e2B
            have Ll : L.length = M.length := by
              have z := congrArg List.length ma2.keys
              rwa [List.length_map, List.length_map] at z
            refine ⟨_, rfl, _, rfl, mv, b0, q0, L, rfl, rfl, hmv12, ma12.box, hb12, findB_out (by rw [ma2.keys]; exact hq), by omega, ?_⟩
            have nmvw : mv ≠ wt := Ne.symm nwm
            have mvS : ∀ {a : Addr} {xs : List V}, SqT K H12 a xs → SqT K (upd H12 mv (DBO P w mv (L ++ [(b0, q0, .ref tt)]))) a xs := fun h => sqT_but hmv12 (fun b u nb e => by rw [upd_ne nb]; exact e) h
            have ma13 := (ma12.snoc hq hb12 dtt).mv mvS
            have hmv13 : (upd H12 mv (DBO P w mv (L ++ [(b0, q0, .ref tt)]))) mv = some (DBO P w mv (L ++ [(b0, q0, .ref tt)])) := upd_same
            have hwt13 : (upd H12 mv (DBO P w mv (L ++ [(b0, q0, .ref tt)]))) wt = some (.lst xs') := by rw [upd_ne nwm]; exact hwt12
            have hkd13 : (upd H12 mv (DBO P w mv (L ++ [(b0, q0, .ref tt)]))) kd = some (.lst (ks'.map V.int)) := by
              have z := s1012 _ _ hkd10
              rw [upd_ne fun y => by rw [y, hmv12] at z; unfold DBO at z; cases z]
              exact z
            have hxs13 := (hxs2.ext e2B).mv mvS (plain_all fun d hd => by
              obtain ⟨b, _, rfl⟩ := List.mem_map.mp hd
              exact plain_all fun d hd => by
                simp only [List.mem_cons, List.not_mem_nil, or_false] at hd
                rcases hd with rfl | rfl <;> exact plain_ct _)
            have kp13 := Keep.put (o := DBO P w mv (L ++ [(b0, q0, .ref tt)])) hx (kp2.trans k2B) nmv
            have hb13 := hb12.mvs mvS
            generalize upd H12 mv (DBO P w mv (L ++ [(b0, q0, .ref tt)])) = H13 at ma13 hmv13 hwt13 hkd13 hxs13 kp13 hb13
            have gr13 := gr.more hq mok
            have hsz13 := (Keep.ext hx kp13).sqT hsz
            refine ⟨_, rfl, kd, rfl, ⟨_, SqL.of hkd13⟩, for_list (K := K) (xs := ks'.map V.int) (fun j σ H' => ∃ (y9 y10 y11 : Option V) (xs : List V), σ = [some (.ref h), some (.ref sz), some (.ref mv), some (.ref wt), some (.int (0 + (t : Nat))), some (.ref b0), some (.ref p6), some (.ref kd), some (.ref sd), y9, y10, y11] ∧ Keep h ca H H' ∧ (∀ b o, b ≠ wt → H13 b = some o → H' b = some o) ∧ H' wt = some (.lst xs) ∧ DhAll K H' xs ((W' ++ afterB ss q0 (ms.take j)).map bxD)) ?z8 ?l8 ?s8 ?d8⟩
            case z8 => exact ⟨y9, y10, y11, xs', rfl, kp13, fun _ _ _ e => e, hwt13, by rw [List.take_zero]; unfold afterB; rw [List.flatMap_nil, List.append_nil]; exact hxs13⟩
            case l8 =>
              rintro j σ H' _ ⟨_, _, _, _, _, _, fr, _⟩
              exact SqL.of (fr kd _ ne_kw hkd13)
            case d8 =>
              rintro σ H' ⟨y9, y10, y11, xs, rfl, kp', fr, hwt', hxs'⟩
              rw [List.length_map, ← mlen, List.take_length] at hxs'
              have al := after_len ok (r := q0) (ms := ms) fun x hx => ⟨(mok.col x hx).1, (mok.col x hx).2.1⟩
              have e13 : Ext H13 H' := fun b o e => by
                by_cases y : b = wt
                · subst y
                  rw [hwt13] at e
                  cases e
                  exact .inr ⟨⟨_, rfl⟩, _, hwt'⟩
                · exact .inl (fr b o y e)
              refine ⟨_, _, _, _, _, _, _, _, L ++ [(b0, q0, .ref tt)], M ++ [(q0, ms)], xs, W' ++ afterB ss q0 ms, rfl, kp', fr mv _ nmvw hmv13, ma13.ext e13, hwt', hxs', gr13, ?_⟩
              rw [List.length_append, List.length_append]
              show _ + _ + (t + 1) ≤ 1 + 24 * (M.length + 1)
              omega
            case s8 =>
              rintro j x σ H14 hxj ⟨y9, y10, y11, xs, rfl, kp', fr, hwt', hxs'⟩
              obtain ⟨c, hc, rfl⟩ := map_at hxj
              have jl := (List.getElem?_eq_some_iff.mp hc).1
              obtain ⟨c', u, hc', hu, hm⟩ := matJ j jl
              rw [hc] at hc'
              cases hc'
              have et : afterB ss q0 (ms.take (j + 1)) = afterB ss q0 (ms.take j) ++ (if c = -1 then [] else withB ss q0 c) := by
                have e1 : ms.take (j + 1) = ms.take j ++ [(c, u * f)] := by rw [List.take_add_one, hm]; rfl
                rw [e1]
                unfold afterB
                rw [List.flatMap_append, List.flatMap_cons, List.flatMap_nil, List.append_nil]
              obtain ⟨c1, c2, c3⟩ := mok.col _ (List.mem_of_getElem? hm)
              refine ⟨_, rfl, _, rfl, rfl, _, rfl, ?_⟩
              by_cases h1 : c = -1
              · rw [decide_eq_true (show V.int c = V.int (-1) by rw [h1])]
                refine iteF ?_
                rw [if_pos h1, List.append_nil] at et
                exact ⟨_, _, _, xs, rfl, kp', fr, hwt', by rw [et]; exact hxs'⟩
              · rw [decide_eq_false (show ¬ V.int c = V.int (-1) from fun z => h1 (V.int.inj z))]
                refine iteT ?_
                rw [if_neg h1] at et
                have e13 : Ext H13 H14 := fun b o e => by
                  by_cases y : b = wt
                  · subst y
                    rw [hwt13] at e
                    cases e
                    exact .inr ⟨⟨_, rfl⟩, _, hwt'⟩
                  · exact .inl (fr b o y e)
                obtain ⟨hat, z2, z4⟩ := sizes_at ok (c := c) (by omega) c2
                have hb14 := hb13.ext e13
                have al := after_len ok (r := q0) (ms := ms.take j) fun x hx => ⟨(mok.col x (List.mem_of_mem_take hx)).1, (mok.col x (List.mem_of_mem_take hx)).2.1⟩
                rw [List.length_take] at al
                have xl := hxs'.length
                rw [List.length_map, List.length_append] at xl
                refine ⟨_, rfl, .inl ⟨rfl, _, SqL.of hwt'⟩, _, rfl, _, rfl, sz, _, c, _, rfl, rfl, e13.sqT hsz13, hat, _, rfl, by omega, by omega, fun D2 nD2 => lc_range (lo := 0) (n := (ss.getD c.toNat 0).toNat) (fun i H' => Got K H14 D2 ((((List.range (ss.getD c.toNat 0).toNat).take i).map fun w : Nat => lat q0 c w).map bxD) H') (.zero nD2) ?_ ?_⟩
                · intro i H15 hi g2
                  have e2 : (List.range (ss.getD c.toNat 0).toNat).take (i + 1) = (List.range (ss.getD c.toNat 0).toNat).take i ++ [i] := by rw [List.take_add_one, List.getElem?_range hi]; rfl
                  rw [Int.zero_add]
                  refine ⟨rfl, ?_⟩
                  dsimp only [tYes]
                  rw [if_pos rfl]
                  refine ⟨_, rfl, _, rfl, _, rfl, b0, c, i, ss, q0, rfl, hb14.ext (.of g2.same), bq, s5, c3, fun v16 H16 s16 d16 => ?_⟩
                  have z := g2.put nD2 s16 d16 (by rw [List.length_map, List.length_map, List.length_take]; omega)
                  rw [e2, List.map_append, List.map_append]
                  exact z
                · intro H15 g2
                  obtain ⟨acc2, hD2, hacc2⟩ := g2.got
                  rw [List.take_of_length_le (by rw [List.length_range]; exact Nat.le_refl _)] at hacc2
                  have hacc3 : DhAll K H15 acc2 ((withB ss q0 c).map bxD) := hacc2
                  have a2l := hacc3.length
                  have wl : (withB ss q0 c).length ≤ 4 := by
                    unfold withB
                    rw [List.length_map, List.length_range]
                    exact Int.toNat_le.mpr z4
                  rw [List.length_map] at a2l
                  have hwt15 := g2.same _ _ hwt'
                  refine ⟨wt, D2, xs, acc2, rfl, rfl, hwt15, hD2, Nat.le_of_lt (sz_small (by omega)), ?_⟩
                  refine ⟨_, _, _, xs ++ acc2, rfl, Keep.put hx (kp'.same g2.same) nwt0, fun b o nb e => ?_, upd_same, ?_⟩
                  · rw [upd_ne nb]
                    exact g2.same _ _ (fr b o nb e)
                  · rw [et, ← List.append_assoc, List.map_append]
                    exact ((hxs'.ext (.of g2.same)).append hacc3).ext (Ext.put hwt15)

end
end Fm
namespace Fm
open PySem PySem.Spec PyProof.Rows L2
section
variable {P : Program} {w : World} {K : PySem.W.Frag} {mg : Str → Option Value} {base : Heap}

/-! ### stands within a content -/
variable {ss ct : List Int} {M : MovT}
def inC (ct : List Int) (q : Box) : Prop := q = boxAt q.1 ct
theorem later_in (mo : MovOk ss M) (hct : IsCt ss ct) {r : Box} {x : Int × Int} (hr : r ∈ M.map (·.1)) (hc : inC ct r) (hx : x ∈ mvOf M r) (c0 : x.1 ≠ -1) : lat r x.1 (ct.getD x.1.toNat 0) ∈ M.map (·.1) ∧ inC ct (lat r x.1 (ct.getD x.1.toNat 0)) := by
  obtain ⟨m, hm, rfl⟩ := List.mem_map.mp hr
  rw [mvOf_mem mo.nd hm] at hx
  obtain ⟨c1, c2, c3⟩ := (mo.mv m hm).col x hx
  obtain ⟨cl, cb⟩ := isCt_iff.mp hct
  have hk : x.1.toNat < ss.length := by omega
  have e1 : ct[x.1.toNat]? = some (ct.getD x.1.toNat 0) := by
    rw [List.getD_eq_getElem?_getD, List.getElem?_eq_getElem (by omega)]
    rfl
  have e2 : ss[x.1.toNat]? = some (ss.getD x.1.toNat 0) := by
    rw [List.getD_eq_getElem?_getD, List.getElem?_eq_getElem hk]
    rfl
  obtain ⟨w0, w1⟩ := cb _ _ _ e1 e2
  refine ⟨mo.shut m hm x hx c0 _ w0 w1, ?_⟩
  have hc : m.1 = boxAt m.1.1 ct := hc
  rw [hc, lat_at]
  rfl
theorem next_in (mo : MovOk ss M) {q : Box} (hq : q ∈ M.map (·.1)) (hc : inC ct q) (ne : q ≠ START) : ∃ r, r ∈ M.map (·.1) ∧ inC ct r ∧ r.1.length + 1 = q.1.length ∧ ∃ x ∈ mvOf M r, x.1 ≠ -1 ∧ lat r x.1 (ct.getD x.1.toNat 0) = q := by
  obtain ⟨m, hm, rfl⟩ := List.mem_map.mp hq
  obtain ⟨m', hm', x, hx, c0, w, _, _, e⟩ := mo.come m hm ne
  obtain ⟨c1, c2, c3⟩ := (mo.mv m' hm').col x hx
  have bo' := mo.box m' hm'
  have bo := mo.box m hm
  have hin : x.1 ∈ m.1.1 := by rw [e]; exact insA_mem.mpr (.inl rfl)
  have hd : delB m.1 x.1 = m'.1 := by rw [e]; exact del_lat c3 (box_len bo')
  have hc : m.1 = boxAt m.1.1 ct := hc
  have hd2 : m'.1 = boxAt (m.1.1.erase x.1) ct := by
    rw [← hd]
    conv => lhs; rw [hc]
    exact del_at x.1
  refine ⟨m'.1, List.mem_map.mpr ⟨m', hm', rfl⟩, ?_, ?_, x, by rw [mvOf_mem mo.nd hm']; exact hx, c0, ?_⟩
  · show m'.1 = boxAt m'.1.1 ct
    conv => lhs; rw [hd2]
    rw [hd2]
    rfl
  · rw [← hd]
    exact del_len hin
  · rw [hd2, lat_at, erase_insA (asc_up bo.1) hin, ← hc]
/-- stands gone through, lengthened to all within the content -/
theorem lengthen (mo : MovOk ss M) {ks : List Box} (nd : ks.Nodup) (srt : ks.Pairwise fun a b => a.1.length ≤ b.1.length) (kk : ∀ r ∈ ks, r ∈ M.map (·.1) ∧ inC ct r) (low : ∀ r, r ∈ M.map (·.1) → inC ct r → r ∉ ks → ∀ s ∈ ks, s.1.length ≤ r.1.length) :
    ∃ R, (ks ++ R).Nodup ∧ (ks ++ R).Pairwise (fun a b => a.1.length ≤ b.1.length) ∧ ∀ r, r ∈ ks ++ R ↔ r ∈ M.map (·.1) ∧ r = boxAt r.1 ct := by
  let R0 := (M.map (·.1)).filter fun q => decide (q = boxAt q.1 ct ∧ q ∉ ks)
  refine ⟨R0.mergeSort fun a b => decide (a.1.length ≤ b.1.length), ?_, ?_, fun r => ?_⟩
  all_goals
    have pm : (R0.mergeSort fun a b => decide (a.1.length ≤ b.1.length)).Perm R0 := List.mergeSort_perm _ _
    have memR : ∀ r, r ∈ (R0.mergeSort fun a b => decide (a.1.length ≤ b.1.length)) ↔ r ∈ M.map (·.1) ∧ r = boxAt r.1 ct ∧ r ∉ ks := fun r => by
      rw [pm.mem_iff]
      show r ∈ (M.map (·.1)).filter _ ↔ _
      rw [List.mem_filter, decide_eq_true_eq]
  · refine List.nodup_append.mpr ⟨nd, pm.nodup_iff.mpr (mo.nd.sublist List.filter_sublist), fun a ha b hb e => ?_⟩
    exact ((memR b).mp hb).2.2 (e ▸ ha)
  · refine List.pairwise_append.mpr ⟨srt, ?_, fun a ha b hb => ?_⟩
    · have z := List.pairwise_mergeSort (le := fun a b : Box => decide (a.1.length ≤ b.1.length)) (fun a b c h1 h2 => decide_eq_true (Nat.le_trans (of_decide_eq_true h1) (of_decide_eq_true h2))) (fun a b => by
        rcases Nat.le_total a.1.length b.1.length with h | h
        · rw [decide_eq_true h]; rfl
        · rw [decide_eq_true h, Bool.or_true]) R0
      exact z.imp fun h => of_decide_eq_true h
    · obtain ⟨h1, h2, h3⟩ := (memR b).mp hb
      exact low b h1 h2 h3 a ha
  · rw [List.mem_append, memR]
    constructor
    · rintro (h | ⟨h1, h2, _⟩)
      · exact kk r h
      · exact ⟨h1, h2⟩
    · rintro ⟨h1, h2⟩
      by_cases h : r ∈ ks
      · exact .inl h
      · exact .inr ⟨h1, h2, h⟩
abbrev EL (ct : List Int) (M : MovT) (ks : List Box) : List Edge := ks.flatMap fun r => (mvOf M r).flatMap (edL ct r)
theorem EL_nn (mo : MovOk ss M) (ks : List Box) : ∀ e ∈ EL ct M ks, 0 ≤ e.2.2 := edges_nn mo ks _ fun r x e he => by
  unfold edL at he
  by_cases c0 : x.1 = -1
  · rw [if_pos c0] at he
    cases he
  · rw [if_neg c0] at he
    rw [List.mem_singleton.mp he]
/-- what has come on the way: the stands ks, and of r the edges P' -/
theorem comes_le (mo : MovOk ss M) (s5 : ss.length ≤ 5) {ks : List Box} {r : Box} {P' S' : List Edge} (nd : (ks ++ [r]).Nodup) (srt : (ks ++ [r]).Pairwise fun a b => a.1.length ≤ b.1.length) (kk : ∀ s ∈ ks ++ [r], s ∈ M.map (·.1) ∧ inC ct s)
    (low : ∀ u, u ∈ M.map (·.1) → inC ct u → u ∉ ks ++ [r] → ∀ s ∈ ks ++ [r], s.1.length ≤ u.1.length) (hP : (mvOf M r).flatMap (edL ct r) = P' ++ S') {q : Box} (hq : BoxOk ss q) (hc : inC ct q) :
    0 ≤ goE init18 (EL ct M ks ++ P') q ∧ goE init18 (EL ct M ks ++ P') q ≤ 120 * D18 ^ q.1.length := by
  obtain ⟨R, n1, n2, n3⟩ := lengthen mo nd srt kk low
  refine part_le mo s5 (E := EL ct M (ks ++ [r] ++ R)) (R := S' ++ EL ct M R) ?_ (EL_nn mo _) hq (goL_FF mo n1 n2 n3 hq hc)
  unfold EL
  rw [List.flatMap_append, List.flatMap_append, List.flatMap_cons, List.flatMap_nil, List.append_nil, hP]
  simp only [List.append_assoc]

end
end Fm
namespace Fm
open PySem PySem.Spec PyProof.Rows L2
section
variable {P : Program} {w : World} {K : PySem.W.Frag} {mg : Str → Option Value} {base : Heap}

/-! ### the law's way, content by content -/
/-- a dict from the stands that come to their shares -/
structure ComeAt (K : PySem.W.Frag) (H : Hp) (Lc : BoxL) (g : Box → Int) : Prop where
  box : BoxesAt K H Lc
  nd : (Lc.map (·.2.1)).Nodup
  val : ∀ e ∈ Lc, Dh K H e.2.2 (frD (lowZ (g e.2.1) (D18 ^ e.2.1.1.length)))
  out : ∀ q, q ∉ Lc.map (·.2.1) → g q = 0
theorem ComeAt.mv {H H' : Hp} {Lc : BoxL} {g : Box → Int} (mv : ∀ {a : Addr} {xs : List V}, SqT K H a xs → SqT K H' a xs) (h : ComeAt K H Lc g) : ComeAt K H' Lc g := ⟨fun e he => (h.box e he).mvs mv, h.nd, fun e he => (h.val e he).mv mv (plain_fr _), h.out⟩
theorem ComeAt.get {H : Hp} {Lc : BoxL} {g : Box → Int} (h : ComeAt K H Lc g) (q : Box) : (∃ v, findB Lc q = some v ∧ Dh K H v (frD (lowZ (g q) (D18 ^ q.1.length)))) ∨ (findB Lc q = none ∧ g q = 0) := by
  by_cases hq : q ∈ Lc.map (·.2.1)
  · obtain ⟨e, he, e1, e2⟩ := findB_in hq
    exact .inl ⟨_, e2, e1 ▸ h.val e he⟩
  · exact .inr ⟨findB_out hq, h.out q hq⟩
theorem ComeAt.put {H : Hp} {Lc : BoxL} {g : Box → Int} (h : ComeAt K H Lc g) {b : Addr} {q : Box} {v : V} {y : Int} (hb : BoxAt K H b q) (hv : Dh K H v (frD (lowZ y (D18 ^ q.1.length)))) : ComeAt K H (storeB Lc b q v) (fun x => if x = q then y else g x) := by
  obtain ⟨st1, st2⟩ := stored (L := Lc) (b := b) (q := q) (v := v)
  refine ⟨store_boxes h.box hb, st1 h.nd, fun e he => ?_, fun x hx => ?_⟩
  · unfold storeB at he
    by_cases hs : (findB Lc q).isSome = true
    · rw [if_pos hs] at he
      obtain ⟨p, hp, e1⟩ := List.mem_map.mp he
      by_cases z : p.2.1 = q
      · rw [if_pos z] at e1
        subst e1
        show Dh K H v (frD (lowZ (if p.2.1 = q then y else g p.2.1) (D18 ^ p.2.1.1.length)))
        rw [if_pos z, z]
        exact hv
      · rw [if_neg z] at e1
        subst e1
        rw [if_neg z]
        exact h.val p hp
    · rw [if_neg hs] at he
      rcases List.mem_append.mp he with z | z
      · have ne : e.2.1 ≠ q := fun y => hs (isS_iff.mpr (by rw [← y]; exact List.mem_map.mpr ⟨e, z, rfl⟩))
        rw [if_neg ne]
        exact h.val e z
      · rw [List.mem_singleton.mp z]
        show Dh K H v (frD (lowZ (if q = q then y else g q) (D18 ^ q.1.length)))
        rw [if_pos rfl]
        exact hv
  · rw [st2] at hx
    have h1 : x ∉ Lc.map (·.2.1) := fun z => hx (.inl z)
    have h2 : x ≠ q := fun z => hx (.inr z)
    rw [if_neg h2]
    exact h.out x h1
def spComes (K : PySem.W.Frag) (P : Program) (w : World) : Sp := fun vs H Q _ => ∃ (mv c : Addr) (ss ct : List Int) (L : BoxL) (M : MovT), vs = [.ref mv, .ref c] ∧ SizesOk ss ∧ H mv = some (DBO P w mv L) ∧ MvAt K H L M ∧ MovOk ss M ∧ M.length ≤ 36 ∧ SqT K H c (ct.map V.int) ∧ IsCt ss ct ∧
  ∀ r cd Lc v2 H', H r = none → H cd = none → Same H H' → SqT K H' r [.ref cd, v2] → H' cd = some (DBO P w cd Lc) → BoxesAt K H' Lc → Lc.length ≤ 1000 →
    (∀ q, BoxOk ss q → q = boxAt q.1 ct → (∃ v, findB Lc q = some v ∧ Dh K H' v (frD (lowZ (FF M q) (D18 ^ q.1.length)))) ∨ (findB Lc q = none ∧ FF M q = 0)) → Q (.ref r) H'
/-- where the law's way stands: come at cd, shown at sd; the stands ks gone through, the edges E -/
structure CI (K : PySem.W.Frag) (P : Program) (w : World) (ct : List Int) (M : MovT) (H' : Hp) (cd sd : Addr) (ks : List Box) (last : Option (List Int)) (E : List Edge) (k : Nat) (Lc : BoxL) (Ls : TupL) : Prop where
  hcd : H' cd = some (DBO P w cd Lc)
  come : ComeAt K H' Lc (goE init18 E)
  keys : ∀ q ∈ Lc.map (·.2.1), q ∈ M.map (·.1) ∧ inC ct q ∧ q.1.length ≤ k
  done : ∀ e ∈ E, e.2.1 ∈ Lc.map (·.2.1)
  start : START ∈ Lc.map (·.2.1)
  hsd : H' sd = some (DTO P w sd (ValF Ls))
  skeys : KeysT K H' Ls
  shown : ∀ p ∈ Ls, (∃ r ∈ ks, r.1 = p.2.1) ∨ last = some p.2.1
  few : Ls.length ≤ ks.length + (if last.isSome then 1 else 0)
theorem ok_law_comes (T : Txt K mg) : FnOk P w K mg base CX0 3 T.f_law_comes T.d_law_comes ["moves", "content"] (spComes K P w) := by
  refine T.F_law_comes.ok sc_law_comes (fun vs H Q E h => ?_) (fun cdv A outer s H vs Q E hr h => ?_)
  · obtain ⟨_, _, _, _, _, _, rfl, _⟩ := h
    rfl
  · obtain ⟨mv, c, ss, ct, L, M, rfl, ok, hm, ma, mo, few, hc, hct, q⟩ := h
    obtain ⟨_, s5, _⟩ := ok.facts
    have ctl := hct.len
    refine ⟨_, (pss_cons (ps_set (i := 2) sc_law_comes.nd rfl (.inl rfl) (pe_dispB (K := K) (P := P) (w := w) hr.units (hl := (show (1 : Nat) ≤ 15 by decide)) (pe_tup (pa_cons (pe_tup pa_nil) (pa_cons (pe_tup pa_nil) pa_nil))) (pe_tup (pa_cons pe_int (pa_cons pe_int pa_nil)))))
      (pss_cons (ps_set (i := 3) sc_law_comes.nd rfl (.inl rfl) (pe_dnewT (P := P) (w := w)))
      (pss_cons (ps_for PassesOwn.never rfl (pi_range1 (by rfl) T.z_range (pa_cons (pe_op op_add (pe_callB (call_lenK K) (by rfl) T.z_len PySem.boot_len (pa_cons (pv 1) pa_nil)) pe_int) pa_nil)) (pg_name (i := 4) sc_law_comes.nd rfl (.inr rfl)) (pss_one (ps_for PassesOwn.never rfl (pi_listK K (pe_lc (own := [("stand", 5)]) rfl sc_law_comes.nd (pi_listK K (pe_callTy (call_listE (P := P) (w := w) rfl) (by rfl) T.z_list (by decide +kernel) (pa_cons (pv 2) pa_nil))) (blkOk_by (N := N_law_comes) (sc := defScope s_law_comes) (by decide +kernel)) (fun _ _ _ _ _ => (pg_name (i := 5) sc_law_comes.nd rfl (.inl rfl))) (fun _ _ _ _ _ => (pts_one (pt_cmpR op_eq (pe_callB (call_lenK K) (by rfl) T.z_len PySem.boot_len (pa_cons (pe_ix (ix_tupK K) (pv 5) pe_int (fun _ _ => rfl)) pa_nil)) (pv 4) (nomark _)))) (fun _ _ _ _ _ => (pv 5)))) (pg_name (i := 5) sc_law_comes.nd rfl (.inl rfl)) (pss_one (ps_for PassesOwn.never rfl (pi_tupK K (pe_dgetBR (K := K) (P := P) (w := w) hr.units (pv 0) (pv 5) (fun _ _ => rfl))) (pg_tupK K (n := 2) rfl (pgs_cons (pg_name (i := 6) sc_law_comes.nd rfl (.inl rfl)) (pgs_cons (pg_name (i := 7) sc_law_comes.nd rfl (.inl rfl)) pgs_nil))) (pss_cons (ps_set (i := 8) sc_law_comes.nd rfl (.inl rfl) (pe_call (ok_law_times T) hr (by rfl) T.g_law_times T.F_law_times.kp T.b_law_times .nil pass0 (pa_cons (pe_dgetBR (K := K) (P := P) (w := w) hr.units (pv 2) (pv 5) (fun _ _ => rfl)) (pa_cons (pv 7) pa_nil))))
      (pss_one (ps_if (pt_cmpR op_eq (pv 6) (pe_un un_neg pe_int) (nomark _)) (pss_one (ps_dputT (K := K) (P := P) (w := w) hr.units (pv 3) (pe_ix (ix_tupK K) (pv 5) pe_int (fun _ _ => rfl)) (pe_call (ok_law_plus T) hr (by rfl) T.g_law_plus T.F_law_plus.kp T.b_law_plus .nil pass0 (pa_cons (pe_dgetT (K := K) (P := P) (w := w) hr.units (pv 3) (pe_ix (ix_tupK K) (pv 5) pe_int (fun _ _ => rfl)) (pe_tup (pa_cons pe_int (pa_cons pe_int pa_nil))) ⟨rfl, by rfl, by rfl, by rfl⟩) (pa_cons (pv 8) pa_nil))) rfl)) (pss_cons (ps_set (i := 9) sc_law_comes.nd rfl (.inl rfl) (pe_call (ok_law_later T) (hr.mono (by decide)) (by rfl) T.g_law_later T.F_law_later.kp T.b_law_later .nil pass0 (pa_cons (pv 5) (pa_cons (pv 6) (pa_cons (pe_ix (ix_tupK K) (pv 1) (pv 6) (fun _ _ => rfl)) pa_nil)))))
      (pss_one (ps_dputR (K := K) (P := P) (w := w) hr.units (pv 2) (pv 9) (pe_call (ok_law_plus T) hr (by rfl) T.g_law_plus T.F_law_plus.kp T.b_law_plus .nil pass0 (pa_cons (pe_dgetZ (K := K) (P := P) (w := w) hr.units (pv 2) (pv 9) (pe_tup (pa_cons pe_int (pa_cons pe_int pa_nil))) ⟨rfl, by rfl, by rfl, by rfl⟩) (pa_cons (pv 8) pa_nil))) rfl)))))))))))
      (pss_one (ps_ret (pe_tup (pa_cons (pv 2) (pa_cons (pv 3) pa_nil)))))))), ?_⟩
    intro cd ncd
    have s1 : Same H (upd H cd (DBO P w cd [])) := same_new ncd
    have hcd1 : (upd H cd (DBO P w cd [])) cd = some (DBO P w cd []) := upd_same
    generalize upd H cd (DBO P w cd []) = H1 at s1 hcd1
    refine ⟨Nat.zero_le _, fun t1 n1 => ⟨Nat.zero_le _, fun t2 n2 => ⟨by show 2 ≤ sizeLine; decide, fun t3 n3 => ⟨by show 2 ≤ sizeLine; decide, fun t4 n4 => ?_⟩⟩⟩⟩
    have a1 := same_new (o := HO.tup []) n1
    have a2 := same_new (o := HO.tup []) n2
    have a3 := same_new (o := HO.tup [.ref t1, .ref t2]) n3
    have a4 := same_new (o := HO.tup [.int 1, .int 1]) n4
    have hb4 : BoxAt K (upd (upd (upd (upd H1 t1 (.tup [])) t2 (.tup [])) t3 (.tup [.ref t1, .ref t2])) t4 (.tup [.int 1, .int 1])) t3 START := ⟨t1, t2, SqT.of (a4 _ _ upd_same), SqT.of ((a2.trans (a3.trans a4)) _ _ upd_same), SqT.of ((a3.trans a4) _ _ upd_same)⟩
    have dv4 : Dh K (upd (upd (upd (upd H1 t1 (.tup [])) t2 (.tup [])) t3 (.tup [.ref t1, .ref t2])) t4 (.tup [.int 1, .int 1])) (.ref t4) (frD (1, 1)) := dh_ct (c := [1, 1]) (SqT.of upd_same)
    have s14 := a1.trans (a2.trans (a3.trans a4))
    generalize upd (upd (upd (upd H1 t1 (.tup [])) t2 (.tup [])) t3 (.tup [.ref t1, .ref t2])) t4 (.tup [.int 1, .int 1]) = H4 at hb4 dv4 s14
    refine ⟨t3, START, .ref t4, rfl, s14 _ _ hcd1, hb4, ?_⟩
    have hcd4 := s14 _ _ hcd1
    have mv5 : ∀ {a : Addr} {xs : List V}, SqT K H4 a xs → SqT K (upd H4 cd (DBO P w cd [(t3, START, .ref t4)])) a xs := fun h => sqT_but hcd4 (fun b u nb e => by rw [upd_ne nb]; exact e) h
    have hb5 := hb4.mvs mv5
    have dv5 := dv4.mv mv5 (plain_fr _)
    have hcd5 : (upd H4 cd (DBO P w cd [(t3, START, .ref t4)])) cd = some (DBO P w cd [(t3, START, .ref t4)]) := upd_same
    have s05 : Same H (upd H4 cd (DBO P w cd [(t3, START, .ref t4)])) := Same.put ncd (s1.trans s14)
    generalize upd H4 cd (DBO P w cd [(t3, START, .ref t4)]) = H5 at hb5 dv5 hcd5 s05
    intro sd nsd
    have s6 : Same H5 (upd H5 sd (DTO P w sd (ValF []))) := same_new nsd
    have hsd6 : (upd H5 sd (DTO P w sd (ValF []))) sd = some (DTO P w sd (ValF [])) := upd_same
    have nsd0 : H sd = none := s05.free nsd
    have ncs : cd ≠ sd := fun e => by rw [← e, hcd5] at nsd; cases nsd
    generalize upd H5 sd (DTO P w sd (ValF [])) = H6 at s6 hsd6
    have s06 := s05.trans s6
    refine ⟨_, rfl, c, _, rfl, .inr ((Ext.of s06).sqT hc), _, _, rfl, rfl, _, rfl, ?_⟩
    rw [List.length_map]
    refine ⟨by omega, by omega, for_range (lo := 0) (n := ((ct.length : Int) + 1).toNat) (fun k σ H' => ∃ (y4 y5 y6 y7 y8 y9 : Option V) (ks : List Box) (Lc : BoxL) (Ls : TupL), σ = [some (.ref mv), some (.ref c), some (.ref cd), some (.ref sd), y4, y5, y6, y7, y8, y9] ∧ Same H H' ∧ ks.Nodup ∧ ks.Pairwise (fun a b => a.1.length ≤ b.1.length) ∧ (∀ r, r ∈ ks ↔ (r ∈ M.map (·.1) ∧ inC ct r) ∧ r.1.length < k) ∧ CI K P w ct M H' cd sd ks none (EL ct M ks) k Lc Ls) ?z ?s ?d⟩
    case z =>
      refine ⟨none, none, none, none, none, none, [], [(t3, START, .ref t4)], [], rfl, s06, List.nodup_nil, .nil, fun r => ⟨fun h => (by cases h), fun h => absurd h.2 (Nat.not_lt_zero _)⟩, s6 _ _ hcd5, ⟨fun e he => ?_, List.nodup_cons.mpr ⟨by simp, List.nodup_nil⟩, fun e he => ?_, fun q hq => ?_⟩, fun q hq => ?_, fun e he => (by cases he), List.mem_singleton.mpr rfl, hsd6, fun p hp => (by cases hp), fun p hp => (by cases hp), Nat.zero_le _⟩
      · rw [List.mem_singleton.mp he]
        exact hb5.ext (.of s6)
      · rw [List.mem_singleton.mp he]
        show Dh K H6 (.ref t4) (frD (lowZ (goE init18 [] START) (D18 ^ 0)))
        have e1 : lowZ (goE init18 [] START) (D18 ^ 0) = (1, 1) := low_one (by decide)
        rw [e1]
        exact dv5.ext (.of s6)
      · show init18 q = 0
        unfold init18
        rw [if_neg fun e => hq (List.mem_singleton.mpr e)]
      · rw [List.mem_singleton.mp hq]
        exact ⟨mo.start, rfl, Nat.le_refl _⟩
    case d =>
      rintro σ H7 ⟨y4, y5, y6, y7, y8, y9, ks, Lc, Ls, rfl, s7, nd, srt, mem, ci⟩
      have lcl : Lc.length ≤ 1000 := by
        have z := nodup_le ci.come.nd fun q hq => (ci.keys q hq).1
        rw [List.length_map, List.length_map] at z
        omega
      have memAll : ∀ r, r ∈ ks ↔ r ∈ M.map (·.1) ∧ r = boxAt r.1 ct := fun r => by
        rw [mem]
        refine ⟨fun h => h.1, fun h => ⟨h, ?_⟩⟩
        obtain ⟨m, hm', rfl⟩ := List.mem_map.mp h.1
        have := (mo.box m hm').1.len (by omega)
        omega
      refine ⟨_, rfl, _, rfl, by show 2 ≤ sizeLine; decide, fun r nr => ?_⟩
      have s8 : Same H7 (upd H7 r (.tup [.ref cd, .ref sd])) := same_new nr
      refine q r cd Lc (.ref sd) _ (s7.free nr) ncd (s7.trans s8) (SqT.of upd_same) (s8 _ _ ci.hcd) (fun e he => (ci.come.box e he).ext (.of s8)) lcl fun q' bq hq' => ?_
      have eF := goL_FF mo nd srt memAll bq hq'
      rcases ci.come.get q' with ⟨v, h1, h2⟩ | ⟨h1, h2⟩
      · refine .inl ⟨v, h1, ?_⟩
        rw [← eF]
        exact h2.ext (.of s8)
      · exact .inr ⟨h1, by rw [← eF]; exact h2⟩
    case s =>
      rintro k σ G hk ⟨y4, y5, y6, y7, y8, y9, ks, Lc, Ls, rfl, sG, nd, srt, mem, ci⟩
      rw [Int.zero_add]
      have lcl : Lc.length ≤ 36 := by
        have z := nodup_le ci.come.nd fun q hq => (ci.keys q hq).1
        rw [List.length_map, List.length_map] at z
        omega
      refine ⟨_, rfl, cd, DBO P w cd Lc, _, rfl, .inl ci.hcd, isD_box.e, ?_, fun q1 nq1 => ?_⟩
      · unfold mixB
        rw [List.length_map, List.length_map]
        omega
      have exs : ((mixB Lc).map fun e => (e.1, e.2.2)).map (·.1) = Lc.map fun e => V.ref e.1 := by
        unfold mixB
        rw [List.map_map, List.map_map]
        rfl
      rw [exs]
      have s2 : Same G (upd G q1 (.lst (Lc.map fun e => V.ref e.1))) := same_new nq1
      have hq2 : (upd G q1 (.lst (Lc.map fun e => V.ref e.1))) q1 = some (.lst (Lc.map fun e => V.ref e.1)) := upd_same
      generalize upd G q1 (.lst (Lc.map fun e => V.ref e.1)) = G2 at s2 hq2 ⊢
      refine ⟨q1, rfl, ⟨_, SqL.of hq2⟩, fun D nD => lc_list (K := K) (xs := Lc.map fun e => V.ref e.1) (fun j H' => Same G2 H' ∧ H' D = some (.lst (((Lc.take j).filter fun e => decide (e.2.1.1.length = k)).map fun e => V.ref e.1))) ⟨same_new nD, upd_same⟩ (fun j H' _ g => g.1.seq (SqL.of hq2)) ?_ ?_⟩
      · rintro j x H' hxj ⟨sm, hD⟩
        obtain ⟨e, he, rfl⟩ := map_at hxj
        have et : Lc.take (j + 1) = Lc.take j ++ [e] := by rw [List.take_add_one, he]; rfl
        obtain ⟨pa, wa, hbs, hp, hw⟩ := (ci.come.box e (List.mem_of_getElem? he)).ext (.of (s2.trans sm))
        refine ⟨rfl, ?_⟩
        refine ⟨_, rfl, e.1, _, 0, _, rfl, rfl, hbs, atI_nat (j := 0) rfl, pa, _, rfl, .inr hp, _, rfl, rfl, _, rfl, ?_⟩
        rw [List.length_map, et, List.filter_append]
        by_cases hl : e.2.1.1.length = k
        · rw [decide_eq_true (show V.int (e.2.1.1.length : Int) = V.int (k : Int) by rw [hl]), List.filter_cons_of_pos (by simpa using hl), List.filter_nil]
          refine ⟨_, rfl, _, hD, ?_, Same.put nD sm, ?_⟩
          · rw [List.length_map]
            exact sz_small (Nat.le_trans (List.length_filter_le _ _) (by rw [List.length_take]; omega))
          · rw [upd_same, List.map_append]
            rfl
        · rw [decide_eq_false (show ¬ V.int (e.2.1.1.length : Int) = V.int (k : Int) from fun z => hl (by have := V.int.inj z; omega)), List.filter_cons_of_neg (by simpa using hl), List.filter_nil, List.append_nil]
          exact ⟨sm, hD⟩
      rintro G3 ⟨s3, hD⟩
      rw [List.length_map, List.take_length] at hD
      have stsub : (Lc.filter fun e => decide (e.2.1.1.length = k)).Sublist Lc := List.filter_sublist
      have stn : ((Lc.filter fun e => decide (e.2.1.1.length = k)).map (·.2.1)).Nodup := ci.come.nd.sublist (stsub.map _)
      have stm : ∀ u, u ∈ (Lc.filter fun e => decide (e.2.1.1.length = k)).map (·.2.1) ↔ (u ∈ M.map (·.1) ∧ inC ct u) ∧ u.1.length = k := fun u => by
        rw [List.mem_map]
        constructor
        · rintro ⟨e, he, rfl⟩
          obtain ⟨h1, h2⟩ := List.mem_filter.mp he
          obtain ⟨z1, z2, _⟩ := ci.keys _ (List.mem_map.mpr ⟨e, h1, rfl⟩)
          exact ⟨⟨z1, z2⟩, by simpa using h2⟩
        · rintro ⟨⟨h1, h2⟩, h3⟩
          have inL : u ∈ Lc.map (·.2.1) := by
            by_cases us : u = START
            · rw [us]
              exact ci.start
            · obtain ⟨r, r1, r2, r3, x, hx, c0, e⟩ := next_in mo h1 h2 us
              have rk : r ∈ ks := (mem r).mpr ⟨⟨r1, r2⟩, by omega⟩
              have z := ci.done (r, lat r x.1 (ct.getD x.1.toNat 0), x.2) (List.mem_flatMap.mpr ⟨r, rk, List.mem_flatMap.mpr ⟨x, hx, by unfold edL; rw [if_neg c0]; exact List.mem_singleton.mpr rfl⟩⟩)
              rw [← e]
              exact z
          obtain ⟨e, he, e2⟩ := List.mem_map.mp inL
          exact ⟨e, List.mem_filter.mpr ⟨he, by rw [decide_eq_true_eq, e2]; exact h3⟩, e2⟩
      have stb : ∀ e ∈ (Lc.filter fun e => decide (e.2.1.1.length = k)), BoxAt K G3 e.1 e.2.1 := fun e he => (ci.come.box e (stsub.mem he)).ext (.of (s2.trans s3))
      have stl := stsub.length_le
      generalize (Lc.filter fun e => decide (e.2.1.1.length = k)) = St at hD stn stm stb stl
      have s03 := sG.trans (s2.trans s3)
      have ci3 : CI K P w ct M G3 cd sd ks none (EL ct M ks) (k + 1) Lc Ls := ⟨(s2.trans s3) _ _ ci.hcd, ci.come.mv (Ext.of (s2.trans s3)).sqT, fun q hq => ⟨(ci.keys q hq).1, (ci.keys q hq).2.1, by have := (ci.keys q hq).2.2; omega⟩, ci.done, ci.start, (s2.trans s3) _ _ ci.hsd, fun p hp => (Ext.of (s2.trans s3)).sqT (ci.skeys p hp), ci.shown, ci.few⟩
      have nDcd : D ≠ cd := fun z => by rw [z, s2 _ _ ci.hcd] at nD; cases nD
      have nDsd : D ≠ sd := fun z => by rw [z, s2 _ _ ci.hsd] at nD; cases nD
      refine ⟨D, rfl, ⟨_, SqL.of hD⟩, for_list (K := K) (xs := St.map fun e => V.ref e.1) (fun j σ H' => ∃ (y5 y6 y7 y8 y9 : Option V) (Lc' : BoxL) (Ls' : TupL), σ = [some (.ref mv), some (.ref c), some (.ref cd), some (.ref sd), some (.int (k : Nat)), y5, y6, y7, y8, y9] ∧ Same H H' ∧ (∀ b o, b ≠ cd → b ≠ sd → G3 b = some o → H' b = some o) ∧ CI K P w ct M H' cd sd (ks ++ (St.take j).map (·.2.1)) none (EL ct M (ks ++ (St.take j).map (·.2.1))) (k + 1) Lc' Ls') ?z1 ?l1 ?s1 ?d1⟩
      case z1 => exact ⟨y5, y6, y7, y8, y9, Lc, Ls, rfl, s03, fun _ _ _ _ e => e, by rw [List.take_zero, List.map_nil, List.append_nil]; exact ci3⟩
      case l1 =>
        rintro j σ H' _ ⟨_, _, _, _, _, _, _, _, _, fr, _⟩
        exact SqL.of (fr D _ nDcd nDsd hD)
      case d1 =>
        rintro σ H' ⟨y5, y6, y7, y8, y9, Lc', Ls', rfl, s', fr, ci'⟩
        rw [List.length_map, List.take_length] at ci'
        refine ⟨_, _, _, _, _, _, ks ++ St.map (·.2.1), Lc', Ls', rfl, s', ?_, ?_, fun r => ?_, ci'⟩
        · exact List.nodup_append.mpr ⟨nd, stn, fun a ha b hb e => by
            have h1 := ((mem a).mp ha).2
            have h2 := ((stm b).mp hb).2
            rw [e] at h1
            omega⟩
        · refine List.pairwise_append.mpr ⟨srt, ?_, fun a ha b hb => ?_⟩
          · refine List.Pairwise.imp_of_mem (R := fun _ _ => True) (fun {a b} ha hb _ => ?_) (List.pairwise_of_forall (fun _ _ => trivial))
            have h1 := ((stm a).mp ha).2
            have h2 := ((stm b).mp hb).2
            omega
          · have h1 := ((mem a).mp ha).2
            have h2 := ((stm b).mp hb).2
            omega
        · rw [List.mem_append, mem, stm]
          constructor
          · rintro (⟨h1, h2⟩ | ⟨h1, h2⟩)
            · exact ⟨h1, by omega⟩
            · exact ⟨h1, by omega⟩
          · rintro ⟨h1, h2⟩
            by_cases h3 : r.1.length < k
            · exact .inl ⟨h1, h3⟩
            · exact .inr ⟨h1, by omega⟩
      case s1 =>
        rintro j y σ H' hyj ⟨y5, y6, y7, y8, y9, Lc', Ls', rfl, s', fr, ci'⟩
        obtain ⟨e, he, rfl⟩ := map_at hyj
        have em := List.mem_of_getElem? he
        have jl := (List.getElem?_eq_some_iff.mp he).1
        obtain ⟨⟨rk, rc⟩, rl⟩ := (stm e.2.1).mp (List.mem_map.mpr ⟨e, em, rfl⟩)
        have mv3 : ∀ {H'' : Hp}, (∀ b o, b ≠ cd → b ≠ sd → G3 b = some o → H'' b = some o) → ∀ {a : Addr} {xs : List V}, SqT K G3 a xs → SqT K H'' a xs := fun {H''} fr {a xs} h => by
          rcases h with (h | ⟨u, h⟩) | h
          · exact .inl (.inl (fr _ _ (ne_of h ci3.hcd fun e => by unfold DBO at e; cases e) (ne_of h ci3.hsd fun e => by unfold DTO at e; cases e) h))
          · exact .inl (.inr ⟨u, fr _ _ (ne_of h ci3.hcd fun e => by unfold DBO at e; cases e) (ne_of h ci3.hsd fun e => by unfold DTO at e; cases e) h⟩)
          · exact .inr h
        have hbe := (stb e em).mvs (mv3 fr)
        generalize hr0 : e.2.1 = r at rk rc rl hbe
        have ksr : (St.take (j + 1)).map (·.2.1) = (St.take j).map (·.2.1) ++ [r] := by
          rw [List.take_add_one, he, List.map_append, ← hr0]
          rfl
        obtain ⟨m, hmm, hme⟩ := List.mem_map.mp rk
        have mok : MvOk ss.length r.1 (mvOf M r) := by
          rw [← hme, mvOf_mem mo.nd hmm]
          exact mo.mv m hmm
        have bok : BoxOk ss r := by
          rw [← hme]
          exact mo.box m hmm
        have ma' := ma.ext (.of s')
        obtain ⟨v, hv, dv⟩ := ma.look rk
        obtain ⟨va, vxs, rfl, hva, hvx⟩ := dv.tup_inv
        have vl := hvx.length
        rw [List.length_map] at vl
        -- the stands gone through, and this one
        generalize hkj : ks ++ (St.take j).map (·.2.1) = kj at ci'
        have hkj1 : ks ++ (St.take (j + 1)).map (·.2.1) = kj ++ [r] := by rw [ksr, ← List.append_assoc, hkj]
        rw [hkj1]
        have all1 : ∀ u ∈ ks ++ St.map (·.2.1), (u ∈ M.map (·.1) ∧ inC ct u) ∧ u.1.length ≤ k := fun u hu => by
          rcases List.mem_append.mp hu with z | z
          · obtain ⟨z1, z2⟩ := (mem u).mp z
            exact ⟨z1, by omega⟩
          · obtain ⟨z1, z2⟩ := (stm u).mp z
            exact ⟨z1, by omega⟩
        have subk : (kj ++ [r]).Sublist (ks ++ St.map (·.2.1)) := by
          rw [← hkj1]
          exact List.Sublist.append (List.Sublist.refl _) ((List.take_sublist _ _).map _)
        have ndA : (ks ++ St.map (·.2.1)).Nodup := List.nodup_append.mpr ⟨nd, stn, fun a ha b hb e => by
          have h1 := ((mem a).mp ha).2
          have h2 := ((stm b).mp hb).2
          rw [e] at h1
          omega⟩
        have srtA : (ks ++ St.map (·.2.1)).Pairwise fun a b => a.1.length ≤ b.1.length := by
          refine List.pairwise_append.mpr ⟨srt, ?_, fun a ha b hb => ?_⟩
          · refine List.Pairwise.imp_of_mem (R := fun _ _ => True) (fun {a b} ha hb _ => ?_) (List.pairwise_of_forall (fun _ _ => trivial))
            have h1 := ((stm a).mp ha).2
            have h2 := ((stm b).mp hb).2
            omega
          · have h1 := ((mem a).mp ha).2
            have h2 := ((stm b).mp hb).2
            omega
        have ndk := ndA.sublist subk
        have srk := srtA.sublist subk
        have kk1 : ∀ s ∈ kj ++ [r], s ∈ M.map (·.1) ∧ inC ct s := fun s hs => (all1 s (subk.mem hs)).1
        have low1 : ∀ u, u ∈ M.map (·.1) → inC ct u → u ∉ kj ++ [r] → ∀ s ∈ kj ++ [r], s.1.length ≤ u.1.length := fun u u1 u2 u3 s hs => by
          have h1 := (all1 s (subk.mem hs)).2
          have h2 : ¬ u.1.length < k := fun z => u3 (by
            rw [← hkj1]
            exact List.mem_append_left _ ((mem u).mpr ⟨⟨u1, u2⟩, z⟩))
          omega
        have bounds : ∀ (P' S' : List Edge), (mvOf M r).flatMap (edL ct r) = P' ++ S' → ∀ {u : Box}, BoxOk ss u → inC ct u → 0 ≤ goE init18 (EL ct M kj ++ P') u ∧ goE init18 (EL ct M kj ++ P') u ≤ 120 * D18 ^ u.1.length := fun P' S' hP {u} bu cu => comes_le mo s5 ndk srk kk1 low1 hP bu cu
        have rnk : r ∉ kj := fun z => by
          have := (List.nodup_append.mp ndk).2.2 r z r (List.mem_singleton.mpr rfl)
          exact this rfl
        have ELr : EL ct M (kj ++ [r]) = EL ct M kj ++ (mvOf M r).flatMap (edL ct r) := by
          unfold EL
          rw [List.flatMap_append, List.flatMap_cons, List.flatMap_nil, List.append_nil]
        refine ⟨_, rfl, _, rfl, mv, e.1, r, L, .ref va, rfl, rfl, .inl (s' _ _ hm), ma'.box, hbe, hv, ?_⟩
        have kjl : kj.length ≤ 36 := by
          have z := nodup_le (List.nodup_append.mp ndk).1 fun s hs => (kk1 s (List.mem_append_left _ hs)).1
          rw [List.length_map] at z
          omega
        have bl := bok.1.len (by omega)
        obtain ⟨pw1, pw2⟩ := pow18 (r.1.length + 1) (by omega)
        obtain ⟨_, pw3⟩ := pow18 r.1.length (by omega)
        have rin : ∀ (Lx : BoxL) (Ed : List Edge), (∀ e ∈ EL ct M kj, e ∈ Ed) → (∀ e ∈ Ed, e.2.1 ∈ Lx.map (·.2.1)) → START ∈ Lx.map (·.2.1) → r ∈ Lx.map (·.2.1) := fun Lx Ed h1 h2 h3 => by
          by_cases rs : r = START
          · rw [rs]
            exact h3
          · obtain ⟨r', r1, r2, r3, x, hx, c0, e'⟩ := next_in mo rk rc rs
            have rk' : r' ∈ kj := by
              rw [← hkj]
              exact List.mem_append_left _ ((mem r').mpr ⟨⟨r1, r2⟩, by omega⟩)
            have z := h2 _ (h1 (r', lat r' x.1 (ct.getD x.1.toNat 0), x.2) (List.mem_flatMap.mpr ⟨r', rk', List.mem_flatMap.mpr ⟨x, hx, by unfold edL; rw [if_neg c0]; exact List.mem_singleton.mpr rfl⟩⟩))
            rw [← e']
            exact z
        refine ⟨va, rfl, ⟨_, (Ext.of s').sqT hva⟩, for_tup (K := K) (xs := vxs) (fun i σ H'' => ∃ (y6 y7 y8 y9 : Option V) (Lc2 : BoxL) (Ls2 : TupL), σ = [some (.ref mv), some (.ref c), some (.ref cd), some (.ref sd), some (.int (k : Nat)), some (.ref e.1), y6, y7, y8, y9] ∧ Same H H'' ∧ (∀ b o, b ≠ cd → b ≠ sd → G3 b = some o → H'' b = some o) ∧
          CI K P w ct M H'' cd sd kj (if ((mvOf M r).take i).any (fun x => decide (x.1 = -1)) = true then some r.1 else none) (EL ct M kj ++ ((mvOf M r).take i).flatMap (edL ct r)) (k + 1) Lc2 Ls2) ?z2 ?l2 ?s2 ?d2⟩
        case z2 => exact ⟨y6, y7, y8, y9, Lc', Ls', rfl, s', fr, by rw [List.take_zero, List.flatMap_nil, List.append_nil]; exact ci'⟩
        case l2 =>
          rintro i σ H'' _ ⟨_, _, _, _, _, _, _, s'', _⟩
          exact (Ext.of s'').sqT hva
        case d2 =>
          rintro σ H'' ⟨y6, y7, y8, y9, Lc2, Ls2, rfl, s'', fr2, ci2⟩
          rw [vl, List.take_length, ← ELr] at ci2
          refine ⟨_, _, _, _, _, Lc2, Ls2, rfl, s'', fr2, ci2.hcd, ci2.come, ci2.keys, ci2.done, ci2.start, ci2.hsd, ci2.skeys, fun p hp => ?_, ?_⟩
          · rcases ci2.shown p hp with ⟨u, hu, e1⟩ | e1
            · exact .inl ⟨u, List.mem_append_left _ hu, e1⟩
            · split at e1
              · exact .inl ⟨r, List.mem_append_right _ (List.mem_singleton.mpr rfl), Option.some.inj e1⟩
              · cases e1
          · have z := ci2.few
            rw [List.length_append]
            show _ ≤ kj.length + 1 + 0
            split at z
            · exact z
            · exact Nat.le_trans z (Nat.le_succ _)
        case s2 =>
          rintro i y σ H'' hyi ⟨y6, y7, y8, y9, Lc2, Ls2, rfl, s'', fr2, ci2⟩
          obtain ⟨d2, hd2, hyd⟩ := hvx.get hyi
          obtain ⟨mc, hmj, rfl⟩ := map_at hd2
          have mm := List.mem_of_getElem? hmj
          obtain ⟨m1, m2, m3⟩ := mok.col mc mm
          obtain ⟨r1, r2⟩ := mok.part mc mm
          obtain ⟨t, zs, rfl, ht, tl⟩ := (hyd.ext (.of s'')).tup_inv
          obtain ⟨v1, v2, rfl, h1, h2⟩ := dh_two tl
          cases h1
          have split2 := flat_split (edL ct r) hmj
          have next2 := flat_next (edL ct r) hmj
          have hbe2 : BoxAt K H'' e.1 r := by
            have z := (stb e em).mvs (mv3 fr2)
            rw [hr0] at z
            exact z
          obtain ⟨g0, g1⟩ := bounds _ _ split2 bok rc
          have inr := rin Lc2 _ (fun e he => List.mem_append_left _ he) ci2.done ci2.start
          obtain ⟨vr, hvr, dvr⟩ : ∃ v, findB Lc2 r = some v ∧ Dh K H'' v (frD (lowZ (goE init18 (EL ct M kj ++ ((mvOf M r).take i).flatMap (edL ct r)) r) (D18 ^ r.1.length))) := by
            obtain ⟨e', he', e1, e2⟩ := findB_in inr
            exact ⟨_, e2, e1 ▸ ci2.come.val e' he'⟩
          obtain ⟨fr', rfl, hfr⟩ := fr_inv dvr
          obtain ⟨fp, rfl, hfp⟩ := fr_inv h2
          refine ⟨t, _, rfl, ht, rfl, _, _, rfl, _, _, rfl, rfl, ?_⟩
          refine ⟨_, rfl, _, rfl, cd, e.1, r, Lc2, .ref fr', rfl, rfl, .inl ci2.hcd, ci2.come.box, hbe2, hvr, _, rfl, ?_⟩
          refine ⟨fr', fp, _, _, 120, 1, 2520 ^ r.1.length, 2520, rfl, hfr, hfp, fr18 g0 g1, (mv_share r1 r2).2.2, by decide, pw3, Nat.pos_of_ne_zero (by simp), by decide, fun v8 H8 s8 d8 => ?_⟩
          obtain ⟨f8, rfl, hf8⟩ := fr_inv d8
          have s08 := s''.trans s8
          dsimp only [tSeq, tAsg, gName, List.set_cons_succ, List.set_cons_zero]
          refine ⟨_, rfl, _, rfl, rfl, _, rfl, ?_⟩
          by_cases h0 : mc.1 = -1
          · rw [decide_eq_true (show V.int mc.1 = V.int (-1) by rw [h0])]
            refine iteT ?_
            have up1 : ∀ x ∈ (mvOf M r).take i, x.1 ≠ -1 := fun x hx z => by
              obtain ⟨i', hi', e'⟩ := List.mem_iff_getElem.mp hx
              rw [List.length_take] at hi'
              rw [List.getElem_take] at e'
              have l1 : i' < ((mvOf M r).map (·.1)).length := by rw [List.length_map]; omega
              have l2 : i < ((mvOf M r).map (·.1)).length := by rw [List.length_map]; exact (List.getElem?_eq_some_iff.mp hmj).1
              have y := List.pairwise_iff_getElem.mp mok.up i' i l1 l2 (by omega)
              rw [List.getElem_map, List.getElem_map, e', (List.getElem?_eq_some_iff.mp hmj).2] at y
              omega
            have hno : ¬ ((mvOf M r).take i).any (fun x => decide (x.1 = -1)) = true := fun z => by
              obtain ⟨x, hx, h⟩ := List.any_eq_true.mp z
              exact up1 x hx (of_decide_eq_true h)
            have hyes : ((mvOf M r).take (i + 1)).any (fun x => decide (x.1 = -1)) = true := by
              rw [List.any_eq_true]
              refine ⟨mc, ?_, by simpa using h0⟩
              rw [List.take_add_one, hmj]
              exact List.mem_append_right _ (List.mem_singleton.mpr rfl)
            have enil : edL ct r mc = [] := by
              unfold edL
              rw [if_pos h0]
            rw [if_pos hyes, next2, enil, List.append_nil]
            rw [if_neg hno] at ci2
            have few2 := ci2.few
            have few2 : Ls2.length ≤ kj.length := few2
            have nf : findT Ls2 r.1 = none := by
              unfold findT
              cases z : Ls2.find? fun p => decide (p.2.1 = r.1) with
              | none => rfl
              | some p =>
                have hp := List.mem_of_find?_eq_some z
                have e1 : p.2.1 = r.1 := by simpa using List.find?_some z
                rcases ci2.shown p hp with ⟨u, hu, e2⟩ | e2
                · have uc := (kk1 u (List.mem_append_left _ hu)).2
                  have uc : u = boxAt u.1 ct := uc
                  have rc' : r = boxAt r.1 ct := rc
                  have : u = r := by rw [uc, rc', e2, e1]
                  exact (rnk (this ▸ hu)).elim
                · cases e2
            have hbs8 := hbe2.ext (.of s8)
            obtain ⟨pa, wa, hbs, hpa, hwa⟩ := hbs8
            refine ⟨_, rfl, ⟨sd, _, rfl, s8 _ _ ci2.hsd⟩, _, rfl, e.1, _, 0, _, rfl, rfl, hbs, atI_nat (j := 0) rfl, by show 2 ≤ sizeLine; decide, fun tz ntz => ?_⟩
            have s9 : Same H8 (upd H8 tz (.tup [.int 0, .int 1])) := same_new ntz
            have hz9 : SqT K (upd H8 tz (.tup [.int 0, .int 1])) tz [.int 0, .int 1] := SqT.of upd_same
            generalize upd H8 tz (.tup [.int 0, .int 1]) = H9 at s9 hz9
            have s29 := s8.trans s9
            refine ⟨sd, pa, Ls2, r.1, rfl, rfl, s29 _ _ ci2.hsd, fun p hp => (Ext.of s29).sqT (ci2.skeys p hp), (Ext.of s9).sqT hpa, ?_⟩
            rw [show (Ls2.find? fun p => decide (p.2.1 = r.1)).map (·.2.2) = none from nf]
            refine ⟨_, rfl, tz, f8, (0, 1), _, 1, 120, 1, 2520 ^ (r.1.length + 1), rfl, hz9, (Ext.of s9).sqT hf8, ⟨by decide, by decide, by decide, by decide⟩, step_fr g0 g1 r1 r2, by decide, ?_, by decide, Nat.pos_of_ne_zero (by simp), fun v10 H10 s10 d10 => ?_⟩
            · rw [Nat.one_mul]
              exact Nat.le_trans (Nat.le_mul_of_pos_left _ (Nat.pos_of_ne_zero (by simp))) pw1
            have s210 := s29.trans s10
            have hsd10 := s210 _ _ ci2.hsd
            refine ⟨_, rfl, _, rfl, e.1, _, 0, _, rfl, rfl, (Ext.of (s9.trans s10)).sqT hbs, atI_nat (j := 0) rfl, sd, pa, r.1, Ls2, rfl, rfl, hsd10, fun p hp => (Ext.of s210).sqT (ci2.skeys p hp), (Ext.of (s9.trans s10)).sqT hpa, by omega, ?_⟩
            have mvS : ∀ {a : Addr} {xs : List V}, SqT K H10 a xs → SqT K (upd H10 sd (DTO P w sd (ValF (storeT Ls2 pa r.1 v10)))) a xs := fun h => sqT_but hsd10 (fun b u nb e => by rw [upd_ne nb]; exact e) h
            refine ⟨_, _, _, _, Lc2, storeT Ls2 pa r.1 v10, rfl, Same.put nsd0 (s''.trans s210), fun b o b1 b2 e' => ?_, ?_, ci2.come.mv fun h => mvS ((Ext.of s210).sqT h), ci2.keys, ci2.done, ci2.start, upd_same, fun p hp => ?_, fun p hp => ?_, ?_⟩
            · rw [upd_ne b2]
              exact s210 _ _ (fr2 b o b1 b2 e')
            · rw [upd_ne ncs]
              exact s210 _ _ ci2.hcd
            · rcases storeT_keys p hp with ⟨p', hp', e1, e2⟩ | ⟨e1, e2⟩
              · rw [e1, e2]
                exact mvS ((Ext.of s210).sqT (ci2.skeys p' hp'))
              · rw [e1, e2]
                exact mvS ((Ext.of (s9.trans s10)).sqT hpa)
            · rcases storeT_keys p hp with ⟨p', hp', e1, e2⟩ | ⟨e1, e2⟩
              · rcases ci2.shown p' hp' with z | z
                · rw [e2]
                  exact .inl z
                · cases z
              · rw [e2]
                exact .inr rfl
            · have z := storeT_len (L := Ls2) (b := pa) (q := r.1) (v := v10)
              show _ ≤ kj.length + 1
              omega
          · rw [decide_eq_false (show ¬ V.int mc.1 = V.int (-1) from fun z => h0 (V.int.inj z))]
            refine iteF ?_
            have ea : ((mvOf M r).take (i + 1)).any (fun x => decide (x.1 = -1)) = ((mvOf M r).take i).any (fun x => decide (x.1 = -1)) := by
              rw [List.take_add_one, hmj, List.any_append]
              simp [h0]
            have eone : edL ct r mc = [(r, lat r mc.1 (ct.getD mc.1.toNat 0), mc.2)] := by
              unfold edL
              rw [if_neg h0]
            rw [ea, next2, eone]
            obtain ⟨qk, qc⟩ := later_in mo hct rk rc mm h0
            have ql := lat_len r mc.1 (ct.getD mc.1.toNat 0)
            have ctat : atI (ct.map V.int) mc.1 = some (.int (ct.getD mc.1.toNat 0)) := by
              refine at_of (j := mc.1.toNat) (by omega) ?_
              rw [List.getElem?_map, List.getD_eq_getElem?_getD, List.getElem?_eq_getElem (by omega)]
              rfl
            have hbe8 := hbe2.ext (.of s8)
            refine ⟨_, rfl, _, rfl, _, rfl, _, rfl, c, _, mc.1, _, rfl, rfl, (Ext.of s08).sqT hc, ctat, e.1, mc.1, ct.getD mc.1.toNat 0, ss, r, rfl, hbe8, bok, s5, m3, fun v9 H9 s9 d9 => ?_⟩
            obtain ⟨ab, rfl, hab⟩ := dh_box d9
            generalize lat r mc.1 (ct.getD mc.1.toNat 0) = q0 at qk qc ql hab
            have bq0 : BoxOk ss q0 := by
              obtain ⟨m0, hm0, rfl⟩ := List.mem_map.mp qk
              exact mo.box m0 hm0
            obtain ⟨b0, b1⟩ := bounds _ _ split2 bq0 qc
            have s29 := s8.trans s9
            have lc2 : Lc2.length ≤ 36 := by
              have z := nodup_le ci2.come.nd fun q hq => (ci2.keys q hq).1
              rw [List.length_map, List.length_map] at z
              omega
            dsimp only [tSeq, tAsg, gName, List.set_cons_succ, List.set_cons_zero]
            refine ⟨_, rfl, ⟨cd, Lc2, rfl, s29 _ _ ci2.hcd⟩, _, rfl, by show 2 ≤ sizeLine; decide, fun tz ntz => ?_⟩
            have s10 : Same H9 (upd H9 tz (.tup [.int 0, .int 1])) := same_new ntz
            have hz10 : SqT K (upd H9 tz (.tup [.int 0, .int 1])) tz [.int 0, .int 1] := SqT.of upd_same
            generalize upd H9 tz (.tup [.int 0, .int 1]) = H10 at s10 hz10
            have s210 := s29.trans s10
            have ci10 := ci2.come.mv (Ext.of s210).sqT
            refine ⟨cd, ab, Lc2, q0, rfl, rfl, s210 _ _ ci2.hcd, ci10.box, hab.ext (.of s10), ?_⟩
            have getv : ∃ gv, (findB Lc2 q0).getD (.ref tz) = .ref gv ∧ SqT K H10 gv [.int (lowZ (goE init18 (EL ct M kj ++ ((mvOf M r).take i).flatMap (edL ct r)) q0) (D18 ^ q0.1.length)).1, .int (lowZ (goE init18 (EL ct M kj ++ ((mvOf M r).take i).flatMap (edL ct r)) q0) (D18 ^ q0.1.length)).2] := by
              rcases ci10.get q0 with ⟨v, h1, h2⟩ | ⟨h1, h2⟩
              · obtain ⟨gv, rfl, hgv⟩ := fr_inv h2
                exact ⟨gv, by rw [h1]; rfl, hgv⟩
              · refine ⟨tz, by rw [h1]; rfl, ?_⟩
                rw [h2, low_zero (Int.pow_pos (by decide))]
                exact hz10
            obtain ⟨gv, eg, hgv⟩ := getv
            rw [eg]
            rw [ql] at hgv b1
            have fold : goE init18 (EL ct M kj ++ (((mvOf M r).take i).flatMap (edL ct r) ++ [(r, q0, mc.2)])) = stepE (goE init18 (EL ct M kj ++ ((mvOf M r).take i).flatMap (edL ct r))) (r, q0, mc.2) := by
              rw [← List.append_assoc, goE_app]
              rfl
            refine ⟨_, rfl, gv, f8, _, _, 120, 120, 2520 ^ (r.1.length + 1), 2520 ^ (r.1.length + 1), rfl, hgv, (Ext.of (s9.trans s10)).sqT hf8, fr18 b0 b1, step_fr g0 g1 r1 r2, by decide, pw1, Nat.pos_of_ne_zero (by simp), Nat.pos_of_ne_zero (by simp), fun v11 H11 s11 d11 => ?_⟩
            rw [step_low g0 b0 (by omega)] at d11
            have s211 := s210.trans s11
            have hcd11 := s211 _ _ ci2.hcd
            have ci11 := ci2.come.mv (Ext.of s211).sqT
            have hab11 := hab.ext (.of (s10.trans s11))
            refine ⟨_, rfl, _, rfl, cd, ab, q0, Lc2, rfl, rfl, hcd11, ci11.box, hab11, by omega, ?_⟩
            have mvC : ∀ {a : Addr} {xs : List V}, SqT K H11 a xs → SqT K (upd H11 cd (DBO P w cd (storeB Lc2 ab q0 v11))) a xs := fun h => sqT_but hcd11 (fun b u nb e => by rw [upd_ne nb]; exact e) h
            obtain ⟨_, st2⟩ := stored (L := Lc2) (b := ab) (q := q0) (v := v11)
            have cp := (ci11.put hab11 (v := v11) (y := goE init18 (EL ct M kj ++ ((mvOf M r).take i).flatMap (edL ct r)) q0 + goE init18 (EL ct M kj ++ ((mvOf M r).take i).flatMap (edL ct r)) r * mc.2) (by rw [ql]; exact d11)).mv mvC
            refine ⟨_, _, _, _, storeB Lc2 ab q0 v11, Ls2, rfl, Same.put ncd (s''.trans s211), fun b o b1 b2 e' => ?_, upd_same, ?_, fun u hu => ?_, fun e' he' => ?_, (st2 START).mpr (.inl ci2.start), ?_, fun p hp => mvC ((Ext.of s211).sqT (ci2.skeys p hp)), ci2.shown, ci2.few⟩
            · rw [upd_ne b1]
              exact s211 _ _ (fr2 b o b1 b2 e')
            · rw [fold]
              have eS : (fun x => if x = q0 then goE init18 (EL ct M kj ++ ((mvOf M r).take i).flatMap (edL ct r)) q0 + goE init18 (EL ct M kj ++ ((mvOf M r).take i).flatMap (edL ct r)) r * mc.2 else goE init18 (EL ct M kj ++ ((mvOf M r).take i).flatMap (edL ct r)) x) = stepE (goE init18 (EL ct M kj ++ ((mvOf M r).take i).flatMap (edL ct r))) (r, q0, mc.2) := by
                funext x
                unfold stepE
                by_cases z : x = q0
                · rw [if_pos z, if_pos z, z]
                · rw [if_neg z, if_neg z]
              rw [← eS]
              exact cp
            · rcases (st2 u).mp hu with z | z
              · exact ci2.keys u z
              · rw [z]
                exact ⟨qk, qc, by omega⟩
            · rw [st2]
              rw [← List.append_assoc] at he'
              rcases List.mem_append.mp he' with z | z
              · exact .inl (ci2.done e' z)
              · rw [List.mem_singleton.mp z]
                exact .inr rfl
            · rw [upd_ne (Ne.symm ncs)]
              exact s211 _ _ ci2.hsd

end
end Fm
namespace Fm
open PySem PySem.Spec PyProof.Rows L2
section
variable {P : Program} {w : World} {K : PySem.W.Frag} {mg : Str → Option Value} {base : Heap}

/-- told: for each stand asked its share -/
structure ToldV (K : PySem.W.Frag) (P : Program) (w : World) (ss : List Int) (M : MovT) (H : Hp) (td : Addr) (Lt : BoxL) : Prop where
  at_ : H td = some (DBO P w td Lt)
  box : BoxesAt K H Lt
  nd : (Lt.map (·.2.1)).Nodup
  ok : ∀ e ∈ Lt, BoxOk ss e.2.1
  val : ∀ e ∈ Lt, Dh K H e.2.2 (frD (lowZ (FF M e.2.1) (D18 ^ e.2.1.1.length)))
theorem ToldV.same {ss : List Int} {M : MovT} {H H' : Hp} {td : Addr} {Lt : BoxL} (s : Same H H') (h : ToldV K P w ss M H td Lt) : ToldV K P w ss M H' td Lt := ⟨s _ _ h.at_, fun e he => (h.box e he).ext (.of s), h.nd, h.ok, fun e he => (h.val e he).ext (.of s)⟩
theorem ToldV.look {ss : List Int} {M : MovT} {H : Hp} {td : Addr} {Lt : BoxL} (h : ToldV K P w ss M H td Lt) {q : Box} (hq : q ∈ Lt.map (·.2.1)) : ∃ v, findB Lt q = some v ∧ Dh K H v (frD (lowZ (FF M q) (D18 ^ q.1.length))) := by
  obtain ⟨e, he, e1, e2⟩ := findB_in hq
  exact ⟨_, e2, e1 ▸ h.val e he⟩
theorem ToldV.put {ss : List Int} {M : MovT} {H : Hp} {td b : Addr} {Lt : BoxL} {q : Box} {v : V} (h : ToldV K P w ss M H td Lt) (nq : q ∉ Lt.map (·.2.1)) (hb : BoxAt K H b q) (bok : BoxOk ss q) (hv : Dh K H v (frD (lowZ (FF M q) (D18 ^ q.1.length)))) :
    ToldV K P w ss M (upd H td (DBO P w td (Lt ++ [(b, q, v)]))) td (Lt ++ [(b, q, v)]) := by
  have mv : ∀ {a : Addr} {xs : List V}, SqT K H a xs → SqT K (upd H td (DBO P w td (Lt ++ [(b, q, v)]))) a xs := fun h' => sqT_but h.at_ (fun b u nb e => by rw [upd_ne nb]; exact e) h'
  refine ⟨upd_same, fun e he => ?_, ?_, fun e he => ?_, fun e he => ?_⟩
  · rcases List.mem_append.mp he with z | z
    · exact (h.box e z).mvs mv
    · rw [List.mem_singleton.mp z]
      exact hb.mvs mv
  · rw [List.map_append]
    exact List.nodup_append.mpr ⟨h.nd, List.nodup_cons.mpr ⟨by simp, List.nodup_nil⟩, fun x hx y hy e => nq (by
      have e2 : y = q := List.mem_singleton.mp hy
      rw [← e2, ← e]
      exact hx)⟩
  · rcases List.mem_append.mp he with z | z
    · exact h.ok e z
    · rw [List.mem_singleton.mp z]
      exact bok
  · rcases List.mem_append.mp he with z | z
    · exact (h.val e z).mv mv (plain_fr _)
    · rw [List.mem_singleton.mp z]
      exact hv.mv mv (plain_fr _)
def spLaw (K : PySem.W.Frag) : Sp := fun vs H Q _ => ∃ (a : Addr) (ns : List Int), vs = [.ref a] ∧ SqL K H a (ns.map V.int) ∧ ns.length ≤ 63 ∧ ∀ H', Q (.bl true) H'
theorem ok_law (T : Txt K mg) {f : Addr} {fd : FuncData} (F : Fun K "law" "law" s_law f fd) : FnOk P w K mg base CX0 8 f fd ["script"] (spLaw K) := by
  refine F.ok sc_law (fun vs H Q E h => ?_) (fun cdv A outer s H vs Q E hr h => ?_)
  · obtain ⟨_, _, rfl, _⟩ := h
    rfl
  · obtain ⟨a, ns, rfl, hS, hl, q⟩ := h
    refine ⟨_, (pss_cons (ps_set (i := 1) sc_law.nd rfl (.inl rfl) (pe_call (ok_law_hand T) (hr.mono (by decide)) (by rfl) T.g_law_hand T.F_law_hand.kp T.b_law_hand .nil pass0 (pa_cons (pv 0) pa_nil)))
      (pss_cons (ps_for PassesOwn.never rfl (pi_range1 (by rfl) T.z_range (pa_cons pe_int pa_nil)) (pg_name (i := 2) sc_law.nd rfl (.inl rfl)) (pss_cons (ps_set (i := 3) sc_law.nd rfl (.inl rfl) (pe_call (ok_law_sizes T) (hr.mono (by decide)) (by rfl) T.g_law_sizes T.F_law_sizes.kp T.b_law_sizes .nil pass0 (pa_cons (pv 1) pa_nil)))
      (pss_cons (ps_set (i := 4) sc_law.nd rfl (.inl rfl) (pe_call (ok_law_moves (P := P) (w := w) T) (hr.mono (by decide)) (by rfl) T.g_law_moves T.F_law_moves.kp T.b_law_moves .nil pass0 (pa_cons (pv 1) (pa_cons (pv 3) pa_nil))))
      (pss_cons (ps_set (i := 5) sc_law.nd rfl (.inl rfl) (pe_make T.M_Asker (ok_Asker_init (P := P) (w := w) T) (hr.mono (by decide)) (by rfl) T.g_Asker T.b_Asker_init .nil pass0 (pa_cons (pv 3) (pa_cons (pv 4) pa_nil))))
      (pss_cons (ps_set (i := 6) sc_law.nd rfl (.inl rfl) (pe_dnewB (P := P) (w := w)))
      (pss_cons (ps_for PassesOwn.never rfl (pi_listK K (pe_call (ok_law_patterns T) (hr.mono (by decide)) (by rfl) T.g_law_patterns T.F_law_patterns.kp T.b_law_patterns .nil pass0 (pa_cons (pe_callB (call_lenK K) (by rfl) T.z_len PySem.boot_len (pa_cons (pv 3) pa_nil)) pa_nil))) (pg_name (i := 7) sc_law.nd rfl (.inl rfl)) (pss_one (ps_for PassesOwn.never rfl (pi_listK K (pe_call (ok_law_contents T) (hr.mono (by decide)) (by rfl) T.g_law_contents T.F_law_contents.kp T.b_law_contents .nil pass0 (pa_cons (pv 3) pa_nil))) (pg_name (i := 9) sc_law.nd rfl (.inl rfl)) (pss_cons (ps_set (i := 8) sc_law.nd rfl (.inl rfl) (pe_call (ok_law_box T) (hr.mono (by decide)) (by rfl) T.g_law_box T.F_law_box.kp T.b_law_box .nil pass0 (pa_cons (pv 7) (pa_cons (pv 9) pa_nil))))
      (pss_cons (ps_if (pt_cmpR (op_notinB (K := K) (P := P) (w := w) hr.units) (pv 8) (pv 6) (by rfl)) (pss_one (ps_dputB (K := K) (P := P) (w := w) hr.units (pv 6) (pv 8) (pe_call (ok_coming (P := P) (w := w) T) (hr.mono (by decide)) (by rfl) T.g_coming T.F_coming.kp T.b_coming .nil pass0 (pa_cons (pv 5) (pa_cons (pv 8) pa_nil))) rfl)) pss_nil)
      (pss_cons (ps_set (i := 10) sc_law.nd rfl (.inl rfl) (pe_ix (ix_tupK K) (pe_call (ok_law_comes (P := P) (w := w) T) (hr.mono (by decide)) (by rfl) T.g_law_comes T.F_law_comes.kp T.b_law_comes .nil pass0 (pa_cons (pv 4) (pa_cons (pv 9) pa_nil))) pe_int (fun _ _ => rfl)))
      (pss_cons (ps_if (pt_cmpR (op_neK K hr.units) (pe_dgetBR (K := K) (P := P) (w := w) hr.units (pv 6) (pv 8) (fun _ _ => rfl)) (pe_dgetZ (K := K) (P := P) (w := w) hr.units (pv 10) (pv 8) (pe_tup (pa_cons pe_int (pa_cons pe_int pa_nil))) ⟨rfl, by rfl, by rfl, by rfl⟩) (nomark _)) (pss_one (ps_ret pe_bl)) pss_nil)
      (pss_one (ps_if (pt_cmpR (op_neK K hr.units) (pe_cmpR (op_eqK K hr.units) (pe_dgetBR (K := K) (P := P) (w := w) hr.units (pv 6) (pv 8) (fun _ _ => rfl)) (pe_tup (pa_cons pe_int (pa_cons pe_int pa_nil))) (nomark _)) (pe_cmpR (op_notinB (K := K) (P := P) (w := w) hr.units) (pv 8) (pv 4) (by rfl)) (nomark _)) (pss_one (ps_ret pe_bl)) pss_nil)))))))))
      (pss_cons (ps_lock (ps_for PassesOwn.never rfl (pi_keysB (P := P) (w := w) (pv 6)) (pg_name (i := 8) sc_law.nd rfl (.inl rfl)) (pss_one (ps_if (pt_cmpR (op_neK K hr.units) (pe_ix (ix_tupK K) (pv 8) pe_int (fun _ _ => rfl)) (pe_tup pa_nil) (nomark _)) (pss_cons (ps_set (i := 11) sc_law.nd rfl (.inl rfl) (pe_tup (pa_cons pe_int (pa_cons pe_int pa_nil))))
      (pss_cons (ps_for PassesOwn.never rfl (pi_range1 (by rfl) T.z_range (pa_cons (pe_callB (call_lenK K) (by rfl) T.z_len PySem.boot_len (pa_cons (pe_ix (ix_tupK K) (pv 8) pe_int (fun _ _ => rfl)) pa_nil)) pa_nil)) (pg_name (i := 12) sc_law.nd rfl (.inl rfl)) (pss_cons (ps_set (i := 13) sc_law.nd rfl (.inl rfl) (pe_tup (pa_cons (pe_op (op_catK K) (pe_slice (sl_tupK K) (pe_ix (ix_tupK K) (pv 8) pe_int (fun _ _ => rfl)) po_none (po_some (pv 12))) (pe_slice (sl_tupK K) (pe_ix (ix_tupK K) (pv 8) pe_int (fun _ _ => rfl)) (po_some (pe_op op_add (pv 12) pe_int)) po_none)) (pa_cons (pe_op (op_catK K) (pe_slice (sl_tupK K) (pe_ix (ix_tupK K) (pv 8) pe_int (fun _ _ => rfl)) po_none (po_some (pv 12))) (pe_slice (sl_tupK K) (pe_ix (ix_tupK K) (pv 8) pe_int (fun _ _ => rfl)) (po_some (pe_op op_add (pv 12) pe_int)) po_none)) pa_nil))))
      (pss_one (ps_for PassesOwn.never rfl (pi_tupK K (pe_dgetZ (K := K) (P := P) (w := w) hr.units (pv 4) (pv 13) (pe_tup pa_nil) ⟨rfl, by rfl, by rfl, by rfl⟩)) (pg_tupK K (n := 2) rfl (pgs_cons (pg_name (i := 14) sc_law.nd rfl (.inl rfl)) (pgs_cons (pg_name (i := 15) sc_law.nd rfl (.inl rfl)) pgs_nil))) (pss_one (ps_if (pt_cmpR op_eq (pv 14) (pe_ix (ix_tupK K) (pe_ix (ix_tupK K) (pv 8) pe_int (fun _ _ => rfl)) (pv 12) (fun _ _ => rfl)) (nomark _)) (pss_one (ps_set (i := 11) sc_law.nd rfl (.inl rfl) (pe_call (ok_law_plus T) (hr.mono (by decide)) (by rfl) T.g_law_plus T.F_law_plus.kp T.b_law_plus .nil pass0 (pa_cons (pv 11) (pa_cons (pe_call (ok_law_times T) (hr.mono (by decide)) (by rfl) T.g_law_times T.F_law_times.kp T.b_law_times .nil pass0 (pa_cons (pe_dgetBR (K := K) (P := P) (w := w) hr.units (pv 6) (pv 13) (fun _ _ => rfl)) (pa_cons (pv 15) pa_nil))) pa_nil))))) pss_nil))))))
      (pss_one (ps_if (pt_cmpR (op_neK K hr.units) (pv 11) (pe_dgetBR (K := K) (P := P) (w := w) hr.units (pv 6) (pv 8) (fun _ _ => rfl)) (nomark _)) (pss_one (ps_ret pe_bl)) pss_nil)))) pss_nil))))
      (pss_one (ps_if (pt_cmpR (op_neK K hr.units) (pe_dgetBR (K := K) (P := P) (w := w) hr.units (pv 6) (pe_tup (pa_cons (pe_tup pa_nil) (pa_cons (pe_tup pa_nil) pa_nil))) (fun _ _ => rfl)) (pe_tup (pa_cons pe_int (pa_cons pe_int pa_nil))) (nomark _)) (pss_one (ps_ret pe_bl)) pss_nil)))))))))
      (pss_one (ps_ret pe_bl)))), ?_⟩
    refine ⟨_, rfl, a, ns, rfl, hS, by omega, fun h c H1 nh s1 hx => ?_⟩
    dsimp only [gName]
    refine ⟨2, rfl, by decide, by decide, for_range (lo := 0) (n := 2) (fun i σ H' => ∃ y2 y3 y4 y5 y6 y7 y8 y9 y10 y11 y12 y13 y14 y15 : Option V, σ = [some (.ref a), some (.ref h), y2, y3, y4, y5, y6, y7, y8, y9, y10, y11, y12, y13, y14, y15] ∧ HandOk H' h c)
      ⟨none, none, none, none, none, none, none, none, none, none, none, none, none, none, rfl, hx⟩ ?_ ?_⟩
    rotate_left
    · rintro σ H' ⟨y2, y3, y4, y5, y6, y7, y8, y9, y10, y11, y12, y13, y14, y15, rfl, hx⟩
      exact q H'
    · clear hx hS nh s1 H1
      rintro i σ H0 hi ⟨y2, y3, y4, y5, y6, y7, y8, y9, y10, y11, y12, y13, y14, y15, rfl, hx⟩
      refine ⟨_, rfl, h, c, rfl, hx, fun sz ss H2 k2 hss hsz => ?_⟩
      obtain ⟨az, rfl, haz⟩ := ct_inv hsz
      have ok := sz18_ok ss hss
      obtain ⟨l1, h5, _⟩ := ok.facts
      dsimp only [tSeq, tAsg, gName, List.set_cons_succ, List.set_cons_zero]
      refine ⟨_, rfl, _, rfl, h, c, az, ss, rfl, k2.hand, haz, hss, fun mv L M H3 k3 nmv hmv ma mo few lv => ?_⟩
      have haz3 := (Keep.ext k2.hand k3).sqT haz
      dsimp only [tSeq, tAsg, gName, List.set_cons_succ, List.set_cons_zero]
      refine ⟨_, rfl, _, rfl, fun x dx nx ndx ne => ?_⟩
      have fr4 : ∀ b o, b ≠ x → H3 b = some o → (upd (upd H3 dx (.own x)) x (.ins T.c_Asker dx [])) b = some o := fun b o nb e => by
        rw [upd_ne nb, upd_ne fun z => by rw [z, ndx] at e; cases e]
        exact e
      have s34 : Same H3 (upd (upd H3 dx (.own x)) x (.ins T.c_Asker dx [])) := fun b o e => fr4 b o (fun z => by rw [z, nx] at e; cases e) e
      refine ⟨x, dx, az, mv, ss, L, M, rfl, upd_same, (Ext.of s34).sqT haz3, ok, s34 _ _ hmv, ma.ext (.of s34), mo, by omega, lv, fun md H5 nmd hx5 hmd5 fr5 => ⟨rfl, ?_⟩⟩
      have s35 : Same H3 H5 := fun b o e => fr5 b o (fun z => by rw [z, nx] at e; cases e) (s34 _ _ e)
      have ask : AskAt K P w T.c_Asker H5 x ss L M := ⟨⟨dx, az, md, hx5, (Ext.of s35).sqT haz3, hmd5⟩, ma.ext (.of s35), mo, ok, by omega⟩
      have haz5 := (Ext.of s35).sqT haz3
      have hmv5 := s35 _ _ hmv
      have ma5 := ma.ext (.of s35)
      have hx5' : HandOk H5 h c := k3.hand.same s35
      clear fr4 s34 fr5
      intro td ntd
      have tv0 : ToldV K P w ss M (upd H5 td (DBO P w td [])) td [] := ⟨upd_same, fun e he => (by cases he), List.nodup_nil, fun e he => (by cases he), fun e he => (by cases he)⟩
      have s6 : Same H5 (upd H5 td (DBO P w td [])) := same_new ntd
      generalize upd H5 td (DBO P w td []) = H6 at tv0 s6
      refine ⟨_, rfl, az, _, rfl, .inr ((Ext.of s6).sqT haz5), ss.length, by rw [List.length_map]; rfl, h5, fun pp pxs qs H7 npp s7 hpp hps pall => ?_⟩
      have pl := hps.length
      rw [List.length_map] at pl
      have s57 := s6.trans s7
      have ntp : pp ≠ td := fun z => by rw [z, tv0.at_] at npp; cases npp
      refine ⟨pp, rfl, ⟨_, SqL.of hpp⟩, for_list (K := K) (xs := pxs) (fun j σ H' => ∃ (y7 y8 y9 y10 : Option V) (Lt : BoxL), σ = [some (.ref a), some (.ref h), some (.int (0 + (i : Nat))), some (.ref az), some (.ref mv), some (.ref x), some (.ref td), y7, y8, y9, y10, y11, y12, y13, y14, y15] ∧ Same H5 H' ∧ (∀ b o, b ≠ td → H7 b = some o → H' b = some o) ∧ ToldV K P w ss M H' td Lt ∧ ∀ p ∈ qs.take j, ∀ ct, IsCt ss ct → boxAt p ct ∈ Lt.map (·.2.1)) ?z1 ?l1 ?s1 ?d1⟩
      case z1 => exact ⟨y7, y8, y9, y10, [], rfl, s57, fun _ _ _ e => e, tv0.same s7, fun p hp => (by cases hp)⟩
      case l1 =>
        rintro j σ H' _ ⟨_, _, _, _, _, _, _, fr, _⟩
        exact SqL.of (fr pp _ ntp hpp)
      case s1 =>
        rintro j y σ H8 hyj ⟨y7, y8, y9, y10, Lt, rfl, s58, fr8, tv, done⟩
        obtain ⟨d, hd, hyd⟩ := hps.get hyj
        obtain ⟨p, hp, rfl⟩ := map_at hd
        have pm := List.mem_of_getElem? hp
        have pasc := (pall.all p).mp pm
        have et : qs.take (j + 1) = qs.take j ++ [p] := by rw [List.take_add_one, hp]; rfl
        have hyd8 : Dh K H8 y (ctD p) := hyd.mv (fun h => sqT_but (tv0.same s7).at_ fr8 h) (plain_ct p)
        refine ⟨_, rfl, az, ss, rfl, (Ext.of s58).sqT haz5, ok, fun cp cxs H9 ncp s9 hcp hcs => ?_⟩
        have cl := hcs.length
        rw [List.length_map] at cl
        have ntc : cp ≠ td := fun z => by rw [z, tv.at_] at ncp; cases ncp
        refine ⟨cp, rfl, ⟨_, SqL.of hcp⟩, for_list (K := K) (xs := cxs) (fun m σ H' => ∃ (y8 y9 y10 : Option V) (Lt : BoxL), σ = [some (.ref a), some (.ref h), some (.int (0 + (i : Nat))), some (.ref az), some (.ref mv), some (.ref x), some (.ref td), some y, y8, y9, y10, y11, y12, y13, y14, y15] ∧ Same H5 H' ∧ (∀ b o, b ≠ td → H9 b = some o → H' b = some o) ∧ ToldV K P w ss M H' td Lt ∧ (∀ p ∈ qs.take j, ∀ ct, IsCt ss ct → boxAt p ct ∈ Lt.map (·.2.1)) ∧ ∀ ct ∈ (allC ss).take m, boxAt p ct ∈ Lt.map (·.2.1)) ?z2 ?l2 ?s2 ?d2⟩
        case z2 => exact ⟨y8, y9, y10, Lt, rfl, s58.trans s9, fun _ _ _ e => e, tv.same s9, done, fun ct hct => (by cases hct)⟩
        case l2 =>
          rintro m σ H' _ ⟨_, _, _, _, _, _, fr, _⟩
          exact SqL.of (fr cp _ ntc hcp)
        case d2 =>
          rintro σ H' ⟨y8, y9, y10, Lt2, rfl, s', fr, tv2, done2, doneC⟩
          rw [cl, List.take_length] at doneC
          refine ⟨_, _, _, _, Lt2, rfl, s', fun b o nb e => fr b o nb (s9 _ _ (fr8 b o nb e)), tv2, fun p' hp' ct hct => ?_⟩
          rw [et] at hp'
          rcases List.mem_append.mp hp' with z | z
          · exact done2 p' z ct hct
          · rw [List.mem_singleton.mp z]
            exact doneC ct (mem_allC.mpr hct)
        case s2 =>
          rintro m u σ H10 hum ⟨y8, y9, y10, Lt2, rfl, s510, fr10, tv2, done2, doneC⟩
          obtain ⟨d', hd', hud⟩ := hcs.get hum
          obtain ⟨ct, hc0, rfl⟩ := map_at hd'
          have ctm := mem_allC.mp (List.mem_of_getElem? hc0)
          have ctl := ctm.len
          have eu : (allC ss).take (m + 1) = (allC ss).take m ++ [ct] := by rw [List.take_add_one, hc0]; rfl
          have hud10 : Dh K H10 u (ctD ct) := hud.mv (fun h => sqT_but (tv.same s9).at_ fr10 h) (plain_ct ct)
          have hyd10 : Dh K H10 y (ctD p) := (hyd8.ext (.of s9)).mv (fun h => sqT_but (tv.same s9).at_ fr10 h) (plain_ct p)
          obtain ⟨ac, rfl, hac⟩ := ct_inv hud10
          have bok : BoxOk ss (boxAt p ct) := at_box pasc ctm
          have plen := pasc.len (by omega)
          refine ⟨_, rfl, _, rfl, p, ct, y, _, rfl, hyd10, hud10, (by rw [ctl]; exact pasc.inR), by omega, fun v11 H11 s11 d11 => ?_⟩
          obtain ⟨b, rfl, hb⟩ := dh_box (q := boxAt p ct) d11
          have tv3 := tv2.same s11
          have s511 := s510.trans s11
          dsimp only [tSeq, tAsg, gName, List.set_cons_succ, List.set_cons_zero]
          refine' (fun tail => ?useT : (∀ (Lt3 : BoxL) (H12 : Hp), ToldV K P w ss M H12 td Lt3 → Same H5 H12 → (∀ b o, b ≠ td → H11 b = some o → H12 b = some o) → BoxAt K H12 b (boxAt p ct) → (∀ q, q ∈ Lt2.map (·.2.1) ∨ q = boxAt p ct → q ∈ Lt3.map (·.2.1)) →
            tSeq _ _ _ [some (.ref a), some (.ref h), some (.int (0 + (i : Nat))), some (.ref az), some (.ref mv), some (.ref x), some (.ref td), some y, some (.ref b), some (.ref ac), y10, y11, y12, y13, y14, y15] H12) → _) ?tailT
          case useT =>
            refine ⟨_, rfl, _, rfl, b, td, boxAt p ct, Lt2, rfl, rfl, tv3.at_, tv3.box, hb, _, rfl, ?_⟩
            by_cases hq : boxAt p ct ∈ Lt2.map (·.2.1)
            · rw [isS_iff.mpr hq]
              refine iteF ?_
              exact tail Lt2 H11 tv3 s511 (fun _ _ _ e => e) hb fun q hq' => hq'.elim id fun z => by rw [z]; exact hq
            · rw [findB_out hq]
              refine iteT ?_
              have ask11 := ask.same s511
              refine ⟨_, rfl, _, rfl, x, b, ss, L, M, boxAt p ct, rfl, ask11, hb, bok, fun v12 H12 s12 d12 => ?_⟩
              have tv4 := tv3.same s12
              have hb12 := hb.ext (.of s12)
              have lt2 : Lt2.length ≤ 36 := by
                have z := (few_all hss tv2.nd fun q hq => by
                  obtain ⟨e, he, rfl⟩ := List.mem_map.mp hq
                  exact tv2.ok e he).1
                rwa [List.length_map] at z
              refine ⟨_, rfl, _, rfl, td, b, boxAt p ct, Lt2, rfl, rfl, tv4.at_, tv4.box, hb12, findB_out hq, by omega, ?_⟩
              have tv5 := tv4.put hq hb12 bok d12
              refine tail (Lt2 ++ [(b, boxAt p ct, v12)]) _ tv5 (Same.put ntd (s511.trans s12)) (fun b' o nb e => ?_) (hb12.mvs fun h => sqT_but tv4.at_ (fun b u nb e => by rw [upd_ne nb]; exact e) h) fun q hq' => ?_
              · rw [upd_ne nb]
                exact s12 _ _ e
              · rw [List.map_append]
                rcases hq' with z | z
                · exact List.mem_append_left _ z
                · exact List.mem_append_right _ (List.mem_singleton.mpr z)
          case tailT =>
            intro Lt3 H12 tv5 s512 fr12 hb12 sup
            have hac12 : SqT K H12 ac (ct.map V.int) := sqT_but tv3.at_ fr12 ((Ext.of s11).sqT hac)
            have hmv12 := s512 _ _ hmv5
            have ma12 := ma5.ext (.of s512)
            have qin := sup (boxAt p ct) (.inr rfl)
            refine ⟨_, rfl, _, rfl, mv, ac, ss, ct, L, M, rfl, ok, hmv12, ma12, mo, few, hac12, ctm, fun r cd Lc v2 H13 nr ncd s13 hr hcd bx len get => ?_⟩
            refine ⟨r, _, 0, _, rfl, rfl, hr, atI_nat (j := 0) rfl, ?_⟩
            have tv6 := tv5.same s13
            have hb13 := hb12.ext (.of s13)
            obtain ⟨v, hv, dv⟩ := tv6.look qin
            dsimp only [tSeq, tAsg, gName, List.set_cons_succ, List.set_cons_zero]
            refine ⟨_, rfl, _, rfl, td, b, boxAt p ct, Lt3, v, rfl, rfl, .inl tv6.at_, tv6.box, hb13, hv, _, rfl, ⟨cd, Lc, rfl, hcd⟩, _, rfl, by show 2 ≤ sizeLine; decide, fun tz ntz => ?_⟩
            have s14 : Same H13 (upd H13 tz (.tup [.int 0, .int 1])) := same_new ntz
            have hz14 : SqT K (upd H13 tz (.tup [.int 0, .int 1])) tz [.int 0, .int 1] := SqT.of upd_same
            generalize upd H13 tz (.tup [.int 0, .int 1]) = H14 at s14 hz14
            refine ⟨cd, b, Lc, boxAt p ct, rfl, rfl, s14 _ _ hcd, fun e he => (bx e he).ext (.of s14), hb13.ext (.of s14), ?_⟩
            have getv : ∃ gv, (findB Lc (boxAt p ct)).getD (.ref tz) = gv ∧ Dh K H14 gv (frD (lowZ (FF M (boxAt p ct)) (D18 ^ (boxAt p ct).1.length))) := by
              rcases get (boxAt p ct) bok rfl with ⟨v, h1, h2⟩ | ⟨h1, h2⟩
              · exact ⟨v, by rw [h1]; rfl, h2.ext (.of s14)⟩
              · refine ⟨.ref tz, by rw [h1]; rfl, ?_⟩
                rw [h2, low_zero (Int.pow_pos (by decide))]
                exact dh_ct (c := [0, 1]) hz14
            obtain ⟨gv, eg, dgv⟩ := getv
            rw [eg]
            have F0 := mo.FF0 (boxAt p ct)
            have Fp := mo.FF_pos _ (boxAt p ct) rfl bok
            generalize FF M (boxAt p ct) = FV at dv dgv F0 Fp
            have d0 : (0 : Int) < D18 ^ (boxAt p ct).1.length := Int.pow_pos (by decide)
            generalize D18 ^ (boxAt p ct).1.length = DV at dv dgv d0
            refine ⟨ctP [(lowZ FV DV).1, (lowZ FV DV).2], ctP [(lowZ FV DV).1, (lowZ FV DV).2], dp_ct (dv.ext (.of s14)), dp_ct dgv, shaped_ct _, shaped_ct _, _, rfl, ?_⟩
            rw [eqv_fr (lowZ FV DV) (lowZ FV DV), decide_eq_true rfl]
            refine iteF ?_
            have tv7 := tv6.same s14
            have hb14 := hb13.ext (.of s14)
            refine ⟨_, rfl, _, rfl, td, b, boxAt p ct, Lt3, v, rfl, rfl, .inl tv7.at_, tv7.box, hb14, hv, by show 2 ≤ sizeLine; decide, fun tz2 ntz2 => ?_⟩
            have s15 : Same H14 (upd H14 tz2 (.tup [.int 0, .int 1])) := same_new ntz2
            have hz15 : SqT K (upd H14 tz2 (.tup [.int 0, .int 1])) tz2 [.int 0, .int 1] := SqT.of upd_same
            generalize upd H14 tz2 (.tup [.int 0, .int 1]) = H15 at s15 hz15
            have s1215 := s13.trans (s14.trans s15)
            refine ⟨ctP [(lowZ FV DV).1, (lowZ FV DV).2], ctP [0, 1], dp_ct (dv.ext (.of (s14.trans s15))), .tup hz15 (dp_ints [0, 1]), shaped_ct _, shaped_ct _, ?_⟩
            rw [eqv_fr (lowZ FV DV) (0, 1)]
            refine ⟨_, rfl, _, rfl, b, mv, boxAt p ct, L, rfl, rfl, (s512.trans s1215) _ _ hmv5, (ma5.ext (.of (s512.trans s1215))).box, hb14.ext (.of s15), ?_⟩
            rw [ma5.isS]
            refine ⟨.bool _, .bool _, .bl _, .bl _, rfl, rfl, _, rfl, ?_⟩
            have eqb : decide (lowZ FV DV = (0, 1)) = !decide (boxAt p ct ∈ M.map (·.1)) := by
              by_cases hk : boxAt p ct ∈ M.map (·.1)
              · have fp := Fp.mpr hk
                rw [decide_eq_true hk, decide_eq_false fun z => ?_]
                · rfl
                · have y := (low_parts (t := FV) d0).1
                  rw [z] at y
                  omega
              · have f0 : FV = 0 := by
                  have : ¬ 0 < FV := fun z => hk (Fp.mp z)
                  omega
                rw [decide_eq_false hk, f0, low_zero d0]
                rfl
            rw [eqb]
            have self : ∀ b : Bool, PyData.eqv (.bool b) (.bool b) = true := fun b => by cases b <;> rfl
            rw [self]
            refine iteF ?_
            refine ⟨_, _, _, Lt3, rfl, s512.trans s1215, fun b' o nb e => s1215 _ _ (fr12 b' o nb (s11 _ _ (fr10 b' o nb e))), tv7.same s15, fun p' hp' ct' hct' => sup _ (.inl (done2 p' hp' ct' hct')), fun ct' hct' => ?_⟩
            rw [eu] at hct'
            rcases List.mem_append.mp hct' with z | z
            · exact sup _ (.inl (doneC ct' z))
            · rw [List.mem_singleton.mp z]
              exact qin
      case d1 =>
        rintro σ H8 ⟨y7, y8, y9, y10, Lt, rfl, s58, fr8, tv, done⟩
        rw [pl, List.take_length] at done
        have allT : ∀ q, BoxOk ss q → q ∈ Lt.map (·.2.1) := fun q hq => by
          obtain ⟨ct, hct, e⟩ := box_at hq
          rw [e]
          exact done q.1 ((pall.all q.1).mpr hq.1) ct hct
        refine ⟨td, _, tv.at_, trivial, fun od => ⟨_, rfl, td, od, Lt, rfl, upd_same, for_keysB (fun j σ H' => ∃ (y8 y11 y12 y13 y14 y15 : Option V), σ = [some (.ref a), some (.ref h), some (.int (0 + (i : Nat))), some (.ref az), some (.ref mv), some (.ref x), some (.ref td), y7, y8, y9, y10, y11, y12, y13, y14, y15] ∧ Same (upd H8 td (.frz od (DBO P w td Lt))) H') ?zk ?lk ?sk ?dk⟩⟩
        case zk => exact ⟨y8, y11, y12, y13, y14, y15, rfl, Same.refl _⟩
        case lk =>
          rintro j σ H' ⟨_, _, _, _, _, _, _, sm⟩
          exact sm _ _ upd_same
        case dk =>
          rintro σ H9 ⟨y8, y11, y12, y13, y14, y15, rfl, sm⟩
          refine ⟨sm _ _ upd_same, ?_⟩
          have sb := lock_back tv.at_ sm
          generalize upd H9 td (DBO P w td Lt) = H10 at sb ⊢
          have tv9 := tv.same sb
          refine ⟨_, rfl, Nat.zero_le _, fun t1 n1 => ⟨Nat.zero_le _, fun t2 n2 => ⟨by show 2 ≤ sizeLine; decide, fun t3 n3 => ?_⟩⟩⟩
          have a1 := same_new (o := HO.tup []) n1
          have a2 := same_new (o := HO.tup []) n2
          have a3 := same_new (o := HO.tup [.ref t1, .ref t2]) n3
          have hb3 : BoxAt K (upd (upd (upd H10 t1 (.tup [])) t2 (.tup [])) t3 (.tup [.ref t1, .ref t2])) t3 START := ⟨t1, t2, SqT.of upd_same, SqT.of ((a2.trans a3) _ _ upd_same), SqT.of (a3 _ _ upd_same)⟩
          have s13 := a1.trans (a2.trans a3)
          generalize upd (upd (upd H10 t1 (.tup [])) t2 (.tup [])) t3 (.tup [.ref t1, .ref t2]) = H11 at hb3 s13
          have tv11 := tv9.same s13
          obtain ⟨v, hv, dv⟩ := tv11.look (allT START (start_ok ok))
          refine ⟨td, t3, START, Lt, v, rfl, rfl, .inl tv11.at_, tv11.box, hb3, hv, by show 2 ≤ sizeLine; decide, fun t4 n4 => ?_⟩
          have s14 : Same H11 (upd H11 t4 (.tup [.int 1, .int 1])) := same_new n4
          have h4 : SqT K (upd H11 t4 (.tup [.int 1, .int 1])) t4 [.int 1, .int 1] := SqT.of upd_same
          generalize upd H11 t4 (.tup [.int 1, .int 1]) = H12 at s14 h4
          have e1 : lowZ (FF M START) (D18 ^ START.1.length) = (1, 1) := by
            rw [FF_zero rfl]
            exact low_one (by decide)
          rw [e1] at dv
          refine ⟨ctP [1, 1], ctP [1, 1], dp_ct (dv.ext (.of s14)), .tup h4 (dp_ints [1, 1]), shaped_ct _, shaped_ct _, _, rfl, ?_⟩
          rw [eqv_fr (1, 1) (1, 1), decide_eq_true rfl]
          refine iteF ?_
          exact ⟨_, _, _, _, _, _, _, _, _, _, _, _, _, _, rfl, hx5'.same (s58.trans (sb.trans (s13.trans s14)))⟩
        case sk =>
          rintro j e σ H9 he ⟨y8, y11, y12, y13, y14, y15, rfl, sm⟩
          have em := List.mem_of_getElem? he
          have bq := tv.ok e em
          have inF : ∀ {a : Addr} {xs : List V}, SqT K H8 a xs → SqT K H9 a xs := fun h => (Ext.of sm).sqT (lock_in tv.at_ h)
          have hbe := (tv.box e em).mvs inF
          obtain ⟨pa, wa, hbs8, hpa8, hwa8⟩ := tv.box e em
          have hbs := inF hbs8
          have hpa := inF hpa8
          refine ⟨_, rfl, e.1, _, 0, _, rfl, rfl, hbs, atI_nat (j := 0) rfl, Nat.zero_le _, fun t0 n0 => ?_⟩
          have s10 : Same H9 (upd H9 t0 (.tup [])) := same_new n0
          have h0 : SqT K (upd H9 t0 (.tup [])) t0 [] := SqT.of upd_same
          generalize upd H9 t0 (.tup []) = H10 at s10 h0
          refine ⟨ctP e.2.1.1, ctP [], dp_ct (dh_ct ((Ext.of s10).sqT hpa)), .tup h0 .nil, shaped_ct _, shaped_ct _, _, rfl, ?_⟩
          rw [eqv_ct]
          by_cases hq : e.2.1.1 = []
          · rw [decide_eq_true hq]
            refine iteF ?_
            exact ⟨_, _, _, _, _, _, rfl, sm.trans s10⟩
          · rw [decide_eq_false hq]
            refine iteT ?_
            have s09 : Same (upd H8 td (.frz od (DBO P w td Lt))) H10 := sm.trans s10
            have nonneg : ∀ c ∈ e.2.1.1, 0 ≤ FF M (delB e.2.1 c) * wt M (delB e.2.1 c) c := fun c _ => Int.mul_nonneg (mo.FF0 _) (mo.wt0 _ c).1
            have ql := bq.1.len (by omega)
            refine ⟨by show 2 ≤ sizeLine; decide, fun ta na => ?_⟩
            have s11 : Same H10 (upd H10 ta (.tup [.int 0, .int 1])) := same_new na
            have h11 : SqT K (upd H10 ta (.tup [.int 0, .int 1])) ta [.int 0, .int 1] := SqT.of upd_same
            generalize upd H10 ta (.tup [.int 0, .int 1]) = H11 at s11 h11
            dsimp only [tSeq, tAsg, gName, List.set_cons_succ, List.set_cons_zero]
            refine ⟨_, rfl, e.1, _, 0, _, rfl, rfl, (Ext.of (s10.trans s11)).sqT hbs, atI_nat (j := 0) rfl, pa, _, rfl, .inr ((Ext.of (s10.trans s11)).sqT hpa), _, rfl, by rw [List.length_map]; omega, by rw [List.length_map]; omega, for_range (lo := 0) (n := ((e.2.1.1.map V.int).length : Int).toNat) (fun k σ H' => ∃ (y12 y13 y14 y15 : Option V) (va : V), σ = [some (.ref a), some (.ref h), some (.int (0 + (i : Nat))), some (.ref az), some (.ref mv), some (.ref x), some (.ref td), y7, some (.ref e.1), y9, y10, some va, y12, y13, y14, y15] ∧ Same (upd H8 td (.frz od (DBO P w td Lt))) H' ∧ Dh K H' va (frD (lowZ ((e.2.1.1.take k).map fun c => FF M (delB e.2.1 c) * wt M (delB e.2.1 c) c).sum (D18 ^ e.2.1.1.length)))) ?za ?sa ?da⟩
            case za => exact ⟨y12, y13, y14, y15, .ref ta, rfl, s09.trans s11, by
              rw [List.take_zero, List.map_nil, List.sum_nil, low_zero (Int.pow_pos (by decide))]
              exact dh_ct (c := [0, 1]) h11⟩
            case da =>
              rintro σ H12 ⟨y12, y13, y14, y15, va, rfl, s12, dva⟩
              rw [List.length_map, Int.toNat_natCast, List.take_length] at dva
              have eF : (e.2.1.1.map fun c => FF M (delB e.2.1 c) * wt M (delB e.2.1 c) c).sum = FF M e.2.1 := (FF_step hq).symm
              rw [eF] at dva
              have h12 := s12 _ _ (upd_same (H := H8) (a := td) (o := .frz od (DBO P w td Lt)))
              have in12 : ∀ {a : Addr} {xs : List V}, SqT K H8 a xs → SqT K H12 a xs := fun h => (Ext.of s12).sqT (lock_in tv.at_ h)
              obtain ⟨v, hv, dv⟩ := tv.look (allT _ bq)
              refine ⟨_, rfl, _, rfl, _, rfl, td, e.1, e.2.1, Lt, v, rfl, rfl, .inr ⟨_, h12⟩, fun e' he' => (tv.box e' he').mvs in12, (tv.box e em).mvs in12, hv, ?_⟩
              have dv12 := dv.mv in12 (plain_fr _)
              refine ⟨ctP [_, _], ctP [_, _], dp_ct dva, dp_ct dv12, shaped_ct _, shaped_ct _, _, rfl, ?_⟩
              rw [eqv_fr, decide_eq_true rfl]
              refine iteF ?_
              exact ⟨_, _, _, _, _, _, rfl, s12⟩
            case sa =>
              rintro k σ H12 hk ⟨y12, y13, y14, y15, va, rfl, s12, dva⟩
              rw [List.length_map, Int.toNat_natCast] at hk
              obtain ⟨c0, hc⟩ : ∃ c0, e.2.1.1[k]? = some c0 := ⟨_, List.getElem?_eq_getElem hk⟩
              have cm := List.mem_of_getElem? hc
              have kidx : e.2.1.1.idxOf c0 = k := by
                have nd := up_nodup (asc_up bq.1)
                have h1 := List.idxOf_lt_length_of_mem cm
                have h2 : e.2.1.1[e.2.1.1.idxOf c0]? = some c0 := by rw [List.getElem?_eq_getElem h1, List.getElem_idxOf]
                exact (List.getElem?_inj h1 nd).mp (h2.trans hc.symm)
              have blen := box_len bq
              have eless : delB e.2.1 c0 = (e.2.1.1.take k ++ e.2.1.1.drop (k + 1), e.2.1.2.take k ++ e.2.1.2.drop (k + 1)) := by
                unfold delB
                rw [kidx, List.erase_eq_eraseIdx_of_idxOf kidx, List.eraseIdx_eq_take_drop_succ, List.eraseIdx_eq_take_drop_succ]
              have in12 : ∀ {a : Addr} {xs : List V}, SqT K H8 a xs → SqT K H12 a xs := fun h => (Ext.of s12).sqT (lock_in tv.at_ h)
              have hbs12 := in12 hbs8
              have dp12 : Dh K H12 (.ref pa) (ctD e.2.1.1) := dh_ct (in12 hpa8)
              have dw12 : Dh K H12 (.ref wa) (ctD e.2.1.2) := dh_ct (in12 hwa8)
              refine ⟨_, rfl, e.1, _, 0, _, rfl, rfl, hbs12, atI_nat (j := 0) rfl, _, rfl, _, rfl, slice_ct (lo := none) (hi := some ((0 : Int) + (k : Nat))) dp12 fun v1 H13 s13 d1 => ?_⟩
              rw [Int.zero_add, cutI_take (by omega)] at d1
              refine ⟨_, rfl, e.1, _, 0, _, rfl, rfl, (Ext.of s13).sqT hbs12, atI_nat (j := 0) rfl, _, rfl, _, _, rfl, rfl, _, rfl, ?_⟩
              dsimp only [tNoPart]
              refine slice_ct (lo := some ((0 : Int) + (k : Nat) + 1)) (hi := none) (dp12.ext (.of s13)) fun v2 H14 s14 d2 => ?_
              rw [show (0 : Int) + (k : Nat) + 1 = ((k + 1 : Nat) : Int) by omega, cutI_drop (by omega)] at d2
              refine cat_cts (d1.ext (.of s14)) d2 (by rw [List.length_take, List.length_drop]; omega) fun v3 H15 s15 d3 => ?_
              have s35 := s13.trans (s14.trans s15)
              refine ⟨_, rfl, e.1, _, 1, _, rfl, rfl, (Ext.of s35).sqT hbs12, atI_nat (j := 1) rfl, _, rfl, _, rfl, slice_ct (lo := none) (hi := some ((0 : Int) + (k : Nat))) (dw12.ext (.of s35)) fun v4 H16 s16 d4 => ?_⟩
              rw [Int.zero_add, cutI_take (by omega)] at d4
              have s36 := s35.trans s16
              refine ⟨_, rfl, e.1, _, 1, _, rfl, rfl, (Ext.of s36).sqT hbs12, atI_nat (j := 1) rfl, _, rfl, _, _, rfl, rfl, _, rfl, ?_⟩
              dsimp only [tNoPart]
              refine slice_ct (lo := some ((0 : Int) + (k : Nat) + 1)) (hi := none) (dw12.ext (.of s36)) fun v5 H17 s17 d5 => ?_
              rw [show (0 : Int) + (k : Nat) + 1 = ((k + 1 : Nat) : Int) by omega, cutI_drop (by omega)] at d5
              refine cat_cts (d4.ext (.of s17)) d5 (by rw [List.length_take, List.length_drop]; omega) fun v6 H18 s18 d6 => ?_
              refine ⟨by show 2 ≤ sizeLine; decide, fun bl nbl => ?_⟩
              have s19 : Same H18 (upd H18 bl (.tup [v3, v6])) := same_new nbl
              have dless : Dh K (upd H18 bl (.tup [v3, v6])) (.ref bl) (bxD (delB e.2.1 c0)) := by
                rw [eless]
                exact .tup (SqT.of upd_same) (.cons (d3.ext (.of (s16.trans (s17.trans (s18.trans s19))))) (.cons (d6.ext (.of s19)) .nil))
              have s39 := s36.trans (s17.trans (s18.trans s19))
              generalize upd H18 bl (.tup [v3, v6]) = H19 at s19 dless s39
              obtain ⟨bl', ebl, hbl⟩ := dh_box dless
              cases ebl
              have bdel : BoxOk ss (delB e.2.1 c0) := del_ok bq
              have dlen := del_len cm
              have nmt : mv ≠ td := fun z => by rw [z, ntd] at hmv5; cases hmv5
              have hmvF : (upd H8 td (.frz od (DBO P w td Lt))) mv = some (DBO P w mv L) := by rw [upd_ne nmt]; exact s58 _ _ hmv5
              have sF19 := s12.trans s39
              have in19 : ∀ {a : Addr} {xs : List V}, SqT K H8 a xs → SqT K H19 a xs := fun h => (Ext.of s39).sqT (in12 h)
              have ma19 : MvAt K H19 L M := (ma5.ext (.of s58)).mv in19
              dsimp only [tSeq, tAsg, gName, List.set_cons_succ, List.set_cons_zero]
              refine ⟨_, rfl, ⟨mv, L, rfl, sF19 _ _ hmvF⟩, _, rfl, Nat.zero_le _, fun tz ntz => ?_⟩
              have s20 : Same H19 (upd H19 tz (.tup [])) := same_new ntz
              have hz20 : SqT K (upd H19 tz (.tup [])) tz [] := SqT.of upd_same
              generalize upd H19 tz (.tup []) = H20 at s20 hz20
              have sF20 := sF19.trans s20
              have ma20 := ma19.ext (.of s20)
              have hbl20 := hbl.ext (.of s20)
              refine ⟨mv, bl, L, delB e.2.1 c0, rfl, rfl, sF20 _ _ hmvF, ma20.box, hbl20, ?_⟩
              have getm : ∃ gm gxs, (findB L (delB e.2.1 c0)).getD (.ref tz) = .ref gm ∧ SqT K H20 gm gxs ∧ DhAll K H20 gxs ((mvOf M (delB e.2.1 c0)).map mvD) := by
                by_cases hk2 : delB e.2.1 c0 ∈ M.map (·.1)
                · obtain ⟨v, hv, dv⟩ := ma20.look hk2
                  obtain ⟨gm, gxs, rfl, h1, h2⟩ := dv.tup_inv
                  exact ⟨gm, gxs, by rw [hv]; rfl, h1, h2⟩
                · exact ⟨tz, [], by rw [findB_out (by rw [ma20.keys]; exact hk2)]; rfl, hz20, by rw [mvOf_none hk2]; exact .nil⟩
              obtain ⟨gm, gxs, eg, hgm, hgx⟩ := getm
              rw [eg]
              have gl := hgx.length
              rw [List.length_map] at gl
              have mparts := (mo.mvs (delB e.2.1 c0)).1
              have Fl0 := mo.FF0 (delB e.2.1 c0)
              have Fl1 := mo.FF_le (q := delB e.2.1 c0) (by omega)
              have Fq1 := mo.FF_le (q := e.2.1) (by omega)
              have wdef : wt M (delB e.2.1 c0) c0 = ((mvOf M (delB e.2.1 c0)).map fun x => if x.1 = c0 then x.2 else 0).sum := rfl
              have totq : ((e.2.1.1.map fun c => FF M (delB e.2.1 c) * wt M (delB e.2.1 c) c)).sum = FF M e.2.1 := (FF_step hq).symm
              have splq : e.2.1.1 = e.2.1.1.take k ++ c0 :: e.2.1.1.drop (k + 1) := by
                obtain ⟨h1, h2⟩ := List.getElem?_eq_some_iff.mp hc
                rw [← h2, ← List.drop_eq_getElem_cons h1, List.take_append_drop]
              have tk1 : e.2.1.1.take (k + 1) = e.2.1.1.take k ++ [c0] := by rw [List.take_add_one, hc]; rfl
              have S0 : 0 ≤ ((e.2.1.1.take k).map fun c => FF M (delB e.2.1 c) * wt M (delB e.2.1 c) c).sum := sum_nonneg fun t ht => by
                obtain ⟨c, hcm, rfl⟩ := List.mem_map.mp ht
                exact nonneg c (List.mem_of_mem_take hcm)
              have R0 : 0 ≤ ((e.2.1.1.drop (k + 1)).map fun c => FF M (delB e.2.1 c) * wt M (delB e.2.1 c) c).sum := sum_nonneg fun t ht => by
                obtain ⟨c, hcm, rfl⟩ := List.mem_map.mp ht
                exact nonneg c (List.mem_of_mem_drop hcm)
              have tot2 := totq
              rw [splq, List.map_append, List.map_cons, List.sum_append, List.sum_cons] at tot2
              rw [tk1, List.map_append, List.sum_append, List.map_cons, List.map_nil, List.sum_cons, List.sum_nil, Int.add_zero]
              have elen : D18 ^ e.2.1.1.length = D18 ^ ((delB e.2.1 c0).1.length + 1) := by rw [dlen]
              have Wb : ∀ m, 0 ≤ (((mvOf M (delB e.2.1 c0)).take m).map fun x => if x.1 = c0 then x.2 else 0).sum ∧ (((mvOf M (delB e.2.1 c0)).take m).map fun x => if x.1 = c0 then x.2 else 0).sum ≤ wt M (delB e.2.1 c0) c0 := fun m => by
                have n0 : ∀ l : Mvs, (∀ x ∈ l, 1 ≤ x.2 ∧ x.2 ≤ D18) → 0 ≤ (l.map fun x => if x.1 = c0 then x.2 else 0).sum := fun l hl => sum_nonneg fun t ht => by
                  obtain ⟨x, hx, rfl⟩ := List.mem_map.mp ht
                  have := (hl x hx).1
                  split <;> omega
                refine ⟨n0 _ fun x hx => mparts x (List.mem_of_mem_take hx), ?_⟩
                rw [wdef]
                conv => rhs; rw [← List.take_append_drop m (mvOf M (delB e.2.1 c0)), List.map_append, List.sum_append]
                have := n0 _ fun x hx => mparts x (List.mem_of_mem_drop (i := m) hx)
                omega
              generalize ((e.2.1.1.take k).map fun c => FF M (delB e.2.1 c) * wt M (delB e.2.1 c) c).sum = SK at dva S0 tot2 ⊢
              have PB : ∀ m, 0 ≤ SK + FF M (delB e.2.1 c0) * (((mvOf M (delB e.2.1 c0)).take m).map fun x => if x.1 = c0 then x.2 else 0).sum ∧ SK + FF M (delB e.2.1 c0) * (((mvOf M (delB e.2.1 c0)).take m).map fun x => if x.1 = c0 then x.2 else 0).sum ≤ 120 * D18 ^ e.2.1.1.length := fun m => by
                have b1 := Int.mul_nonneg Fl0 (Wb m).1
                have b2 := Int.mul_le_mul_of_nonneg_left (Wb m).2 Fl0
                omega
              refine ⟨gm, rfl, ⟨_, hgm⟩, for_tup (K := K) (xs := gxs) (fun m σ H' => ∃ (y14 y15 : Option V) (va : V), σ = [some (.ref a), some (.ref h), some (.int (0 + (i : Nat))), some (.ref az), some (.ref mv), some (.ref x), some (.ref td), y7, some (.ref e.1), y9, y10, some va, some (.int (0 + (k : Nat))), some (.ref bl), y14, y15] ∧ Same H20 H' ∧ Dh K H' va (frD (lowZ (SK + FF M (delB e.2.1 c0) * (((mvOf M (delB e.2.1 c0)).take m).map fun x => if x.1 = c0 then x.2 else 0).sum) (D18 ^ e.2.1.1.length)))) ?zm ?lm ?sm ?dm⟩
              case zm => exact ⟨y14, y15, va, rfl, Same.refl _, by rw [List.take_zero, List.map_nil, List.sum_nil, Int.mul_zero, Int.add_zero]; exact dva.ext (.of (s39.trans s20))⟩
              case lm =>
                rintro m σ H' _ ⟨_, _, _, _, s', _⟩
                exact (Ext.of s').sqT hgm
              case dm =>
                rintro σ H' ⟨y14, y15, va, rfl, s', dv⟩
                rw [gl, List.take_length, ← wdef] at dv
                exact ⟨_, _, _, _, _, rfl, sF20.trans s', dv⟩
              case sm =>
                rintro m u σ H' hum ⟨y14, y15, va, rfl, s', dv⟩
                obtain ⟨dd, hdd, hud⟩ := hgx.get hum
                obtain ⟨mc, hmj, rfl⟩ := map_at hdd
                obtain ⟨r1, r2⟩ := mparts mc (List.mem_of_getElem? hmj)
                have etm : (mvOf M (delB e.2.1 c0)).take (m + 1) = (mvOf M (delB e.2.1 c0)).take m ++ [mc] := by rw [List.take_add_one, hmj]; rfl
                obtain ⟨t2, zs, rfl, ht, tl⟩ := (hud.ext (.of s')).tup_inv
                obtain ⟨v1, v2, rfl, h1, h2⟩ := dh_two tl
                cases h1
                have sF' := sF20.trans s'
                have inH : ∀ {a : Addr} {xs : List V}, SqT K H8 a xs → SqT K H' a xs := fun h => (Ext.of (s20.trans s')).sqT (in19 h)
                refine ⟨t2, _, rfl, ht, rfl, _, _, rfl, _, _, rfl, rfl, ?_⟩
                refine ⟨_, rfl, _, rfl, e.1, _, 0, _, rfl, rfl, inH hbs8, atI_nat (j := 0) rfl, _, rfl, pa, _, _, .int c0, rfl, rfl, inH hpa8, at_of (j := k) (by omega) (by rw [List.getElem?_map, hc]; rfl), rfl, _, rfl, ?_⟩
                rw [etm, List.map_append, List.sum_append, List.map_cons, List.map_nil, List.sum_cons, List.sum_nil, Int.add_zero]
                by_cases hcc : mc.1 = c0
                · rw [decide_eq_true (show V.int mc.1 = V.int c0 by rw [hcc]), if_pos hcc]
                  refine iteT ?_
                  obtain ⟨fa, rfl, hfa⟩ := fr_inv dv
                  obtain ⟨fp, rfl, hfp⟩ := fr_inv h2
                  obtain ⟨vt, hvt, dvt⟩ := tv.look (allT _ bdel)
                  obtain ⟨ft, rfl, hft⟩ := fr_inv (dvt.mv inH (plain_fr _))
                  obtain ⟨pw1, pw2⟩ := pow18 ((delB e.2.1 c0).1.length + 1) (by omega)
                  obtain ⟨_, pw3⟩ := pow18 (delB e.2.1 c0).1.length (by omega)
                  obtain ⟨p0, p1⟩ := PB m
                  rw [elen] at hfa p1 ⊢
                  refine ⟨_, rfl, _, rfl, _, rfl, td, bl, delB e.2.1 c0, Lt, .ref ft, rfl, rfl, .inr ⟨_, sF' _ _ upd_same⟩, fun e' he' => (tv.box e' he').mvs inH, hbl20.ext (.of s'), hvt, _, rfl, ?_⟩
                  refine ⟨ft, fp, _, _, 120, 1, 2520 ^ (delB e.2.1 c0).1.length, 2520, rfl, hft, hfp, fr18 Fl0 Fl1, (mv_share r1 r2).2.2, by decide, pw3, Nat.pos_of_ne_zero (by simp), by decide, fun v4 H4 s4 d4 => ?_⟩
                  obtain ⟨f4, rfl, hf4⟩ := fr_inv d4
                  refine ⟨fa, f4, _, _, 120, 120, 2520 ^ ((delB e.2.1 c0).1.length + 1), 2520 ^ ((delB e.2.1 c0).1.length + 1), rfl, (Ext.of s4).sqT hfa, hf4, fr18 p0 p1, step_fr Fl0 Fl1 r1 r2, by decide, pw1, Nat.pos_of_ne_zero (by simp), Nat.pos_of_ne_zero (by simp), fun v5 H5' s5' d5 => ?_⟩
                  rw [step_low Fl0 p0 (by omega), Int.add_assoc, ← Int.mul_add] at d5
                  exact ⟨_, _, v5, rfl, s'.trans (s4.trans s5'), d5⟩
                · rw [decide_eq_false (show ¬ V.int mc.1 = V.int c0 from fun z => hcc (V.int.inj z)), if_neg hcc, Int.add_zero]
                  refine iteF ?_
                  exact ⟨_, _, va, rfl, s', dv⟩

end
end Fm
namespace Fm
open PySem PySem.Spec PyProof.Rows L2
section
variable {P : Program} {w : World} {K : PySem.W.Frag} {mg : Str → Option Value} {base : Heap}

/-! ### isinstance and except among the classes of the text -/
theorem kit_own {K : PySem.W.Frag} {D C : Addr} {b : Bool} (hne : D ≠ C) (hdct : PySem.W.hasDictIn K C = true) (ht : PySem.W.typeIn K (.ref C) = some (.type "type")) (h : PySem.W.subIn K (.ref D) (.ref C) = some b) : PySem.W.kitOne K (.ref D) (.ref C) = some b := by
  obtain ⟨cd, hc, _⟩ := PySem.W.any_some hdct
  unfold PySem.W.kitOne
  rw [if_neg fun e => hne (Value.ref.inj (beq_iff_eq.mp e))]
  have e2 : ((PySem.W.clsIn K C).isSome && PySem.W.typeIn K (.ref C) == some (.type "type")) = true := by rw [hc, ht] <;> rfl
  show (if ((PySem.W.clsIn K C).isSome && PySem.W.typeIn K (.ref C) == some (.type "type")) = true then PySem.W.subIn K (.ref D) (.ref C) else none) = some b
  rw [if_pos e2]
  exact h
theorem kit_typ {K : PySem.W.Frag} {C : Addr} {T : String} {b : Bool} (hm : PySem.W.kitMeta T = true) (h : PySem.W.subIn K (.ref C) (.type T) = some b) : PySem.W.kitOne K (.ref C) (.type T) = some b := by
  unfold PySem.W.kitOne
  rw [if_neg fun e => by cases (beq_iff_eq.mp e)]
  show (if PySem.W.kitMeta T = true then PySem.W.subIn K (.ref C) (.type T) else none) = some b
  rw [if_pos hm]
  exact h
theorem oexC_mk {K : PySem.W.Frag} {C N : Addr} {nm q : Str} {bs bm sub : List Value} {sn : List Str} {ab : Bool} {col : Option Bool} {dd : Option Addr} {k0 k1 k2 k3 k5 : Option Value} (l : K.lookup C = some (excClassObj nm q C N bs bm true sn sub ab col dd k0 k1 k2 k3 k5 "ValueError.__new__"))
    (r : PySem.HandSPX.refsVE bm = true) (sa : PySem.W.findIn K (.ref C) "__setattr__" = some (some (.builtin "object.__setattr__"))) (ex : PySem.W.subIn K (.ref C) (.type "BaseException") = some true) (ty : PySem.W.typeIn K (.ref C) = some (.type "type")) (kC : PySem.W.keepIn K (.ref C) = true) : OexC K C :=
  ⟨⟨nm, q, N, bs, bm, sn, sub, ab, col, dd, k0, k1, k2, k3, k5, l, r⟩, sa, ex, ty, kC⟩
theorem sqK_mk {K : PySem.W.Frag} {a : Addr} {o : Obj} {xs : List V} (l : K.lookup a = some o) (h : ∃ its n, o.cls = .type "tuple" ∧ o.data = .seq its n ∧ its.size ≤ sizeLine ∧ Vals xs its.toList) (H : Hp) : SqT K H a xs := by
  obtain ⟨its, n, h1, h2, h3, h4⟩ := h
  exact .inr ⟨o, its, n, l, h1, h2, h3, h4⟩
theorem kit_base {K : PySem.W.Frag} {C : Addr} {T : String} {b : Bool} (hdct : PySem.W.hasDictIn K C = true) (ht : PySem.W.typeIn K (.ref C) = some (.type "type")) (h : PySem.W.subIn K (.type T) (.ref C) = some b) : PySem.W.kitOne K (.type T) (.ref C) = some b := by
  obtain ⟨cd, hc, _⟩ := PySem.W.any_some hdct
  unfold PySem.W.kitOne
  rw [if_neg fun e => by cases (beq_iff_eq.mp e)]
  have e2 : ((PySem.W.clsIn K C).isSome && PySem.W.typeIn K (.ref C) == some (.type "type")) = true := by rw [hc, ht] <;> rfl
  show (if ((PySem.W.clsIn K C).isSome && PySem.W.typeIn K (.ref C) == some (.type "type")) = true then PySem.W.subIn K (.type T) (.ref C) else none) = some b
  rw [if_pos e2]
  exact h
theorem boxK_mk {K : PySem.W.Frag} {a pa wa : Addr} {o oa ow : Obj} (l : K.lookup a = some o)
    (h : ∃ its n, o.cls = .type "tuple" ∧ o.data = .seq its n ∧ its.size ≤ sizeLine ∧ Vals [.ref pa, .ref wa] its.toList)
    (la : K.lookup pa = some oa) (ha : ∃ its n, oa.cls = .type "tuple" ∧ oa.data = .seq its n ∧ its.size ≤ sizeLine ∧ Vals [] its.toList)
    (lw : K.lookup wa = some ow) (hw : ∃ its n, ow.cls = .type "tuple" ∧ ow.data = .seq its n ∧ its.size ≤ sizeLine ∧ Vals [] its.toList) (H : Hp) : BoxAt K H a ([], []) :=
  ⟨pa, wa, sqK_mk l h H, sqK_mk la ha H, sqK_mk lw hw H⟩

/-! ### what the top has left, the head -/
theorem all_mk {l : PySem.W.OpenLaw} {w : World} {K : PySem.W.Frag} {h : Heap} {mg : Str → Option Value} {fa f1 f2 f3 f4 f5 f6 f7 f8 f9 f10 f11 f12 f13 f14 f15 f16 f17 f18 f19 f20 f21 f22 f23 f24 f25 f26 f27 f28 f29 f30 f31 f32 f33 f34 f35 f36 c_Asker v_ZERO v_ONE v_START : Addr} (X : K.In h) (G : h.Ns mainGlobals mg) (hfa : mg "law" = some (.ref fa))
    {od1 an1 od2 an2 od3 an3 od4 an4 od5 an5 od6 an6 od7 an7 od8 an8 od9 an9 od10 an10 od11 an11 od12 an12 od13 an13 od14 an14 od15 an15 od16 an16 od17 an17 od18 an18 od19 an19 od20 an20 od21 an21 od22 an22 od23 an23 od24 an24 od25 an25 od26 an26 od27 an27 od28 an28 od29 an29 od30 an30 od31 an31 od32 an32 od33 an33 od34 an34 od35 an35 od36 an36 : Option Addr} {sl1 sl2 sl3 sl4 sl5 sl6 sl7 sl8 sl9 sl10 sl11 sl12 sl13 sl14 sl15 sl16 sl17 sl18 sl19 sl20 sl21 sl22 sl23 sl24 sl25 sl26 sl27 sl28 sl29 sl30 sl31 sl32 sl33 sl34 sl35 sl36 : Array (Option Value)} {oc1 kV1 dc1 pm1 cd1 ct1 oc2 kV2 dc2 pm2 cd2 ct2 oc3 kV3 dc3 pm3 cd3 ct3 oc4 kV4 dc4 pm4 cd4 ct4 oc5 kV5 dc5 pm5 cd5 ct5 oc6 kV6 dc6 pm6 cd6 ct6 oc7 kV7 dc7 pm7 cd7 ct7 oc8 kV8 dc8 pm8 cd8 ct8 oc9 kV9 dc9 pm9 cd9 ct9 oc10 kV10 dc10 pm10 cd10 ct10 oc11 kV11 dc11 pm11 cd11 ct11 oc12 kV12 dc12 pm12 cd12 ct12 oc13 kV13 dc13 pm13 cd13 ct13 oc14 kV14 dc14 pm14 cd14 ct14 oc15 kV15 dc15 pm15 cd15 ct15 oc16 kV16 dc16 pm16 cd16 ct16 oc17 kV17 dc17 pm17 cd17 ct17 oc18 kV18 dc18 pm18 cd18 ct18 oc19 kV19 dc19 pm19 cd19 ct19 oc20 kV20 dc20 pm20 cd20 ct20 oc21 kV21 dc21 pm21 cd21 ct21 oc22 kV22 dc22 pm22 cd22 ct22 oc23 kV23 dc23 pm23 cd23 ct23 oc24 kV24 dc24 pm24 cd24 ct24 oc25 kV25 dc25 pm25 cd25 ct25 oc26 kV26 dc26 pm26 cd26 ct26 oc27 kV27 dc27 pm27 cd27 ct27 oc28 kV28 dc28 pm28 cd28 ct28 oc29 kV29 dc29 pm29 cd29 ct29 oc30 kV30 dc30 pm30 cd30 ct30 oc31 kV31 dc31 pm31 cd31 ct31 oc32 kV32 dc32 pm32 cd32 ct32 oc33 kV33 dc33 pm33 cd33 ct33 oc34 kV34 dc34 pm34 cd34 ct34 oc35 kV35 dc35 pm35 cd35 ct35 oc36 kV36 dc36 pm36 cd36 ct36 : Value} {t1 t2 t3 t4 t5 : _}
    (n_Asker : PySem.W.nsIn K mainGlobals "Asker" = some (some (.ref c_Asker)))
    (w_gcd : PySem.W.nsIn K mainGlobals "gcd" = some (some (.builtin "math.gcd")))
    (n_ZERO : PySem.W.nsIn K mainGlobals "ZERO" = some (some (.ref v_ZERO)))
    (n_ONE : PySem.W.nsIn K mainGlobals "ONE" = some (some (.ref v_ONE)))
    (w_lcm : PySem.W.nsIn K mainGlobals "lcm" = some (some (.builtin "math.lcm")))
    (n_START : PySem.W.nsIn K mainGlobals "START" = some (some (.ref v_START)))
    (a1 : PySem.W.nsIn K mainGlobals "is_whole" = some (some (.ref f1))) (l1 : K.lookup f1 = some ⟨oc1, od1, .func (PySem.W.fnOf "is_whole" "is_whole" (defArgs s_is_whole) (defBody s_is_whole) (defScope s_is_whole) .none kV1 dc1 pm1 an1 cd1 ct1), sl1⟩) (c1 : PySem.W.codeIn K cd1 "is_whole" = true) (k1 : PySem.W.keepIn K (.ref f1) = true)
    (a2 : PySem.W.nsIn K mainGlobals "is_pair" = some (some (.ref f2))) (l2 : K.lookup f2 = some ⟨oc2, od2, .func (PySem.W.fnOf "is_pair" "is_pair" (defArgs s_is_pair) (defBody s_is_pair) (defScope s_is_pair) .none kV2 dc2 pm2 an2 cd2 ct2), sl2⟩) (c2 : PySem.W.codeIn K cd2 "is_pair" = true) (k2 : PySem.W.keepIn K (.ref f2) = true)
    (a3 : PySem.W.nsIn K mainGlobals "is_fraction" = some (some (.ref f3))) (l3 : K.lookup f3 = some ⟨oc3, od3, .func (PySem.W.fnOf "is_fraction" "is_fraction" (defArgs s_is_fraction) (defBody s_is_fraction) (defScope s_is_fraction) .none kV3 dc3 pm3 an3 cd3 ct3), sl3⟩) (c3 : PySem.W.codeIn K cd3 "is_fraction" = true) (k3 : PySem.W.keepIn K (.ref f3) = true)
    (a4 : PySem.W.nsIn K mainGlobals "is_share" = some (some (.ref f4))) (l4 : K.lookup f4 = some ⟨oc4, od4, .func (PySem.W.fnOf "is_share" "is_share" (defArgs s_is_share) (defBody s_is_share) (defScope s_is_share) .none kV4 dc4 pm4 an4 cd4 ct4), sl4⟩) (c4 : PySem.W.codeIn K cd4 "is_share" = true) (k4 : PySem.W.keepIn K (.ref f4) = true)
    (a5 : PySem.W.nsIn K mainGlobals "fraction" = some (some (.ref f5))) (l5 : K.lookup f5 = some ⟨oc5, od5, .func (PySem.W.fnOf "fraction" "fraction" (defArgs s_fraction) (defBody s_fraction) (defScope s_fraction) .none kV5 dc5 pm5 an5 cd5 ct5), sl5⟩) (c5 : PySem.W.codeIn K cd5 "fraction" = true) (k5 : PySem.W.keepIn K (.ref f5) = true)
    (a6 : PySem.W.nsIn K mainGlobals "plus" = some (some (.ref f6))) (l6 : K.lookup f6 = some ⟨oc6, od6, .func (PySem.W.fnOf "plus" "plus" (defArgs s_plus) (defBody s_plus) (defScope s_plus) .none kV6 dc6 pm6 an6 cd6 ct6), sl6⟩) (c6 : PySem.W.codeIn K cd6 "plus" = true) (k6 : PySem.W.keepIn K (.ref f6) = true)
    (a7 : PySem.W.nsIn K mainGlobals "times" = some (some (.ref f7))) (l7 : K.lookup f7 = some ⟨oc7, od7, .func (PySem.W.fnOf "times" "times" (defArgs s_times) (defBody s_times) (defScope s_times) .none kV7 dc7 pm7 an7 cd7 ct7), sl7⟩) (c7 : PySem.W.codeIn K cd7 "times" = true) (k7 : PySem.W.keepIn K (.ref f7) = true)
    (a8 : PySem.W.nsIn K mainGlobals "common_bottom" = some (some (.ref f8))) (l8 : K.lookup f8 = some ⟨oc8, od8, .func (PySem.W.fnOf "common_bottom" "common_bottom" (defArgs s_common_bottom) (defBody s_common_bottom) (defScope s_common_bottom) .none kV8 dc8 pm8 an8 cd8 ct8), sl8⟩) (c8 : PySem.W.codeIn K cd8 "common_bottom" = true) (k8 : PySem.W.keepIn K (.ref f8) = true)
    (a9 : PySem.W.nsIn K mainGlobals "total" = some (some (.ref f9))) (l9 : K.lookup f9 = some ⟨oc9, od9, .func (PySem.W.fnOf "total" "total" (defArgs s_total) (defBody s_total) (defScope s_total) .none kV9 dc9 pm9 an9 cd9 ct9), sl9⟩) (c9 : PySem.W.codeIn K cd9 "total" = true) (k9 : PySem.W.keepIn K (.ref f9) = true)
    (a10 : PySem.W.nsIn K mainGlobals "is_sizes" = some (some (.ref f10))) (l10 : K.lookup f10 = some ⟨oc10, od10, .func (PySem.W.fnOf "is_sizes" "is_sizes" (defArgs s_is_sizes) (defBody s_is_sizes) (defScope s_is_sizes) .none kV10 dc10 pm10 an10 cd10 ct10), sl10⟩) (c10 : PySem.W.codeIn K cd10 "is_sizes" = true) (k10 : PySem.W.keepIn K (.ref f10) = true)
    (a11 : PySem.W.nsIn K mainGlobals "is_content" = some (some (.ref f11))) (l11 : K.lookup f11 = some ⟨oc11, od11, .func (PySem.W.fnOf "is_content" "is_content" (defArgs s_is_content) (defBody s_is_content) (defScope s_is_content) .none kV11 dc11 pm11 an11 cd11 ct11), sl11⟩) (c11 : PySem.W.codeIn K cd11 "is_content" = true) (k11 : PySem.W.keepIn K (.ref f11) = true)
    (a12 : PySem.W.nsIn K mainGlobals "is_pattern" = some (some (.ref f12))) (l12 : K.lookup f12 = some ⟨oc12, od12, .func (PySem.W.fnOf "is_pattern" "is_pattern" (defArgs s_is_pattern) (defBody s_is_pattern) (defScope s_is_pattern) .none kV12 dc12 pm12 an12 cd12 ct12), sl12⟩) (c12 : PySem.W.codeIn K cd12 "is_pattern" = true) (k12 : PySem.W.keepIn K (.ref f12) = true)
    (a13 : PySem.W.nsIn K mainGlobals "is_box_of" = some (some (.ref f13))) (l13 : K.lookup f13 = some ⟨oc13, od13, .func (PySem.W.fnOf "is_box_of" "is_box_of" (defArgs s_is_box_of) (defBody s_is_box_of) (defScope s_is_box_of) .none kV13 dc13 pm13 an13 cd13 ct13), sl13⟩) (c13 : PySem.W.codeIn K cd13 "is_box_of" = true) (k13 : PySem.W.keepIn K (.ref f13) = true)
    (a14 : PySem.W.nsIn K mainGlobals "boxes_with" = some (some (.ref f14))) (l14 : K.lookup f14 = some ⟨oc14, od14, .func (PySem.W.fnOf "boxes_with" "boxes_with" (defArgs s_boxes_with) (defBody s_boxes_with) (defScope s_boxes_with) .none kV14 dc14 pm14 an14 cd14 ct14), sl14⟩) (c14 : PySem.W.codeIn K cd14 "boxes_with" = true) (k14 : PySem.W.keepIn K (.ref f14) = true)
    (a15 : PySem.W.nsIn K mainGlobals "is_stands" = some (some (.ref f15))) (l15 : K.lookup f15 = some ⟨oc15, od15, .func (PySem.W.fnOf "is_stands" "is_stands" (defArgs s_is_stands) (defBody s_is_stands) (defScope s_is_stands) .none kV15 dc15 pm15 an15 cd15 ct15), sl15⟩) (c15 : PySem.W.codeIn K cd15 "is_stands" = true) (k15 : PySem.W.keepIn K (.ref f15) = true)
    (a16 : PySem.W.nsIn K mainGlobals "wrong_stand" = some (some (.ref f16))) (l16 : K.lookup f16 = some ⟨oc16, od16, .func (PySem.W.fnOf "wrong_stand" "wrong_stand" (defArgs s_wrong_stand) (defBody s_wrong_stand) (defScope s_wrong_stand) .none kV16 dc16 pm16 an16 cd16 ct16), sl16⟩) (c16 : PySem.W.codeIn K cd16 "wrong_stand" = true) (k16 : PySem.W.keepIn K (.ref f16) = true)
    (a17 : PySem.W.nsIn K mainGlobals "is_moves" = some (some (.ref f17))) (l17 : K.lookup f17 = some ⟨oc17, od17, .func (PySem.W.fnOf "is_moves" "is_moves" (defArgs s_is_moves) (defBody s_is_moves) (defScope s_is_moves) .none kV17 dc17 pm17 an17 cd17 ct17), sl17⟩) (c17 : PySem.W.codeIn K cd17 "is_moves" = true) (k17 : PySem.W.keepIn K (.ref f17) = true)
    (a18 : PySem.W.nsIn K mainGlobals "boxes_after" = some (some (.ref f18))) (l18 : K.lookup f18 = some ⟨oc18, od18, .func (PySem.W.fnOf "boxes_after" "boxes_after" (defArgs s_boxes_after) (defBody s_boxes_after) (defScope s_boxes_after) .none kV18 dc18 pm18 an18 cd18 ct18), sl18⟩) (c18 : PySem.W.codeIn K cd18 "boxes_after" = true) (k18 : PySem.W.keepIn K (.ref f18) = true)
    (a19 : PySem.W.nsIn K mainGlobals "by_columns" = some (some (.ref f19))) (l19 : K.lookup f19 = some ⟨oc19, od19, .func (PySem.W.fnOf "by_columns" "by_columns" (defArgs s_by_columns) (defBody s_by_columns) (defScope s_by_columns) .none kV19 dc19 pm19 an19 cd19 ct19), sl19⟩) (c19 : PySem.W.codeIn K cd19 "by_columns" = true) (k19 : PySem.W.keepIn K (.ref f19) = true)
    (a20 : PySem.W.nsIn K mainGlobals "all_coming" = some (some (.ref f20))) (l20 : K.lookup f20 = some ⟨oc20, od20, .func (PySem.W.fnOf "all_coming" "all_coming" (defArgs s_all_coming) (defBody s_all_coming) (defScope s_all_coming) .none kV20 dc20 pm20 an20 cd20 ct20), sl20⟩) (c20 : PySem.W.codeIn K cd20 "all_coming" = true) (k20 : PySem.W.keepIn K (.ref f20) = true)
    (a21 : PySem.W.nsIn K mainGlobals "coming" = some (some (.ref f21))) (l21 : K.lookup f21 = some ⟨oc21, od21, .func (PySem.W.fnOf "coming" "coming" (defArgs s_coming) (defBody s_coming) (defScope s_coming) .none kV21 dc21 pm21 an21 cd21 ct21), sl21⟩) (c21 : PySem.W.codeIn K cd21 "coming" = true) (k21 : PySem.W.keepIn K (.ref f21) = true)
    (a22 : PySem.W.nsIn K mainGlobals "_law_hand" = some (some (.ref f22))) (l22 : K.lookup f22 = some ⟨oc22, od22, .func (PySem.W.fnOf "_law_hand" "_law_hand" (defArgs s_law_hand) (defBody s_law_hand) (defScope s_law_hand) .none kV22 dc22 pm22 an22 cd22 ct22), sl22⟩) (c22 : PySem.W.codeIn K cd22 "_law_hand" = true) (k22 : PySem.W.keepIn K (.ref f22) = true)
    (a23 : PySem.W.nsIn K mainGlobals "_law_draw" = some (some (.ref f23))) (l23 : K.lookup f23 = some ⟨oc23, od23, .func (PySem.W.fnOf "_law_draw" "_law_draw" (defArgs s_law_draw) (defBody s_law_draw) (defScope s_law_draw) .none kV23 dc23 pm23 an23 cd23 ct23), sl23⟩) (c23 : PySem.W.codeIn K cd23 "_law_draw" = true) (k23 : PySem.W.keepIn K (.ref f23) = true)
    (a24 : PySem.W.nsIn K mainGlobals "_law_plus" = some (some (.ref f24))) (l24 : K.lookup f24 = some ⟨oc24, od24, .func (PySem.W.fnOf "_law_plus" "_law_plus" (defArgs s_law_plus) (defBody s_law_plus) (defScope s_law_plus) .none kV24 dc24 pm24 an24 cd24 ct24), sl24⟩) (c24 : PySem.W.codeIn K cd24 "_law_plus" = true) (k24 : PySem.W.keepIn K (.ref f24) = true)
    (a25 : PySem.W.nsIn K mainGlobals "_law_times" = some (some (.ref f25))) (l25 : K.lookup f25 = some ⟨oc25, od25, .func (PySem.W.fnOf "_law_times" "_law_times" (defArgs s_law_times) (defBody s_law_times) (defScope s_law_times) .none kV25 dc25 pm25 an25 cd25 ct25), sl25⟩) (c25 : PySem.W.codeIn K cd25 "_law_times" = true) (k25 : PySem.W.keepIn K (.ref f25) = true)
    (a26 : PySem.W.nsIn K mainGlobals "_law_low" = some (some (.ref f26))) (l26 : K.lookup f26 = some ⟨oc26, od26, .func (PySem.W.fnOf "_law_low" "_law_low" (defArgs s_law_low) (defBody s_law_low) (defScope s_law_low) .none kV26 dc26 pm26 an26 cd26 ct26), sl26⟩) (c26 : PySem.W.codeIn K cd26 "_law_low" = true) (k26 : PySem.W.keepIn K (.ref f26) = true)
    (a27 : PySem.W.nsIn K mainGlobals "_law_contents" = some (some (.ref f27))) (l27 : K.lookup f27 = some ⟨oc27, od27, .func (PySem.W.fnOf "_law_contents" "_law_contents" (defArgs s_law_contents) (defBody s_law_contents) (defScope s_law_contents) .none kV27 dc27 pm27 an27 cd27 ct27), sl27⟩) (c27 : PySem.W.codeIn K cd27 "_law_contents" = true) (k27 : PySem.W.keepIn K (.ref f27) = true)
    (a28 : PySem.W.nsIn K mainGlobals "_law_box" = some (some (.ref f28))) (l28 : K.lookup f28 = some ⟨oc28, od28, .func (PySem.W.fnOf "_law_box" "_law_box" (defArgs s_law_box) (defBody s_law_box) (defScope s_law_box) .none kV28 dc28 pm28 an28 cd28 ct28), sl28⟩) (c28 : PySem.W.codeIn K cd28 "_law_box" = true) (k28 : PySem.W.keepIn K (.ref f28) = true)
    (a29 : PySem.W.nsIn K mainGlobals "_law_later" = some (some (.ref f29))) (l29 : K.lookup f29 = some ⟨oc29, od29, .func (PySem.W.fnOf "_law_later" "_law_later" (defArgs s_law_later) (defBody s_law_later) (defScope s_law_later) .none kV29 dc29 pm29 an29 cd29 ct29), sl29⟩) (c29 : PySem.W.codeIn K cd29 "_law_later" = true) (k29 : PySem.W.keepIn K (.ref f29) = true)
    (a30 : PySem.W.nsIn K mainGlobals "_law_patterns" = some (some (.ref f30))) (l30 : K.lookup f30 = some ⟨oc30, od30, .func (PySem.W.fnOf "_law_patterns" "_law_patterns" (defArgs s_law_patterns) (defBody s_law_patterns) (defScope s_law_patterns) .none kV30 dc30 pm30 an30 cd30 ct30), sl30⟩) (c30 : PySem.W.codeIn K cd30 "_law_patterns" = true) (k30 : PySem.W.keepIn K (.ref f30) = true)
    (a31 : PySem.W.nsIn K mainGlobals "_law_sizes" = some (some (.ref f31))) (l31 : K.lookup f31 = some ⟨oc31, od31, .func (PySem.W.fnOf "_law_sizes" "_law_sizes" (defArgs s_law_sizes) (defBody s_law_sizes) (defScope s_law_sizes) .none kV31 dc31 pm31 an31 cd31 ct31), sl31⟩) (c31 : PySem.W.codeIn K cd31 "_law_sizes" = true) (k31 : PySem.W.keepIn K (.ref f31) = true)
    (a32 : PySem.W.nsIn K mainGlobals "_law_parts" = some (some (.ref f32))) (l32 : K.lookup f32 = some ⟨oc32, od32, .func (PySem.W.fnOf "_law_parts" "_law_parts" (defArgs s_law_parts) (defBody s_law_parts) (defScope s_law_parts) .none kV32 dc32 pm32 an32 cd32 ct32), sl32⟩) (c32 : PySem.W.codeIn K cd32 "_law_parts" = true) (k32 : PySem.W.keepIn K (.ref f32) = true)
    (a33 : PySem.W.nsIn K mainGlobals "_law_moves" = some (some (.ref f33))) (l33 : K.lookup f33 = some ⟨oc33, od33, .func (PySem.W.fnOf "_law_moves" "_law_moves" (defArgs s_law_moves) (defBody s_law_moves) (defScope s_law_moves) .none kV33 dc33 pm33 an33 cd33 ct33), sl33⟩) (c33 : PySem.W.codeIn K cd33 "_law_moves" = true) (k33 : PySem.W.keepIn K (.ref f33) = true)
    (a34 : PySem.W.nsIn K mainGlobals "_law_comes" = some (some (.ref f34))) (l34 : K.lookup f34 = some ⟨oc34, od34, .func (PySem.W.fnOf "_law_comes" "_law_comes" (defArgs s_law_comes) (defBody s_law_comes) (defScope s_law_comes) .none kV34 dc34 pm34 an34 cd34 ct34), sl34⟩) (c34 : PySem.W.codeIn K cd34 "_law_comes" = true) (k34 : PySem.W.keepIn K (.ref f34) = true)
    (a35 : PySem.W.nsIn K mainGlobals "law" = some (some (.ref f35))) (l35 : K.lookup f35 = some ⟨oc35, od35, .func (PySem.W.fnOf "law" "law" (defArgs s_law) (defBody s_law) (defScope s_law) .none kV35 dc35 pm35 an35 cd35 ct35), sl35⟩) (c35 : PySem.W.codeIn K cd35 "law" = true) (k35 : PySem.W.keepIn K (.ref f35) = true)
    (a36 : PySem.W.findIn K (.ref c_Asker) "__init__" = some (some (.ref f36))) (l36 : K.lookup f36 = some ⟨oc36, od36, .func (PySem.W.fnOf "__init__" "Asker.__init__" (defArgs s_Asker_init) (defBody s_Asker_init) (defScope s_Asker_init) .none kV36 dc36 pm36 an36 cd36 ct36), sl36⟩) (c36 : PySem.W.codeIn K cd36 "Asker.__init__" = true) (k36 : PySem.W.keepIn K (.ref f36) = true)
    (k_ZERO : ∀ H, SqT K H v_ZERO [.int 0, .int 1])
    (k_ONE : ∀ H, SqT K H v_ONE [.int 1, .int 1])
    (M_Asker : Mk K c_Asker f36)
    (l_Asker : Cls K c_Asker)
    (aq_sizes : PySem.W.findIn K (.ref c_Asker) "sizes" = some none)
    (aq_moves : PySem.W.findIn K (.ref c_Asker) "moves" = some none)
    (k_START : ∀ H, BoxAt K H v_START ([], []))
    (u1 : PySem.W.nsIn K mainGlobals "MOST_COLUMNS" = some (some (.int 5 t1)))
    (u2 : PySem.W.nsIn K mainGlobals "LEAST_SIZE" = some (some (.int 2 t2)))
    (u3 : PySem.W.nsIn K mainGlobals "MOST_SIZE" = some (some (.int 4 t3)))
    (u4 : PySem.W.nsIn K mainGlobals "MOST_CONTENTS" = some (some (.int 256 t4)))
    (u5 : PySem.W.nsIn K mainGlobals "STOP" = some (some (.int (-1) t5)))
    (z1 : PySem.W.nsIn K mainGlobals "len" = some none)
    (z2 : PySem.W.nsIn K mainGlobals "isinstance" = some none)
    (z3 : PySem.W.nsIn K mainGlobals "range" = some none)
    (z4 : PySem.W.nsIn K mainGlobals "zip" = some none)
    (z5 : PySem.W.nsIn K mainGlobals "tuple" = some none)
    (z6 : PySem.W.nsIn K mainGlobals "list" = some none)
    (z7 : PySem.W.nsIn K mainGlobals "int" = some none)
    (z8 : PySem.W.nsIn K mainGlobals "bool" = some none)
    (z9 : PySem.W.nsIn K mainGlobals "abs" = some none)
    (z10 : PySem.W.nsIn K mainGlobals "sorted" = some none)
    (z11 : PySem.W.nsIn K mainGlobals "dict" = some none)
    (z12 : PySem.W.nsIn K mainGlobals "set" = some none)
    (z13 : PySem.W.nsIn K mainGlobals "sum" = some none)
    (z14 : PySem.W.nsIn K mainGlobals "all" = some none)
    : ∃ fd : FuncData, (∀ (s : Shared) (v : Value), BindsTo s fd ⟨[v], []⟩ [("script", v)]) ∧ ∀ base : Heap, K.In base → base.Ns mainGlobals mg → FnOk l.prog w K mg base CX0 8 fa fd ["script"] (spLaw K) := by
  have e := hfa.symm.trans (PySem.W.mg_of X G a35)
  cases e
  have F1 := fun_mk (st := s_is_whole) l1 c1 k1
  have b1 := F1.binds (ps := ["thing"]) fun _ _ _ _ _ _ us hl => match us, hl with | [_], _ => rfl
  have F2 := fun_mk (st := s_is_pair) l2 c2 k2
  have b2 := F2.binds (ps := ["thing"]) fun _ _ _ _ _ _ us hl => match us, hl with | [_], _ => rfl
  have F3 := fun_mk (st := s_is_fraction) l3 c3 k3
  have b3 := F3.binds (ps := ["thing"]) fun _ _ _ _ _ _ us hl => match us, hl with | [_], _ => rfl
  have F4 := fun_mk (st := s_is_share) l4 c4 k4
  have b4 := F4.binds (ps := ["thing"]) fun _ _ _ _ _ _ us hl => match us, hl with | [_], _ => rfl
  have F5 := fun_mk (st := s_fraction) l5 c5 k5
  have b5 := F5.binds (ps := ["top", "bottom"]) fun _ _ _ _ _ _ us hl => match us, hl with | [_, _], _ => rfl
  have F6 := fun_mk (st := s_plus) l6 c6 k6
  have b6 := F6.binds (ps := ["one", "other"]) fun _ _ _ _ _ _ us hl => match us, hl with | [_, _], _ => rfl
  have F7 := fun_mk (st := s_times) l7 c7 k7
  have b7 := F7.binds (ps := ["one", "other"]) fun _ _ _ _ _ _ us hl => match us, hl with | [_, _], _ => rfl
  have F8 := fun_mk (st := s_common_bottom) l8 c8 k8
  have b8 := F8.binds (ps := ["parts"]) fun _ _ _ _ _ _ us hl => match us, hl with | [_], _ => rfl
  have F9 := fun_mk (st := s_total) l9 c9 k9
  have b9 := F9.binds (ps := ["parts"]) fun _ _ _ _ _ _ us hl => match us, hl with | [_], _ => rfl
  have F10 := fun_mk (st := s_is_sizes) l10 c10 k10
  have b10 := F10.binds (ps := ["thing"]) fun _ _ _ _ _ _ us hl => match us, hl with | [_], _ => rfl
  have F11 := fun_mk (st := s_is_content) l11 c11 k11
  have b11 := F11.binds (ps := ["sizes", "thing"]) fun _ _ _ _ _ _ us hl => match us, hl with | [_, _], _ => rfl
  have F12 := fun_mk (st := s_is_pattern) l12 c12 k12
  have b12 := F12.binds (ps := ["columns", "thing"]) fun _ _ _ _ _ _ us hl => match us, hl with | [_, _], _ => rfl
  have F13 := fun_mk (st := s_is_box_of) l13 c13 k13
  have b13 := F13.binds (ps := ["sizes", "thing"]) fun _ _ _ _ _ _ us hl => match us, hl with | [_, _], _ => rfl
  have F14 := fun_mk (st := s_boxes_with) l14 c14 k14
  have b14 := F14.binds (ps := ["sizes", "box", "column"]) fun _ _ _ _ _ _ us hl => match us, hl with | [_, _, _], _ => rfl
  have F15 := fun_mk (st := s_is_stands) l15 c15 k15
  have b15 := F15.binds (ps := ["sizes", "thing"]) fun _ _ _ _ _ _ us hl => match us, hl with | [_, _], _ => rfl
  have F16 := fun_mk (st := s_wrong_stand) l16 c16 k16
  have b16 := F16.binds (ps := ["sizes", "moves"]) fun _ _ _ _ _ _ us hl => match us, hl with | [_, _], _ => rfl
  have F17 := fun_mk (st := s_is_moves) l17 c17 k17
  have b17 := F17.binds (ps := ["columns", "pattern", "thing"]) fun _ _ _ _ _ _ us hl => match us, hl with | [_, _, _], _ => rfl
  have F18 := fun_mk (st := s_boxes_after) l18 c18 k18
  have b18 := F18.binds (ps := ["sizes", "stand", "moves"]) fun _ _ _ _ _ _ us hl => match us, hl with | [_, _, _], _ => rfl
  have F19 := fun_mk (st := s_by_columns) l19 c19 k19
  have b19 := F19.binds (ps := ["boxes"]) fun _ _ _ _ _ _ us hl => match us, hl with | [_], _ => rfl
  have F20 := fun_mk (st := s_all_coming) l20 c20 k20
  have b20 := F20.binds (ps := ["asker"]) fun _ _ _ _ _ _ us hl => match us, hl with | [_], _ => rfl
  have F21 := fun_mk (st := s_coming) l21 c21 k21
  have b21 := F21.binds (ps := ["asker", "stand"]) fun _ _ _ _ _ _ us hl => match us, hl with | [_, _], _ => rfl
  have F22 := fun_mk (st := s_law_hand) l22 c22 k22
  have b22 := F22.binds (ps := ["script"]) fun _ _ _ _ _ _ us hl => match us, hl with | [_], _ => rfl
  have F23 := fun_mk (st := s_law_draw) l23 c23 k23
  have b23 := F23.binds (ps := ["hand", "many"]) fun _ _ _ _ _ _ us hl => match us, hl with | [_, _], _ => rfl
  have F24 := fun_mk (st := s_law_plus) l24 c24 k24
  have b24 := F24.binds (ps := ["one", "other"]) fun _ _ _ _ _ _ us hl => match us, hl with | [_, _], _ => rfl
  have F25 := fun_mk (st := s_law_times) l25 c25 k25
  have b25 := F25.binds (ps := ["one", "other"]) fun _ _ _ _ _ _ us hl => match us, hl with | [_, _], _ => rfl
  have F26 := fun_mk (st := s_law_low) l26 c26 k26
  have b26 := F26.binds (ps := ["top", "bottom"]) fun _ _ _ _ _ _ us hl => match us, hl with | [_, _], _ => rfl
  have F27 := fun_mk (st := s_law_contents) l27 c27 k27
  have b27 := F27.binds (ps := ["sizes"]) fun _ _ _ _ _ _ us hl => match us, hl with | [_], _ => rfl
  have F28 := fun_mk (st := s_law_box) l28 c28 k28
  have b28 := F28.binds (ps := ["pattern", "content"]) fun _ _ _ _ _ _ us hl => match us, hl with | [_, _], _ => rfl
  have F29 := fun_mk (st := s_law_later) l29 c29 k29
  have b29 := F29.binds (ps := ["stand", "c", "worth"]) fun _ _ _ _ _ _ us hl => match us, hl with | [_, _, _], _ => rfl
  have F30 := fun_mk (st := s_law_patterns) l30 c30 k30
  have b30 := F30.binds (ps := ["columns"]) fun _ _ _ _ _ _ us hl => match us, hl with | [_], _ => rfl
  have F31 := fun_mk (st := s_law_sizes) l31 c31 k31
  have b31 := F31.binds (ps := ["hand"]) fun _ _ _ _ _ _ us hl => match us, hl with | [_], _ => rfl
  have F32 := fun_mk (st := s_law_parts) l32 c32 k32
  have b32 := F32.binds (ps := ["hand", "many", "bottom"]) fun _ _ _ _ _ _ us hl => match us, hl with | [_, _, _], _ => rfl
  have F33 := fun_mk (st := s_law_moves) l33 c33 k33
  have b33 := F33.binds (ps := ["hand", "sizes"]) fun _ _ _ _ _ _ us hl => match us, hl with | [_, _], _ => rfl
  have F34 := fun_mk (st := s_law_comes) l34 c34 k34
  have b34 := F34.binds (ps := ["moves", "content"]) fun _ _ _ _ _ _ us hl => match us, hl with | [_, _], _ => rfl
  have F35 := fun_mk (st := s_law) l35 c35 k35
  have F36 := fun_mk (st := s_Asker_init) l36 c36 k36
  have b36 := F36.binds (ps := ["self", "sizes", "moves"]) fun _ _ _ _ _ _ us hl => match us, hl with | [_, _, _], _ => rfl
  let T : Txt K mg := { f_is_whole := f1, d_is_whole := _, F_is_whole := F1, b_is_whole := b1, g_is_whole := PySem.W.mg_of X G a1, f_is_pair := f2, d_is_pair := _, F_is_pair := F2, b_is_pair := b2, g_is_pair := PySem.W.mg_of X G a2, f_is_fraction := f3, d_is_fraction := _, F_is_fraction := F3, b_is_fraction := b3, g_is_fraction := PySem.W.mg_of X G a3, f_is_share := f4, d_is_share := _, F_is_share := F4, b_is_share := b4, g_is_share := PySem.W.mg_of X G a4, f_fraction := f5, d_fraction := _, F_fraction := F5, b_fraction := b5, g_fraction := PySem.W.mg_of X G a5, f_plus := f6, d_plus := _, F_plus := F6, b_plus := b6, g_plus := PySem.W.mg_of X G a6, f_times := f7, d_times := _, F_times := F7, b_times := b7, g_times := PySem.W.mg_of X G a7, f_common_bottom := f8, d_common_bottom := _, F_common_bottom := F8, b_common_bottom := b8, g_common_bottom := PySem.W.mg_of X G a8, f_total := f9, d_total := _, F_total := F9, b_total := b9, g_total := PySem.W.mg_of X G a9, f_is_sizes := f10, d_is_sizes := _, F_is_sizes := F10, b_is_sizes := b10, g_is_sizes := PySem.W.mg_of X G a10, f_is_content := f11, d_is_content := _, F_is_content := F11, b_is_content := b11, g_is_content := PySem.W.mg_of X G a11, f_is_pattern := f12, d_is_pattern := _, F_is_pattern := F12, b_is_pattern := b12, g_is_pattern := PySem.W.mg_of X G a12, f_is_box_of := f13, d_is_box_of := _, F_is_box_of := F13, b_is_box_of := b13, g_is_box_of := PySem.W.mg_of X G a13, f_boxes_with := f14, d_boxes_with := _, F_boxes_with := F14, b_boxes_with := b14, g_boxes_with := PySem.W.mg_of X G a14, f_is_stands := f15, d_is_stands := _, F_is_stands := F15, b_is_stands := b15, g_is_stands := PySem.W.mg_of X G a15, f_wrong_stand := f16, d_wrong_stand := _, F_wrong_stand := F16, b_wrong_stand := b16, g_wrong_stand := PySem.W.mg_of X G a16, f_is_moves := f17, d_is_moves := _, F_is_moves := F17, b_is_moves := b17, g_is_moves := PySem.W.mg_of X G a17, f_boxes_after := f18, d_boxes_after := _, F_boxes_after := F18, b_boxes_after := b18, g_boxes_after := PySem.W.mg_of X G a18, f_by_columns := f19, d_by_columns := _, F_by_columns := F19, b_by_columns := b19, g_by_columns := PySem.W.mg_of X G a19, f_all_coming := f20, d_all_coming := _, F_all_coming := F20, b_all_coming := b20, g_all_coming := PySem.W.mg_of X G a20, f_coming := f21, d_coming := _, F_coming := F21, b_coming := b21, g_coming := PySem.W.mg_of X G a21, f_law_hand := f22, d_law_hand := _, F_law_hand := F22, b_law_hand := b22, g_law_hand := PySem.W.mg_of X G a22, f_law_draw := f23, d_law_draw := _, F_law_draw := F23, b_law_draw := b23, g_law_draw := PySem.W.mg_of X G a23, f_law_plus := f24, d_law_plus := _, F_law_plus := F24, b_law_plus := b24, g_law_plus := PySem.W.mg_of X G a24, f_law_times := f25, d_law_times := _, F_law_times := F25, b_law_times := b25, g_law_times := PySem.W.mg_of X G a25, f_law_low := f26, d_law_low := _, F_law_low := F26, b_law_low := b26, g_law_low := PySem.W.mg_of X G a26, f_law_contents := f27, d_law_contents := _, F_law_contents := F27, b_law_contents := b27, g_law_contents := PySem.W.mg_of X G a27, f_law_box := f28, d_law_box := _, F_law_box := F28, b_law_box := b28, g_law_box := PySem.W.mg_of X G a28, f_law_later := f29, d_law_later := _, F_law_later := F29, b_law_later := b29, g_law_later := PySem.W.mg_of X G a29, f_law_patterns := f30, d_law_patterns := _, F_law_patterns := F30, b_law_patterns := b30, g_law_patterns := PySem.W.mg_of X G a30, f_law_sizes := f31, d_law_sizes := _, F_law_sizes := F31, b_law_sizes := b31, g_law_sizes := PySem.W.mg_of X G a31, f_law_parts := f32, d_law_parts := _, F_law_parts := F32, b_law_parts := b32, g_law_parts := PySem.W.mg_of X G a32, f_law_moves := f33, d_law_moves := _, F_law_moves := F33, b_law_moves := b33, g_law_moves := PySem.W.mg_of X G a33, f_law_comes := f34, d_law_comes := _, F_law_comes := F34, b_law_comes := b34, g_law_comes := PySem.W.mg_of X G a34, f_Asker_init := f36, d_Asker_init := _, F_Asker_init := F36, b_Asker_init := b36, c_Asker := c_Asker, g_Asker := PySem.W.mg_of X G n_Asker, w_gcd := PySem.W.mg_of X G w_gcd, v_ZERO := v_ZERO, g_ZERO := PySem.W.mg_of X G n_ZERO, k_ZERO := k_ZERO, v_ONE := v_ONE, g_ONE := PySem.W.mg_of X G n_ONE, k_ONE := k_ONE, w_lcm := PySem.W.mg_of X G w_lcm, M_Asker := M_Asker, l_Asker := l_Asker, aq_sizes := aq_sizes, aq_moves := aq_moves, v_START := v_START, g_START := PySem.W.mg_of X G n_START, k_START := k_START, u_MOST_COLUMNS := _, k_MOST_COLUMNS := ⟨PySem.W.mg_of X G u1, ⟨_, rfl⟩⟩, u_LEAST_SIZE := _, k_LEAST_SIZE := ⟨PySem.W.mg_of X G u2, ⟨_, rfl⟩⟩, u_MOST_SIZE := _, k_MOST_SIZE := ⟨PySem.W.mg_of X G u3, ⟨_, rfl⟩⟩, u_MOST_CONTENTS := _, k_MOST_CONTENTS := ⟨PySem.W.mg_of X G u4, ⟨_, rfl⟩⟩, u_STOP := _, k_STOP := ⟨PySem.W.mg_of X G u5, ⟨_, rfl⟩⟩, z_len := PySem.W.mg_none_of X G z1, z_isinstance := PySem.W.mg_none_of X G z2, z_range := PySem.W.mg_none_of X G z3, z_zip := PySem.W.mg_none_of X G z4, z_tuple := PySem.W.mg_none_of X G z5, z_list := PySem.W.mg_none_of X G z6, z_int := PySem.W.mg_none_of X G z7, z_bool := PySem.W.mg_none_of X G z8, z_abs := PySem.W.mg_none_of X G z9, z_sorted := PySem.W.mg_none_of X G z10, z_dict := PySem.W.mg_none_of X G z11, z_set := PySem.W.mg_none_of X G z12, z_sum := PySem.W.mg_none_of X G z13, z_all := PySem.W.mg_none_of X G z14 }
  exact ⟨PySem.W.fnOf "law" "law" (defArgs s_law) (defBody s_law) (defScope s_law) .none kV35 dc35 pm35 an35 cd35 ct35, fun s v => .of_eq rfl, fun base _ _ => ok_law T F35⟩

end
end Fm
open PySem PySem.W PyProof.Rows
set_option maxHeartbeats 0 in
theorem PySem.Challenge.cw_fairmasks_k18_whole_coming_by_all_conten_holds : PySem.Challenge.rw_fairmasks_k18_whole_coming_by_all_conten.Holds := by
  w_on; o_law; k_head; (case hw => w_witness2)
  k_fill
  refine L2.walk_of (l := PySem.Challenge.rw_fairmasks_k18_whole_coming_by_all_conten) (n := 63) (k := 8) (x := "script") (CX := fun _ => L2.CX0) (sp := fun w => Fm.spLaw _) rfl (by decide) rfl ⟨rfl, by decide, by decide⟩ (fun w h Y => PySem.W.kIn_of Y) ?F (fun _ _ a ns hl _ hS => ⟨a, ns, rfl, hS, hl, fun _ => rfl⟩) (fun _ _ _ _ _ h => h)
  case F =>
    intro w mg fa h KX G hmg
    refine' Fm.all_mk KX G hmg ?n_Asker ?w_gcd ?n_ZERO ?n_ONE ?w_lcm ?n_START ?a1 ?l1 ?c1 ?k1 ?a2 ?l2 ?c2 ?k2 ?a3 ?l3 ?c3 ?k3 ?a4 ?l4 ?c4 ?k4 ?a5 ?l5 ?c5 ?k5 ?a6 ?l6 ?c6 ?k6 ?a7 ?l7 ?c7 ?k7 ?a8 ?l8 ?c8 ?k8 ?a9 ?l9 ?c9 ?k9 ?a10 ?l10 ?c10 ?k10 ?a11 ?l11 ?c11 ?k11 ?a12 ?l12 ?c12 ?k12 ?a13 ?l13 ?c13 ?k13 ?a14 ?l14 ?c14 ?k14 ?a15 ?l15 ?c15 ?k15 ?a16 ?l16 ?c16 ?k16 ?a17 ?l17 ?c17 ?k17 ?a18 ?l18 ?c18 ?k18 ?a19 ?l19 ?c19 ?k19 ?a20 ?l20 ?c20 ?k20 ?a21 ?l21 ?c21 ?k21 ?a22 ?l22 ?c22 ?k22 ?a23 ?l23 ?c23 ?k23 ?a24 ?l24 ?c24 ?k24 ?a25 ?l25 ?c25 ?k25 ?a26 ?l26 ?c26 ?k26 ?a27 ?l27 ?c27 ?k27 ?a28 ?l28 ?c28 ?k28 ?a29 ?l29 ?c29 ?k29 ?a30 ?l30 ?c30 ?k30 ?a31 ?l31 ?c31 ?k31 ?a32 ?l32 ?c32 ?k32 ?a33 ?l33 ?c33 ?k33 ?a34 ?l34 ?c34 ?k34 ?a35 ?l35 ?c35 ?k35 ?a36 ?l36 ?c36 ?k36 ?k_ZERO ?k_ONE ?M_Asker ?l_Asker ?aq_sizes ?aq_moves ?k_START ?u1 ?u2 ?u3 ?u4 ?u5 ?z1 ?z2 ?z3 ?z4 ?z5 ?z6 ?z7 ?z8 ?z9 ?z10 ?z11 ?z12 ?z13 ?z14
    case n_Asker => k_is
    case w_gcd => k_is
    case n_ZERO => k_is
    case n_ONE => k_is
    case w_lcm => k_is
    case n_START => k_is
    case a1 => k_is
    case l1 => k_is
    case c1 => k_is
    case k1 => k_is
    case a2 => k_is
    case l2 => k_is
    case c2 => k_is
    case k2 => k_is
    case a3 => k_is
    case l3 => k_is
    case c3 => k_is
    case k3 => k_is
    case a4 => k_is
    case l4 => k_is
    case c4 => k_is
    case k4 => k_is
    case a5 => k_is
    case l5 => k_is
    case c5 => k_is
    case k5 => k_is
    case a6 => k_is
    case l6 => k_is
    case c6 => k_is
    case k6 => k_is
    case a7 => k_is
    case l7 => k_is
    case c7 => k_is
    case k7 => k_is
    case a8 => k_is
    case l8 => k_is
    case c8 => k_is
    case k8 => k_is
    case a9 => k_is
    case l9 => k_is
    case c9 => k_is
    case k9 => k_is
    case a10 => k_is
    case l10 => k_is
    case c10 => k_is
    case k10 => k_is
    case a11 => k_is
    case l11 => k_is
    case c11 => k_is
    case k11 => k_is
    case a12 => k_is
    case l12 => k_is
    case c12 => k_is
    case k12 => k_is
    case a13 => k_is
    case l13 => k_is
    case c13 => k_is
    case k13 => k_is
    case a14 => k_is
    case l14 => k_is
    case c14 => k_is
    case k14 => k_is
    case a15 => k_is
    case l15 => k_is
    case c15 => k_is
    case k15 => k_is
    case a16 => k_is
    case l16 => k_is
    case c16 => k_is
    case k16 => k_is
    case a17 => k_is
    case l17 => k_is
    case c17 => k_is
    case k17 => k_is
    case a18 => k_is
    case l18 => k_is
    case c18 => k_is
    case k18 => k_is
    case a19 => k_is
    case l19 => k_is
    case c19 => k_is
    case k19 => k_is
    case a20 => k_is
    case l20 => k_is
    case c20 => k_is
    case k20 => k_is
    case a21 => k_is
    case l21 => k_is
    case c21 => k_is
    case k21 => k_is
    case a22 => k_is
    case l22 => k_is
    case c22 => k_is
    case k22 => k_is
    case a23 => k_is
    case l23 => k_is
    case c23 => k_is
    case k23 => k_is
    case a24 => k_is
    case l24 => k_is
    case c24 => k_is
    case k24 => k_is
    case a25 => k_is
    case l25 => k_is
    case c25 => k_is
    case k25 => k_is
    case a26 => k_is
    case l26 => k_is
    case c26 => k_is
    case k26 => k_is
    case a27 => k_is
    case l27 => k_is
    case c27 => k_is
    case k27 => k_is
    case a28 => k_is
    case l28 => k_is
    case c28 => k_is
    case k28 => k_is
    case a29 => k_is
    case l29 => k_is
    case c29 => k_is
    case k29 => k_is
    case a30 => k_is
    case l30 => k_is
    case c30 => k_is
    case k30 => k_is
    case a31 => k_is
    case l31 => k_is
    case c31 => k_is
    case k31 => k_is
    case a32 => k_is
    case l32 => k_is
    case c32 => k_is
    case k32 => k_is
    case a33 => k_is
    case l33 => k_is
    case c33 => k_is
    case k33 => k_is
    case a34 => k_is
    case l34 => k_is
    case c34 => k_is
    case k34 => k_is
    case a35 => k_is
    case l35 => k_is
    case c35 => k_is
    case k35 => k_is
    case a36 => k_is
    case l36 => k_is
    case c36 => k_is
    case k36 => k_is
    case k_ZERO => refine' Fm.sqK_mk ?g_k_ZERO_z1 ?g_k_ZERO_z2; (case g_k_ZERO_z1 => k_is); (case g_k_ZERO_z2 => exact ⟨_, _, rfl, rfl, by decide, .cons ⟨_, rfl⟩ (.cons ⟨_, rfl⟩ .nil)⟩)
    case k_ONE => refine' Fm.sqK_mk ?g_k_ONE_z1 ?g_k_ONE_z2; (case g_k_ONE_z1 => k_is); (case g_k_ONE_z2 => exact ⟨_, _, rfl, rfl, by decide, .cons ⟨_, rfl⟩ (.cons ⟨_, rfl⟩ .nil)⟩)
    case M_Asker => refine' ⟨?g_M_Asker_z1, ?g_M_Asker_z2, ?g_M_Asker_z3, ?g_M_Asker_z4⟩ <;> k_is
    case l_Asker => refine' ⟨?g_l_Asker_z1, ?g_l_Asker_z2, ?g_l_Asker_z3, ?g_l_Asker_z4⟩ <;> k_is
    case aq_sizes => k_is
    case aq_moves => k_is
    case k_START => refine' Fm.boxK_mk ?g_k_START_z1 ?g_k_START_z2 ?g_k_START_z3 ?g_k_START_z4 ?g_k_START_z5 ?g_k_START_z6; (case g_k_START_z1 => k_is); (case g_k_START_z2 => exact ⟨_, _, rfl, rfl, by decide, .cons rfl (.cons rfl .nil)⟩); (case g_k_START_z3 => k_is); (case g_k_START_z4 => exact ⟨_, _, rfl, rfl, by decide, .nil⟩); (case g_k_START_z5 => k_is); (case g_k_START_z6 => exact ⟨_, _, rfl, rfl, by decide, .nil⟩)
    case u1 => k_is
    case u2 => k_is
    case u3 => k_is
    case u4 => k_is
    case u5 => k_is
    case z1 => k_is
    case z2 => k_is
    case z3 => k_is
    case z4 => k_is
    case z5 => k_is
    case z6 => k_is
    case z7 => k_is
    case z8 => k_is
    case z9 => k_is
    case z10 => k_is
    case z11 => k_is
    case z12 => k_is
    case z13 => k_is
    case z14 => k_is
