import PyProof.Rows.All
import Wide.All
import OpenK.AllK
import Wide.FinOn
import HandS.ForMost
import HandS.IsInst
import HandS.TupAny
import HandS.SetKeys
import HandS.DictComp
import HandS.Zip
import HandS.TupLe
import HandS.More
import HandS.Conv
import HandS.Codes
import KE.GoesNew
import KE.KDictZip
import HandS.Zip0
import KE.SortCalls
import KE.SortData
import HandS.Exc
import HandS.ExcInit
import HandS.ExcIs
import HandS.ClsMeth
import HandS.ForExc
import HandS.Deep
import HandS.TupMul
import HandS.Gcd
import HandS.WordsExc
import HandS.OwnEq
import HandS.TupSets
import HandS.Wide
import HandS.ExcField
import PyProof.InstNe
import KE.GoesSet
import KE.KDictKeyed
import KE.KDictDisplayH
import KE.KDictCopyH
import KE.KDictSum
import KE.KeyNested
import KE.KEqNest
import KE.LtData
import KE.KDictOf
import HandS.SetBool
import HandS.SortKw
import HandS.Slots
import KE.KSortKeyAny
import KE.DataMinMax
import HandS.Walk
import HandS.Style
import PySem.Challenge.RW_fairmasks_k23_whole_nest_columns_and_ord
set_option Elab.async false
set_option maxRecDepth 100000
set_option maxHeartbeats 4000000
/-! Plain things of the fairmasks laws: data that a value stands for, heaps that go on, the drawing hand. -/
namespace Fm
open PySem PySem.Spec PyProof.Rows L2

/-- a thing that is judged: lists, dicts, instances are told by their type alone -/
inductive Dt where
  | non | bl (b : Bool) | int (i : Int) | str (s : Str) | tup (ds : List Dt) | oth (t : Value)

/-- only lists may have changed, and they are lists still -/
def Ext (H H' : Hp) : Prop := ∀ b o, H b = some o → H' b = some o ∨ ((∃ xs, o = .lst xs) ∧ ∃ ys, H' b = some (.lst ys))
theorem Ext.refl (H : Hp) : Ext H H := fun _ _ e => .inl e
theorem Ext.of {H H' : Hp} (s : Same H H') : Ext H H' := fun b o e => .inl (s b o e)
theorem Ext.trans {H H1 H2 : Hp} (a : Ext H H1) (b : Ext H1 H2) : Ext H H2 := fun c o e => by
  rcases a c o e with e1 | ⟨⟨xs, rfl⟩, ys, e1⟩
  · exact b c o e1
  · rcases b c _ e1 with e2 | ⟨_, zs, e2⟩
    · exact .inr ⟨⟨xs, rfl⟩, ys, e2⟩
    · exact .inr ⟨⟨xs, rfl⟩, zs, e2⟩
theorem Ext.tup {H H' : Hp} (e : Ext H H') {a : Addr} {xs : List V} (h : H a = some (.tup xs)) : H' a = some (.tup xs) := by
  rcases e a _ h with e1 | ⟨⟨ys, q⟩, _⟩
  · exact e1
  · cases q
theorem Ext.frz {H H' : Hp} (e : Ext H H') {a : Addr} {o : Obj} {u : HO} (h : H a = some (.frz o u)) : H' a = some (.frz o u) := by
  rcases e a _ h with e1 | ⟨⟨ys, q⟩, _⟩
  · exact e1
  · cases q
theorem Ext.sqT {K : PySem.W.Frag} {H H' : Hp} (e : Ext H H') {a : Addr} {xs : List V} (h : SqT K H a xs) : SqT K H' a xs := by
  rcases h with (h | ⟨o, h⟩) | h
  · exact .inl (.inl (e.tup h))
  · exact .inl (.inr ⟨o, e.frz h⟩)
  · exact .inr h
theorem same_new {H : Hp} {p : Addr} {o : HO} (h : H p = none) : Same H (upd H p o) := fun b x e => by
  rw [upd_ne (ne_of_none e h)]
  exact e
theorem Ext.new {H : Hp} {p : Addr} {o : HO} (h : H p = none) : Ext H (upd H p o) := .of (same_new h)
theorem TyX.ext {K : PySem.W.Frag} {H H' : Hp} {v : V} {t : Value} (e : Ext H H') (h : TyX K H v t) : TyX K H' v t := by
  have go : ∀ {a : Addr} {o : HO}, H a = some o → (∀ xs, o ≠ .lst xs) → H' a = some o := fun {a o} q n => by
    rcases e a _ q with e1 | ⟨⟨ys, z⟩, _⟩
    · exact e1
    · exact absurd z (n ys)
  cases h with
  | base b =>
    cases b with
    | non => exact .base .non
    | bl x => exact .base (.bl x)
    | int i => exact .base (.int i)
    | str x => exact .base (.str x)
    | flt x => exact .base (.flt x)
    | @lst a xs q =>
      rcases e a _ q with e1 | ⟨_, ys, e1⟩
      · exact .base (.lst e1)
      · exact .base (.lst e1)
    | frz q => exact .base (.frz (e.frz q))
    | tup q => exact .base (.tup (e.tup q))
    | dK q => exact .base (.dK (go q fun _ z => nomatch z))
    | dT q => exact .base (.dT (go q fun _ z => nomatch z))
    | ins q cl ha hn htk hm => exact .base (.ins (go q fun _ z => nomatch z) cl ha hn htk hm)
  | byt b => exact .byt b
  | set q => exact .set (go q fun _ z => nomatch z)
  | kList q c => exact .kList q c
  | kTuple q c => exact .kTuple q c
  | kDict q c => exact .kDict q c
  | fTuple q => exact .fTuple (e.frz q)
  | fDict q => exact .fDict (e.frz q)

mutual
inductive Dh (K : PySem.W.Frag) (H : Hp) : V → Dt → Prop
  | non : Dh K H .non .non
  | bl (b : Bool) : Dh K H (.bl b) (.bl b)
  | int (i : Int) : Dh K H (.int i) (.int i)
  | str (x : Str) : Dh K H (.str x) (.str x)
  | tup {a : Addr} {xs : List V} {ds : List Dt} : SqT K H a xs → DhAll K H xs ds → Dh K H (.ref a) (.tup ds)
  | oth {v : V} {t : Value} : TyX K H v t → PySem.W.kitOne K t (.type "int") = some false → PySem.W.kitOne K t (.type "tuple") = some false → Dh K H v (.oth t)
inductive DhAll (K : PySem.W.Frag) (H : Hp) : List V → List Dt → Prop
  | nil : DhAll K H [] []
  | cons {v : V} {vs : List V} {d : Dt} {ds : List Dt} : Dh K H v d → DhAll K H vs ds → DhAll K H (v :: vs) (d :: ds)
end
section
variable {K : PySem.W.Frag} {H H' : Hp}
mutual
theorem Dh.ext (e : Ext H H') : ∀ {v : V} {d : Dt}, Dh K H v d → Dh K H' v d
  | _, _, .non => .non
  | _, _, .bl b => .bl b
  | _, _, .int i => .int i
  | _, _, .str x => .str x
  | _, _, .tup s h => .tup (e.sqT s) (DhAll.ext e h)
  | _, _, .oth t k1 k2 => .oth (TyX.ext e t) k1 k2
theorem DhAll.ext (e : Ext H H') : ∀ {vs : List V} {ds : List Dt}, DhAll K H vs ds → DhAll K H' vs ds
  | _, _, .nil => .nil
  | _, _, .cons h t => .cons (Dh.ext e h) (DhAll.ext e t)
end
theorem DhAll.length : ∀ {vs : List V} {ds : List Dt}, DhAll K H vs ds → vs.length = ds.length
  | _, _, .nil => rfl
  | _, _, .cons _ t => congrArg (· + 1) (DhAll.length t)
theorem DhAll.get : ∀ {vs : List V} {ds : List Dt} {i : Nat} {v : V}, DhAll K H vs ds → vs[i]? = some v → ∃ d, ds[i]? = some d ∧ Dh K H v d
  | _, _, _, _, .nil, e => by simp at e
  | _, _, 0, _, .cons h _, e => by simp at e; subst e; exact ⟨_, rfl, h⟩
  | _, _, i + 1, v, .cons _ t, e => by
    obtain ⟨d, h1, h2⟩ := DhAll.get (i := i) (v := v) t (by simpa using e)
    exact ⟨d, by simpa using h1, h2⟩
theorem DhAll.at : ∀ {vs : List V} {ds : List Dt} {i : Nat} {d : Dt}, DhAll K H vs ds → ds[i]? = some d → ∃ v, vs[i]? = some v ∧ Dh K H v d
  | _, _, _, _, .nil, e => by simp at e
  | _, _, 0, _, .cons h _, e => by simp at e; subst e; exact ⟨_, rfl, h⟩
  | _, _, i + 1, d, .cons _ t, e => by
    obtain ⟨v, h1, h2⟩ := DhAll.at (i := i) (d := d) t (by simpa using e)
    exact ⟨v, by simpa using h1, h2⟩
theorem DhAll.snoc : ∀ {vs : List V} {ds : List Dt} {v : V} {d : Dt}, DhAll K H vs ds → Dh K H v d → DhAll K H (vs ++ [v]) (ds ++ [d])
  | _, _, _, _, .nil, h => .cons h .nil
  | _, _, _, _, .cons q t, h => .cons q (DhAll.snoc t h)
theorem DhAll.append : ∀ {vs ws : List V} {ds es : List Dt}, DhAll K H vs ds → DhAll K H ws es → DhAll K H (vs ++ ws) (ds ++ es)
  | _, _, _, _, .nil, h => h
  | _, _, _, _, .cons q t, h => .cons q (DhAll.append t h)

/-! ### what isinstance tells -/
def Dt.isInt : Dt → Bool
  | .int _ => true
  | .bl _ => true
  | _ => false
def Dt.isW : Dt → Bool
  | .int _ => true
  | _ => false
def Dt.isTup : Dt → Bool
  | .tup _ => true
  | _ => false
theorem tyx_tup {a : Addr} {xs : List V} (h : SqT K H a xs) : TyX K H (.ref a) (.type "tuple") := by
  rcases h with (h | ⟨o, h⟩) | ⟨o, its, n, h1, h2, _⟩
  · exact .base (.tup h)
  · exact .fTuple h
  · exact .kTuple h1 h2
theorem Dh.kinds {v : V} {d : Dt} (h : Dh K H v d) : ∃ t, TyX K H v t ∧ PySem.W.kitOne K t (.type "int") = some d.isInt ∧ PySem.W.kitOne K t (.type "tuple") = some d.isTup ∧ (d.isInt = true → PySem.W.kitOne K t (.type "bool") = some (!d.isW)) := by
  cases h with
  | non => exact ⟨_, .base .non, kit_ty (by decide +kernel), kit_ty (by decide +kernel), fun z => nomatch z⟩
  | bl b => exact ⟨_, .base (.bl b), kit_ty (show kitB "bool" "int" = some true by decide +kernel), kit_ty (show kitB "bool" "tuple" = some false by decide +kernel), fun _ => kit_ty (show kitB "bool" "bool" = some true by decide +kernel)⟩
  | int i => exact ⟨_, .base (.int i), kit_ty (show kitB "int" "int" = some true by decide +kernel), kit_ty (show kitB "int" "tuple" = some false by decide +kernel), fun _ => kit_ty (show kitB "int" "bool" = some false by decide +kernel)⟩
  | str x => exact ⟨_, .base (.str x), kit_ty (show kitB "str" "int" = some false by decide +kernel), kit_ty (show kitB "str" "tuple" = some false by decide +kernel), fun z => nomatch z⟩
  | tup s _ => exact ⟨_, tyx_tup s, kit_ty (show kitB "tuple" "int" = some false by decide +kernel), kit_ty (show kitB "tuple" "tuple" = some true by decide +kernel), fun z => nomatch z⟩
  | oth t k1 k2 => exact ⟨_, t, k1, k2, fun z => nomatch z⟩
end

/-! ### promises of defs over data -/
/-- plain: some data come in, one comes out, nothing is changed -/
def spD (K : PySem.W.Frag) (f : List Dt → Option Dt) : Sp := fun vs H Q _ => ∃ ds r, DhAll K H vs ds ∧ f ds = some r ∧ ∀ v H', Same H H' → Dh K H' v r → Q v H'
/-- .. a new list of data comes out -/
def spL (K : PySem.W.Frag) (f : List Dt → Option (List Dt)) : Sp := fun vs H Q _ => ∃ ds rs, DhAll K H vs ds ∧ f ds = some rs ∧ ∀ p xs H', H p = none → Same H H' → H' p = some (.lst xs) → DhAll K H' xs rs → Q (.ref p) H'
theorem Dh.bl_inv {K : PySem.W.Frag} {H : Hp} {v : V} {b : Bool} (h : Dh K H v (.bl b)) : v = .bl b := by cases h; rfl
theorem Dh.int_inv {K : PySem.W.Frag} {H : Hp} {v : V} {i : Int} (h : Dh K H v (.int i)) : v = .int i := by cases h; rfl
theorem Dh.non_inv {K : PySem.W.Frag} {H : Hp} {v : V} (h : Dh K H v .non) : v = .non := by cases h; rfl
theorem Dh.tup_inv {K : PySem.W.Frag} {H : Hp} {v : V} {ds : List Dt} (h : Dh K H v (.tup ds)) : ∃ a xs, v = .ref a ∧ SqT K H a xs ∧ DhAll K H xs ds := by
  cases h with
  | tup s t => exact ⟨_, _, rfl, s, t⟩
/-- the call of such a def -/
theorem spD_of {K : PySem.W.Frag} {f : List Dt → Option Dt} {vs : List V} {H : Hp} {Q : VK} {ds : List Dt} {r : Dt} (h : DhAll K H vs ds) (e : f ds = some r) (q : ∀ v H', Same H H' → Dh K H' v r → Q v H') : spD K f vs H Q E0 := ⟨ds, r, h, e, q⟩
theorem spD_bl {K : PySem.W.Frag} {f : List Dt → Option Dt} {vs : List V} {H : Hp} {Q : VK} {ds : List Dt} {b : Bool} (h : DhAll K H vs ds) (e : f ds = some (.bl b)) (q : ∀ H', Same H H' → Q (.bl b) H') : spD K f vs H Q E0 :=
  ⟨ds, _, h, e, fun v H' s d => by rw [d.bl_inv]; exact q H' s⟩
theorem spD_int {K : PySem.W.Frag} {f : List Dt → Option Dt} {vs : List V} {H : Hp} {Q : VK} {ds : List Dt} {b : Int} (h : DhAll K H vs ds) (e : f ds = some (.int b)) (q : ∀ H', Same H H' → Q (.int b) H') : spD K f vs H Q E0 :=
  ⟨ds, _, h, e, fun v H' s d => by rw [d.int_inv]; exact q H' s⟩
end Fm
namespace Fm
open PySem PySem.Spec PyProof.Rows L2
/-! ### zip of a list and a tuple that both stay as they are -/
/-- a list (true), a tuple (false) that is read -/
def SqA (L : Bool) (K : PySem.W.Frag) (H : Hp) (a : Addr) (xs : List V) : Prop := match L with
  | true => SqL K H a xs
  | false => SqT K H a xs
theorem Ext.sqTs {K : PySem.W.Frag} {H H' : Hp} {a : Addr} {xs : List V} {L : Bool} (e : Same H H') (h : SqA L K H a xs) : SqA L K H' a xs := match L, h with
  | true, h => e.seq h
  | false, h => (Ext.of e).sqT h
theorem SqA.any {K : PySem.W.Frag} {H : Hp} {a : Addr} {xs : List V} {L : Bool} (h : SqA L K H a xs) : SqL K H a xs ∨ SqT K H a xs := match L, h with
  | true, h => .inl h
  | false, h => .inr h
/-- pairs of the items of a list or tuple and of a tuple that stay as they are -/
def ItM (L : Bool) (K : PySem.W.Frag) (a b : Addr) (xs ys : List V) : It where
  go := fun i H => SqA L K H a xs ∧ SqT K H b ys ∧ i < xs.length ∧ i < ys.length
  yld := fun i H v H' => ∃ T x y, v = .ref T ∧ H T = none ∧ H' = upd H T (.tup [x, y]) ∧ xs[i]? = some x ∧ ys[i]? = some y
  stop := fun i H => SqA L K H a xs ∧ SqT K H b ys ∧ i = min xs.length ys.length
theorem vals_at {xs : List V} {us : List Value} {i : Nat} {u : Value} (r : Vals xs us) (h : us[i]? = some u) : ∃ x, xs[i]? = some x ∧ RelV x u := by
  obtain ⟨hl, e⟩ := List.getElem?_eq_some_iff.mp h
  have hx : i < xs.length := by rw [r.length]; exact hl
  obtain ⟨u', e1, e2⟩ := r.get (List.getElem?_eq_getElem hx)
  rw [h] at e1
  cases e1
  exact ⟨_, List.getElem?_eq_getElem hx, e2⟩
theorem turn_m {P : Program} {w : World} {K : PySem.W.Frag} {elts : List Expr} {kk : Nat} {tp : Pos} {a b z TI TO i1 i2 : Addr} {xs ys : List V} (S : ZipSep2 z TI TO i1 i2 [i1, a] [i2, b]) (n1 : a ≠ i1) (n2 : b ≠ i2) :
    Turn P w K (.Tuple elts kk tp) (ItM true K a b xs ys) [z, TI, TO, i1, i2] z
      (fun i h => IsZip h z TI TO .none ∧ IsTupOf2 h TI (.ref i1) (.ref i2) ∧ (∃ u v, IsTupOf2 h TO u v) ∧ h.IsListIter i1 a i ∧ h.IsTupleIter i2 b i) where
  mem := List.mem_cons_self ..
  obj := by
    rintro i h ⟨q1, q2, ⟨u, v, q3⟩, ⟨o4, q4, _, d4⟩, ⟨o5, q5, _, d5⟩⟩ c hc
    rcases (show c = z ∨ c = TI ∨ c = TO ∨ c = i1 ∨ c = i2 by simpa using hc) with e | e | e | e | e <;> subst e
    · exact ⟨_, q1, fun _ y => nomatch y⟩
    · exact ⟨_, q2, fun _ y => nomatch y⟩
    · exact ⟨_, q3, fun _ y => nomatch y⟩
    · exact ⟨o4, q4, fun _ y => by rw [d4] at y; cases y⟩
    · exact ⟨o5, q5, fun _ y => by rw [d5] at y; cases y⟩
  keep := by
    rintro i h h' ⟨q1, q2, ⟨u, v, q3⟩, q4, q5⟩ k
    exact ⟨k _ (by simp) _ q1, k _ (by simp) _ q2, ⟨u, v, k _ (by simp) _ q3⟩, q4.at fun o e => k _ (by simp) o e, q5.at fun o e => k _ (by simp) o e⟩
  item := by
    intro X hP hw hK hc i pins s σ H E I hf st hg
    subst hP hw hK
    obtain ⟨hx, hy, lx, ly⟩ := hg
    obtain ⟨us, rx, px, _⟩ := I.list hx
    obtain ⟨ws, ry, py, _⟩ := I.tuple hy
    have hd : X.A.in1.handled = none := I.ok.hd hc
    have W := GoesN.zip2 (elts := elts) (x1 := kk) (pos := tp) S (Draws.list (prog := X.prog) (w := X.w) hd i1 a n1 us.toArray) (Draws.tuple (prog := X.prog) (w := X.w) hd i2 b n2 ws.toArray)
    have hlt : i < min us.toArray.size ws.toArray.size := by
      rw [List.size_toArray, List.size_toArray, ← rx.length, ← ry.length]
      omega
    obtain ⟨q1, q2, q3, q4, q5⟩ := st
    refine W.goes i s (fun v s2 => ∃ x H', Inv X pins σ H' s2 ∧ RelV x v ∧ (ItM true X.K a b xs ys).yld i H x H' ∧ (IsZip s2.heap z TI TO .none ∧ IsTupOf2 s2.heap TI (.ref i1) (.ref i2) ∧ (∃ u v, IsTupOf2 s2.heap TO u v) ∧ s2.heap.IsListIter i1 a (i + 1) ∧ s2.heap.IsTupleIter i2 b (i + 1)) ∧ ∀ c ∈ [z, TI, TO, i1, i2], H' c = none) E hlt
      ⟨q1, q2, q3, ⟨q4, px.isList⟩, q5, py⟩ fun v h' tk hY st' hk _ => ?_
    obtain ⟨T, u, v', rfl, hT, hu, hv, hTt⟩ := hY
    obtain ⟨g1, g2, g3, ⟨g4, _⟩, g5, _⟩ := st'
    obtain ⟨x, ex, rxu⟩ := vals_at rx (show us[i]? = some u by simpa using hu)
    obtain ⟨y, ey, ryu⟩ := vals_at ry (show ws[i]? = some v' by simpa using hv)
    have new : ObjOk X.prog X.w (upd H T (.tup [x, y])) h' T (.tup [x, y]) := ⟨by show 2 ≤ sizeLine; decide, [u, v'], .cons rxu (.cons ryu .nil), hTt⟩
    refine ⟨.ref T, _, I.turnedNew (t' := tk) (ch := [z, TI, TO, i1, i2]) (fun c o hn e => hk c o (fun m => hn ?_) e) hf hT new, rfl, ⟨T, x, y, rfl, I.hok.fresh hT, rfl, ex, ey⟩, ⟨g1, g2, g3, g4, g5⟩, fun c hm => ?_⟩
    · simp only [List.mem_cons, List.not_mem_nil, or_false] at m ⊢
      rcases m with m | m | m | m <;> simp [m]
    · obtain ⟨o, e⟩ : ∃ o, s.heap.get? c = some o := by
        rcases (show c = z ∨ c = TI ∨ c = TO ∨ c = i1 ∨ c = i2 by simpa using hm) with e | e | e | e | e <;> subst e
        · exact ⟨_, q1⟩
        · exact ⟨_, q2⟩
        · obtain ⟨_, _, q⟩ := q3
          exact ⟨_, q⟩
        · obtain ⟨o, q, _⟩ := q4
          exact ⟨o, q⟩
        · obtain ⟨o, q, _⟩ := q5
          exact ⟨o, q⟩
      rw [upd_ne (Nat.ne_of_lt (Nat.lt_of_lt_of_le (Heap.lt_size e) hT))]
      exact (hf c hm).1
  done := by
    intro X hP hw hK hc i pins s σ H E I hf st hg
    subst hP hw hK
    obtain ⟨hx, hy, hi⟩ := hg
    obtain ⟨us, rx, px, _⟩ := I.list hx
    obtain ⟨ws, ry, py, _⟩ := I.tuple hy
    have hd : X.A.in1.handled = none := I.ok.hd hc
    have W := GoesN.zip2 (elts := elts) (x1 := kk) (pos := tp) S (Draws.list (prog := X.prog) (w := X.w) hd i1 a n1 us.toArray) (Draws.tuple (prog := X.prog) (w := X.w) hd i2 b n2 ws.toArray)
    have hn : i = min us.toArray.size ws.toArray.size := by
      rw [List.size_toArray, List.size_toArray, ← rx.length, ← ry.length]
      exact hi
    subst hn
    obtain ⟨q1, q2, q3, q4, q5⟩ := st
    refine W.stops s (fun s1 => Inv X pins σ H s1) E ⟨q1, q2, q3, ⟨q4, px.isList⟩, q5, py⟩ fun h' tk hk _ => ?_
    refine I.turnedL (t' := tk) (ch := [z, TI, TO, i1, i2]) (fun c o hn e => hk c o (fun m => hn ?_) e) hf
    simp only [List.mem_cons, List.not_mem_nil, or_false] at m ⊢
    rcases m with m | m | m | m <;> simp [m]
  self := fun _ _ _ _ _ st q => wpAny_pyIter_zip st.1 q
theorem turn_t {P : Program} {w : World} {K : PySem.W.Frag} {elts : List Expr} {kk : Nat} {tp : Pos} {a b z TI TO i1 i2 : Addr} {xs ys : List V} (S : ZipSep2 z TI TO i1 i2 [i1, a] [i2, b]) (n1 : a ≠ i1) (n2 : b ≠ i2) :
    Turn P w K (.Tuple elts kk tp) (ItM false K a b xs ys) [z, TI, TO, i1, i2] z
      (fun i h => IsZip h z TI TO .none ∧ IsTupOf2 h TI (.ref i1) (.ref i2) ∧ (∃ u v, IsTupOf2 h TO u v) ∧ h.IsTupleIter i1 a i ∧ h.IsTupleIter i2 b i) where
  mem := List.mem_cons_self ..
  obj := by
    rintro i h ⟨q1, q2, ⟨u, v, q3⟩, ⟨o4, q4, _, d4⟩, ⟨o5, q5, _, d5⟩⟩ c hc
    rcases (show c = z ∨ c = TI ∨ c = TO ∨ c = i1 ∨ c = i2 by simpa using hc) with e | e | e | e | e <;> subst e
    · exact ⟨_, q1, fun _ y => nomatch y⟩
    · exact ⟨_, q2, fun _ y => nomatch y⟩
    · exact ⟨_, q3, fun _ y => nomatch y⟩
    · exact ⟨o4, q4, fun _ y => by rw [d4] at y; cases y⟩
    · exact ⟨o5, q5, fun _ y => by rw [d5] at y; cases y⟩
  keep := by
    rintro i h h' ⟨q1, q2, ⟨u, v, q3⟩, q4, q5⟩ k
    exact ⟨k _ (by simp) _ q1, k _ (by simp) _ q2, ⟨u, v, k _ (by simp) _ q3⟩, q4.at fun o e => k _ (by simp) o e, q5.at fun o e => k _ (by simp) o e⟩
  item := by
    intro X hP hw hK hc i pins s σ H E I hf st hg
    subst hP hw hK
    obtain ⟨hx, hy, lx, ly⟩ := hg
    obtain ⟨us, rx, px, _⟩ := I.tuple hx
    obtain ⟨ws, ry, py, _⟩ := I.tuple hy
    have hd : X.A.in1.handled = none := I.ok.hd hc
    have W := GoesN.zip2 (elts := elts) (x1 := kk) (pos := tp) S (Draws.tuple (prog := X.prog) (w := X.w) hd i1 a n1 us.toArray) (Draws.tuple (prog := X.prog) (w := X.w) hd i2 b n2 ws.toArray)
    have hlt : i < min us.toArray.size ws.toArray.size := by
      rw [List.size_toArray, List.size_toArray, ← rx.length, ← ry.length]
      omega
    obtain ⟨q1, q2, q3, q4, q5⟩ := st
    refine W.goes i s (fun v s2 => ∃ x H', Inv X pins σ H' s2 ∧ RelV x v ∧ (ItM false X.K a b xs ys).yld i H x H' ∧ (IsZip s2.heap z TI TO .none ∧ IsTupOf2 s2.heap TI (.ref i1) (.ref i2) ∧ (∃ u v, IsTupOf2 s2.heap TO u v) ∧ s2.heap.IsTupleIter i1 a (i + 1) ∧ s2.heap.IsTupleIter i2 b (i + 1)) ∧ ∀ c ∈ [z, TI, TO, i1, i2], H' c = none) E hlt
      ⟨q1, q2, q3, ⟨q4, px⟩, q5, py⟩ fun v h' tk hY st' hk _ => ?_
    obtain ⟨T, u, v', rfl, hT, hu, hv, hTt⟩ := hY
    obtain ⟨g1, g2, g3, ⟨g4, _⟩, g5, _⟩ := st'
    obtain ⟨x, ex, rxu⟩ := vals_at rx (show us[i]? = some u by simpa using hu)
    obtain ⟨y, ey, ryu⟩ := vals_at ry (show ws[i]? = some v' by simpa using hv)
    have new : ObjOk X.prog X.w (upd H T (.tup [x, y])) h' T (.tup [x, y]) := ⟨by show 2 ≤ sizeLine; decide, [u, v'], .cons rxu (.cons ryu .nil), hTt⟩
    refine ⟨.ref T, _, I.turnedNew (t' := tk) (ch := [z, TI, TO, i1, i2]) (fun c o hn e => hk c o (fun m => hn ?_) e) hf hT new, rfl, ⟨T, x, y, rfl, I.hok.fresh hT, rfl, ex, ey⟩, ⟨g1, g2, g3, g4, g5⟩, fun c hm => ?_⟩
    · simp only [List.mem_cons, List.not_mem_nil, or_false] at m ⊢
      rcases m with m | m | m | m <;> simp [m]
    · obtain ⟨o, e⟩ : ∃ o, s.heap.get? c = some o := by
        rcases (show c = z ∨ c = TI ∨ c = TO ∨ c = i1 ∨ c = i2 by simpa using hm) with e | e | e | e | e <;> subst e
        · exact ⟨_, q1⟩
        · exact ⟨_, q2⟩
        · obtain ⟨_, _, q⟩ := q3
          exact ⟨_, q⟩
        · obtain ⟨o, q, _⟩ := q4
          exact ⟨o, q⟩
        · obtain ⟨o, q, _⟩ := q5
          exact ⟨o, q⟩
      rw [upd_ne (Nat.ne_of_lt (Nat.lt_of_lt_of_le (Heap.lt_size e) hT))]
      exact (hf c hm).1
  done := by
    intro X hP hw hK hc i pins s σ H E I hf st hg
    subst hP hw hK
    obtain ⟨hx, hy, hi⟩ := hg
    obtain ⟨us, rx, px, _⟩ := I.tuple hx
    obtain ⟨ws, ry, py, _⟩ := I.tuple hy
    have hd : X.A.in1.handled = none := I.ok.hd hc
    have W := GoesN.zip2 (elts := elts) (x1 := kk) (pos := tp) S (Draws.tuple (prog := X.prog) (w := X.w) hd i1 a n1 us.toArray) (Draws.tuple (prog := X.prog) (w := X.w) hd i2 b n2 ws.toArray)
    have hn : i = min us.toArray.size ws.toArray.size := by
      rw [List.size_toArray, List.size_toArray, ← rx.length, ← ry.length]
      exact hi
    subst hn
    obtain ⟨q1, q2, q3, q4, q5⟩ := st
    refine W.stops s (fun s1 => Inv X pins σ H s1) E ⟨q1, q2, q3, ⟨q4, px⟩, q5, py⟩ fun h' tk hk _ => ?_
    refine I.turnedL (t' := tk) (ch := [z, TI, TO, i1, i2]) (fun c o hn e => hk c o (fun m => hn ?_) e) hf
    simp only [List.mem_cons, List.not_mem_nil, or_false] at m ⊢
    rcases m with m | m | m | m <;> simp [m]
  self := fun _ _ _ _ _ st q => wpAny_pyIter_zip st.1 q
/-- zip(list or tuple, tuple) as what a for walks -/
def iZipM (K : PySem.W.Frag) (ta : TA) : TI := fun σ H R => ta σ H fun vs H1 => ∃ (L : Bool) (a b : Addr) (xs ys : List V), vs = [.ref a, .ref b] ∧ SqA L K H1 a xs ∧ SqT K H1 b ys ∧ R (ItM L K a b xs ys) H1
theorem pi_zipM {X : Cx} {e e2 : Expr} {ta : TA} {p pos tp : Pos} {elts : List Expr} {kk : Nat} (hg : Gl X "zip") (hm : X.mg "zip" = none) (ha : PA X [e, e2] ta)
    (h1 : starEach [e, e2] X.env = (false, eval e X.env) :: starEach [e2] X.env := by rfl) (h2 : (backTo pos (starEach [e2] X.env)).any (·.1) = false := by rfl) :
    PI X (.Tuple elts kk tp) (.Call (.Name "zip" p) [e, e2] [] pos) (iZipM X.K ta) := by
  constructor
  intro pins s σ H R I h
  refine Call_ (ld_blt I hg hm PyProof.Rows.boot_zip (PyProof.Rows.callWith_type1 (thn (ha.run pos pins s σ H _ I h) fun us s1 q => ?_) h1 h2))
  obtain ⟨vs, H1, I1, r1, L, a, b, xs, ys, rfl, hx, hy, q⟩ := q
  match us, r1 with
  | [_, _], .cons ra (.cons rb .nil) =>
    cases ra
    cases rb
    cases L with
    | true =>
      have hx : SqL X.K H1 a xs := hx
      obtain ⟨us, rx, px, _⟩ := I1.list hx
      obtain ⟨ws, ry, py, _⟩ := I1.tuple hy
      have la : a < s1.heap.objs.size := px.lt
      have lb : b < s1.heap.objs.size := by
        obtain ⟨o, e, _⟩ := py
        exact Heap.lt_size e
      refine zip_begins2 (begins_list a us.toArray) (begins_tuple b ws.toArray) px.isList py fun h' k1 k2 k3 k4 k5 k6 k7 => wpAny_pyIter_zip k1 ?_
      have I2 : Inv X pins σ H1 { s1 with heap := h' } := I1.kept (t' := s1.toks) k7
      refine ⟨_, [s1.heap.objs.size + 4, s1.heap.objs.size + 2, s1.heap.objs.size + 3, s1.heap.objs.size, s1.heap.objs.size + 1], _, _, H1, rfl, I2,
        turn_m (zip_sep2 (N := s1.heap.objs.size) (fp1 := [a]) (fp2 := [b]) (by simpa using la) (by simpa using lb)) (Nat.ne_of_lt la) (Nat.ne_of_lt (Nat.lt_succ_of_lt lb)), ⟨k1, k2, ⟨_, _, k3⟩, ⟨_, k4, rfl, rfl⟩, ⟨_, k5, rfl, rfl⟩⟩, fun c hc => ?_, q⟩
      have hle : s1.heap.objs.size ≤ c := by
        simp only [List.mem_cons, List.not_mem_nil, or_false] at hc
        rcases hc with e | e | e | e | e <;> (rw [e]; first | exact Nat.le_refl _ | exact Nat.le_add_right _ _)
      exact I1.fpOk hle (I1.hok.fresh hle)
    | false =>
      have hx : SqT X.K H1 a xs := hx
      obtain ⟨us, rx, px, _⟩ := I1.tuple hx
      obtain ⟨ws, ry, py, _⟩ := I1.tuple hy
      have la : a < s1.heap.objs.size := by
        obtain ⟨o, e, _⟩ := px
        exact Heap.lt_size e
      have lb : b < s1.heap.objs.size := by
        obtain ⟨o, e, _⟩ := py
        exact Heap.lt_size e
      refine zip_begins2 (begins_tuple a us.toArray) (begins_tuple b ws.toArray) px py fun h' k1 k2 k3 k4 k5 k6 k7 => wpAny_pyIter_zip k1 ?_
      have I2 : Inv X pins σ H1 { s1 with heap := h' } := I1.kept (t' := s1.toks) k7
      refine ⟨_, [s1.heap.objs.size + 4, s1.heap.objs.size + 2, s1.heap.objs.size + 3, s1.heap.objs.size, s1.heap.objs.size + 1], _, _, H1, rfl, I2,
        turn_t (zip_sep2 (N := s1.heap.objs.size) (fp1 := [a]) (fp2 := [b]) (by simpa using la) (by simpa using lb)) (Nat.ne_of_lt la) (Nat.ne_of_lt (Nat.lt_succ_of_lt lb)), ⟨k1, k2, ⟨_, _, k3⟩, ⟨_, k4, rfl, rfl⟩, ⟨_, k5, rfl, rfl⟩⟩, fun c hc => ?_, q⟩
      have hle : s1.heap.objs.size ≤ c := by
        simp only [List.mem_cons, List.not_mem_nil, or_false] at hc
        rcases hc with e | e | e | e | e <;> (rw [e]; first | exact Nat.le_refl _ | exact Nat.le_add_right _ _)
      exact I1.fpOk hle (I1.hok.fresh hle)
/-- a loop over such pairs -/
theorem for_zipM {L : Bool} {K : PySem.W.Frag} {a b : Addr} {xs ys : List V} {g : TG} {tb : TS} {D : Ends} {σ : L2.St} {H : Hp} (Pv : Nat → L2.St → Hp → Prop) (h0 : Pv 0 σ H) (hq : ∀ i σ H, Pv i σ H → SqA L K H a xs ∧ SqT K H b ys)
    (hs : ∀ (i : Nat) (x y : V) (T : Addr) (σ : L2.St) (H : Hp), xs[i]? = some x → ys[i]? = some y → Pv i σ H → H T = none → g (.ref T) σ (upd H T (.tup [x, y])) fun σ2 H2 => tb { D with nx := Pv (i + 1), ct := Pv (i + 1), bk := D.nx } σ2 H2)
    (hd : ∀ σ H, Pv (min xs.length ys.length) σ H → D.nx σ H) :
    ∃ W : Nat → Nat → L2.St → Hp → Prop, (∃ m, W 0 m σ H) ∧ ∀ i m σ H, W i m σ H →
      ((ItM L K a b xs ys).stop i H ∧ D.nx σ H) ∨ ((ItM L K a b xs ys).go i H ∧ ∃ N : L2.St → Hp → Prop, (∀ σ' H', N σ' H' → ∃ m', m' < m ∧ W (i + 1) m' σ' H') ∧ ∀ v H', (ItM L K a b xs ys).yld i H v H' → g v σ H' fun σ2 H2 => tb { D with nx := N, ct := N, bk := D.nx } σ2 H2) := by
  refine ⟨fun i m σ H => i + m = min xs.length ys.length ∧ Pv i σ H, ⟨_, Nat.zero_add _, h0⟩, ?_⟩
  rintro i m σ H ⟨em, p⟩
  obtain ⟨qx, qy⟩ := hq i σ H p
  cases m with
  | zero =>
    have ei : i = min xs.length ys.length := em
    refine .inl ⟨⟨qx, qy, ei⟩, hd σ H ?_⟩
    rw [← ei]
    exact p
  | succ m =>
    refine .inr ⟨⟨qx, qy, by omega, by omega⟩, Pv (i + 1), fun σ' H' p' => ⟨m, Nat.lt_succ_self m, by omega, p'⟩, fun v H' y => ?_⟩
    obtain ⟨T, x, y', rfl, hT, rfl, f1, f2⟩ := y
    exact hs i x y' T σ H f1 f2 p hT
end Fm
namespace Fm
open PySem PySem.Spec PyProof.Rows L2
/-- a comprehension over a list, within it over range(n): Pv by both turns and the heap -/
theorem lc2_lr {K : PySem.W.Frag} {a : Addr} {xs : List V} {n : Nat} {i0 j0 : Nat} {ta : TA} {te : TE} {vs vs1 : List Nat} {σ : L2.St} {H1 : Hp} {D : Addr} {Qd : Hp → Prop} (Pv : Nat → Nat → Hp → Prop) (hn : n < 2 ^ 62)
    (hw : ∀ x, wipe ((wipe σ vs).set i0 (some x)) vs = wipe σ vs) (hw1 : ∀ x y, wipe ((wipe ((wipe σ vs).set i0 (some x)) vs1).set j0 (some y)) vs1 = wipe ((wipe σ vs).set i0 (some x)) vs1) (h0 : Pv 0 0 (upd H1 D (.lst []))) (hl : ∀ i j H, Pv i j H → SqL K H a xs)
    (hr : ∀ i x H, xs[i]? = some x → Pv i 0 H → ∀ R : List V → Hp → Prop, R [.int n] H → ta ((wipe σ vs).set i0 (some x)) H R)
    (hs : ∀ (i j : Nat) x H, xs[i]? = some x → j < n → Pv i j H → te ((wipe ((wipe σ vs).set i0 (some x)) vs1).set j0 (some (.int (j : Int)))) H fun y H7 => ∃ acc, H7 D = some (.lst acc) ∧ acc.length < sizeLine ∧ Pv i (j + 1) (upd H7 D (.lst (acc ++ [y]))))
    (hj : ∀ i H, i < xs.length → Pv i n H → Pv (i + 1) 0 H) (hd : ∀ H, Pv xs.length 0 H → Qd H) :
    ∃ W : Nat → Nat → Hp → Prop, (∃ m, W 0 m (upd H1 D (.lst []))) ∧ ∀ i m H, W i m H →
      ((Itl K a).stop i H ∧ Qd H) ∨ ((Itl K a).go i H ∧ ∃ Nx : Hp → Prop, (∀ H', Nx H' → ∃ m', m' < m ∧ W (i + 1) m' H') ∧ ∀ x H', (Itl K a).yld i H x H' → gName i0 x (wipe σ vs) H' fun σ2 H2 => wipe σ2 vs = wipe σ vs ∧ tYes σ2 H2 fun b H3 =>
        if b = true then (iRng1 ta) σ2 H3 fun J1 H4 => ∃ W1 : Nat → Nat → Hp → Prop, (∃ m, W1 0 m H4) ∧ ∀ j k H, W1 j k H →
          (J1.stop j H ∧ Nx H) ∨ (J1.go j H ∧ ∃ Nx1 : Hp → Prop, (∀ H', Nx1 H' → ∃ k', k' < k ∧ W1 (j + 1) k' H') ∧ ∀ x H', J1.yld j H x H' → gName j0 x (wipe σ2 vs1) H' fun σ3 H5 => wipe σ3 vs1 = wipe σ2 vs1 ∧ tYes σ3 H5 fun b H6 =>
            if b = true then te σ3 H6 fun y H7 => ∃ acc, H7 D = some (.lst acc) ∧ acc.length < sizeLine ∧ Nx1 (upd H7 D (.lst (acc ++ [y]))) else Nx1 H6)
        else Nx H3) := by
  refine ⟨fun i m H => i + m = xs.length ∧ Pv i 0 H, ⟨xs.length, Nat.zero_add _, h0⟩, fun i m H h => ?_⟩
  obtain ⟨em, p⟩ := h
  have q := hl i 0 H p
  cases m with
  | zero =>
    have ei : i = xs.length := em
    subst ei
    exact .inl ⟨⟨xs, q, Nat.le_refl _⟩, hd H p⟩
  | succ m =>
    have hlt : i < xs.length := by omega
    refine .inr ⟨⟨xs, xs[i], q, List.getElem?_eq_getElem hlt⟩, Pv (i + 1) 0, fun H' p' => ⟨m, Nat.lt_succ_self m, by omega, p'⟩, fun x H' y => ?_⟩
    obtain ⟨rfl, y⟩ := y
    have hx := y xs q
    refine ⟨hw x, ?_⟩
    dsimp only [tYes]
    rw [if_pos rfl]
    refine hr i x _ hx p _ ⟨(n : Int), rfl, by omega, by omega, ?_⟩
    refine ⟨fun j k H => j + k = n ∧ Pv i j H, ⟨n, Nat.zero_add _, p⟩, fun j k H h => ?_⟩
    obtain ⟨ek, pj⟩ := h
    cases k with
    | zero =>
      have ej : j = n := ek
      subst ej
      exact .inl ⟨by show ((j : Nat) : Int).toNat ≤ j; omega, hj i H hlt pj⟩
    | succ k =>
      have hjn : j < n := by omega
      refine .inr ⟨by show j < ((n : Nat) : Int).toNat; omega, Pv i (j + 1), fun H' p' => ⟨k, Nat.lt_succ_self k, by omega, p'⟩, fun y H' e => ?_⟩
      obtain ⟨rfl, rfl⟩ := e
      have e0 : (0 : Int) + (j : Int) = (j : Int) := Int.zero_add _
      rw [e0]
      refine ⟨hw1 x _, ?_⟩
      rw [if_pos rfl]
      exact hs i j x _ hx hjn pj
end Fm
namespace Fm
open PySem PySem.Spec PyProof.Rows L2
/-! ### rules whose reading is to name the written part by itself (within a comprehension's block) -/
section
variable {X : Cx} (K : PySem.W.Frag)
theorem op_catK (e : X.K = K := by rfl) : OpR X (binaryOp .Add) (rCatA K) := e ▸ op_catA
theorem op_eqK (hu : X.A.units + 64 < cLine) (e : X.K = K := by rfl) : OpR X (compareOp .Eq) (rEqD K) := e ▸ op_eqD hu
theorem op_neK (hu : X.A.units + 64 < cLine) (e : X.K = K := by rfl) : OpR X (compareOp .NotEq) (rNeD K) := e ▸ op_neD hu
theorem ix_tupK (e : X.K = K := by rfl) : IxR X (rIxT K) := e ▸ ix_tup
theorem ix_listK (e : X.K = K := by rfl) : IxR X (rIxL K) := e ▸ ix_list
theorem call_isiK' (e : X.K = K := by rfl) : CallR X (.builtin "isinstance") (rIsi K) := e ▸ call_isi
theorem pg_tupK {es : List Expr} {k : Nat} {t : TGs} {n : Nat} {pos : Pos} (hc : X.calm = true) (h : PGs X es t) (e : X.K = K := by rfl) (hn : (assignEach es X.env).length = n := by rfl) (hst : (assignEach es X.env).findIdx? (·.1) = none := by rfl) :
    PG X (.Tuple es k pos) (gTup K n t) := e ▸ pg_tup hc h hn hst
theorem pi_tupK {tg l : Expr} {tl : TE} (hl : PE X l tl) (e : X.K = K := by rfl) : PI X tg l (iTup K tl) := e ▸ pi_tup hl
theorem pi_listK {tg l : Expr} {tl : TE} (hl : PE X l tl) (e : X.K = K := by rfl) : PI X tg l (iList K tl) := e ▸ pi_list hl
theorem sl_tupK (e : X.K = K := by rfl) : SlR X (rSlA K) := e ▸ sl_tupA
theorem sl_listK (e : X.K = K := by rfl) : SlR X (rSlL K) := e ▸ sl_list
/-- len of a list or tuple; tuple(list or tuple) -/
def rLenK (K : PySem.W.Frag) : List V → Hp → VK → Prop := fun xs H Q => ∃ p ys, xs = [.ref p] ∧ (SqL K H p ys ∨ SqT K H p ys) ∧ Q (.int ys.length) H
theorem call_lenK (e : X.K = K := by rfl) : CallR X (.builtin "len") (rLenK K) := e ▸ call_len_seq
def rTupK (K : PySem.W.Frag) : List V → Hp → VK → Prop := fun xs H Q => ∃ p ys, xs = [.ref p] ∧ ((SqL K H p ys ∧ ∀ l, H l = none → Q (.ref l) (upd H l (.tup ys))) ∨ (SqT K H p ys ∧ Q (.ref p) H))
theorem call_tupleK (e : X.K = K := by rfl) : CallR X (.type "tuple") (rTupK K) := e ▸ call_tuple_of
end
end Fm
namespace Fm
open PySem PySem.Spec PyProof.Rows L2
/-! ### dict(zip(t, u)) of two tuples: the pair that zip gave out before is still held -/
section
variable {prog : Program} {w : World} {A : Around} {E : Value → Shared → Prop} {s : Shared}
theorem zh_item {z TI TO T i1 i2 l1 l2 : Addr} {f : Bool} {oT : Obj} {k1 k2 : Nat} {xs ys : Array Value} {x y : Value} {Q : Value → Shared → Prop} (D : ZipApart z TI TO i1 i2 l1 l2) (hz : IsZipHeld s.heap z TI TO T f) (hT : s.heap.get? T = some oT) (hTI : IsPair s.heap TI (.ref i1) (.ref i2))
    (g1 : s.heap.IsTupleIter i1 l1 k1) (g2 : s.heap.IsTupleIter i2 l2 k2) (t1 : s.heap.IsTuple l1 xs) (t2 : s.heap.IsTuple l2 ys) (hx : xs[k1]? = some x) (hy : ys[k2]? = some y)
    (q : ∀ h', IsZipHeld h' z TI TO T true → h'.IsTupleIter i1 l1 (k1 + 1) → h'.IsTupleIter i2 l2 (k2 + 1) → IsPair h' s.heap.objs.size x y → (∀ c o, c ≠ z → c ≠ i1 → c ≠ i2 → s.heap.get? c = some o → h'.get? c = some o) → Q (.ref s.heap.objs.size) { s with heap := h' }) :
    wpAny (model prog w) A (Builtin.«zip.__next__» ⟨[.ref z], []⟩) (fun fin s' => ∃ v, fin = .done (.ret v) ∧ Q v s') E s := by
  show wpAny _ _ (field (.ref z) 2 >>= _) _ _ _; refine wpAny_bind (wpAny_field hz rfl (x := .bool false) rfl ?_)
  show wpAny _ _ (field (.ref z) 3 >>= _) _ _ _; refine wpAny_bind (wpAny_field hz rfl (x := .ref TI) rfl (wpAny_bind (wpAny_seqItems hTI rfl ?_)))
  show wpAny _ _ (Builtin.SmallTypes.ownedTupleIsFree (.ref z) >>= _) _ _ _; refine wpAny_bind (wpAny_tupleHeld_zip hz hT fun ha za sa => ?_)
  simp only [Bool.false_eq_true, if_false]; refine wpAny_bind ?_; rw [← Array.forIn_toList]; simp only [List.forIn_cons, List.forIn_nil]
  refine wpAny_bind (wpAny_bind (wpAny_holding ?_)); show wpAny _ _ (Builtin.SmallTypes.nextOf (.ref i1) >>= _) _ _ _
  refine wpAny_bind (RZ.nextOf_tuple_item (s := { s with heap := ha }) (g1.at fun o e => sa.extBut _ _ D.i1z e) (t1.at fun o e => sa.extBut _ _ D.l1z e) hx fun hb gb sb => wpAny_pure (wpAny_pure ?_))
  refine wpAny_bind (wpAny_bind (wpAny_holding ?_)); show wpAny _ _ (Builtin.SmallTypes.nextOf (.ref i2) >>= _) _ _ _
  refine wpAny_bind (RZ.nextOf_tuple_item (s := { s with heap := hb }) (g2.at fun o e => sb.extBut _ _ D.i12.symm (sa.extBut _ _ D.i2z e)) (t2.at fun o e => sb.extBut _ _ D.l2i1 (sa.extBut _ _ D.l2z e)) hy fun hc gc sc => wpAny_pure (wpAny_pure (wpAny_pure ?_)))
  show wpAny _ _ (newTuple [x, y] >>= _) _ _ _; refine wpAny_bind (wpAny_newTuple (wpAny_pure ⟨_, rfl, ?_⟩))
  have ez : hc.objs.size = s.heap.objs.size := by rw [sc.1, sb.1, sa.1]
  have kk : ∀ c o, c ≠ z → c ≠ i1 → c ≠ i2 → s.heap.get? c = some o → hc.get? c = some o := fun c o c1 c2 c3 e => sc.extBut _ _ c3 (sb.extBut _ _ c2 (sa.extBut _ _ c1 e))
  have hp : IsPair (hc.push { cls := .type "tuple", data := .seq #[x, y] }) hc.objs.size x y := Heap.get?_push_size _ rfl
  show Q (.ref hc.objs.size) _
  rw [ez] at hp ⊢
  exact q _ (Heap.get?_push_of_some _ (sc.extBut _ _ D.i2z.symm (sb.extBut _ _ D.i1z.symm za))) (gb.at fun o e => Heap.get?_push_of_some _ (sc.extBut _ _ D.i12 e)) (gc.at fun o e => Heap.get?_push_of_some _ e) hp fun c o c1 c2 c3 e => Heap.get?_push_of_some _ (kk c o c1 c2 c3 e)
theorem zh_end {z TI TO T i1 i2 l1 l2 : Addr} {f : Bool} {oT : Obj} {k1 k2 : Nat} {xs ys : Array Value} {Q : Fin → Shared → Prop} (hh : A.handled = none) (D : ZipApart z TI TO i1 i2 l1 l2) (hz : IsZipHeld s.heap z TI TO T f) (hT : s.heap.get? T = some oT) (hTI : IsPair s.heap TI (.ref i1) (.ref i2))
    (g1 : s.heap.IsTupleIter i1 l1 k1) (g2 : s.heap.IsTupleIter i2 l2 k2) (t1 : s.heap.IsTuple l1 xs) (t2 : s.heap.IsTuple l2 ys) (hend : xs[k1]? = none ∨ ys[k2]? = none)
    (q : ∀ h' e, (∀ c o, c ≠ z → c ≠ i1 → c ≠ i2 → s.heap.get? c = some o → h'.get? c = some o) → (∃ o, h'.get? e = some o ∧ o.cls = .type "StopIteration") → E (.ref e) { s with heap := h' }) :
    wpAny (model prog w) A (Builtin.«zip.__next__» ⟨[.ref z], []⟩) Q E s := by
  show wpAny _ _ (field (.ref z) 2 >>= _) _ _ _; refine wpAny_bind (wpAny_field hz rfl (x := .bool false) rfl ?_)
  show wpAny _ _ (field (.ref z) 3 >>= _) _ _ _; refine wpAny_bind (wpAny_field hz rfl (x := .ref TI) rfl (wpAny_bind (wpAny_seqItems hTI rfl ?_)))
  show wpAny _ _ (Builtin.SmallTypes.ownedTupleIsFree (.ref z) >>= _) _ _ _; refine wpAny_bind (wpAny_tupleHeld_zip hz hT fun ha za sa => ?_)
  simp only [Bool.false_eq_true, if_false]; refine wpAny_bind ?_; rw [← Array.forIn_toList]; simp only [List.forIn_cons, List.forIn_nil]
  refine wpAny_bind (wpAny_bind (wpAny_holding ?_)); show wpAny _ _ (Builtin.SmallTypes.nextOf (.ref i1) >>= _) _ _ _
  cases hx : xs[k1]? with
  | none => exact wpAny_bind (RZ.nextOf_tuple_end (s := { s with heap := ha }) hh (g1.at fun o e => sa.extBut _ _ D.i1z e) (t1.at fun o e => sa.extBut _ _ D.l1z e) hx fun hb e sb he => q hb e (fun c o c1 c2 _ x => sb _ _ c2 (sa.extBut _ _ c1 x)) he)
  | some x =>
    have hy : ys[k2]? = none := by
      rcases hend with n | n
      · rw [hx] at n; cases n
      · exact n
    refine wpAny_bind (RZ.nextOf_tuple_item (s := { s with heap := ha }) (g1.at fun o e => sa.extBut _ _ D.i1z e) (t1.at fun o e => sa.extBut _ _ D.l1z e) hx fun hb gb sb => wpAny_pure (wpAny_pure ?_))
    refine wpAny_bind (wpAny_bind (wpAny_holding ?_)); show wpAny _ _ (Builtin.SmallTypes.nextOf (.ref i2) >>= _) _ _ _
    exact wpAny_bind (RZ.nextOf_tuple_end (s := { s with heap := hb }) hh (g2.at fun o e => sb.extBut _ _ D.i12.symm (sa.extBut _ _ D.i2z e)) (t2.at fun o e => sb.extBut _ _ D.l2i1 (sa.extBut _ _ D.l2z e)) hy fun hc e sc he => q hc e (fun c o c1 c2 c3 x => sc _ _ c3 (sb.extBut _ _ c2 (sa.extBut _ _ c1 x))) he)
theorem zh_next {z TI TO T i1 i2 l1 l2 : Addr} {f : Bool} {oT : Obj} {k1 k2 : Nat} {xs ys : Array Value} {x y : Value} {Q : Option Value → Shared → Prop} (D : ZipApart z TI TO i1 i2 l1 l2) (hz : IsZipHeld s.heap z TI TO T f) (hT : s.heap.get? T = some oT) (hTI : IsPair s.heap TI (.ref i1) (.ref i2))
    (g1 : s.heap.IsTupleIter i1 l1 k1) (g2 : s.heap.IsTupleIter i2 l2 k2) (t1 : s.heap.IsTuple l1 xs) (t2 : s.heap.IsTuple l2 ys) (hx : xs[k1]? = some x) (hy : ys[k2]? = some y)
    (q : ∀ h', IsZipHeld h' z TI TO T true → h'.IsTupleIter i1 l1 (k1 + 1) → h'.IsTupleIter i2 l2 (k2 + 1) → IsPair h' s.heap.objs.size x y → (∀ c o, c ≠ z → c ≠ i1 → c ≠ i2 → s.heap.get? c = some o → h'.get? c = some o) → Q (some (.ref s.heap.objs.size)) { s with heap := h' }) :
    wpAny (model prog w) A (pyNext (.ref z)) Q E s := by
  have ty : s.TypeIs (.ref z) "zip" := ⟨_, hz, rfl⟩
  unfold pyNext
  exact wpAny_bind (wpAny_attempt (wpAny_callSpecial?_slot (name := Str.ofString "__next__") ty F.slot_zip_next (wpAny_call_entry F.slot_zip_next ty F.entry_zip_next (zh_item D hz hT hTI g1 g2 t1 t2 hx hy fun h' a1 a2 a3 a4 a5 => wpAny_pure (q h' a1 a2 a3 a4 a5)) (F.args_zip_next_1 _))))
theorem zh_stop {z TI TO T i1 i2 l1 l2 : Addr} {f : Bool} {oT : Obj} {k1 k2 : Nat} {xs ys : Array Value} {Q : Option Value → Shared → Prop} (hh : A.handled = none) (D : ZipApart z TI TO i1 i2 l1 l2) (hz : IsZipHeld s.heap z TI TO T f) (hT : s.heap.get? T = some oT) (hTI : IsPair s.heap TI (.ref i1) (.ref i2))
    (g1 : s.heap.IsTupleIter i1 l1 k1) (g2 : s.heap.IsTupleIter i2 l2 k2) (t1 : s.heap.IsTuple l1 xs) (t2 : s.heap.IsTuple l2 ys) (hend : xs[k1]? = none ∨ ys[k2]? = none)
    (q : ∀ h', (∀ c o, c ≠ z → c ≠ i1 → c ≠ i2 → s.heap.get? c = some o → h'.get? c = some o) → Q none { s with heap := h' }) : wpAny (model prog w) A (pyNext (.ref z)) Q E s := by
  have ty : s.TypeIs (.ref z) "zip" := ⟨_, hz, rfl⟩
  unfold pyNext
  refine wpAny_bind (wpAny_attempt (wpAny_callSpecial?_slot (name := Str.ofString "__next__") ty F.slot_zip_next (wpAny_call_entry F.slot_zip_next ty F.entry_zip_next (zh_end hh D hz hT hTI g1 g2 t1 t2 hend fun h' e k he => ?_) (F.args_zip_next_1 _))))
  obtain ⟨o, ho, hc⟩ := he
  exact wpAny_bind (wpAny_isInstance (T := "StopIteration") (b := true) ⟨o, ho, hc⟩ isSubtype_stop (wpAny_pure (q _ k)))
end
section
variable {prog : Program} {w : World}
theorem zipArg (z TI TO i1 i2 l1 l2 : Addr) (D : ZipApart z TI TO i1 i2 l1 l2) (xs ys : Array Value) : PairArg prog w "zip" z [z, TI, TO, i1, i2, l1, l2] [z, TO, i1, i2] (min xs.size ys.size) (fun i k v => xs[i]? = some k ∧ ys[i]? = some v)
    (fun h => IsZip h z TI TO .none ∧ IsPair h TI (.ref i1) (.ref i2) ∧ (∃ a b, IsPair h TO a b) ∧ h.IsTupleIter i1 l1 0 ∧ h.IsTupleIter i2 l2 0 ∧ h.IsTuple l1 xs ∧ h.IsTuple l2 ys) where
  type := fun s ok => ⟨_, ok.1, rfl⟩
  notDict := by decide
  keep := fun h h' ⟨a1, a2, ⟨u, v, a3⟩, a4, a5, a6, a7⟩ k => ⟨k _ _ a1, k _ _ a2, ⟨u, v, k _ _ a3⟩, a4.at fun o e => k _ o e, a5.at fun o e => k _ o e, a6.at fun o e => k _ o e, a7.at fun o e => k _ o e⟩
  there := fun h ⟨a1, a2, ⟨_, _, a3⟩, ⟨_, a4, _⟩, ⟨_, a5, _⟩, ⟨_, a6, _⟩, ⟨_, a7, _⟩⟩ b hb => by
    rcases (show b = z ∨ b = TI ∨ b = TO ∨ b = i1 ∨ b = i2 ∨ b = l1 ∨ b = l2 by simpa using hb) with e | e | e | e | e | e | e <;> rw [e]
    · exact ⟨_, a1⟩
    · exact ⟨_, a2⟩
    · exact ⟨_, a3⟩
    · exact ⟨_, a4⟩
    · exact ⟨_, a5⟩
    · exact ⟨_, a6⟩
    · exact ⟨_, a7⟩
  sub := fun b hb => by
    rcases (show b = z ∨ b = TO ∨ b = i1 ∨ b = i2 by simpa using hb) with e | e | e | e <;> simp [e]
  noKeys := fun A s Q E hA ok q => getAttrOr_miss_zip ok.1 rfl rfl rfl zip_no_keys (by decide +kernel) hA q
  iter := fun A s d Q E hA ⟨a1, a2, ⟨u0, v0, a3⟩, a4, a5, a6, a7⟩ hd hdf q => by
    have df : d ≠ z ∧ d ≠ TI ∧ d ≠ TO ∧ d ≠ i1 ∧ d ≠ i2 ∧ d ≠ l1 ∧ d ≠ l2 := by simpa [not_or] using hdf
    obtain ⟨d1, d2, d3, d4, d5, d6, d7⟩ := df
    refine wpAny_pyIter_zip a1 (q z [z, TO, i1, i2] (fun i h => IsPair h TI (.ref i1) (.ref i2) ∧ h.IsTupleIter i1 l1 i ∧ h.IsTupleIter i2 l2 i ∧ h.IsTuple l1 xs ∧ h.IsTuple l2 ys ∧
      ((IsZip h z TI TO .none ∧ ∃ a b, IsPair h TO a b) ∨ ∃ T f oT, IsZipHeld h z TI TO T f ∧ h.get? T = some oT ∧ T ≠ z ∧ T ≠ i1 ∧ T ≠ i2 ∧ T ≠ d)) s.heap s.toks ?_ ⟨a2, a4, a5, a6, a7, .inl ⟨a1, u0, v0, a3⟩⟩ (fun _ _ e => e) fun b hb => .inl hb)
    have out : ∀ {c : Addr}, c ∉ [z, TO, i1, i2] → c ≠ z ∧ c ≠ TO ∧ c ≠ i1 ∧ c ≠ i2 := fun {c} hc => by simpa [not_or] using hc
    constructor
    · intro m
      rcases (show d = z ∨ d = TO ∨ d = i1 ∨ d = i2 by simpa using m) with e | e | e | e
      · exact d1 e
      · exact d3 e
      · exact d4 e
      · exact d5 e
    · rintro i ha hb ⟨b2, b4, b5, b6, b7, st⟩ k
      refine ⟨k _ _ d2.symm b2, b4.at fun o e => k _ o d4.symm e, b5.at fun o e => k _ o d5.symm e, b6.at fun o e => k _ o d6.symm e, b7.at fun o e => k _ o d7.symm e, ?_⟩
      rcases st with ⟨b1, u, v, b3⟩ | ⟨T, f, oT, b1, bT, r1, r2, r3, r4⟩
      · exact .inl ⟨k _ _ d1.symm b1, u, v, k _ _ d3.symm b3⟩
      · exact .inr ⟨T, f, oT, k _ _ d1.symm b1, k _ _ r4 bT, r1, r2, r3, r4⟩
    · rintro i s1 Q1 E1 hi ⟨b2, b4, b5, b6, b7, st⟩ hds hQ
      have ex := Array.getElem?_eq_getElem (Nat.lt_of_lt_of_le hi (Nat.min_le_left xs.size ys.size))
      have ey := Array.getElem?_eq_getElem (Nat.lt_of_lt_of_le hi (Nat.min_le_right xs.size ys.size))
      have lt : ∀ {c o}, s1.heap.get? c = some o → s1.heap.objs.size ≠ c := fun e => Nat.ne_of_gt (Heap.lt_size e)
      have n1 : s1.heap.objs.size ≠ i1 := let ⟨_, e, _⟩ := b4; lt e
      have n2 : s1.heap.objs.size ≠ i2 := let ⟨_, e, _⟩ := b5; lt e
      rcases st with ⟨b1, u, v, b3⟩ | ⟨T, f, oT, b1, bT, r1, r2, r3, r4⟩
      · refine RZ.pyNext_zipT_item D b1 b2 b3 b4 b5 b6 b7 ex ey fun h' c1 c2 c3 c4 c5 c6 k => ?_
        exact hQ s1.heap.objs.size _ _ h' s1.toks ⟨ex, ey⟩ (.inl ⟨_, c5, rfl, _, rfl⟩) ⟨k _ _ D.TIz D.TITO D.TIi1 D.TIi2 b2, c3, c4, b6.at fun o e => k _ o D.l1z D.l1TO D.l1i1 D.l1i2 e, b7.at fun o e => k _ o D.l2z D.l2TO D.l2i1 D.l2i2 e,
          .inr ⟨s1.heap.objs.size, false, _, c1, c5, lt b1, n1, n2, Nat.ne_of_gt hds⟩⟩ fun c o hc e => k c o (out hc).1 (out hc).2.1 (out hc).2.2.1 (out hc).2.2.2 e
      · refine zh_next D b1 bT b2 b4 b5 b6 b7 ex ey fun h' c1 c3 c4 c5 k => ?_
        exact hQ s1.heap.objs.size _ _ h' s1.toks ⟨ex, ey⟩ (.inl ⟨_, c5, rfl, _, rfl⟩) ⟨k _ _ D.TIz D.TIi1 D.TIi2 b2, c3, c4, b6.at fun o e => k _ o D.l1z D.l1i1 D.l1i2 e, b7.at fun o e => k _ o D.l2z D.l2i1 D.l2i2 e,
          .inr ⟨T, true, oT, c1, k _ _ r1 r2 r3 bT, r1, r2, r3, r4⟩⟩ fun c o hc e => k c o (out hc).1 (out hc).2.2.1 (out hc).2.2.2 e
    · rintro s1 Q1 E1 ⟨b2, b4, b5, b6, b7, st⟩ hQ
      have hend : xs[min xs.size ys.size]? = none ∨ ys[min xs.size ys.size]? = none := by
        rcases Nat.le_total xs.size ys.size with h | h
        · exact .inl (Array.getElem?_eq_none (by omega))
        · exact .inr (Array.getElem?_eq_none (by omega))
      rcases st with ⟨b1, u, v, b3⟩ | ⟨T, f, oT, b1, bT, r1, r2, r3, r4⟩
      · exact RZ.pyNext_zipT_end hA D b1 b2 b3 b4 b5 b6 b7 hend fun h' k => hQ h' s1.toks fun c o hc e => k c o (out hc).1 (out hc).2.1 (out hc).2.2.1 (out hc).2.2.2 e
      · exact zh_stop hA D b1 bT b2 b4 b5 b6 b7 hend fun h' k => hQ h' s1.toks fun c o hc e => k c o (out hc).1 (out hc).2.2.1 (out hc).2.2.2 e
end
end Fm
namespace Fm
open PySem PySem.Spec PyProof.Rows L2
def tDZ (K : PySem.W.Frag) (ta : TA) : TE := fun σ H Q => ta σ H fun vs H1 => ∃ (a b : Addr) (kvs : List (Key × V)), vs = [.ref a, .ref b] ∧ SqT K H1 a (kvs.map fun p => kV p.1) ∧ SqT K H1 b (kvs.map fun p => p.2) ∧ ∀ p, H1 p = none → Q (.ref p) (upd H1 p (.dK (mergeK [] kvs)))
theorem kv_zip : ∀ {kvs : List (Key × V)} {us : List Value}, Vals (kvs.map fun p => p.2) us → KV kvs ((kvs.map fun p => p.1).zip us)
  | [], _, .nil => .nil
  | _ :: _, _, .cons r t => .cons ⟨rfl, r⟩ (kv_zip t)
theorem pe_dictZip {X : Cx} {e e2 : Expr} {ta : TA} {p p2 pos pos2 : Pos} (hgD : Gl X "dict") (hmD : X.mg "dict" = none) (hgZ : Gl X "zip") (hmZ : X.mg "zip" = none) (hcalm : X.calm = true) (ha : PA X [e, e2] ta)
    (h1 : starEach [e, e2] X.env = (false, eval e X.env) :: starEach [e2] X.env := by rfl) (h2 : (backTo pos2 (starEach [e2] X.env)).any (·.1) = false := by rfl)
    (h3 : starEach [.Call (.Name "zip" p2) [e, e2] [] pos2] X.env = (false, eval (.Call (.Name "zip" p2) [e, e2] [] pos2) X.env) :: starEach [] X.env := by rfl) :
    PE X (.Call (.Name "dict" p) [.Call (.Name "zip" p2) [e, e2] [] pos2] [] pos) (tDZ X.K ta) := by
  constructor
  intro pins s σ H Q I h
  refine Call_ (ld_blt I hgD hmD (show bootBuiltins "dict" = some (.type "dict") by decide +kernel) (PyProof.Rows.callWith_type1 (args_cons ?_ h3) h3 rfl))
  refine Call_ (ld_blt I hgZ hmZ PyProof.Rows.boot_zip (PyProof.Rows.callWith_type1 (thn (ha.run pos2 pins s σ H _ I h) fun us s1 q => ?_) h1 h2))
  obtain ⟨vs, H1, I1, r1, a, b, kvs, rfl, hx, hy, q⟩ := q
  match us, r1 with
  | [_, _], .cons ra (.cons rb .nil) =>
    cases ra
    cases rb
    obtain ⟨us, rx, px, lx⟩ := I1.tuple hx
    obtain ⟨ws, ry, py, ly⟩ := I1.tuple hy
    have la : a < s1.heap.objs.size := by
      obtain ⟨o, e, _⟩ := px
      exact Heap.lt_size e
    have lb : b < s1.heap.objs.size := by
      obtain ⟨o, e, _⟩ := py
      exact Heap.lt_size e
    refine RZ.call_zipT px py fun h' k1 k2 k3 k4 k5 k6 k7 => args_nil ?_
    have eu : us.length = kvs.length := by rw [← rx.length, List.length_map]
    have ew : ws.length = kvs.length := by rw [← ry.length, List.length_map]
    rw [List.length_map] at lx
    have px' : s1.heap.IsTuple a us.toArray := px
    have py' : s1.heap.IsTuple b ws.toArray := py
    refine PySem.call_dict_pairs (knd := mixKind X.prog X.w) (kvs := (kvs.map fun p => p.1).zip ws) (s := { s1 with heap := h' }) (zipArg _ _ _ _ _ a b (PySem.W.ktu_apart s1.heap.objs.size a b la lb) us.toArray ws.toArray) (I1.ok.hd hcalm) ⟨k1, k2, ⟨_, _, k3⟩, k4, k5, px'.at fun o e => k7 _ o e, py'.at fun o e => k7 _ o e⟩ ⟨?_, fun i key v ⟨e1, e2⟩ => ?_⟩ ?_ fun h2 tk hd k => ?_
    · rw [List.length_zip, List.length_map, List.size_toArray, List.size_toArray, eu, ew]
    · have e1' : us[i]? = some key := by simpa using e1
      have e2' : ws[i]? = some v := by simpa using e2
      obtain ⟨x, ex, rxu⟩ := vals_at rx e1'
      rw [List.getElem?_map] at ex
      cases ek : kvs[i]? with
      | none =>
        rw [ek] at ex
        cases ex
      | some kv =>
        rw [ek] at ex
        cases ex
        refine ⟨kv.1, ?_, kV_is rxu⟩
        rw [List.getElem?_zip_eq_some]
        exact ⟨by rw [List.getElem?_map, ek]; rfl, e2'⟩
    · rw [List.size_toArray, List.size_toArray, eu, ew, Nat.min_self]
      exact lx
    · have hlen : (mergeK [] kvs).length ≤ sizeLine := by
        refine Nat.le_trans (length_mergeK kvs []) ?_
        rw [List.length_nil, Nat.zero_add]
        exact lx
      have big : (h'.objs.size == sysModules) = false := beq_eq_false_iff_ne.mpr (Nat.ne_of_gt (Nat.lt_of_lt_of_le I1.big (by rw [k6]; exact Nat.le_add_right _ _)))
      have kk : ∀ c o, s1.heap.get? c = some o → h2.get? c = some o := fun c o e => by
        have hc := Heap.lt_size e
        refine k c o (fun m => ?_) (k7 c o e)
        simp only [List.mem_cons, List.not_mem_nil, or_false] at m
        rcases m with m | m | m | m <;> (rw [m] at hc; first | exact absurd hc (Nat.lt_irrefl _) | exact absurd hc (Nat.not_lt.mpr (Nat.le_add_right _ _)))
      have J := I1.laid (t' := tk) (h' := h2) (a := h'.objs.size) (o := .dK (mergeK [] kvs)) kk (by rw [k6]; exact Nat.le_add_right _ _) ⟨hlen, big, _, KV.merge (kv_zip ry) .nil, hd⟩
      exact ⟨.ref h'.objs.size, _, J, rfl, q _ (I1.hok.fresh (by rw [k6]; exact Nat.le_add_right _ _))⟩
end Fm
/-! sorted of lists of tuples of any lengths, the empty one among them. -/
namespace FmSort
open PySem PySem.W PySem.SeqAt PyProof.Rows
def nonE : PyData → Bool
  | .tuple (_ :: _) => true
  | _ => false
section
variable {prog : Program} {w : World} {A : Around} {E : Value → Shared → Prop} {s : Shared} {vs : List Value} {ds : List PyData}
theorem call_tuple_lt {Q : Value → Shared → Prop} {l b : Addr} {items items2 : Array Value} {e r : Nat → Bool} (hl : s.heap.IsTuple l items) (hb : s.heap.IsTuple b items2)
    (he : ∀ j (h1 : j < items.size) (h2 : j < items2.size), EqAt A.in1 s items[j] items2[j] (e j)) (hr : ∀ j (h1 : j < items.size) (h2 : j < items2.size), e j = false → RcLt A.in1 s items[j] items2[j] (r j))
    (h : Q (.bool (firstLt e r (decide (items.size < items2.size)) (List.range (min items.size items2.size)))) s) : wpAny (model prog w) A (call (.builtin "tuple.__lt__") [.ref l, .ref b]) Q E s := by
  obtain ⟨⟨c1, u1, m1, p1⟩, g1, k1, n1, z1⟩ := id hl
  obtain ⟨⟨c2, u2, m2, p2⟩, g2, k2, n2, z2⟩ := id hb
  simp only at k1 z1 k2 z2
  subst k1 z1 k2 z2
  exact call_meets F.slot_tuple_lt ⟨_, g1, rfl⟩ F.entry_tuple_lt (F.args_tuple_lt_2 _ _) (tuple_ltAt l b items items2 n1 n2 u1 u2 p1 p2 e r) ⟨g1, g2, he, hr, h⟩
/-- two tuples, both of one type: by the slot itself -/
theorem oneLt_tup {xs ys : List PyData} {a b : Value} {as bs : List Addr} {Q : Bool → Shared → Prop} (ra : Reads s.heap a (.tuple xs) as) (rb : Reads s.heap b (.tuple ys) bs) (hal : alikeAll xs ys = true)
    (hu : A.units + min (PyData.tuple xs).depth (PyData.tuple ys).depth < cLine) (hq : Q (dataLt (.tuple xs) (.tuple ys)) s) : wpAny (model prog w) A (oneLt' true a b) Q E s := by
  cases ra with
  | @tuple l o us n _ as1 a1 a2 a3 a4 =>
    cases rb with
    | @tuple l2 o2 us2 n2 _ bs1 b1 b2 b3 b4 =>
      have z1 : us.size = xs.length := by simpa using ReadsAll.length _ _ _ a4
      have z2 : us2.size = ys.length := by simpa using ReadsAll.length _ _ _ b4
      rw [dataLt_tuple, ← firstLt_toks xs ys hal, ← z1, ← z2] at hq
      rw [oneLt'_eq]
      simp only [if_true]
      refine wpAny_bind (wpAny_cRoomFor (room_here hu) ?_)
      refine wpAny_bind (wpAny_callSpecialIfBound?_slot (T := "tuple") ⟨_, a1, a2⟩ F.slot_tuple_lt (call_tuple_lt (e := pairEq xs ys) (r := fun j => dataLt (xs.getD j .none) (ys.getD j .none)) ⟨_, a1, a2, _, a3⟩ ⟨_, b1, b2, _, b3⟩ (fun j j1 j2 => ?_) (fun j j1 j2 hj => ?_) ?_))
      · have t := eqAt_alikeAll xs ys A.in1 s us.toList us2.toList _ _ a4 b4 hal (room_in hu) j (by simpa using j1) (by simpa using j2)
        simpa using t
      · have t := rcLt_alikeAll xs ys A.in1 s us.toList us2.toList _ _ a4 b4 hal (room_in hu) j (by simpa using j1) (by simpa using j2) hj
        simpa using t
      · exact wpAny_truthy_bool hq
theorem firsts_each {M : Model} : ∀ {vs : List Value} {ds : List PyData} {Q : List (Option Value) → Shared → Prop}, EachIs (fun v d => ∃ as, Reads s.heap v d as) vs ds → (∀ d ∈ ds, ∃ xs, d = .tuple xs) →
    (∀ fs : List (Option Value), fs.map Option.isSome = ds.map nonE → Q fs s) → wpAny M A (vs.mapM firstOfTuple') Q E s
  | _, _, _, .nil, _, h => by
    rw [List.mapM_nil]
    exact wpAny_pure (h [] rfl)
  | _, _, Q, .cons (as := vs) ⟨as, r⟩ t, ht, h => by
    obtain ⟨xs, rfl⟩ := ht _ (List.mem_cons_self ..)
    rw [List.mapM_cons]
    refine wpAny_bind ?_
    rw [kas_first_eq]
    cases r with
    | @tuple l o us n _ as1 a1 a2 a3 a4 =>
      refine wpAny_bind (Looks.here (show Looks M s.heap (typeOf (.ref l)) o.cls from (Looks.ld a1).andThen .now) ?_)
      rw [a2, if_neg (by first | decide | simp)]
      refine wpAny_bind (listItems_at a1 a3 (wpAny_pure ?_))
      refine wpAny_bind (firsts_each (Q := fun bs s' => wpAny M A (pure (us[0]? :: bs)) Q E s') t (fun d hd => ht d (List.mem_cons_of_mem _ hd)) fun fs e => wpAny_pure (h _ ?_))
      rw [List.map_cons, List.map_cons, e]
      congr 1
      have z : us.toList.length = xs.length := by simpa using ReadsAll.length _ _ _ a4
      cases xs with
      | nil =>
        have e0 : us.size = 0 := by simpa using z
        rw [Array.getElem?_eq_none (by omega)]
        rfl
      | cons x r =>
        have e0 : us.size = r.length + 1 := by simpa using z
        rw [Array.getElem?_eq_getElem (by omega)]
        rfl
theorem sortsAt_tups (e : EachIs (fun v d => ∃ as, Reads s.heap v d as) vs ds) (hal : AllAlike ds) (ht : ∀ d ∈ ds, ∃ xs, d = .tuple xs) (hu : ∀ d ∈ ds, A.units + d.depth < cLine) : SortsAt prog w A s (dataKind s.heap ds) vs := by
  have room : ∀ {d d' : PyData}, d ∈ ds → A.units + min d.depth d'.depth < cLine := fun {d d'} hd => Nat.lt_of_le_of_lt (Nat.add_le_add_left (Nat.min_le_left _ _) _) (hu d hd)
  by_cases hne : ∀ d ∈ ds, nonE d = true
  · refine SortsAt.data e hal (.inl fun d hd => ?_) hu
    obtain ⟨xs, rfl⟩ := ht d hd
    cases xs with
    | nil => cases hne _ hd
    | cons x r => exact ⟨x, r, rfl⟩
  · have hall : (ds.map nonE).all id = false := by
      rw [List.all_map]
      cases q : ds.all (id ∘ nonE) with
      | false => rfl
      | true => exact absurd (fun d hd => List.all_eq_true.mp q d hd) hne
    have lt : ∀ f : Bool, H.LtAt prog w A s (dataKind s.heap ds) (if f = true then oneType' else general') := by
      intro f E x y a b Q ha hb hq
      obtain ⟨d, as, hd, ra, rfl⟩ := dataKind_inv ha
      obtain ⟨d', as', hd', rb, rfl⟩ := dataKind_inv hb
      obtain ⟨xs, rfl⟩ := ht d hd
      obtain ⟨ys, rfl⟩ := ht d' hd'
      have al := hal _ hd _ hd'
      cases f with
      | true => exact oneLt_tup ra rb (by simpa [alike] using al) (room hd) hq
      | false => exact oneLt_alike (f := false) (fun z => by cases z) ra rb al (fun z => by cases z) (room hd) hq
    refine ⟨fun v hv => ?_, (if (ds.map nonE).head? = some true then general' else oneType'), ?_, fun h2 E Q hq => ?_⟩
    · obtain ⟨d, hd, as, r⟩ := e.left v hv
      exact ⟨_, dataKind_some hal hd r⟩
    · by_cases q : (ds.map nonE).head? = some true
      · rw [if_pos q]
        exact lt false
      · rw [if_neg q]
        exact lt true
    · rw [keyKind'_eq, List.mapM_toArray, map_eq_pure_bind]
      refine wpAny_bind (wpAny_bind (firsts_each e ht fun fs hfs => wpAny_pure ?_))
      have e1 : (fs.toArray.all fun x => x.isSome) = false := by
        rw [List.all_toArray]
        have z : (fs.map Option.isSome).all id = false := by rw [hfs]; exact hall
        rw [List.all_map] at z
        exact z
      rw [if_neg (by rw [e1]; exact Bool.false_ne_true)]
      have e2 : ((fs.toArray)[0]?.bind id).isSome = decide ((ds.map nonE).head? = some true) := by
        rw [← hfs]
        cases fs with
        | nil => rfl
        | cons f r =>
          show (((f :: r).toArray)[0]?.bind id).isSome = _
          rw [List.getElem?_toArray]
          show f.isSome = decide (some f.isSome = some true)
          cases f <;> rfl
      rw [e2]
      by_cases q : (ds.map nonE).head? = some true
      · rw [if_pos (decide_eq_true q)]
        rw [if_pos q] at hq
        exact wpAny_pure hq
      · rw [if_neg (fun z => q (of_decide_eq_true z))]
        rw [if_neg q] at hq
        obtain ⟨v1, v2, r, rfl⟩ : ∃ v1 v2 r, vs = v1 :: v2 :: r := by
          match vs, h2 with
          | [], h2 => simp at h2
          | [_], h2 => simp at h2
          | v1 :: v2 :: r, _ => exact ⟨v1, v2, r, rfl⟩
        rw [oneTypeOnly'_eq, List.mapM_toArray, map_eq_pure_bind]
        refine wpAny_bind (wpAny_bind (wpAny_bind (kas_mapM (r := Value.type "tuple") _ (fun v hv Q' hq => ?_) (wpAny_pure ?_))))
        · obtain ⟨d, hd, as, rd⟩ := e.left v hv
          obtain ⟨xs, rfl⟩ := ht d hd
          exact (looks_reads rd).here hq
        · have a1 : ((List.map (fun _ => Value.type "tuple") (v1 :: v2 :: r)).toArray.all fun x => x == Value.type "tuple") = true := by
            simp only [List.all_toArray, List.all_map, List.all_eq_true]
            intro _ _
            rfl
          have a2 : (List.map (fun _ => Value.type "tuple") (v1 :: v2 :: r)).toArray[0]? = some (Value.type "tuple") := by simp
          rw [a2]
          simp only [a1, if_true]
          exact wpAny_pure (wpAny_pure hq)
end
end FmSort
namespace Fm
open PySem PySem.Spec PyProof.Rows L2 PySem.W
theorem each_vals : ∀ {bs : List (V × PyData)} {us : List Value}, Vals (bs.map (·.1)) us → EachIs (fun u b => RelV b.1 u) us bs
  | [], _, r => by
    cases r
    exact .nil
  | b :: bs, _, r => by
    cases r with
    | cons h t => exact .cons h (each_vals t)
theorem vals_each : ∀ {bs : List (V × PyData)} {us : List Value}, EachIs (fun u b => RelV b.1 u) us bs → Vals (bs.map (·.1)) us
  | _, _, .nil => .nil
  | _, _, .cons h t => .cons h (vals_each t)
theorem each_and {R S : Value → V × PyData → Prop} : ∀ {bs : List (V × PyData)} {us : List Value}, EachIs R us bs → (∀ u b, b ∈ bs → R u b → S u b) → EachIs S us bs
  | _, _, .nil, _ => .nil
  | _, _, .cons h t, k => .cons (k _ _ (List.mem_cons_self ..) h) (each_and t fun u b hb => k u b (List.mem_cons_of_mem _ hb))
/-- sorted of a list of tuples: each value goes with its data -/
def rSortTs (K : PySem.W.Frag) : List V → Hp → VK → Prop := fun vs H Q => ∃ (a : Addr) (bs : List (V × PyData)), vs = [.ref a] ∧ SqL K H a (bs.map (·.1)) ∧ (∀ b ∈ bs, Dp K H b.1 b.2 ∧ (∃ zs, b.2 = .tuple zs) ∧ b.2.depth ≤ 60) ∧ AllAlike (bs.map (·.2)) ∧
  ∀ p, H p = none → Q (.ref p) (upd H p (.lst ((bs.mergeSort (dataLe false (fun b : V × PyData => b.2))).map (·.1))))
theorem cr_sortTs {X : Cx} (hu : X.A.units + 64 < cLine) : CallR X (.builtin "sorted") (rSortTs X.K) := by
  intro pins s σ H vs us Q I r h
  obtain ⟨a, bs, rfl, hs, hb, hal, q⟩ := h
  obtain ⟨its, rv, hl, hz⟩ := I.list hs
  rw [Vals.ref1 r]
  have e0 := each_vals rv
  have er : EachIs (fun (v : Value) (b : V × PyData) => ∃ as, Reads (sortingHeap (copyHeap s.heap its) (s.heap.objs.size + 1) its) v b.2 as) its bs := each_and e0 fun u b hm hr => by
    obtain ⟨as, rd⟩ := Dp.reads I b.2 b.1 u (hb b hm).1 hr
    exact ⟨as, PyProof.Rows.Reads.keeps (fun _ _ => sorting_copy_old) rd⟩
  have hL : its.length ≤ sizeLine := by
    rw [← rv.length]
    exact hz
  refine sorted_vals hl.isList (FmSort.sortsAt_tups (s := { s with heap := sortingHeap (copyHeap s.heap its) (s.heap.objs.size + 1) its }) (each_map (R := fun v d => ∃ as, Reads (sortingHeap (copyHeap s.heap its) (s.heap.objs.size + 1) its) v d as) (fun b : V × PyData => b.2) er) hal (fun d hd => ?_) fun d hd => ?_) hL ?_
  · obtain ⟨b, hm, rfl⟩ := List.mem_map.mp hd
    exact (hb b hm).2.1
  · obtain ⟨b, hm, rfl⟩ := List.mem_map.mp hd
    have := (hb b hm).2.2
    show X.A.units + 1 + 1 + b.2.depth < cLine
    omega
  · have e1 := sortVals_data (R := fun u (b : V × PyData) => RelV b.1 u) false e0 er hal
    generalize sortVals (dataKind (sortingHeap (copyHeap s.heap its) (s.heap.objs.size + 1) its) (bs.map (·.2))) false its its = out at e1 ⊢
    have v1 := vals_each e1
    obtain ⟨ep, he'⟩ := PyProof.Rows.sortedAll_at s.heap its out.toArray
    have hlen : ((bs.mergeSort (dataLe false (fun b : V × PyData => b.2))).map (·.1)).length ≤ sizeLine := by
      rw [List.length_map, List.length_mergeSort]
      rw [List.length_map] at hz
      exact hz
    exact ⟨.ref _, upd H (s.heap.objs.size + 1) (.lst ((bs.mergeSort (dataLe false (fun b : V × PyData => b.2))).map (·.1))), I.laid (t' := s.toks) (fun _ _ => PyProof.Rows.sortedAll_old) (Nat.le_succ _) ⟨hlen, out, ep, v1, he'⟩, rfl, q _ (I.hok.fresh (Nat.le_succ _))⟩
end Fm
/-! Errors of one's own whose __init__ calls that of the own class above, over ValueError. -/
namespace Fm
open PySem PySem.Spec PyProof.Rows L2 PySem.W
/-- the class above at M, its __init__ being ValueError's -/
structure UpC (K : PySem.W.Frag) (M : Addr) (mc : Value) : Prop where
  rd : PySem.W.readsIn K M mc = true
  ga : PySem.W.specialIn K (.ref M) "__getattribute__" = some (some (.builtin "type.__getattribute__"))
  ini : PySem.W.findCls K (.ref M) mc "__init__" = some (.val (.builtin "ValueError.__init__"))
section
variable {X : Cx} {e : Expr} {es : List Expr} {ta : TA} {p1 p2 p pos : Pos} {x : Str} {M C fI : Addr} {mc : Value}
/-- Up.__init__(self, ..) -/
theorem pe_upinit {pl : Sem Bool} (U : UpC X.K M mc) (hg : Gl X x) (hm : X.mg x = some (.ref M)) (ha : PA X (e :: es) ta) (hdb : (x == ("__debug__" : Str)) = false := by decide)
    (hc : eval (.Call (.Attribute (.Name x p1) "__init__" p2) (e :: es) [] pos) X.env = (do
      let ov ← eval (.Name x p1) X.env
      standAt p2.atName
      let (f, first) ← holding [ov] (getMethod ov "__init__" pl)
      callWith pos f first (backTo pos (starEach (e :: es) X.env)) (backToKw pos (keywordEach [] X.env))) := by rfl)
    (he : starEach (e :: es) X.env = (false, eval e X.env) :: starEach es X.env := by rfl) (hpl : (backTo pos (starEach es X.env)).any (·.1) = false := by rfl) :
    PE X (.Call (.Attribute (.Name x p1) "__init__" p2) (e :: es) [] pos) (tVeI X.K ta) := by
  refine ⟨fun pins s σ H Q I h => ?_⟩
  refine PySem.W.methodCall_KW (ld_glob I hg hm ?_ hdb) hc
  refine PySem.W.method_cls I.kIn U.ga (PySem.W.cls_value I.kIn U.rd U.ini (by decide +kernel) ?_)
  show wpAny _ _ (callWith pos (Value.builtin "ValueError.__init__") [] (backTo pos (starEach (e :: es) X.env)) []) _ _ _
  refine PyProof.Rows.callWith_method1 (thn (ha.run pos pins _ σ H _ (I.tok _) h) fun us s1 ⟨vs, H1, I1, r1, a, C, ws, ev, hl, T, ea, q⟩ => ?_) he hpl
  subst ev
  cases r1 with
  | @cons _ u0 _ ur ra rw' =>
    obtain rfl : u0 = Value.ref a := ra
    have hn : ur.length ≤ sizeLine := by
      rw [← Paired.length rw', sizeLine_eq]
      omega
    exact oinit_ok T I1 ea hn fun s' J => ⟨.non, H1, J, rfl, q⟩
/-- the promise of such an __init__ without a field -/
def spIni0 (K : PySem.W.Frag) (C : Addr) : Sp := fun vs H Q _ => ∃ a : Addr, vs = [.ref a] ∧ H a = some (exo a C none) ∧ Q .non H
/-- C(), C's own __init__ keeping spIni0 -/
def tMkN (C : Addr) : L2.St → Hp → XK → Prop := fun _ H Q => Q (.ref C) none H
theorem del_upd {H : Hp} {a : Addr} {o : HO} (n : H a = none) : del (upd H a o) a = H := by
  funext b
  by_cases hb : b = a
  · rw [hb, del_same, n]
  · rw [del_ne hb, upd_ne hb]
theorem mk_endN {pins : List (Addr × Obj)} {σ : L2.St} {H1 : Hp} {Q : XK} {hp hp2 h2 : Heap} {g1 g2 : Array GenState} {d1 d2 : Drawn} {t1 t2 : Nat} {os1 os2 : OsState} {a : Addr} (T : Raises X (.ref C)) (I1 : Inv X pins σ H1 ⟨hp, g1, d1, t1, os1⟩)
    (ha : hp.objs.size ≤ a) (k : ∀ b o, hp.get? b = some o → hp2.get? b = some o) (un : Un (frs X.stack) [] (upd H1 a (exo a C none)) (upd H1 a (exo a C none)) hp2 h2) (hok : HOk X.prog X.w (upd H1 a (exo a C none)) h2) (ho : os2 = os1) (hb : AllBare g2)
    (q : Q (.ref C) none H1) : MkP X pins σ Q (.ref a) ⟨h2, g2, d2, t2, os2⟩ := by
  obtain ⟨t0, hoe⟩ := exo_at hok upd_same
  have hn : H1 a = none := I1.hok.fresh ha
  obtain ⟨G, ga, gb⟩ := restrict h2 fun b => decide (b ≠ a)
  have gk : ∀ b, b ≠ a → G.get? b = h2.get? b := fun b nb => ga b (decide_eq_true nb)
  have ge : G.get? a = none := gb a (by simp)
  have na : ∀ {b : Addr} {o : Obj}, hp.get? b = some o → b ≠ a := fun {b o} z => Nat.ne_of_lt (Nat.lt_of_lt_of_le (Heap.lt_size z) ha)
  have up : ∀ {b : Addr}, b ≠ a → H1 b = none → upd H1 a (exo a C none) b = none := fun {b} nb n => by
    rw [upd_ne nb]
    exact n
  have U : Un (frs X.stack) [] H1 H1 hp G := {
    keep := fun b o z n hf hx => by
      rw [gk b (na z)]
      exact un.keep b o (k b o z) (up (na z) n) hf hx
    slot := fun b o z n hf hx => by
      rw [gk b (na z)]
      exact un.slot b o (k b o z) (up (na z) n) hf hx
    free := fun b o z n hx => n
    there := fun b o z hx => by
      rw [gk b (na z)]
      exact un.there b o (k b o z) hx
    tups := fun b xs z => z
    frzs := fun b o v z => z
    tbls := fun b ps z => ⟨#[], by rw [Array.append_empty]; exact z⟩ }
  have hok3 : HOk X.prog X.w H1 G := fun b o z => by
    have nb : b ≠ a := ne_of_none z hn
    refine (hok b o (by rw [upd_ne nb]; exact z)).stay (fun c v hc y => ?_) (fun c hc => ?_) fun c xs hc => ?_
    · have nc : c ≠ a := by
        rcases hc with hc | hc
        · rw [hc]
          exact nb
        · exact at_ne (H := upd H1 a (exo a C none)) upd_same hc exo_own
      rw [gk c nc]
      exact y
    · rw [upd_ne (at_ne (H := upd H1 a (exo a C none)) upd_same hc exo_own)] at hc
      exact hc
    · rw [upd_ne (at_ne (H := upd H1 a (exo a C none)) upd_same hc exo_tup)] at hc
      exact hc
  have J : Inv X pins σ H1 ⟨G, g2, d2, t2, os2⟩ := I1.call' (ch := []) ho U hok3 hb (fun b z => absurd z (by simp))
  refine ⟨a, _, _, ⟨G, g2, d2, t2, os2⟩, _, .ref C, none, rfl, J, fun b o z => ?_, ge, hoe, ⟨rfl, rfl⟩, rfl, rfl, hn, rfl, hb, T, q⟩
  by_cases nb : b = a
  · rw [nb, ge] at z
    cases z
  · exact (gk b nb).symm.trans z
theorem pmk_oexN {CX : CXT} {k : Nat} {fd : FuncData} (T : OexC X.K C) (iC : PySem.W.findIn X.K (.ref C) "__init__" = some (some (.ref fI))) (tI : PySem.W.typeIn X.K (.ref fI) = some (.type "function"))
    (F1 : FnOk X.prog X.w X.K X.mg X.base CX k fI fd ["self"] (spIni0 X.K C)) (hr : Room (k + 1) X.A) (hb : Binds X.K fd ["self"] []) (hx : Passes CX X (fun _ _ _ => False)) (hg : Gl X x) (hm : X.mg x = some (.ref C)) (hdb : (x == ("__debug__" : Str)) = false := by decide) :
    PMk X (.Call (.Name x p) [] [] pos) (tMkN C) := by
  intro pins s σ H Q I h
  obtain ⟨nm, q, N, bs, bm, sn, sub, ab, col, dd, k0, k1, k2, k3, k5, hC, hbm⟩ := T.cls
  refine wpAny_Call_Name_kw (ld_glob I hg hm ?_ hdb)
  refine PySem.W.callWith_K0 I.kIn T.kC ?_
  obtain ⟨hp, g, dr, tk, os⟩ := s
  show wpAny _ _ (call (.ref C) []) _ _ _
  have hsz : hp.objs.size ≤ hp.objs.size + 1 := Nat.le_succ _
  have hn : H (hp.objs.size + 1) = none := I.hok.fresh hsz
  have kk : ∀ b o, hp.get? b = some o → ((hp.push (PySem.W.kdv_tup [])).push (PySem.HandSPX.excO C hp.objs.size)).get? b = some o := fun b o e => Heap.get?_push_of_some _ (Heap.get?_push_of_some _ e)
  have hget : ((hp.push (PySem.W.kdv_tup [])).push (PySem.HandSPX.excO C hp.objs.size)).get? (hp.objs.size + 1) = some (PySem.HandSPX.excO C hp.objs.size) := by heap_get
  have I2 : Inv X pins σ (upd H (hp.objs.size + 1) (exo (hp.objs.size + 1) C none)) ⟨(hp.push (PySem.W.kdv_tup [])).push (PySem.HandSPX.excO C hp.objs.size), g, dr, tk, os⟩ :=
    I.laid (t' := tk) (a := hp.objs.size + 1) (o := exo (hp.objs.size + 1) C none) (h' := (hp.push (PySem.W.kdv_tup [])).push (PySem.HandSPX.excO C hp.objs.size)) kk hsz (exo_ok hget)
  have r2 : Vals [V.ref (hp.objs.size + 1)] [Value.ref (hp.objs.size + 1)] := .cons rfl .nil
  refine wpAny_call (PySem.HandSPX.call_own F.excBase_ValueError (fun Y => PySem.HandSPX.refsVE_contains Y bm hbm) (I.kIn _ _ hC) (PySem.W.looks_findIn I.kIn iC) (fun self => PySem.W.bind_fn I.kIn self tI) (Nat.zero_le _)
    (codeAny_mono (F1.run _ X.stack _ _ ⟨[Value.ref (hp.objs.size + 1)], []⟩ [Value.ref (hp.objs.size + 1)] _ (fun v H2 => v = .non ∧ H2 = upd H (hp.objs.size + 1) (exo (hp.objs.size + 1) C none)) (fun _ _ _ => False) (hr.make C [] []) (I2.env0.make C [] []) (hb _ [Value.ref (hp.objs.size + 1)] I2.kIn rfl) r2
      ⟨_, rfl, upd_same, rfl, rfl⟩) fun r s' hq' => ?_))
  cases r with
  | error er => exact hx pins σ _ _ er s' I2 hq'
  | ok fl =>
    cases fl with
    | ret u =>
      obtain ⟨v, H2, os2, bare2, un2, hok2, rv, ev, eH⟩ := hq'
      subst ev eH
      obtain ⟨h2, g2, d2, t2, os'⟩ := s'
      exact ⟨rv, mk_endN (raises_own T.exC T.tyC) I hsz kk un2 hok2 os2 bare2 h⟩
    | next => exact False.elim hq'
    | brk => exact False.elim hq'
    | cont => exact False.elim hq'
end
end Fm
/-! More rules: in a tuple, count of data, a tuple turned round. -/
namespace Fm
open PySem PySem.Spec PyProof.Rows L2 PySem.W
section
variable {X : Cx} {K : PySem.W.Frag}
/-- x in t, t a tuple of data -/
def rInT (K : PySem.W.Frag) : R2 := fun x y H Q => ∃ d ds, Dp K H x d ∧ Dp K H y (.tuple ds) ∧ SeqAt.shaped d = true ∧ SeqAt.shaped (.tuple ds) = true ∧ Q (.bl (ds.any fun z => PyData.eqv z d)) H
theorem op_inT (hu : X.A.units + 65 < cLine) (e : X.K = K := by rfl) : OpR X (compareOp .In) (rInT K) := by
  subst e
  intro pins s σ H x y v u Q I rx ry h
  obtain ⟨d, ds, h1, h2, s1, s2, q⟩ := h
  obtain ⟨as, r1⟩ := Dp.reads I d x v h1 rx
  obtain ⟨bs, r2⟩ := Dp.reads I (.tuple ds) y u h2 ry
  exact SeqAt.in_tuple_reads r2 r1 (SeqAt.canLay_of_shaped s2) (SeqAt.canLay_of_shaped s1) (room_in_shaped s1 hu) ⟨.bl _, H, I, rfl, q⟩
theorem op_inLK (hu : X.A.units + 65 < cLine) (e : X.K = K := by rfl) : OpR X (compareOp .In) (rInD K) := e ▸ op_inD hu
theorem op_ltTK (hu : X.A.units < cLine) (e : X.K = K := by rfl) : OpR X (compareOp .Lt) (rLtT K) := e ▸ op_ltT hu
theorem mt_indexK (hu : X.A.units + 65 < cLine) (e : X.K = K := by rfl) : MtR X "list.index" (rIndexD K) := e ▸ mt_indexD hu
/-- l.count(x) -/
def rCntD (K : PySem.W.Frag) : V → List V → Hp → VK → Prop := fun x xs H Q => ∃ (a : Addr) (y : V) (d : PyData) (ds : List PyData), x = .ref a ∧ xs = [y] ∧ Dp K H (.ref a) (.list ds) ∧ Dp K H y d ∧ SeqAt.shaped (.list ds) = true ∧ SeqAt.shaped d = true ∧
  Q (.int ((ds.countP fun z => PyData.eqv z d : Nat) : Int)) H
theorem mt_countD (hu : X.A.units + 65 < cLine) (e : X.K = K := by rfl) : MtR X "list.count" (rCntD K) := by
  subst e
  intro pins s σ H x xs v us Q I rx rxs h
  obtain ⟨a, y, d, ds, rfl, rfl, hl, hy, s1, s2, q⟩ := h
  cases rx
  obtain ⟨u, rfl, ru⟩ := rxs.one
  obtain ⟨bs, r1⟩ := Dp.reads I d y u hy ru
  have c1 : PyData.canLayAll0 ds = true := SeqAt.canLay_of_shaped s1
  have room : X.A.units + 1 + min (PyData.depthAll ds) d.depth < cLine := room_in_shaped s2 hu
  cases hl with
  | lst hs ha =>
    obtain ⟨its, rv, ⟨⟨cl, di, da, sls⟩, n, ho, hc, hdn, hdt⟩, hlen⟩ := I.list hs
    simp only at hc hdt
    subst hc hdt
    obtain ⟨as, r4⟩ := Dp.readsAll I ds _ its ha rv
    have hm : its.map (SeqAt.readOf s.heap) = ds := SeqAt.readsAll_map ds its as c1 r4
    refine call_meets PySem.F.slot_list_count ⟨_, ho, rfl⟩ PySem.F.entry_list_count (PySem.F.args_list_count_2 _ _)
      (SeqAt.list_countAt a its.toArray n di sls u (fun z => PyData.eqv (SeqAt.readOf s.heap z) d)) ⟨ho, SeqAt.items_eqAt (vs := its.toArray) (show ReadsAll s.heap its.toArray.toList ds as from r4) r1 c1 (SeqAt.canLay_of_shaped s2) room, ?_⟩
    refine ⟨.int ((ds.countP fun z => PyData.eqv z d : Nat) : Int), H, I.tok _, ⟨s.toks, ?_⟩, q⟩
    show Value.int ((its.toArray.toList.countP (fun z => PyData.eqv (SeqAt.readOf s.heap z) d) : Nat) : Int) s.toks = _
    rw [← hm, List.countP_map]
    rfl
/-! ### t[::-1] -/
theorem fm_congr {α β : Type} {f g : α → Option β} : ∀ {l : List α}, (∀ x ∈ l, f x = g x) → l.filterMap f = l.filterMap g
  | [], _ => rfl
  | x :: l, h => by
    rw [List.filterMap_cons, List.filterMap_cons, h x (List.mem_cons_self ..), fm_congr fun y hy => h y (List.mem_cons_of_mem _ hy)]
theorem vals_rev : ∀ {xs : List V} {us : List Value}, Vals xs us → Vals xs.reverse us.reverse
  | [], _, r => by
    cases r
    exact .nil
  | x :: xs, _, r => by
    cases r with
    | cons h t =>
      rw [List.reverse_cons, List.reverse_cons]
      exact (vals_rev t).append (.cons h .nil)
theorem rev_pick (l : List Value) : ((List.range l.length).filterMap fun (m : Nat) => l.toArray[(((l.length : Int) - 1) + (m : Int) * (-1)).toNat]?) = l.reverse := by
  have e : ∀ m, m ∈ List.range l.length → (fun (m : Nat) => l.toArray[(((l.length : Int) - 1) + (m : Int) * (-1)).toNat]?) m = l.reverse[m]? := fun m hm => by
    have hl := List.mem_range.mp hm
    show l.toArray[_]? = _
    rw [List.getElem?_toArray, List.getElem?_reverse hl]
    congr 1
    omega
  rw [fm_congr e]
  have z := List.length_reverse (as := l)
  generalize l.reverse = r at z ⊢
  rw [← z]
  clear z e
  have key : ∀ (r : List Value) (n : Nat), n ≤ r.length → (List.range n).filterMap (fun m => r[m]?) = r.take n := by
    intro r n
    induction n with
    | zero => intro _; simp
    | succ n ih =>
      intro hn
      rw [List.range_succ, List.filterMap_append, ih (by omega), List.take_add_one, List.getElem?_eq_getElem (show n < r.length by omega)]
      simp [List.getElem?_eq_getElem (show n < r.length by omega)]
  rw [key r r.length (Nat.le_refl _), List.take_length]
section
variable {prog : Program} {w : World} {A : Around} {E : Value → Shared → Prop} {s : Shared}
theorem rev_applied {sl : Addr} {t : Tok} {n : Nat} {Q : Int × Int × Nat → Shared → Prop} (hs : s.heap.IsSliceOf sl .none .none (.int (-1) t)) (h : Q ((n : Int) - 1, -1, n) s) :
    wpAny (model prog w) A (Builtin.Slice.sliceApplied (.ref sl) (pure (n : Int))) Q E s := by
  obtain ⟨os, hos, hcs, hds⟩ := id hs
  unfold Builtin.Slice.sliceApplied Builtin.Slice.sliceFields
  refine wpAny_bind (wpAny_bind (wpAny_field hos hds (x := .none) rfl (wpAny_bind (wpAny_field hos hds (x := .none) rfl (wpAny_bind (wpAny_field hos hds (x := .int (-1) t) rfl (wpAny_pure ?_)))))))
  refine wpAny_bind (slicePart_int ?_)
  show wpAny _ _ (if ((-1 : Int) == 0) = true then _ else _) _ _ s
  rw [if_neg (by decide)]
  refine wpAny_bind (slicePart_none (wpAny_bind (slicePart_none (wpAny_bind (wpAny_pure ?_)))))
  show wpAny _ _ (pure ((n : Int) - 1, (-1 : Int), Builtin.Slice.slicePlaces ((n : Int) - 1) (-1) (-1))) _ _ s
  have e : Builtin.Slice.slicePlaces ((n : Int) - 1) (-1) (-1) = n := by
    unfold Builtin.Slice.slicePlaces
    rw [if_neg (by decide)]
    show (if (n : Int) - 1 > -1 then ((n : Int) - 1 - -1 - 1) / 1 + 1 else 0).toNat = n
    rw [Int.ediv_one]
    split <;> omega
  rw [e]
  exact wpAny_pure h
theorem getItem_rev {t sl : Addr} {l : List Value} {tk : Tok} {Q : Value → Shared → Prop} (ht : IsTup s.heap t l.toArray) (hs : s.heap.IsSliceOf sl .none .none (.int (-1) tk))
    (h : Q (.ref s.heap.objs.size) { s with heap := s.heap.push { cls := .type "tuple", data := .seq l.reverse.toArray } }) (hsz : l.length ≤ sizeLine) : wpAny (model prog w) A (getItem (.ref t) (.ref sl)) Q E s := by
  have hz : sizeOk (.seq l.reverse.toArray) := by
    show l.reverse.toArray.size ≤ sizeLine
    rw [List.size_toArray, List.length_reverse]
    exact hsz
  obtain ⟨os, hos, hcs, hds⟩ := id hs
  have hTs : s.TypeIs (.ref sl) "slice" := ⟨os, hos, hcs⟩
  unfold getItem
  try with_reducible refine wpAny_holding ?_
  first | refine wpAny_bind (wpAny_pure ?_) | skip
  refine wpAny_bind (wpAny_sequenceKey ht.typeIs (by decide) ?_)
  refine wpAny_bind (wpAny_callSpecial?_slot (name := Str.ofString "__getitem__") ht.typeIs PyProof.Rows.slot_tuple_getitem
    (wpAny_call_entry PyProof.Rows.slot_tuple_getitem ht.typeIs entry_tuple_getitem ?_ (args_tuple_getitem _ _)))
  show wpAny _ _ (Builtin.Tuple.tupleItemsOf (.ref t) >>= _) _ _ s
  refine wpAny_bind (tupleItemsOf_ ht ?_)
  refine wpAny_bind (wpAny_typeOf hTs ?_)
  rw [if_pos (by decide)]
  rw [List.size_toArray]
  refine wpAny_bind (rev_applied hs ?_)
  have hno : ¬ ((((l.length : Int) - 1) == 0 && (-1 : Int) == 1 && l.length == l.toArray.size) = true) := by
    intro q
    rw [Bool.and_eq_true, Bool.and_eq_true] at q
    exact absurd q.1.2 (by decide)
  show wpAny _ _ (if (((l.length : Int) - 1) == 0 && (-1 : Int) == 1 && l.length == l.toArray.size) = true then _ else _) _ _ s
  rw [if_neg hno, rev_pick]
  first
    | exact wpAny_bind (m := Builtin.Tuple.tupleExact _) (wpAny_newObj_type (wpAny_pure ⟨_, rfl, wpAny_pure h⟩) hz)
    | exact wpAny_bind (m := Builtin.Tuple.tupleExact _) (wpAny_newObj_type (wpAny_bind (wpAny_pure (wpAny_pure ⟨_, rfl, wpAny_pure h⟩))) hz)
    | exact wpAny_bind (wpAny_bind (m := Builtin.Tuple.tupleExact _) (wpAny_newObj_type (wpAny_pure (wpAny_pure ⟨_, rfl, wpAny_pure h⟩)) hz))
    | exact wpAny_bind (wpAny_bind (m := Builtin.Tuple.tupleExact _) (wpAny_newObj_type (wpAny_pure ⟨_, rfl, wpAny_pure h⟩) hz))
end
def tRevT (K : PySem.W.Frag) (te ts : TE) : TE := fun σ H Q => te σ H fun x H1 => ts σ H1 fun y H2 => y = .int (-1) ∧ ∃ a xs, x = .ref a ∧ SqT K H2 a xs ∧ ∀ p, H2 p = none → Q (.ref p) (upd H2 p (.tup xs.reverse))
theorem pe_revT {e st : Expr} {te ts : TE} {p2 pos : Pos} (he : PE X e te) (hst : PE X st ts) (eK : X.K = K := by rfl) : PE X (.Subscript e (.Slice none none (some st) p2) pos) (tRevT K te ts) := by
  subst eK
  refine ⟨fun pins s σ H Q I h => ?_⟩
  refine Subscript_ (thn (he.run pins s σ H _ I h) fun v s1 ⟨x, H1, I1, r1, q1⟩ => ?_)
  refine wpAny_Slice ?_
  rw [evalPart_none]
  refine wpAny_pure ?_
  refine wpAny_pure ?_
  rw [evalPart_some]
  refine thn (hst.run pins s1 σ H1 _ I1 q1) fun vy s2 ⟨y, H2, I2, r2, ey, a, xs, ex, hx, q2⟩ => ?_
  subst ey ex
  obtain ⟨t, rfl⟩ := r2
  cases r1
  have I4 : Inv X pins σ H2 { s2 with heap := s2.heap.push { cls := .type "slice", data := .fields #[.none, .none, .int (-1) t] } } := I2.kept (t' := s2.toks) fun b ob q => Heap.get?_push_of_some _ q
  obtain ⟨its, r, ht, hz⟩ := I4.tuple hx
  refine tail_any (T := "tuple") (ops := [.ref a, .ref s2.heap.objs.size]) ht.typeIs PyProof.Rows.slot_tuple_getitem.lookup ?_ (by with_unfolding_all rfl)
  have hlen := r.length
  refine getItem_rev (l := its) ht (Heap.IsSliceOf.new ..) ?_ (by omega)
  refine ⟨.ref _, _, I4.laid (t' := s2.toks) (o := .tup xs.reverse) (fun b ob q => Heap.get?_push_of_some _ q) (Nat.le_refl _) ?_, rfl, q2 _ (I4.hok.fresh (Nat.le_refl _))⟩
  exact ⟨by rw [List.length_reverse]; exact hz, its.reverse, vals_rev r, IsTup.new _ _⟩
end
end Fm
/-! enumerate of a tuple. -/
namespace Fm
open PySem PySem.Spec PyProof.Rows L2
theorem enum_new_tup (l : Addr) (items : Array Value) (n : Nat) (dct : Option Addr) (sl : Array (Option Value)) :
    Meets (Builtin.«enumerate.__new__» ⟨[.type "enumerate", .ref l], []⟩) (fun _ R s => s.heap.get? l = some { cls := .type "tuple", dict := dct, data := .seq items n, slots := sl } ∧
      R (.ok (.ret (.ref (s.heap.push { cls := .type "tuple_iterator", data := .fields #[.ref l, .int 0 0] }).objs.size)))
        { s with heap := (s.heap.push { cls := .type "tuple_iterator", data := .fields #[.ref l, .int 0 0] }).push { cls := .type "enumerate", data := .fields #[.none, .bool false, .ref s.heap.objs.size, rawInt 0, .none, .none] } }) :=
  .of_wp fun prog w A R s h => by
    obtain ⟨hp, g, d, tk, os⟩ := s
    obtain ⟨hl, h⟩ := h
    have hsub := sub_enumerate
    have hL : Heap.IsTuple (Shared.heap ⟨hp, g, d, tk, os⟩) l items := ⟨_, hl, rfl, n, rfl⟩
    wp_walk using wpAny_loadPart' hl
    refine wpAny_stack_any fun st => wpAny_pure ?_
    split
    · rename_i c _ _ _ _ _
      cases (c == Value.type "enumerate")
      · wp_walk using wpAny_loadPart' hl, wpAny_pyIter_tuple hL
        exact ⟨_, rfl, h⟩
      · wp_walk using wpAny_loadPart' hl, wpAny_pyIter_tuple hL
        exact ⟨_, rfl, h⟩
    · wp_walk using wpAny_loadPart' hl, wpAny_pyIter_tuple hL
      exact ⟨_, rfl, h⟩
section
variable {prog : Program} {w : World} {A : Around} {E : Value → Shared → Prop} {s : Shared}
theorem call_enum_tup {l : Addr} {items : Array Value} {Q : Value → Shared → Prop} (hL : s.heap.IsTuple l items)
    (h : ∀ h', IsEnum h' (s.heap.objs.size + 1) s.heap.objs.size 0 .none → h'.IsTupleIter s.heap.objs.size l 0 → (∀ b o, s.heap.get? b = some o → h'.get? b = some o) → Q (.ref (s.heap.objs.size + 1)) { s with heap := h' }) :
    wpAny (model prog w) A (call (.type "enumerate") [.ref l]) Q E s := by
  obtain ⟨⟨c, dct, dt, sl⟩, hl, hc, n, hd⟩ := hL
  replace hc : c = .type "tuple" := hc
  replace hd : dt = .seq items n := hd
  subst hc hd
  refine callType_new F.called_enumerate (by decide) (F.typeCall_enumerate_1 _) (F.newCall_enumerate_1 _) (fun obj => F.args_object_init_2 obj _) F.entry_enumerate_new (enum_new_tup l items n dct sl) ⟨hl, ?_⟩
  have hz : (s.heap.push { cls := .type "tuple_iterator", data := .fields #[.ref l, .int 0 0] }).objs.size = s.heap.objs.size + 1 := Heap.size_push ..
  show _ ∧ _
  rw [hz]
  have he : IsEnum ((s.heap.push { cls := .type "tuple_iterator", data := .fields #[.ref l, .int 0 0] }).push
      { cls := .type "enumerate", data := .fields #[.none, .bool false, .ref s.heap.objs.size, rawInt 0, .none, .none] }) (s.heap.objs.size + 1) s.heap.objs.size 0 .none := by
    have t := Heap.get?_push_size (s.heap.push { cls := .type "tuple_iterator", data := .fields #[.ref l, .int 0 0] })
      (o := { cls := .type "enumerate", data := .fields #[.none, .bool false, .ref s.heap.objs.size, rawInt 0, .none, .none] }) rfl
    rw [hz] at t
    exact t
  exact ⟨⟨_, he, rfl⟩, h _ he ⟨_, Heap.get?_push_of_some _ (Heap.get?_push_size _ rfl), rfl, rfl⟩ fun b o x => Heap.get?_push_of_some _ (Heap.get?_push_of_some _ x)⟩
end
/-- the numbered items of a tuple -/
def ItE (K : PySem.W.Frag) (a : Addr) (xs : List V) : It where
  go := fun i H => SqT K H a xs ∧ i < xs.length
  yld := fun i H v H' => ∃ T x, v = .ref T ∧ H T = none ∧ H' = upd H T (.tup [.int (i : Nat), x]) ∧ xs[i]? = some x
  stop := fun i H => SqT K H a xs ∧ i = xs.length
theorem turn_e {P : Program} {w : World} {K : PySem.W.Frag} {elts : List Expr} {kk : Nat} {tp : Pos} {a e it : Addr} {xs : List V} (n1 : a ≠ it) (n2 : e ≠ it) (n3 : e ≠ a) :
    Turn P w K (.Tuple elts kk tp) (ItE K a xs) [e, it] e (fun i h => (∃ old, IsEnum h e it ((i : Nat) : Int) old) ∧ h.IsTupleIter it a i) where
  mem := List.mem_cons_self ..
  obj := by
    rintro i h ⟨⟨old, q1⟩, ⟨o, q2, _, d2⟩⟩ c hc
    rcases (show c = e ∨ c = it by simpa using hc) with z | z <;> subst z
    · exact ⟨_, q1, fun _ y => nomatch y⟩
    · exact ⟨o, q2, fun _ y => by rw [d2] at y; cases y⟩
  keep := by
    rintro i h h' ⟨⟨old, q1⟩, q2⟩ k
    exact ⟨⟨old, k _ (by simp) _ q1⟩, q2.at fun o z => k _ (by simp) o z⟩
  item := by
    intro X hP hw hK hc i pins s σ H E I hf st hg
    subst hP hw hK
    obtain ⟨hx, lx⟩ := hg
    obtain ⟨us, rx, px, _⟩ := I.tuple hx
    obtain ⟨⟨old, q1⟩, q2⟩ := st
    have hd : X.A.in1.handled = none := I.ok.hd hc
    have hel : e < s.heap.objs.size := Heap.lt_size q1
    have hil : it < s.heap.objs.size := by
      obtain ⟨_, q, _⟩ := id q2
      exact Heap.lt_size q
    refine wpAny_pyNext_enum_itemD (Draws.tuple (prog := X.prog) (w := X.w) hd it a n1 us.toArray) q1 ⟨q2, px⟩ (by rw [List.size_toArray, ← rx.length]; exact lx) n2 (by simp [n2, n3]) fun u h' tk hu ho st' hT hsz hk => ?_
    obtain ⟨x, ex, rxu⟩ := vals_at rx (show us[i]? = some u by simpa using hu)
    refine ⟨_, rfl, wpAny_letOwnedTupleGo_enum (s := { s with heap := h', toks := tk + 1 }) ho fun h'' he' sb => ?_⟩
    have hT2 := (sb.2 _ (Nat.ne_of_gt hel)).trans hT
    have new : ObjOk X.prog X.w (upd H s.heap.objs.size (.tup [.int (i : Nat), x])) h'' s.heap.objs.size (.tup [.int (i : Nat), x]) :=
      ⟨by show 2 ≤ sizeLine; decide, [.int i tk, u], .cons ⟨_, rfl⟩ (.cons rxu .nil), ⟨_, hT2, rfl, _, rfl⟩⟩
    have I1 : Inv X pins σ (upd H s.heap.objs.size (.tup [.int (i : Nat), x])) { s with heap := h'', toks := tk + 1 } :=
      I.turnedNew (t' := tk + 1) (ch := [e, it]) (fun b ob hb q => (sb.2 b (fun z => hb (by simp [z]))).trans (hk b ob (fun z => hb (by simp [z])) (fun z => hb (by simp [z])) q)) hf (Nat.le_refl _) new
    refine ⟨.ref s.heap.objs.size, _, I1, rfl, ⟨_, x, rfl, I.hok.fresh (Nat.le_refl _), rfl, ex⟩, ⟨⟨u, ?_⟩, st'.1.at fun o q => (sb.2 it (Ne.symm n2)).trans q⟩, fun b hb => ?_⟩
    · have e1 : ((i + 1 : Nat) : Int) = (i : Int) + 1 := by omega
      rw [e1]
      exact he'
    · have hb' : b < s.heap.objs.size := by
        rcases (show b = e ∨ b = it by simpa using hb) with z | z <;> subst z
        · exact hel
        · exact hil
      rw [upd_ne (Nat.ne_of_lt hb')]
      exact (hf b hb).1
  done := by
    intro X hP hw hK hc i pins s σ H E I hf st hg
    subst hP hw hK
    obtain ⟨hx, hi⟩ := hg
    obtain ⟨us, rx, px, _⟩ := I.tuple hx
    obtain ⟨⟨old, q1⟩, q2⟩ := st
    have hd : X.A.in1.handled = none := I.ok.hd hc
    have hn : i = us.toArray.size := by
      rw [List.size_toArray, ← rx.length]
      exact hi
    subst hn
    obtain ⟨f0, f1, f2, f3, f4, f5⟩ := hf it (by simp)
    exact wpAny_pyNext_enum_endD (Draws.tuple (prog := X.prog) (w := X.w) hd it a n1 us.toArray) q1 ⟨q2, px⟩ fun h' eb => ⟨rfl, I.turned (t' := s.toks) (fun b o hb q => eb b o hb q) f0 f1 f3 f4 f5⟩
  self := fun A i s Q E st q => by
    obtain ⟨⟨_, he⟩, _⟩ := st
    exact wpAny_pyIter_enum he q
def iEnumT (K : PySem.W.Frag) (ta : TA) : TI := fun σ H R => ta σ H fun vs H1 => ∃ a xs, vs = [.ref a] ∧ SqT K H1 a xs ∧ R (ItE K a xs) H1
theorem pi_enumT {X : Cx} {K : PySem.W.Frag} {e : Expr} {ta : TA} {p pos tpos : Pos} {elts : List Expr} {kk : Nat} (hg : Gl X "enumerate") (hm : X.mg "enumerate" = none) (ha : PA X [e] ta) (eK : X.K = K := by rfl) (hs : starEach [e] X.env = [(false, eval e X.env)] := by rfl) :
    PI X (.Tuple elts kk tpos) (.Call (.Name "enumerate" p) [e] [] pos) (iEnumT K ta) := by
  subst eK
  refine ⟨fun pins s σ H R I h => ?_⟩
  refine Call_ (ld_blt I hg hm boot_enumerate (PyProof.Rows.callWith_type1 (thn (ha.run pos pins s σ H _ I h) fun us s1 ⟨vs, H1, I1, r1, q1⟩ => ?_) hs rfl))
  obtain ⟨a, xs, ex, hq, q⟩ := q1
  subst ex
  cases r1 with
  | cons r rr =>
    cases rr
    cases r
    obtain ⟨its, rv, p', hz⟩ := I1.tuple hq
    have hal : a < s1.heap.objs.size := by
      obtain ⟨_, z, _⟩ := id p'
      exact Heap.lt_size z
    refine call_enum_tup p' fun h' he hit hk => wpAny_pyIter_enum he ?_
    have I2 : Inv X pins σ H1 { s1 with heap := h' } := I1.kept (t' := s1.toks) hk
    refine ⟨s1.heap.objs.size + 1, [s1.heap.objs.size + 1, s1.heap.objs.size], _, _, H1, rfl, I2, turn_e (xs := xs) (Nat.ne_of_lt hal) (Nat.succ_ne_self _) (Nat.ne_of_gt (Nat.lt_succ_of_lt hal)), ⟨⟨.none, he⟩, hit⟩, fun b hb => ?_, q⟩
    have hle : s1.heap.objs.size ≤ b := by
      rcases (show b = s1.heap.objs.size + 1 ∨ b = s1.heap.objs.size by simpa using hb) with z | z
      · rw [z]
        exact Nat.le_add_right _ _
      · rw [z]
        exact Nat.le_refl _
    exact I1.fpOk hle (I1.hok.fresh hle)
/-! ### by K -/
section
variable {X : Cx} {K : PySem.W.Frag}
theorem call_allK (hc : X.calm = true) (e : X.K = K := by rfl) : CallR X (.builtin "all") (rAll K) := e ▸ cr_all hc
theorem op_repTK (e : X.K = K := by rfl) : OpR X (binaryOp .Mult) (rRepT K) := e ▸ op_repT
theorem call_sortTsK (hu : X.A.units + 64 < PySem.cLine) (e : X.K = K := by rfl) : CallR X (.builtin "sorted") (rSortTs K) := e ▸ cr_sortTs hu
def rListOf (K : PySem.W.Frag) : List V → Hp → VK → Prop := fun xs H Q => ∃ p ys, xs = [.ref p] ∧ (SqL K H p ys ∨ SqT K H p ys) ∧ ∀ l, H l = none → Q (.ref l) (upd H l (.lst ys))
theorem call_listK (e : X.K = K := by rfl) : CallR X (.type "list") (rListOf K) := by
  subst e
  exact call_list_of
/-- isinstance(e, c), e the error that the suite holds, of a class that the reading tells -/
def rIsE2 (K : PySem.W.Frag) (cls : Value) (d : Option Addr) (a : Addr) : List V → Hp → VK → Prop := fun xs H Q => ∃ D : Addr, cls = .ref D ∧ d = none ∧ ExcC K D ∧ rIsE K D a xs H Q
theorem call_isE2 {a : Addr} {oe : Obj} {cls : Value} {d : Option Addr} {pn : List (Addr × Obj)} (hz : Zc cls d oe) (hf : ∃ vs, oe.data = .fields vs) (e : X.K = K := by rfl) : CallR (X.suite a ((a, oe) :: pn)) (.builtin "isinstance") (rIsE2 K cls d a) := by
  subst e
  intro pins s σ H xs us Q I r h
  obtain ⟨D, rfl, rfl, C, h⟩ := h
  exact call_isE C hz hf pins s σ H xs us Q I r h
end
end Fm
/-! A def that answers here and raises there. -/
namespace Fm
open PySem PySem.Spec PyProof.Rows L2
theorem FnOk.orX {P : Program} {w : World} {K : PySem.W.Frag} {mg : Str → Option Value} {base : Heap} {k : Nat} {f : Addr} {fd : FuncData} {ps : List Str} {sp sp2 : Sp} (F : FnOk P w K mg base L2.CX0 k f fd ps sp) (G : FnOk P w K mg base (L2.CX P w) k f fd ps sp2) :
    FnOk P w K mg base (L2.CX P w) k f fd ps (fun vs H Q E => sp vs H Q L2.E0 ∨ sp2 vs H Q E) := by
  refine ⟨fun vs H Q E h => ?_, fun A outer s H args us vs Q E hr he hb hv h => ?_⟩
  · rcases h with h | h
    · exact F.len _ _ _ _ h
    · exact G.len _ _ _ _ h
  · rcases h with h | h
    · refine codeAny_mono (F.run A outer s H args us vs Q L2.E0 hr he hb hv h) fun r s' q => ?_
      cases r with
      | error e => exact False.elim q
      | ok fl => cases fl <;> exact q
    · exact G.run A outer s H args us vs Q E hr he hb hv h
end Fm
namespace Fm
open PySem L2
theorem room65 {k : Nat} {A : Around} (r : Room k A) : A.units + 65 < cLine := by
  have := r.un
  omega
end Fm
namespace Fm
open PySem PySem.Spec PyProof.Rows L2
theorem for_enumT {K : PySem.W.Frag} {a : Addr} {xs : List V} {g : TG} {tb : TS} {D : Ends} {σ : L2.St} {H : Hp} (Pv : Nat → L2.St → Hp → Prop) (h0 : Pv 0 σ H) (hq : ∀ i σ H, Pv i σ H → SqT K H a xs)
    (hs : ∀ (i : Nat) (x : V) (T : Addr) (σ : L2.St) (H : Hp), xs[i]? = some x → Pv i σ H → H T = none → g (.ref T) σ (upd H T (.tup [.int (i : Nat), x])) fun σ2 H2 => tb { D with nx := Pv (i + 1), ct := Pv (i + 1), bk := D.nx } σ2 H2)
    (hd : ∀ σ H, Pv xs.length σ H → D.nx σ H) :
    ∃ W : Nat → Nat → L2.St → Hp → Prop, (∃ m, W 0 m σ H) ∧ ∀ i m σ H, W i m σ H →
      ((ItE K a xs).stop i H ∧ D.nx σ H) ∨ ((ItE K a xs).go i H ∧ ∃ N : L2.St → Hp → Prop, (∀ σ' H', N σ' H' → ∃ m', m' < m ∧ W (i + 1) m' σ' H') ∧ ∀ v H', (ItE K a xs).yld i H v H' → g v σ H' fun σ2 H2 => tb { D with nx := N, ct := N, bk := D.nx } σ2 H2) := by
  refine ⟨fun i m σ H => i + m = xs.length ∧ Pv i σ H, ⟨_, Nat.zero_add _, h0⟩, ?_⟩
  rintro i m σ H ⟨em, p⟩
  have qx := hq i σ H p
  cases m with
  | zero =>
    have ei : i = xs.length := em
    refine .inl ⟨⟨qx, ei⟩, hd σ H ?_⟩
    rw [← ei]
    exact p
  | succ m =>
    refine .inr ⟨⟨qx, by omega⟩, Pv (i + 1), fun σ' H' p' => ⟨m, Nat.lt_succ_self m, by omega, p'⟩, fun v H' y => ?_⟩
    obtain ⟨T, x, rfl, hT, rfl, f1⟩ := y
    exact hs i x T σ H f1 p hT
end Fm
namespace Fm
open PySem PySem.Spec PyProof.Rows L2
theorem pe_bmK {X : Cx} {K : PySem.W.Frag} {T id : String} {name : Str} {r : V → List V → Hp → VK → Prop} {o e : Expr} {es : List Expr} {to : TE} {t : TA} {apos cpos : Pos} (pa : PlainAttrs T) (slot : Slot T name id) (hty : typeOf (.builtin id) = pure (.type "method_descriptor")) (hm : MtR X id r) (ho : PE X o to) (ha : PA X (e :: es) t)
    (eK : X.K = K := by rfl) (hbase : attributeBase o name X.env (eval o X.env) = eval o X.env := by rfl)
    (hfew : ((backTo cpos (starEach (e :: es) X.env)).all (fun x => !x.1) && (backToKw cpos (keywordEach [] X.env)).all (fun x => x.1.isSome)
      && decide ((e :: es).length + ([] : List Keyword).length + (if ([] : List Keyword).isEmpty then 0 else 1) < 30)) = true := by rfl)
    (hline : (apos.endLine == cpos.line) = true := by rfl) (hs : starEach (e :: es) X.env = (false, eval e X.env) :: starEach es X.env := by rfl) (hplain : (backTo cpos (starEach es X.env)).any (·.1) = false := by rfl) :
    PE X (.Call (.Attribute o name apos) (e :: es) [] cpos) (tBM K T r to t) := by
  subst eK
  exact pe_bm pa slot hty hm ho ha hbase hfew hline hs hplain
end Fm
/-! == and != of instances by their own __eq__, any answer; sorted of a set of tuples of any lengths. -/
namespace Fm
open PySem PySem.Spec PyProof.Rows L2
/-- the other side of == of an own instance -/
inductive OTy (K : PySem.W.Frag) (H : Hp) : V → Value → Prop where
  | non : OTy K H .non (.type "NoneType")
  | int (i : Int) : OTy K H (.int i) (.type "int")
  | str (x : Str) : OTy K H (.str x) (.type "str")
  | tup {a : Addr} {xs : List V} (h : SqT K H a xs) : OTy K H (.ref a) (.type "tuple")
  | ins {a C dx : Addr} {fs : List (Str × V)} (h : H a = some (.ins C dx fs)) : OTy K H (.ref a) (.ref C)
section
variable {X : Cx} {n k : Nat}
theorem OTy.looks {pins : List (Addr × Obj)} {σ : L2.St} {H : Hp} {s : Shared} {y : V} {u t : Value} (I : Inv X pins σ H s) (r : RelV y u) (o : OTy X.K H y t) : PySem.W.Looks (model X.prog X.w) s.heap (typeOf u) t := by
  cases o with
  | non =>
    cases (show u = Value.none from r)
    exact .of_pure (by rfl)
  | int i =>
    obtain ⟨t, rfl⟩ := (show ∃ t, u = Value.int i t from r)
    exact .of_pure (by rfl)
  | str x =>
    obtain ⟨t, rfl⟩ := (show ∃ t, u = Value.str x t from r)
    exact .of_pure (by rfl)
  | tup h =>
    cases (show u = Value.ref _ from r)
    obtain ⟨its, rv, ⟨o, ho, hc, _⟩, _⟩ := I.tuple h
    have q : PySem.W.Looks (model X.prog X.w) s.heap (typeOf (.ref _)) o.cls := (PySem.W.Looks.ld ho).andThen .now
    rw [hc] at q
    exact q
  | ins h =>
    cases (show u = Value.ref _ from r)
    obtain ⟨mA, J, _⟩ := ins_get I.hok h
    obtain ⟨od, J, _⟩ := J.look
    exact J.type
/-- x == y, x an instance of the class at C, whose __eq__ keeps sp -/
def rEqO (K : PySem.W.Frag) (C : Addr) (sp : Sp) : R2 := fun x y H Q => ∃ a dx fs t, x = .ref a ∧ H a = some (.ins C dx fs) ∧ OTy K H y t ∧ PySem.W.notFirst K C t = true ∧ sp [.ref a, y] H (fun v H' => ∃ b, v = .bl b ∧ Q (.bl b) H') E0
def rNeO (K : PySem.W.Frag) (C : Addr) (sp : Sp) : R2 := fun x y H Q => ∃ a dx fs t, x = .ref a ∧ H a = some (.ins C dx fs) ∧ OTy K H y t ∧ PySem.W.notFirst K C t = true ∧ sp [.ref a, y] H (fun v H' => ∃ b, v = .bl b ∧ Q (.bl (!b)) H') E0
theorem own_run {f : Addr} {fd : FuncData} {ps : List Str} {sp : Sp} (F : FnOk X.prog X.w X.K X.mg X.base CX0 n f fd ps sp) (hb : Binds X.K fd ps []) {A : Around} (sb : Sub X n A) {pins : List (Addr × Obj)} {σ : L2.St} {H : Hp} {s : Shared} {a : Addr} {y : V} {u : Value} {R : Bool → Hp → Prop}
    (I : Inv X pins σ H s) (ry : RelV y u) (h : sp [.ref a, y] H (fun v H' => ∃ b, v = .bl b ∧ R b H') E0) (Q : Value → Shared → Prop) (E : Value → Shared → Prop) (q : ∀ b s' H', Inv X pins σ H' s' → R b H' → Q (.bool b) s') :
    wpAny (model X.prog X.w) A (call (.ref f) [.ref a, u]) Q E s := by
  have e0 : Env0 X.prog X.w X.K X.mg X.base A X.stack s H := by
    have e := I.env0
    exact ⟨by rw [sb.fr]; exact e.frames, e.mod, e.bs, e.bsz, e.funs, e.frf, e.hok, e.bare⟩
  have hl := F.len _ _ _ _ h
  have r2 : Vals [V.ref a, y] [Value.ref a, u] := .cons rfl (.cons ry .nil)
  refine wpAny_call (codeAny_mono (F.run A X.stack s H ⟨[.ref a, u], []⟩ [.ref a, u] [.ref a, y] _ E0 sb.room e0 (by
    have := hb s [.ref a, u] I.kIn (by simpa using hl)
    simpa using this) r2 h) fun r s' hq => ?_)
  cases r with
  | error e => exact False.elim hq
  | ok fl =>
    cases fl with
    | ret w =>
      obtain ⟨z, H', I', rz, b, ez, ex⟩ := I.after hq
      subst ez
      cases rz
      exact q b s' H' I' ex
    | next => exact False.elim hq
    | brk => exact False.elim hq
    | cont => exact False.elim hq
theorem op_eqO {f C : Addr} {fd : FuncData} {ps : List Str} {sp : Sp} {K : PySem.W.Frag} (F : FnOk X.prog X.w X.K X.mg X.base CX0 n f fd ps sp) (hs : PySem.W.findIn X.K (.ref C) "__eq__" = some (some (.ref f))) (hf : PySem.W.isFn X.K (.ref f) = true) (hb : Binds X.K fd ps []) (hr : Room n X.A)
    (eK : X.K = K := by rfl) : OpR X (compareOp .Eq) (rEqO K C sp) := by
  subst eK
  intro pins s σ H x y v u Q I rx ry hq
  obtain ⟨a, dx, fs, t, rfl, ha, ot, hn, h⟩ := hq
  cases rx
  obtain ⟨mA, J, _⟩ := ins_get I.hok ha
  obtain ⟨od, J, _⟩ := J.look
  have sb : Sub X n X.A := ⟨hr, rfl⟩
  obtain ⟨m, hF⟩ := I.fr
  show wpAny (model X.prog X.w) X.A (richCompare .Eq (.ref a) u) (EP X pins σ Q) X.xe s
  refine PySem.W.cmp_K (op := .Eq) hr.units0 hF I.ok.mod.kin J (ot.looks I ry) hn hs hf ?_
  exact own_run F hb sb I ry h _ _ fun b s' H' I' q => ⟨.bl b, H', I', rfl, q⟩
theorem ifBoundB {M : Model} {A : Around} {E : Value → Shared → Prop} {s : Shared} {K : PySem.W.Frag} {x C : Addr} {ox : Obj} {od : Option Obj} {name : Str} {id : String} {args : List Value} {Q : Option Value → Shared → Prop} (hK : K.In s.heap) (I : PySem.W.InstAt s.heap x ox C od)
    (hs : PySem.W.findIn K (.ref C) name = some (some (.builtin id))) (S : Slot "object" name id) (h : wpAny M A (call (.builtin id) (.ref x :: args)) (fun v => Q (some v)) E s) : wpAny M A (callSpecialIfBound? (.ref x) name args) Q E s := by
  simp only [callSpecialIfBound?, bindSpecialIfBound?]
  refine wpAny_holding (wpAny_bind (wpAny_bind (wpAny_bind (I.type.here ((PySem.W.looks_findIn hK hs).here ?_)))))
  simp only [S.bind]
  refine wpAny_bind (wpAny_askSetting (wpAny_ite ?_))
  have fin : wpAny M A (call (.builtin id) ([.ref x] ++ args) >>= fun v => pure (some v)) Q E s := wpAny_bind (wpAny_mono h (fun v s' h' => wpAny_pure h') fun _ _ h' => h')
  split
  · exact wpAny_bind (wpAny_pure (wpAny_pure fin))
  · exact wpAny_tryCatch (wpAny_bind (wpAny_pure (wpAny_pure fin)))
theorem op_neO {f C : Addr} {fd : FuncData} {ps : List Str} {sp : Sp} {K : PySem.W.Frag} (G : FnOk X.prog X.w X.K X.mg X.base CX0 n f fd ps sp) (hs : PySem.W.findIn X.K (.ref C) "__eq__" = some (some (.ref f))) (hf : PySem.W.isFn X.K (.ref f) = true) (hb : Binds X.K fd ps []) (hr : Room (n + 1) X.A)
    (hne : PySem.W.findIn X.K (.ref C) "__ne__" = some (some (.builtin "object.__ne__"))) (hm : PySem.W.mroIn X.K C (.type "object") = some true) (eK : X.K = K := by rfl) : OpR X (compareOp .NotEq) (rNeO K C sp) := by
  subst eK
  intro pins s σ H x y v u Q I rx ry hq
  obtain ⟨a, dx, fs, t, rfl, ha, ot, hn, h⟩ := hq
  cases rx
  obtain ⟨mA, J, _⟩ := ins_get I.hok ha
  obtain ⟨od, J, _⟩ := J.look
  have sb : Sub X (n + 1) X.A := ⟨hr, rfl⟩
  have hK := I.kIn
  have one : wpAny (model X.prog X.w) X.A (tryCompare (.ref a) "__ne__" u) (fun r s' => ∃ v, r = some v ∧ EP X pins σ Q v s') X.xe s := by
    unfold tryCompare
    refine wpAny_bind (ifBoundB hK J hne F.cmp_object.ne ?_)
    have sub : PySem.W.Looks (model X.prog X.w) s.heap (isInstance (.ref a) (.type "object")) true := J.type.andThen (PySem.W.looks_mroIn hK hm)
    refine wpAny_call (codeAny_call_builtin F.cmp_object.ne.plain F.cmpEntry_ne (PySem.W.check_slot F.cmpKind_ne F.cmpSplit_ne sub (F.cmpArgs_ne _ _) ?_))
    have hu : X.A.in1.units < cLine := sb.in1.room.units0
    unfold Builtin.«object.__ne__»
    refine wpAny_bind (m := slotArgs _ _ _) (wpAny_pure ?_)
    show wpAny _ _ (cRoomFor "comparison" [.ref a, u] >>= _) _ _ _
    refine wpAny_bind (wpAny_cRoomFor hu ?_)
    refine wpAny_bind (m := callSpecialIfBound? (.ref a) (Str.ofString "__eq__") [u]) (PySem.W.ifBound_K hK J hs hf (own_run G hb sb.in1 I ry h _ _ fun b s' H' I' q => ?_))
    refine wpAny_bind (m := truthy (.bool b)) (wpAny_truthy_bool ?_)
    exact wpAny_pure (wpAny_pure ⟨_, rfl, ⟨.bl (!b), H', I', rfl, q⟩⟩)
  show wpAny (model X.prog X.w) X.A (richCompare .NotEq (.ref a) u) (EP X pins σ Q) X.xe s
  unfold richCompare
  simp only [oneThing_ref]
  refine wpAny_holding (wpAny_bind (wpAny_cRoomFor hr.units0 ?_))
  refine wpAny_bind (J.type.here (wpAny_bind ((ot.looks I ry).here ?_)))
  split
  · rename_i q
    have e : PySem.W.subIn X.K t (.ref C) = some false := by
      rcases Bool.or_eq_true_iff.mp hn with e | e
      · rw [beq_iff_eq.mp e] at q; simp at q
      · exact beq_iff_eq.mp e
    refine wpAny_bind ((PySem.W.looks_subIn hK e).here ?_)
    simp only [Bool.false_eq_true, if_false]
    refine wpAny_bind (wpAny_mono one (fun r s' z => ?_) fun _ _ e => e)
    obtain ⟨v, rfl, hq⟩ := z
    exact wpAny_pure hq
  · refine wpAny_bind (wpAny_pure ?_)
    simp only [Bool.false_eq_true, if_false]
    refine wpAny_bind (wpAny_mono one (fun r s' z => ?_) fun _ _ e => e)
    obtain ⟨v, rfl, hq⟩ := z
    exact wpAny_pure hq
end
end Fm
/-! sorted of a set of tuples of ints of any lengths. -/
namespace Fm
open PySem PySem.Spec PyProof.Rows L2 PySem.W
theorem dataLt_tups (x y : List Int) : dataLt (.tuple (x.map .int)) (.tuple (y.map .int)) = decide (x < y) := by
  rw [dataLt_tuple]
  exact dataLt_ints x y
theorem dataLe_tups {β : Type} (x : β → List Int) : dataLe false (fun b => .tuple ((x b).map .int)) = fun p q => decide (x p ≤ x q) := by
  funext p q
  show (!dataLt (.tuple ((x q).map .int)) (.tuple ((x p).map .int))) = _
  rw [dataLt_tups]
  by_cases h : x q < x p
  · have h' : ¬ x p ≤ x q := fun r => List.not_lt.mpr r h
    simp [h, h']
  · have h' : x p ≤ x q := List.not_lt.mp h
    simp [h, h']
theorem lexLt_dec : ∀ x y : List Int, HT.lexLt x y = decide (x < y)
  | [], [] => by simp [HT.lexLt]
  | [], _ :: _ => by simp [HT.lexLt]
  | _ :: _, [] => by simp [HT.lexLt]
  | x :: xs, y :: ys => by
    rw [HT.lexLt_cons, lexLt_dec xs ys]
    by_cases h : x = y
    · simp [h, List.cons_lt_cons_iff]
    · simp [h, List.cons_lt_cons_iff]
theorem sorted_le {β : Type} (x : β → List Int) (l : List β) : (l.mergeSort (dataLe false (fun b => .tuple ((x b).map .int)))).Pairwise fun p q => x p ≤ x q := by
  rw [dataLe_tups]
  have h := List.pairwise_mergeSort (le := fun p q => decide (x p ≤ x q)) (fun a b c h1 h2 => decide_eq_true (List.le_trans (of_decide_eq_true h1) (of_decide_eq_true h2)))
    (fun a b => by
      rcases List.le_total (x a) (x b) with h | h
      · rw [decide_eq_true h]; rfl
      · rw [decide_eq_true h, Bool.or_true]) l
  exact h.imp fun h => of_decide_eq_true h
/-- distinct, so strictly -/
theorem sorted_lt {β : Type} (x : β → List Int) (l : List β) (hn : (l.map x).Nodup) : (l.mergeSort (dataLe false (fun b => .tuple ((x b).map .int)))).Pairwise fun p q => HT.lexLt (x p) (x q) = true := by
  have h1 := sorted_le x l
  have h2 : ((l.mergeSort (dataLe false (fun b => .tuple ((x b).map .int)))).map x).Nodup := ((List.mergeSort_perm l _).map x).nodup_iff.mpr hn
  have h3 := List.pairwise_map.mp h2
  refine (h1.and h3).imp fun {p q} h => ?_
  rw [lexLt_dec]
  refine decide_eq_true ?_
  rcases List.le_iff_lt_or_eq.mp h.1 with z | z
  · exact z
  · exact absurd z h.2
section
variable {P : Program} {w : World} {A : Around} {E : Value → Shared → Prop} {s : Shared}
theorem sorted_setU {a : Addr} {L : List (Addr × List Int)} {es : Array (Int × Value)} {ep : Nat} {t : SetTable} {Q : Value → Shared → Prop} (R : SetTR P w s.heap a L es ep t) (hh : A.handled = none) (hu : A.units + 64 < cLine)
    (hQ : ∀ s' p (out : Array Value) (c : Nat) (L' : List (Addr × List Int)), (∀ b o, s.heap.get? b = some o → s'.heap.get? b = some o) → s'.gens = s.gens → s'.os = s.os → s.heap.objs.size ≤ p →
      s'.heap.get? p = some (seqObj "list" out c) → out.toList = L'.map (fun q => Value.ref q.1) → L'.Perm L → L'.Pairwise (fun q r => HT.lexLt q.2 r.2 = true) → Q (.ref p) s') :
    wpAny (model P w) A (call (.builtin "sorted") [.ref a]) Q E s := by
  obtain ⟨o, ho, hex, hd⟩ := R.ob
  have hsz := R.size
  have hfew := R.few
  refine Calls.call_function_entry kind_sorted plain_sorted entry_sorted (args_sorted1 _) ?_
  unfold Builtin.«sorted»
  refine wpAny_bind (m := checkCount "sorted" 1 1 _) (wpAny_pure ?_)
  refine wpAny_bind (collect_set (A := A.in1) hh ⟨o, ho, hex.1, hd⟩ R.fits (by unfold scanBound; omega) R.tab.ris R.led fun s1 vs k1 hz g1 o1 pm => ?_)
  have hes : es.toList.map (·.2) = L.map fun q => Value.ref q.1 := by
    rw [R.rows]
    unfold L2.rowsOf
    rw [List.map_map] <;> rfl
  rw [hes] at pm
  have ord : ∀ vs : List Value, (∀ v ∈ vs, ∃ q ∈ L, v = Value.ref q.1) → ∃ L1 : List (Addr × List Int), vs = L1.map (fun q => Value.ref q.1) ∧ ∀ q ∈ L1, q ∈ L := by
    intro vs
    induction vs with
    | nil => intro _; exact ⟨[], rfl, fun q hq => (by cases hq)⟩
    | cons v vs ih =>
      intro hv
      obtain ⟨q, hq, e⟩ := hv v List.mem_cons_self
      obtain ⟨L1, e1, hs⟩ := ih fun u hu => hv u (List.mem_cons_of_mem _ hu)
      refine ⟨q :: L1, by rw [List.map_cons, e, e1], fun r hr => ?_⟩
      rcases List.mem_cons.mp hr with z | z
      · rw [z]; exact hq
      · exact hs r z
  have one : ∀ q ∈ L, ∀ r ∈ L, q.1 = r.1 → q = r := fun q hq r hr e => by
    have a1 := R.tup q hq
    have a2 := R.tup r hr
    rw [e] at a1
    have e2 : q.2 = r.2 := a1.inj a2
    exact Prod.ext e e2
  have perm_of : ∀ L1 : List (Addr × List Int), (∀ q ∈ L1, q ∈ L) → (L1.map (fun q => Value.ref q.1)).Perm (L.map fun q => Value.ref q.1) → L1.Perm L := by
    intro L1 hs pm1
    have nL : L.Nodup := nodup_of_map R.nd
    have nref : (L.map fun q => Value.ref q.1).Nodup := by
      refine List.pairwise_map.mpr (List.Pairwise.imp_of_mem (fun {q r} hq hr hne e => ?_) nL)
      injection e with e
      exact hne (one q hq r hr e)
    have n1 : L1.Nodup := nodup_of_map (pm1.nodup_iff.mpr nref)
    refine (List.perm_ext_iff_of_nodup n1 nL).mpr fun q => ⟨hs q, fun hq => ?_⟩
    have hm : Value.ref q.1 ∈ L1.map (fun q => Value.ref q.1) := pm1.mem_iff.mpr (List.mem_map.mpr ⟨q, hq, rfl⟩)
    obtain ⟨r, hr, e⟩ := List.mem_map.mp hm
    injection e with e
    rw [← one r (hs r hr) q hq e]
    exact hr
  have hvl : vs.length < 64 := by rw [pm.length_eq, List.length_map]; exact hfew
  obtain ⟨L1, e1, hs1⟩ := ord vs fun v hv => by
    obtain ⟨q, hq, e⟩ := List.mem_map.mp (pm.mem_iff.mp hv)
    exact ⟨q, hq, e.symm⟩
  have pL1 : L1.Perm L := perm_of L1 hs1 (by rw [← e1]; exact pm)
  refine wpAny_bind (wpAny_newList ?_ (by rw [sizeLine_eq]; omega))
  have hoL : (s1.heap.push (seqObj "list" vs.toArray 0)).get? s1.heap.objs.size = some (seqObj "list" vs.toArray 0) := Heap.get?_push_size _ rfl
  have keepT : ∀ q ∈ L, IsT P w (sortingHeap (s1.heap.push (seqObj "list" vs.toArray 0)) s1.heap.objs.size vs) q.2 q.1 := fun q hq => isT_keep (R.tup q hq) fun b u e => by
    have q1 := k1 b u e
    exact sortingHeap_old (Nat.ne_of_lt (Heap.lt_size q1)) (Heap.get?_push_of_some _ q1)
  have er : EachIs (fun (v : Value) (b : Addr × List Int) => ∃ as, Reads (sortingHeap (s1.heap.push (seqObj "list" vs.toArray 0)) s1.heap.objs.size vs) v (.tuple (b.2.map .int)) as) vs L1 := by
    have key : ∀ M : List (Addr × List Int), (∀ q ∈ M, q ∈ L) → EachIs (fun (v : Value) (b : Addr × List Int) => ∃ as, Reads (sortingHeap (s1.heap.push (seqObj "list" vs.toArray 0)) s1.heap.objs.size vs) v (.tuple (b.2.map .int)) as) (M.map fun q => Value.ref q.1) M := by
      intro M
      induction M with
      | nil => intro _; exact .nil
      | cons q M ih =>
        intro hM
        refine .cons ?_ (ih fun r hr => hM r (List.mem_cons_of_mem _ hr))
        obtain ⟨o, its, n, ho, hc, hd, hk⟩ := keepT q (hM q List.mem_cons_self)
        have r := ints_readAll (sortingHeap (s1.heap.push (seqObj "list" vs.toArray 0)) s1.heap.objs.size vs) (ints_of_items hk)
        exact ⟨_, .tuple ho hc hd r⟩
    have z := key L1 hs1
    rw [← e1] at z
    exact z
  have e0 : EachIs (fun (v : Value) (b : Addr × List Int) => v = Value.ref b.1) vs L1 := by
    have key : ∀ M : List (Addr × List Int), EachIs (fun (v : Value) (b : Addr × List Int) => v = Value.ref b.1) (M.map fun q => Value.ref q.1) M := by
      intro M
      induction M with
      | nil => exact .nil
      | cons q M ih => exact .cons rfl ih
    have z := key L1
    rw [← e1] at z
    exact z
  have hal : AllAlike (L1.map fun b => PyData.tuple (b.2.map .int)) := AllAlike.of fun b b' => by
    show alikeAll (b.2.map .int) (b'.2.map .int) = true
    exact alike_ints _ _
  have S := FmSort.sortsAt_tups (prog := P) (w := w) (A := A.in1.in1) (s := { s1 with heap := sortingHeap (s1.heap.push (seqObj "list" vs.toArray 0)) s1.heap.objs.size vs }) (each_map (R := fun v d => ∃ as, Reads (sortingHeap (s1.heap.push (seqObj "list" vs.toArray 0)) s1.heap.objs.size vs) v d as) (fun b : Addr × List Int => PyData.tuple (b.2.map .int)) er) hal (fun d hd => by
    obtain ⟨b, _, rfl⟩ := List.mem_map.mp hd
    exact ⟨_, rfl⟩) (fun d hd => by
    obtain ⟨b, _, rfl⟩ := List.mem_map.mp hd
    have z : (PyData.tuple (b.2.map .int)).depth = 1 := by
      show PyData.depthAll (b.2.map .int) + 1 = 1
      rw [depth_ints]
    show A.units + 1 + 1 + (PyData.tuple (b.2.map .int)).depth < cLine
    omega)
  refine wpAny_bind (wpAny_holding (wpAny_call_entry slot_list_sort ⟨_, hoL, rfl⟩ entry_list_sort (list_sort_vals (s := { s1 with heap := s1.heap.push (seqObj "list" vs.toArray 0) }) hoL S (by rw [sizeLine_eq]; omega) ⟨_, rfl, ?_⟩) (args_list_sort _)))
  have eo := sortVals_data (R := fun (v : Value) (b : Addr × List Int) => v = Value.ref b.1) false e0 er hal
  generalize sortVals (dataKind (sortingHeap (s1.heap.push (seqObj "list" vs.toArray 0)) s1.heap.objs.size vs) (L1.map fun b => PyData.tuple (b.2.map .int))) false vs vs = out at eo ⊢
  obtain ⟨c, hc⟩ := sortedHeap_at (vs := vs) (out := out.toArray) hoL
  have e' : out = (L1.mergeSort (dataLe false (fun b : Addr × List Int => PyData.tuple (b.2.map .int)))).map fun q => Value.ref q.1 := by
    have key : ∀ (us : List Value) (M : List (Addr × List Int)), EachIs (fun (v : Value) (b : Addr × List Int) => v = Value.ref b.1) us M → us = M.map fun q => Value.ref q.1 := by
      intro us M h
      induction h with
      | nil => rfl
      | cons h _ ih => rw [h, ih, List.map_cons]
    exact key _ _ eo
  refine wpAny_pure ⟨_, rfl, hQ _ s1.heap.objs.size out.toArray c _ (fun b u e => ?_) g1 o1 hz hc (by rw [List.toList_toArray]; exact e') ((List.mergeSort_perm _ _).trans pL1) (sorted_lt (fun b : Addr × List Int => b.2) L1 ((pL1.map _).nodup_iff.mpr R.nd))⟩
  have q := k1 b u e
  have hlt := Heap.lt_size q
  show (sortedHeap (s1.heap.push (seqObj "list" vs.toArray 0)) s1.heap.objs.size vs out.toArray).get? b = some u
  rw [sortedHeap_old (Nat.ne_of_lt hlt) (by rw [size_push']; exact Nat.lt_succ_of_lt hlt)]
  exact Heap.get?_push_of_some _ q
end
section
variable {X : Cx} {K : PySem.W.Frag} {P : Program} {w : World}
def rSortSU (K : PySem.W.Frag) (P : Program) (w : World) : List V → Hp → VK → Prop := fun vs H Q => ∃ (a : Addr) (L : List (Addr × List Int)), vs = [V.ref a] ∧ H a = some (SetTO P w a L) ∧ (∀ p ∈ L, SqT K H p.1 (p.2.map V.int)) ∧
  ∀ (L' : List (Addr × List Int)) (p : Addr), L'.Perm L → L'.length < 64 → L'.Pairwise (fun q r => HT.lexLt q.2 r.2 = true) → H p = none → Q (.ref p) (upd H p (.lst (L'.map fun q => V.ref q.1)))
theorem call_sortSU (hc : X.calm = true) (hu : X.A.units + 64 < cLine) (eK : X.K = K := by rfl) (eP : X.prog = P := by rfl) (ew : X.w = w := by rfl) : CallR X (.builtin "sorted") (rSortSU K P w) := by
  subst eK eP ew
  intro pins s σ H vs us Q I r h
  obtain ⟨a, L, rfl, ha, hk, q⟩ := h
  have R0 : SetT0 X.prog X.w s.heap a L := (I.hok a _ ha).1
  obtain ⟨es, ep, t, R⟩ := R0.full fun p hp => Inv.isT I (hk p hp)
  rw [Vals.ref1 r]
  refine sorted_setU R (I.ok.hd hc) hu fun s' p out c L' k g o hp hg hout pm pw => ?_
  have hfew : L'.length < 64 := by rw [pm.length_eq]; exact R.few
  have hlen : (L'.map fun q => V.ref q.1).length ≤ sizeLine := by rw [List.length_map, sizeLine_eq]; omega
  have hn : H p = none := I.hok.fresh hp
  have hv : Vals (L'.map fun q => V.ref q.1) out.toList := by rw [hout]; exact vals_of_refs L'
  have J : Inv X pins σ (upd H p (.lst (L'.map fun q => V.ref q.1))) { s with heap := s'.heap, gens := s'.gens, drawn := s'.drawn, toks := s'.toks } :=
    I.call (ch := []) (Un.laid k hp hn) (I.hok.laid k hp ⟨hlen, out.toList, c, hv, hg⟩) (by rw [g]; exact I.bare) (fun _ z => nomatch z)
  have e : s' = { s with heap := s'.heap, gens := s'.gens, drawn := s'.drawn, toks := s'.toks } := by
    cases s'
    cases s
    cases o
    rfl
  rw [e]
  exact ⟨.ref p, _, J, rfl, q L' p pm hfew pw hn⟩
theorem call_setOfTK (hc : X.calm = true) (hu : X.A.units + 64 < cLine) (eK : X.K = K := by rfl) (eP : X.prog = P := by rfl) (ew : X.w = w := by rfl) : CallR X (.type "set") (rSetOfT K P w) := by
  subst eK eP ew
  exact cr_setOfT hc hu
end
end Fm
/-! An own instance made within a try: what is raised is wished for at the slots. -/
namespace Fm
open PySem PySem.Spec PyProof.Rows L2
section
variable {X : Cx} {CX : CXT} {C f : Addr} {fd : FuncData} {ps : List Str} {sp : Sp} {ds : List Value} {dvs : List V} {k : Nat} {E : WX} {e : Expr} {es : List Expr} {t : TA} {x : Str} {p pos : Pos}
theorem run_makeS {E : XK} {pins : List (Addr × Obj)} {σ : L2.St} {H : Hp} {s : Shared} {Q : VK} {us : List Value} {vs : List V} (M : Mk X.K C f) (F : FnOk X.prog X.w X.K X.mg X.base CX k f fd ps sp) (hr : Room (k + 1) X.A) (hb : Binds X.K fd ps ds) (hd : Vals dvs ds)
    (hx : PassesAt CX X σ E) (I : Inv X pins σ H s) (r : Vals vs us)
    (h : ∀ x dx, H x = none → H dx = none → dx ≠ x → sp (.ref x :: (vs ++ dvs)) (upd (upd H dx (.own x)) x (.ins C dx [])) (fun v H2 => v = .non ∧ Q (.ref x) H2) E) :
    wpAny (model X.prog X.w) X.A (call (.ref C) us) (EP X pins σ Q) X.xe s := by
  have hq := h (s.heap.objs.size + 1) s.heap.objs.size (I.hok.fresh (Nat.le_succ _)) (I.hok.fresh (Nat.le_refl _)) (Nat.ne_of_lt (Nat.lt_succ_self _))
  have I2 := Inv.made (C := C) I
  have r2 : Vals (V.ref (s.heap.objs.size + 1) :: (vs ++ dvs)) (Value.ref (s.heap.objs.size + 1) :: (us ++ ds)) := .cons rfl (r.append hd)
  have hl : (Value.ref (s.heap.objs.size + 1) :: us ++ ds).length = ps.length := by
    have e := r2.length
    rw [F.len _ _ _ _ hq] at e
    exact e.symm
  refine wpAny_call (make_map (f := f) I.kIn M.makes M.init (beq_iff_eq.mp M.fn) (codeAny_mono (F.run _ X.stack _ _ ⟨Value.ref (s.heap.objs.size + 1) :: us, []⟩ (Value.ref (s.heap.objs.size + 1) :: (us ++ ds)) _ _ E (hr.make C us [])
    (I2.env0.make C us []) (hb _ (Value.ref (s.heap.objs.size + 1) :: us) I2.kIn hl) r2 hq) fun r s' hq' => ?_))
  cases r with
  | error e => exact hx pins _ _ e s' I2 hq'
  | ok fl =>
    cases fl with
    | ret u =>
      obtain ⟨v, H', I3, rv, ev, q3⟩ := I2.after hq'
      subst ev
      exact ⟨rv, ⟨V.ref (s.heap.objs.size + 1), H', I3, rfl, q3⟩⟩
    | next => exact False.elim hq'
    | brk => exact False.elim hq'
    | cont => exact False.elim hq'
def tMakeS (C : Addr) (sp : Sp) (E : L2.St → XK) (t : TA) : TE := fun σ H Q => t σ H fun vs H1 => ∀ x dx, H1 x = none → H1 dx = none → dx ≠ x → sp (.ref x :: vs) (upd (upd H1 dx (.own x)) x (.ins C dx [])) (fun v H2 => v = .non ∧ Q (.ref x) H2) (E σ)
theorem pe_makeS {E : L2.St → XK} (M : Mk X.K C f) (F : FnOk X.prog X.w X.K X.mg X.base CX k f fd ps sp) (hr : Room (k + 1) X.A) (hg : Gl X x) (hm : X.mg x = some (.ref C)) (hb : Binds X.K fd ps []) (hx : ∀ σ, PassesAt CX X σ (E σ))
    (ha : PA X (e :: es) t) (hdb : (x == ("__debug__" : Str)) = false := by decide) (he : starEach (e :: es) X.env = (false, eval e X.env) :: starEach es X.env := by rfl) (hpl : (backTo pos (starEach es X.env)).any (·.1) = false := by rfl) :
    PE X (.Call (.Name x p) (e :: es) [] pos) (tMakeS C sp E t) := by
  refine ⟨fun pins s σ H Q I h => ?_⟩
  refine wpAny_Call_Name_kw (ld_glob I hg hm ?_ hdb)
  refine PySem.W.callWith_K (h₀ := X.base) I.ok.mod.kin M.kp (thn (ha.run pos pins s σ H _ I h) fun us s1 ⟨vs, H1, I1, r, q⟩ => ⟨I1.kIn, ?_⟩) he hpl
  exact run_makeS (dvs := []) (ds := []) M F hr hb .nil (hx σ) I1 r fun x dx n1 n2 n3 => by
    rw [List.append_nil]
    exact q x dx n1 n2 n3
end
end Fm
/-! tuple * n from 1 on; tuple * 1 is the tuple itself. -/
namespace Fm
open PySem PySem.Spec PyProof.Rows L2
theorem tuple_mul1 (l : Addr) (items : Array Value) (n : Nat) (dd : Option Addr) (sl : Array (Option Value)) (u : Tok) :
    Meets (Builtin.«tuple.__mul__» ⟨[.ref l, .int 1 u], []⟩) (fun _ R s => s.heap.get? l = some { cls := .type "tuple", dict := dd, data := .seq items n, slots := sl } ∧ R (.ok (.ret (Value.ref l))) s) :=
  .of_wp fun prog w A R s h => by
    obtain ⟨hp, g, d, tk, os⟩ := s
    obtain ⟨hl, h⟩ := h
    have f1 := AutoSeq1.idx_int
    wp_walk using wpAny_loadPart' hl
    exact ⟨_, rfl, h⟩
def rRepU (K : PySem.W.Frag) : R2 := fun x y H Q => ∃ l k xs, x = .ref l ∧ y = .int k ∧ SqT K H l xs ∧ xs ≠ [] ∧ 1 ≤ k ∧ k ≤ 1000 ∧ xs.length ≤ 1000 ∧ (k = 1 → Q (.ref l) H) ∧ ∀ p, H p = none → Q (.ref p) (upd H p (.tup (List.replicate k.toNat xs).flatten))
theorem op_repU {X : Cx} {K : PySem.W.Frag} (eK : X.K = K := by rfl) : OpR X (binaryOp .Mult) (rRepU K) := by
  subst eK
  intro pins s σ H x y v u Q I rx ry h
  obtain ⟨l, k, xs, rfl, rfl, hT, hne, h1, h2, hz, q1, q⟩ := h
  by_cases hk : k = 1
  · subst hk
    cases rx
    obtain ⟨t, rfl⟩ := ry
    obtain ⟨its, r, ⟨⟨cls, dd, data, sl⟩, ho, hc, n, hd⟩, hs⟩ := I.tuple hT
    simp only at hc hd
    subst hc hd
    refine wpAny_binaryOp_repeat_ref (T := "tuple") (U := "int") (by decide) ⟨_, ho, rfl⟩ (fun s' => typeIs_int s' 1 t) noFill_tuple_mul F.fills_int_mul F.slot_int_rmul repeat_tuple F.slot_int_index.lookup
      (call_meets F.slot_int_rmul (typeIs_int s 1 t) F.entry_int_rmul (F.args_int_rmul_2 _ _) (int_rmul_tuple 1 t l its.toArray n dd sl)
        ⟨ho, rfl, ⟨_, ho, rfl⟩, call_meets F.slot_tuple_mul ⟨_, ho, rfl⟩ F.entry_tuple_mul (F.args_tuple_mul_2 _ _) (tuple_mul1 l its.toArray n dd sl t) ⟨ho, ?_⟩⟩)
    exact ⟨.ref l, H, I.tok _, rfl, q1 rfl⟩
  · exact op_repT pins s σ H _ _ v u Q I rx ry ⟨l, k, xs, rfl, rfl, hT, hne, by omega, h2, hz, q⟩
end Fm
/-! A set of tuples of ints: one put in; the comprehension of two clauses that makes it. -/
namespace Fm
open PySem PySem.Spec PyProof.Rows L2 PySem.W
section
variable {P : Program} {w : World} {A : Around} {E : Value → Shared → Prop} {s : Shared}
/-- add, seen from the heap -/
theorem add_raw {a x : Addr} {L : List (Addr × List Int)} {k : List Int} {es : Array (Int × Value)} {ep : Nat} {t : SetTable} {Q : Value → Shared → Prop} (R : SetTR P w s.heap a L es ep t) (hx : IsT P w s.heap k x) (hu : A.units + 2 < cLine) (few : L.length + 1 < 64)
    (q : ∀ h' L' es' ep' t' tk, Heap.SameBut a s.heap h' → SetTR P w h' a L' es' ep' t' → (k ∈ L.map (·.2) → L' = L) → (k ∉ L.map (·.2) → L'.Perm ((x, k) :: L)) → Q .none { s with heap := h', toks := tk }) :
    wpAny (model P w) A (call (.builtin "set.add") [.ref a, .ref x]) Q E s := by
  obtain ⟨o, ho, hex, hd⟩ := R.ob
  refine wpAny_call_entry F.slot_set_add (⟨o, ho, hex.1⟩ : s.TypeIs (.ref a) "set") F.entry_set_add ?_ (F.args_set_add_2 _ _)
  unfold Builtin.«set.add» Builtin.Frozenset.oneOther Builtin.Frozenset.addrOf setAdd
  simp only [List.isEmpty_nil, bind_assoc]
  refine wpAny_bind (wpAny_pure ?_)
  try dsimp only
  refine wpAny_bind (wpAny_pure ?_)
  try dsimp only
  refine wpAny_bind (wpAny_holding (wpAny_bind (wpAny_pyHash_tuple (A := A.in1) (by show A.units + 1 < cLine; omega) hx ?_)))
  have R' : SetTR P w ({ s with toks := s.toks + (k.length + 1) } : Shared).heap a L es ep t := R
  refine add_at (s := { s with toks := s.toks + (k.length + 1) }) R' hx (by show A.units + 1 < cLine; omega) few fun b h' L' es' ep' t' sb R2 c1 c2 => ?_
  show wpAny _ _ (ret Value.none) _ _ _
  exact wpAny_pure ⟨_, rfl, q h' L' es' ep' t' _ sb R2 c1 c2⟩
end
section
variable {X : Cx} {K : PySem.W.Frag} {P : Program} {w : World} {pins : List (Addr × Obj)} {σ : L2.St} {H : Hp} {s : Shared}
/-- the tuples of L are there -/
def TupsAt (K : PySem.W.Frag) (H : Hp) (L : List (Addr × List Int)) : Prop := ∀ p ∈ L, SqT K H p.1 (p.2.map V.int)
/-- L' is L with (b, k) put in -/
def PutIn (L : List (Addr × List Int)) (b : Addr) (k : List Int) (L' : List (Addr × List Int)) : Prop := (k ∈ L.map (·.2) → L' = L) ∧ (k ∉ L.map (·.2) → L'.Perm ((b, k) :: L))
theorem add_inv {A : Around} {E : Value → Shared → Prop} {D b : Addr} {k : List Int} {L : List (Addr × List Int)} {Q : Value → Shared → Prop} (I : Inv X pins σ H s) (hD : H D = some (SetTO X.prog X.w D L)) (hL : TupsAt X.K H L) (hb : SqT X.K H b (k.map V.int))
    (hu : A.units + 2 < cLine) (few : L.length + 1 < 64) (q : ∀ L' s', PutIn L b k L' → Inv X pins σ (upd H D (SetTO X.prog X.w D L')) s' → Q .none s') :
    wpAny (model X.prog X.w) A (call (.builtin "set.add") [.ref D, .ref b]) Q E s := by
  have R0 : SetT0 X.prog X.w s.heap D L := (I.hok D _ hD).1
  obtain ⟨es, ep, t, R⟩ := R0.full fun p hp => I.isT (hL p hp)
  refine add_raw R (I.isT hb) hu few fun h' L' es' ep' t' tk sb R2 c1 c2 => q L' _ ⟨c1, c2⟩ ?_
  have he : ∃ u, h'.get? D = some u := by
    obtain ⟨o, ho, _⟩ := R2.ob
    exact ⟨o, ho⟩
  exact I.write (e := D) (t' := tk) (by rw [hD]; trivial) (.inl rfl) (fun c u hc hu => (sb.2 c hc).trans hu) he (setTO_new R2.t0)
def rSAddT (K : PySem.W.Frag) (P : Program) (w : World) : V → List V → Hp → VK → Prop := fun x xs H Q => ∃ (a b : Addr) (k : List Int) (L : List (Addr × List Int)), x = V.ref a ∧ xs = [V.ref b] ∧ H a = some (SetTO P w a L) ∧ TupsAt K H L ∧ SqT K H b (k.map V.int) ∧ L.length + 1 < 64 ∧
  ∀ L', PutIn L b k L' → Q .non (upd H a (SetTO P w a L'))
theorem mt_saddT (hu : X.A.units + 64 < cLine) (eK : X.K = K := by rfl) (eP : X.prog = P := by rfl) (ew : X.w = w := by rfl) : MtR X "set.add" (rSAddT K P w) := by
  subst eK eP ew
  intro pins s σ H x xs v us Q I rx rxs h
  obtain ⟨a, b, k, L, rfl, rfl, ha, hL, hb, few, q⟩ := h
  cases rx
  rw [Vals.ref1 rxs]
  exact add_inv I ha hL hb (by show X.A.units + 2 < cLine; omega) few fun L' s' p I' => ⟨.non, _, I', rfl, q L' p⟩
def tSAddT (K : PySem.W.Frag) (P : Program) (w : World) (to : TE) (t : TA) : TE := fun σ H Q => to σ H fun x H1 => (∃ a L, x = V.ref a ∧ H1 a = some (SetTO P w a L)) ∧ t σ H1 fun xs H2 => rSAddT K P w x xs H2 Q
theorem pe_saddT {K : PySem.W.Frag} {P : Program} {w : World} {o e : Expr} {to : TE} {t : TA} {apos cpos : Pos} (hu : X.A.units + 64 < cLine) (ho : PE X o to) (ha : PA X [e] t)
    (b1 : attributeBase o "add" X.env (eval o X.env) = eval o X.env := by rfl)
    (b2 : ((backTo cpos (starEach [e] X.env)).all (fun x => !x.1) && (backToKw cpos (keywordEach [] X.env)).all (fun x => x.1.isSome) && decide (([e] : List Expr).length + ([] : List Keyword).length + (if ([] : List Keyword).isEmpty then 0 else 1) < 30)) = true := by rfl)
    (b3 : (apos.endLine == cpos.line) = true := by rfl) (b4 : starEach [e] X.env = [(false, eval e X.env)] := by rfl) (eK : X.K = K := by rfl) (eP : X.prog = P := by rfl) (ew : X.w = w := by rfl) :
    PE X (.Call (.Attribute o "add" apos) [e] [] cpos) (tSAddT K P w to t) := by
  subst eK eP ew
  refine ⟨fun pins s σ H Q I h => ?_⟩
  refine wpAny_Call_method_late b1 b2 b3 rfl (thn (ho.run pins s σ H _ I h) fun v s1 ⟨x, H1, I1, r1, ty, q1⟩ => ?_)
  obtain ⟨a, L, rfl, hka⟩ := ty
  cases r1
  have R0 : SetT0 X.prog X.w s1.heap a L := (I1.hok a _ hka).1
  obtain ⟨es, ep, t, ⟨ob, h1, h2, h3⟩, _⟩ := R0.ex
  refine ⟨"set", "set.add", F.plainAttrs_set, F.slot_set_add, F.type_set_add, ⟨ob, h1, h2.1⟩, fun c e => (by cases e; exact ⟨ob, h1, h2.2.1⟩), ?_⟩
  have hA := ha.run cpos pins s1 σ H1 _ I1 q1
  rw [b4] at hA ⊢
  refine Calls.callWith_builtin rfl (Calls.evalArgs_plain (thn hA fun us s2 ⟨vs, H2, I2, r2, q2⟩ => (mt_saddT hu) pins s2 σ H2 (.ref a) vs (.ref a) us Q I2 rfl r2 q2))
end
end Fm
/-! The comprehension of two clauses, without tests, that makes a set of tuples of ints. -/
namespace Fm
open PySem PySem.Spec PyProof.Rows L2 PySem.W
/-- {el for ta in ea for tb in eb} -/
abbrev sc2 (el ta ea tb eb : Expr) (sc : Scope) (ps : Pos) : Expr := .SetComp el [⟨ta, ea, [], 0⟩, ⟨tb, eb, [], 0⟩] sc ps
theorem turn_outer (el ta ea tb eb : Expr) (sc : Scope) (ps : Pos) (it D : Value) (ev : Env) : compTurn (sc2 el ta ea tb eb sc ps) 0 it D ev = (do
      standAt ea.pos
      match ← pyNext it with
      | none => pure (.done .next)
      | some got =>
        letOwnedTupleGo ta it got
        assign ta ev got
        let mut good := true
        for f in ([] : List Expr) do
          if good then good ← isTrue f ev (eval f ev)
        if good then
          let y ← eval eb ev
          standAt eb.pos
          let y ← foldedSetIterable eb ev y
          let _ ← runOwn (.compStart (sc2 el ta ea tb eb sc ps) 1 (← holding [y] (pyIter y)) D ev) ev
        again (.compLoop (sc2 el ta ea tb eb sc ps) 0 it D ev)) := by rfl
theorem turn_inner (el ta ea tb eb : Expr) (sc : Scope) (ps : Pos) (it D : Value) (ev : Env) : compTurn (sc2 el ta ea tb eb sc ps) 1 it D ev = (do
      standAt eb.pos
      match ← pyNext it with
      | none => pure (.done .next)
      | some got =>
        letOwnedTupleGo tb it got
        assign tb ev got
        let mut good := true
        for f in ([] : List Expr) do
          if good then good ← isTrue f ev (eval f ev)
        if good then
          (do let y ← eval el ev; standAt el.pos; let _ ← call (.builtin "set.add") [D, y])
        again (.compLoop (sc2 el ta ea tb eb sc ps) 1 it D ev)) := by rfl
section
variable {P : Program} {w : World} {A : Around} {R : Result → Shared → Prop} {s : Shared} {el ta ea tb eb : Expr} {sc : Scope} {ps : Pos} {it D : Value} {ev : Env}
theorem loop_outer (hf : ∀ y, foldedSetIterable eb ev y = pure y) (J : Nat → Shared → Prop)
    (step : ∀ m u, J m u → wpAny (model P w) A (pyNext it) (fun r u1 => match r with
      | none => R (.ok .next) u1
      | some got => wpAny (model P w) A (letOwnedTupleGo ta it got) (fun _ u2 => wpAny (model P w) A (assign ta ev got) (fun _ u3 => wpAny (model P w) A (eval eb ev) (fun y u4 => wpAny (model P w) A (pyIter y) (fun jt u5 =>
          codeAny (model P w) A (.compStart (sc2 el ta ea tb eb sc ps) 1 jt D ev) (fun r u6 => match r with
            | .ok _ => ∃ m', m' < m ∧ J m' u6
            | .error _ => False) u5) (notedBy (model P w) A ev fun x u => R (.error x) u) u4) (notedBy (model P w) A ev fun x u => R (.error x) u) u3) (notedBy (model P w) A ev fun x u => R (.error x) u) u2)
          (notedBy (model P w) A ev fun x u => R (.error x) u) u1) (notedBy (model P w) A ev fun x u => R (.error x) u) u)
    (m : Nat) (h : J m s) : codeAny (model P w) A (.compLoop (sc2 el ta ea tb eb sc ps) 0 it D ev) R s := by
  refine codeAny_loop rfl J (fun m u hJ => ?_) m h
  show wpAny _ A ((compTurn (sc2 el ta ea tb eb sc ps) 0 it D ev).onRaise (fun x => do noteFrame x ev; theTreesLotGoes x)) _ _ u
  refine wpAny_noted ?_
  rw [turn_outer]
  refine wpAny_bind (wpAny_standAt (wpAny_bind (wpAny_mono (step m u hJ) (fun r u1 h1 => ?_) fun _ _ z => z)))
  cases r with
  | none => exact wpAny_pure h1
  | some got =>
    refine wpAny_bind (wpAny_mono h1 (fun _ u2 h2 => wpAny_bind (wpAny_mono h2 (fun _ u3 h3 => ?_) fun _ _ z => z)) fun _ _ z => z)
    refine wpAny_bind (wpAny_pure ?_)
    refine wpAny_bind (wpAny_mono h3 (fun y u4 h4 => ?_) fun _ _ z => z)
    refine wpAny_bind (wpAny_standAt (wpAny_bind (wpAny_of_eq (hf y) (wpAny_bind (wpAny_holding (wpAny_mono h4 (fun jt u5 h5 => ?_) fun _ _ z => z))))))
    refine wpAny_bind (wpAny_runOwn ?_)
    rw [Around.mark_none]
    refine codeAny_mono h5 fun r u6 hres => ?_
    cases r with
    | ok f =>
      first
        | exact wpAny_pure ⟨rfl, hres⟩
        | exact wpAny_bind (wpAny_pure (wpAny_pure ⟨rfl, hres⟩))
    | error x => exact hres.elim
theorem loop_inner (J : Nat → Shared → Prop)
    (step : ∀ m u, J m u → wpAny (model P w) A (pyNext it) (fun r u1 => match r with
      | none => R (.ok .next) u1
      | some got => wpAny (model P w) A (letOwnedTupleGo tb it got) (fun _ u2 => wpAny (model P w) A (assign tb ev got) (fun _ u3 => wpAny (model P w) A (eval el ev) (fun y u4 =>
          wpAny (model P w) A (call (.builtin "set.add") [D, y]) (fun _ u5 => ∃ m', m' < m ∧ J m' u5) (notedBy (model P w) A ev fun x u => R (.error x) u) u4) (notedBy (model P w) A ev fun x u => R (.error x) u) u3)
          (notedBy (model P w) A ev fun x u => R (.error x) u) u2) (notedBy (model P w) A ev fun x u => R (.error x) u) u1) (notedBy (model P w) A ev fun x u => R (.error x) u) u)
    (m : Nat) (h : J m s) : codeAny (model P w) A (.compLoop (sc2 el ta ea tb eb sc ps) 1 it D ev) R s := by
  refine codeAny_loop rfl J (fun m u hJ => ?_) m h
  show wpAny _ A ((compTurn (sc2 el ta ea tb eb sc ps) 1 it D ev).onRaise (fun x => do noteFrame x ev; theTreesLotGoes x)) _ _ u
  refine wpAny_noted ?_
  rw [turn_inner]
  refine wpAny_bind (wpAny_standAt (wpAny_bind (wpAny_mono (step m u hJ) (fun r u1 h1 => ?_) fun _ _ z => z)))
  cases r with
  | none => exact wpAny_pure h1
  | some got =>
    refine wpAny_bind (wpAny_mono h1 (fun _ u2 h2 => wpAny_bind (wpAny_mono h2 (fun _ u3 h3 => ?_) fun _ _ z => z)) fun _ _ z => z)
    refine wpAny_bind (wpAny_pure ?_)
    exact wpAny_bind (wpAny_bind (wpAny_mono h3 (fun y u4 h4 => wpAny_bind (wpAny_standAt (wpAny_bind (wpAny_mono h4 (fun _ u5 h5 => wpAny_pure (wpAny_pure ⟨rfl, h5⟩)) fun _ _ z => z)))) fun _ _ z => z))
theorem start_inner (hz : codeAny (model P w) A (.compLoop (sc2 el ta ea tb eb sc ps) 1 it D ev) R s)
    (h : wpAny (model P w) A (pyIter it) (fun jt u => codeAny (model P w) A (.compLoop (sc2 el ta ea tb eb sc ps) 1 jt D ev) R u) (notedBy (model P w) A ev fun x u => R (.error x) u) s) :
    codeAny (model P w) A (.compStart (sc2 el ta ea tb eb sc ps) 1 it D ev) R s := by
  refine codeAny_of_tree ?_
  show wpAny _ _ ((compStart (sc2 el ta ea tb eb sc ps) 1 it D ev).onRaise (fun x => do noteFrame x ev; standAt theWindowsPlace)) _ _ s
  refine wpAny_notedAt ?_
  unfold compStart
  show wpAny _ _ (ask >>= _) _ _ s
  refine wpAny_bind (wpAny_askSetting (wpAny_ite ?_))
  split
  · first
      | exact wpAny_bind (wpAny_pure (wpAny_pure ⟨rfl, hz⟩))
      | exact wpAny_pure ⟨rfl, hz⟩
  · refine wpAny_bind (wpAny_rule ?_)
    show wpAny _ _ (standAt eb.pos >>= _) _ _ s
    exact wpAny_bind (wpAny_standAt (wpAny_bind (wpAny_mono h (fun jt u hn => wpAny_pure (And.intro rfl hn)) fun _ _ z => z)))
end
end Fm
namespace Fm
open PySem PySem.Spec PyProof.Rows L2 PySem.W
section
variable {X : Cx} {K : PySem.W.Frag} {P : Program} {w : World}
/-- the set's making: the outer source's loop by W, the inner one's by V -/
def tSc2 (K : PySem.W.Frag) (P : Program) (w : World) (wa : TI) (ga : TG) (wb : TI) (gb : TG) (te : TE) (vs vs1 : List Nat) : TE := fun σ H Q => wa σ H fun J H1 => ∀ D, H1 D = none → ∃ W : Nat → Nat → Hp → Prop, (∃ m, W 0 m (upd H1 D (SetTO P w D []))) ∧ ∀ i m H, W i m H →
  (J.stop i H ∧ Q (.ref D) H) ∨ (J.go i H ∧ ∃ Nx : Hp → Prop, (∀ H', Nx H' → ∃ m', m' < m ∧ W (i + 1) m' H') ∧ ∀ x H', J.yld i H x H' → ga x (wipe σ vs) H' fun σ2 H2 => wipe σ2 vs = wipe σ vs ∧ wb σ2 H2 fun J1 H4 => ∃ Wb : Nat → Nat → Hp → Prop, (∃ m, Wb 0 m H4) ∧ ∀ j k H, Wb j k H →
    (J1.stop j H ∧ Nx H) ∨ (J1.go j H ∧ ∃ Ny : Hp → Prop, (∀ H', Ny H' → ∃ k', k' < k ∧ Wb (j + 1) k' H') ∧ ∀ x H', J1.yld j H x H' → gb x (wipe σ2 vs1) H' fun σ3 H5 => wipe σ3 vs1 = wipe σ2 vs1 ∧ te σ3 H5 fun y H7 =>
      ∃ (b : Addr) (q : List Int) (L : List (Addr × List Int)), y = .ref b ∧ SqT K H7 b (q.map V.int) ∧ H7 D = some (SetTO P w D L) ∧ TupsAt K H7 L ∧ L.length + 1 < 64 ∧ ∀ L', PutIn L b q L' → Ny (upd H7 D (SetTO P w D L'))))
theorem sc2_all {pins : List (Addr × Obj)} {s : Shared} {σ : L2.St} {H : Hp} {Q : VK} {el ta ea tb eb : Expr} {sc : Scope} {own : List (Str × Nat)} {vs1 : List Nat} {ps qs : Pos} {wa wb : TI} {ga gb : TG} {te : TE} {use : Option (Value → Sem Unit)} {Qf : Value → Shared → Prop}
    (hc : X.calm = true) (hu : X.A.units + 64 < cLine) (hN : X.N.Nodup) (I : Inv X pins σ H s) (pa : PI X ta ea wa) (ok : BlkOk X.N X.env.scope sc own) (hv : ∀ i ∈ vs1, i ∈ own.map (·.2))
    (pga : ∀ (s : Shared) (H : Hp) (C : Addr) (cl : List (Str × Addr)) (fp : List Addr), PG (X.blk s H sc (compEnvC sc cl C X.env) fp) ta ga)
    (pe : ∀ (s : Shared) (H : Hp) (C : Addr) (cl : List (Str × Addr)) (fp : List Addr), PE (X.blk s H sc (compEnvC sc cl C X.env) fp) el te)
    (pb : ∀ (s : Shared) (H : Hp) (C : Addr) (cl : List (Str × Addr)) (fp : List Addr), PI (X.blk s H sc (compEnvC sc cl C X.env) fp) tb eb wb)
    (pgb : ∀ (s : Shared) (H : Hp) (C : Addr) (cl : List (Str × Addr)) (fp : List Addr), PG (X.blk s H sc (compEnvC sc cl C X.env) fp) tb gb)
    (fa : ∀ x, foldedSetIterable ea X.env x = pure x) (fb : ∀ ev x, foldedSetIterable eb ev x = pure x) (eK : X.K = K) (eP : X.prog = P) (ew : X.w = w)
    (h : tSc2 K P w wa ga wb gb te (own.map (·.2)) vs1 σ H Q)
    (post : ∀ D C u m H', Inv X pins σ H' u → Q (.ref D) H' → u.heap.Ns C m → FpOk X pins H' C → compPost (model X.prog X.w) X.A X.xe use Qf (.ref D) C (.ok .next) u) :
    wpAny (model X.prog X.w) X.A (comprehension (sc2 el ta ea tb eb sc ps) sc X.env qs (newSet (.type "set")) false (eval ea X.env) use) Qf X.xe s := by
  subst eK eP ew
  have hfree : ∀ y ∈ sc.names, y.2 = .free → ∃ c, X.env.cells.lookup y.1 = some c := fun y hy e => (ok.free y hy e).elim (fun z => I.ok.has _ (.inl z)) fun z => I.ok.has _ (.inr z)
  refine wpAny_comprehension_free (use := use) rfl fa (closure_ok hfree) ok.kind (fun y hy e => by rw [ok.uniq y hy, e]) (thn (pa.run pins s σ H _ I h) fun xv s1 hx => thn hx fun itv s2 h2 => ?_)
  obtain ⟨it, fp, tn, J, H2, e, I2, T, st2, f2, q⟩ := h2
  subst e
  refine wpAny_newSet_raw fun led hled => newEnv_comp ?_
  subst hled
  generalize hD : s2.heap.objs.size = D
  have hDn : H2 D = none := I2.hok.fresh (Nat.le_of_eq hD)
  obtain ⟨W, ⟨m0, w0⟩, turn⟩ := q D hDn
  generalize hob : ({ cls := .type "set", dict := none, data := .set #[] 0 (.fresh 0 0 (!X.w.params.followText "set-order")) } : Obj) = ob
  generalize hs3 : ({ s2 with heap := s2.heap.push ob } : Shared) = s3
  have h3 : s3.heap = s2.heap.push ob := by rw [← hs3]
  have gD : s3.heap.get? D = some ob := by
    rw [h3, ← hD]
    exact Heap.get?_push_size _ (by rw [← hob] <;> rfl)
  have old3 : ∀ b o, s2.heap.get? b = some o → s3.heap.get? b = some o := fun b o z => by
    rw [h3]
    exact Heap.get?_push_of_some _ z
  have I3 : Inv X pins σ (upd H2 D (SetTO X.prog X.w D [])) s3 := by
    have t0 : SetT0 X.prog X.w s3.heap D [] := (setTR_fresh (P := X.prog) (w := X.w) (by rw [gD, ← hob])).t0
    have := I2.laid (a := D) (o := SetTO X.prog X.w D []) (h' := s3.heap) (t' := s2.toks) old3 (Nat.le_of_eq hD) (setTO_new t0)
    rw [← hs3] at this ⊢
    exact this
  have lo : ∀ b ∈ fp, b < s2.heap.objs.size := fun b hb => by
    obtain ⟨o, z, _⟩ := T.obj _ _ st2 b hb
    exact Heap.lt_size z
  have f3 : ∀ b ∈ fp, FpOk X pins (upd H2 D (SetTO X.prog X.w D [])) b ∧ b < s3.heap.objs.size := fun b hb => by
    have l := lo b hb
    have ne : b ≠ D := by
      rw [← hD]
      exact Nat.ne_of_lt l
    exact ⟨⟨by rw [upd_ne ne]; exact (f2 b hb).1, (f2 b hb).2⟩, by rw [h3, Heap.size_push]; exact Nat.lt_succ_of_lt l⟩
  have st3 : tn 0 s3.heap := T.keep _ _ _ st2 fun b _ o z => old3 b o z
  have I4 := block_start I3 ok hN f3
  generalize hH3 : upd H2 D (SetTO X.prog X.w D []) = H3 at I3 I4 f3 w0
  generalize hcl : cellsFrom (s3.heap.objs.size + 1) sc.names (cloFrom X.env.cells sc.names []) = cl at I4
  have gA := pga s3 H3 s3.heap.objs.size cl fp
  have gE := pe s3 H3 s3.heap.objs.size cl fp
  have gI := pb s3 H3 s3.heap.objs.size cl fp
  have gB := pgb s3 H3 s3.heap.objs.size cl fp
  show codeAny _ _ (.compStart (sc2 el ta ea tb eb sc ps) 0 (.ref it) (.ref D) (compEnvC sc cl s3.heap.objs.size X.env)) (compPost (model X.prog X.w) X.A X.xe use Qf (.ref D) s3.heap.objs.size) { s3 with heap := pushCells (s3.heap.push { cls := .type "dict", data := .dict #[] }) sc.names }
  generalize hce : compEnvC sc cl s3.heap.objs.size X.env = ce at I4 gA gE gI gB ⊢
  have cL : ce.locals = s3.heap.objs.size := by subst hce; rfl
  generalize hs4 : ({ s3 with heap := pushCells (s3.heap.push { cls := .type "dict", data := .dict #[] }) sc.names } : Shared) = s4 at I4 ⊢
  have st4 : tn 0 s4.heap := T.keep _ _ _ st3 fun b _ o z => by rw [← hs4]; exact pushCells_keeps _ _ _ _ (Heap.get?_push_of_some _ z)
  have nfp : ∀ b ∈ fp, H3 b = none := fun b hb => (f3 b hb).1.1
  have stand : ∀ {τ : L2.St} {G : Hp} {u : Shared}, Inv (X.blk s3 H3 sc ce fp) [] τ G u → (∀ b ∈ fp, G b = none) → ∀ b ∈ fp, FpOk (X.blk s3 H3 sc ce fp) [] G b := fun I' hn b hb =>
    ⟨hn b hb, (I'.ok.exf b hb).1, I'.ok.exfs b hb, .inl hb, fun x c z => (I'.ok.exf b hb).2 x c z, fun p hp => absurd (show p ∈ ([] : List (Addr × Obj)) ++ [] from hp) (by simp)⟩
  have loop : codeAny (model X.prog X.w) X.A (.compLoop (sc2 el ta ea tb eb sc ps) 0 (.ref it) (.ref D) ce) (compPost (model X.prog X.w) X.A X.xe use Qf (.ref D) s3.heap.objs.size) s4 := by
    refine loop_outer (fb ce) (fun m u => ∃ i G, Inv (X.blk s3 H3 sc ce fp) [] (wipe σ (own.map (·.2))) G u ∧ tn i u.heap ∧ (∀ b ∈ fp, G b = none) ∧ W i m G) ?_ m0 ⟨0, H3, I4, st4, nfp, w0⟩
    rintro m u5 ⟨i, G5, I5, st5, n5, w5⟩
    rcases turn i m G5 w5 with ⟨stop, qq⟩ | ⟨go, Nx, hNx, step⟩
    · refine thnF (T.done (X.blk s3 H3 sc ce fp) rfl rfl rfl hc i [] u5 _ G5 (fun _ _ => False) I5 (stand I5 n5) st5 stop) fun r u6 ⟨hr, I6⟩ => ?_
      subst hr
      have I7 : Inv X pins σ G5 u6 := I3.call' (ch := fp) I6.os I6.base I6.hok I6.bare fun b hb => ⟨(f3 b hb).1.2.2.2.1, (f3 b hb).1.2.1, (f3 b hb).1.2.2.2.2.1, (f3 b hb).1.2.2.2.2.2⟩
      have nC : G5 ce.locals = none := I6.free
      obtain ⟨mm, hn, _⟩ := I6.loc
      have hn : u6.heap.Ns ce.locals mm := hn
      rw [cL] at hn nC
      exact post D s3.heap.objs.size u6 mm G5 I7 qq hn (I3.fpOk (Nat.le_refl _) nC)
    · refine thnF (T.item (X.blk s3 H3 sc ce fp) rfl rfl rfl hc i [] u5 _ G5 (fun _ _ => False) I5 (stand I5 n5) st5 go) fun r u6 ⟨got, hr, h6⟩ => ?_
      subst hr
      refine thnF h6 fun _ u7 ⟨x, G7, I7, r7, y7, st7, n7⟩ => ?_
      have I7' := I7.pinned (stand I7 n7) (T.obj _ _ st7)
      refine thnF (gA.run _ u7 _ G7 x got _ I7' r7 (step x G7 y7)) fun _ u8 ⟨σ8, G8, I8, hw8, q8⟩ => ?_
      have fin : ∀ {τ : L2.St} {u : Shared} {G : Hp}, Inv (X.blk s3 H3 sc ce fp) ([] ++ pinsAt fp u7.heap) τ G u → (wipe σ (own.map (·.2))).length = τ.length → (∀ (j : Nat) v, (wipe σ (own.map (·.2)))[j]? = some (some v) → τ[j]? = some (some v)) → Nx G →
          ∃ m', m' < m ∧ ∃ i G, Inv (X.blk s3 H3 sc ce fp) [] (wipe σ (own.map (·.2))) G u ∧ tn i u.heap ∧ (∀ b ∈ fp, G b = none) ∧ W i m' G := fun {τ u G} I' hl hk nx => by
        obtain ⟨m', hm, w'⟩ := hNx G nx
        have pin' : ∀ b ∈ fp, ∀ o, u7.heap.get? b = some o → u.heap.get? b = some o ∧ G b = none := fun b hb o z =>
          have zz := I'.pin (b, o) (List.mem_append_right _ (List.mem_append_right _ (mem_pinsAt hb z)))
          ⟨zz.1, zz.2.1⟩
        refine ⟨m', hm, i + 1, G, (I'.unpinned (pins := [])).weak hl hk, T.keep _ _ _ st7 fun b hb o z => (pin' b hb o z).1, fun b hb => ?_, w'⟩
        obtain ⟨o, z, _⟩ := T.obj _ _ st7 b hb
        exact (pin' b hb o z).2
      have l8 : (wipe σ (own.map (·.2))).length = σ8.length := by rw [← hw8, wipe_length]
      have k8 : ∀ (j : Nat) v, (wipe σ (own.map (·.2)))[j]? = some (some v) → (wipe σ8 vs1)[j]? = some (some v) := fun j v z => by
        rw [← hw8] at z
        obtain ⟨z1, z2⟩ := wipe_some z
        rw [wipe_out fun zz => z2 (hv j zz)]
        exact z1
      refine thnF (gI.run _ u8 σ8 G8 _ I8 q8) fun xv u10 hx => thnF hx fun itv u11 h11 => ?_
      obtain ⟨it1, fp1, tn1, J1, G11, e1, I11, T1, st11, f11, Wb, ⟨k0, v0⟩, turn1⟩ := h11
      subst e1
      have stand1 : ∀ {G : Hp}, (∀ b ∈ fp1, G b = none) → ∀ b ∈ fp1, FpOk (X.blk s3 H3 sc ce fp) ([] ++ pinsAt fp u7.heap) G b := fun hn b hb => ⟨hn b hb, (f11 b hb).2⟩
      have loop1 : codeAny (model X.prog X.w) X.A (.compLoop (sc2 el ta ea tb eb sc ps) 1 (.ref it1) (.ref D) ce)
          (fun r u => match r with
            | .ok _ => ∃ m', m' < m ∧ ∃ i G, Inv (X.blk s3 H3 sc ce fp) [] (wipe σ (own.map (·.2))) G u ∧ tn i u.heap ∧ (∀ b ∈ fp, G b = none) ∧ W i m' G
            | .error _ => False) u11 := by
        refine loop_inner (fun k u => ∃ j G, Inv (X.blk s3 H3 sc ce fp) ([] ++ pinsAt fp u7.heap) (wipe σ8 vs1) G u ∧ tn1 j u.heap ∧ (∀ b ∈ fp1, G b = none) ∧ Wb j k G) ?_ k0 ⟨0, G11, I11.weak (wipe_length _ _) (fun j v z => (wipe_some z).1), st11, fun b hb => (f11 b hb).1, v0⟩
        rintro k u12 ⟨j, G12, I12, st12, n12, w12⟩
        rcases turn1 j k G12 w12 with ⟨stop1, nx1⟩ | ⟨go1, Ny, hNy, step1⟩
        · refine thnF (T1.done (X.blk s3 H3 sc ce fp) rfl rfl rfl hc j _ u12 (wipe σ8 vs1) G12 (fun _ _ => False) I12 (stand1 n12) st12 stop1) fun r u13 ⟨hr, I13⟩ => ?_
          subst hr
          exact fin I13 (l8.trans (wipe_length σ8 vs1).symm) k8 nx1
        · refine thnF (T1.item (X.blk s3 H3 sc ce fp) rfl rfl rfl hc j _ u12 (wipe σ8 vs1) G12 (fun _ _ => False) I12 (stand1 n12) st12 go1) fun r u13 ⟨got1, hr, h13⟩ => ?_
          subst hr
          refine thnF h13 fun _ u14 ⟨x1, G14, I14, r14, y14, st14, n14⟩ => ?_
          have I14' := I14.pinned (stand1 n14) (T1.obj _ _ st14)
          refine thnF (gB.run _ u14 (wipe σ8 vs1) G14 x1 got1 _ I14' r14 (step1 x1 G14 y14)) fun _ u15 ⟨σ15, G15, I15, hw15, q15⟩ => ?_
          have fin1 : ∀ {u : Shared} {G : Hp}, Inv (X.blk s3 H3 sc ce fp) (([] ++ pinsAt fp u7.heap) ++ pinsAt fp1 u14.heap) σ15 G u → Ny G → ∃ k', k' < k ∧ ∃ j G, Inv (X.blk s3 H3 sc ce fp) ([] ++ pinsAt fp u7.heap) (wipe σ8 vs1) G u ∧ tn1 j u.heap ∧ (∀ b ∈ fp1, G b = none) ∧ Wb j k' G := fun {u G} I' nx => by
            obtain ⟨k', hk', w'⟩ := hNy G nx
            have pin' : ∀ b ∈ fp1, ∀ o, u14.heap.get? b = some o → u.heap.get? b = some o ∧ G b = none := fun b hb o z =>
              have zz := I'.pin (b, o) (List.mem_append_right _ (List.mem_append_right _ (mem_pinsAt hb z)))
              ⟨zz.1, zz.2.1⟩
            refine ⟨k', hk', j + 1, G, I'.unpinned.weak (by rw [← hw15, wipe_length]) (fun j v z => by rw [← hw15] at z; exact (wipe_some z).1), T1.keep _ _ _ st14 fun b hb o z => (pin' b hb o z).1, fun b hb => ?_, w'⟩
            obtain ⟨o, z, _⟩ := T1.obj _ _ st14 b hb
            exact (pin' b hb o z).2
          refine thnF (gE.run _ u15 σ15 G15 _ I15 q15) fun z u17 ⟨yv, G17, I17, r17, b, kk, L, ey, hb, hDL, hL, few, nx⟩ => ?_
          subst ey
          cases r17
          exact add_inv (X := X.blk s3 H3 sc ce fp) I17 hDL hL hb (by show X.A.units + 2 < cLine; omega) few fun L' u18 p I18 => fin1 I18 (nx L' p)
      exact start_inner loop1 (T1.self X.A 0 _ _ _ st11 loop1)
  exact codeAny_compStart_set loop (T.self X.A 0 _ _ _ st4 loop)
theorem pe_sc2 {el ta ea tb eb : Expr} {sc : Scope} {own : List (Str × Nat)} {vs1 : List Nat} {ps : Pos} {wa wb : TI} {ga gb : TG} {te : TE} (hc : X.calm = true) (hu : X.A.units + 64 < cLine) (hN : X.N.Nodup) (pa : PI X ta ea wa) (ok : BlkOk X.N X.env.scope sc own) (hv : ∀ i ∈ vs1, i ∈ own.map (·.2))
    (pga : ∀ (s : Shared) (H : Hp) (C : Addr) (cl : List (Str × Addr)) (fp : List Addr), PG (X.blk s H sc (compEnvC sc cl C X.env) fp) ta ga)
    (pb : ∀ (s : Shared) (H : Hp) (C : Addr) (cl : List (Str × Addr)) (fp : List Addr), PI (X.blk s H sc (compEnvC sc cl C X.env) fp) tb eb wb)
    (pgb : ∀ (s : Shared) (H : Hp) (C : Addr) (cl : List (Str × Addr)) (fp : List Addr), PG (X.blk s H sc (compEnvC sc cl C X.env) fp) tb gb)
    (pe : ∀ (s : Shared) (H : Hp) (C : Addr) (cl : List (Str × Addr)) (fp : List Addr), PE (X.blk s H sc (compEnvC sc cl C X.env) fp) el te)
    (fa : ∀ x, foldedSetIterable ea X.env x = pure x := by intro _; rfl) (fb : ∀ ev x, foldedSetIterable eb ev x = pure x := by intro _ _; rfl) (eK : X.K = K := by rfl) (eP : X.prog = P := by rfl) (ew : X.w = w := by rfl) :
    PE X (sc2 el ta ea tb eb sc ps) (tSc2 K P w wa ga wb gb te (own.map (·.2)) vs1) := by
  refine ⟨fun pins s σ H Q I h => ?_⟩
  rw [arm_eval_SetComp]
  refine sc2_all hc hu hN I pa ok hv pga pe pb pgb fa fb eK eP ew h fun D C u m H' I' q hn f => ⟨m, hn, fun g sb => ?_⟩
  obtain ⟨f0, f1, f2, f3, f4, f5⟩ := f
  exact ⟨.ref D, H', I'.turned (t' := u.toks) (fun b o hb z => (sb.2 b hb).trans z) f0 f1 f3 f4 f5, rfl, q⟩
theorem ps_setSc2 {i : Nat} {y : Str} {py : Pos} {el ta ea tb eb : Expr} {sc : Scope} {own : List (Str × Nat)} {vs1 : List Nat} {ps sp : Pos} {wa wb : TI} {ga gb : TG} {te : TE} (hc : X.calm = true) (hu : X.A.units + 64 < cLine) (hN : X.N.Nodup) (hy : X.N[i]? = some y) (hyl : X.env.scope.names.lookup y = some .local)
    (hsw : swapsWith (sc2 el ta ea tb eb sc ps) (some (.Name y py)) sp.line X.env = pure true) (pa : PI X ta ea wa) (ok : BlkOk X.N X.env.scope sc own) (hv : ∀ i ∈ vs1, i ∈ own.map (·.2))
    (pga : ∀ (s : Shared) (H : Hp) (C : Addr) (cl : List (Str × Addr)) (fp : List Addr), PG (X.blk s H sc (compEnvC sc cl C X.env) fp) ta ga)
    (pb : ∀ (s : Shared) (H : Hp) (C : Addr) (cl : List (Str × Addr)) (fp : List Addr), PI (X.blk s H sc (compEnvC sc cl C X.env) fp) tb eb wb)
    (pgb : ∀ (s : Shared) (H : Hp) (C : Addr) (cl : List (Str × Addr)) (fp : List Addr), PG (X.blk s H sc (compEnvC sc cl C X.env) fp) tb gb)
    (pe : ∀ (s : Shared) (H : Hp) (C : Addr) (cl : List (Str × Addr)) (fp : List Addr), PE (X.blk s H sc (compEnvC sc cl C X.env) fp) el te)
    (fa : ∀ x, foldedSetIterable ea X.env x = pure x := by intro _; rfl) (fb : ∀ ev x, foldedSetIterable eb ev x = pure x := by intro _ _; rfl) (eK : X.K = K := by rfl) (eP : X.prog = P := by rfl) (ew : X.w = w := by rfl) :
    PS X (.Assign [.Name y py] (sc2 el ta ea tb eb sc ps) sp) (tAsg (tSc2 K P w wa ga wb gb te (own.map (·.2)) vs1) (gName i)) := by
  refine ⟨fun pins s σ H D I h => ?_⟩
  rw [exec_Assign_Name_used _ _ _ _ hsw]
  refine wpAny_bind (wpAny_standAt (wpAny_bind ?_))
  show wpAny _ X.A (do let _ ← comprehension (sc2 el ta ea tb eb sc ps) sc X.env (firstIterPos [⟨ta, ea, [], 0⟩, ⟨tb, eb, [], 0⟩] ps) (newSet (.type "set")) false (eval ea X.env) (some (assign (.Name y py) X.env))) _ _ s
  have h : tSc2 K P w wa ga wb gb te (own.map (·.2)) vs1 σ H (fun x H1 => gName i x σ H1 D.nx) := h
  refine wpAny_bind (thn (sc2_all (Qf := fun _ u => SP X pins D .next u) hc hu hN I pa ok hv pga pe pb pgb fa fb eK eP ew h fun L C u m H' I' q hn f => ?_) fun _ u hq => wpAny_pure (wpAny_pure hq))
  show wpAny _ _ (assign (.Name y py) X.env (.ref L)) _ _ _
  refine wpAny_assign_Name (store_ok2 (v := V.ref L) I' hN hy (.inl hyl) rfl (fun s2 I2 ⟨a, sb, ha⟩ => ?_) (.inr hyl))
  obtain ⟨f0, f1, f2, f3, f4, f5⟩ := f
  have haC : C ≠ a := ha.elim (fun z => by rw [z]; exact f1) fun z e => f4 y a z e.symm
  exact ⟨m, hn.sameBut sb haC, fun g sb3 => ⟨_, H', I2.turned (t' := s2.toks) (fun b o hb z => (sb3.2 b hb).trans z) f0 f1 f3 f4 f5, q⟩⟩
end
end Fm
/-! Dicts whose keys are tuples of ints (of any make: SqT): made of a row, displayed, asked, walked, told more, sorted. -/
namespace Fm
open PySem PySem.Spec PyProof.Rows L2 PySem.W
abbrev Ent := List Int × Addr × Value
section
variable {P : Program} {w : World} {h h' : Heap} {a : Addr} {xs : List Ent}
/-- the object at a, its keys' own tuples aside -/
def DRaw (P : Program) (w : World) (h : Heap) (a : Addr) (xs : List Ent) : Prop := (a == sysModules) = false ∧ (xs.map (·.1)).Nodup ∧ ∃ o es ep, h.get? a = some o ∧ o.ExactDict ∧ o.data = .dict es ep ∧ es.toList = xs.map (entryOfKey (TK P w))
def DTO (P : Program) (w : World) (a : Addr) (F : List Ent → Prop) : HO := .ext fun h => ∃ xs, F xs ∧ DRaw P w h a xs
theorem DRaw.full (d : DRaw P w h a xs) (ht : ∀ x ∈ xs, IsT P w h x.1 x.2.1) : h.DictOfH (TK P w) a xs := by
  obtain ⟨_, nd, o, es, ep, h1, h2, h3, h4⟩ := d
  exact ⟨o, es, ep, h1, h2, h3, h4, ht, nd⟩
theorem raw_of (m : h.DictOfH (TK P w) a xs) (hs : (a == sysModules) = false) : DRaw P w h a xs := by
  obtain ⟨o, es, ep, h1, h2, h3, h4, _, nd⟩ := m
  exact ⟨hs, nd, o, es, ep, h1, h2, h3, h4⟩
theorem dto_ok {F : List Ent → Prop} {H : Hp} (hF : F xs) (d : DRaw P w h a xs) : ObjOk P w H h a (DTO P w a F) := by
  have ⟨_, _, o, es, ep, h1, _⟩ := d
  refine ⟨⟨xs, hF, d⟩, ⟨o, h1⟩, fun g1 g2 p k => ?_⟩
  have ⟨ys, hy, hs, nd, o', es', ep', k1, r⟩ := p
  exact ⟨ys, hy, hs, nd, o', es', ep', k _ k1, r⟩
/-- its keys, where they stand -/
def KeyF (L : List (Addr × List Int)) : List Ent → Prop := fun xs => xs.map (fun x => (x.2.1, x.1)) = L
/-- its keys and what they have -/
def ValF (L : List (Addr × List Int × V)) : List Ent → Prop := fun xs => Paired (fun p (x : Ent) => x.2.1 = p.1 ∧ x.1 = p.2.1 ∧ RelV p.2.2 x.2.2) L xs
theorem ValF.keys {L : List (Addr × List Int × V)} {xs : List Ent} (h : ValF L xs) : xs.map (fun x => (x.2.1, x.1)) = L.map fun p => (p.1, p.2.1) := by
  unfold ValF at h
  induction h with
  | nil => rfl
  | cons r _ ih => rw [List.map_cons, List.map_cons, ih, r.1, r.2.1]
theorem ValF.find {L : List (Addr × List Int × V)} {xs : List Ent} (h : ValF L xs) (k : List Int) : RelO ((L.find? fun p => decide (p.2.1 = k)).map (·.2.2)) ((atKey xs k).map (·.2)) := by
  unfold ValF at h
  induction h with
  | nil => exact True.intro
  | @cons p x ps qs r _ ih =>
    obtain ⟨_, r2, r3⟩ := r
    by_cases e : p.2.1 = k
    · have b : atKey (x :: qs) k = some x.2 := by simp [atKey, List.find?_cons, r2, e]
      rw [b, List.find?_cons]
      simp only [e, decide_true, Option.map_some]
      exact r3
    · have b : atKey (x :: qs) k = atKey qs k := by simp [atKey, List.find?_cons, r2, e]
      rw [b, List.find?_cons]
      simp only [e, decide_false]
      exact ih
end
section
variable {X : Cx} {K : PySem.W.Frag} {P : Program} {w : World} {pins : List (Addr × Obj)} {σ : L2.St} {H : Hp} {s : Shared}
theorem Inv.dto {F : List Ent → Prop} {a : Addr} (I : Inv X pins σ H s) (h : Rd H a (DTO X.prog X.w a F)) : ∃ xs, F xs ∧ DRaw X.prog X.w s.heap a xs := (h.ok I.hok).1
/-- tuple(l), the new tuple's object known to have no dict -/
def rTupF (K : PySem.W.Frag) : List V → Hp → VK → Prop := fun xs H Q => ∃ p ys, xs = [.ref p] ∧ SqL K H p ys ∧ ∀ l o, H l = none → o.dict = none → Q (.ref l) (upd H l (.frz o (.tup ys)))
theorem call_tupF (eK : X.K = K := by rfl) : CallR X (.type "tuple") (rTupF K) := by
  subst eK
  intro pins s σ H xs us Q I r h
  obtain ⟨p, ys, rfl, hq, q⟩ := h
  rw [Vals.ref1 r]
  obtain ⟨its, r', pl, hz⟩ := I.list hq
  have hlen := r'.length
  refine call_tuple_list pl.isList (fun h' kp => ?_) (by simp only [List.size_toArray] <;> omega)
  have I1 : Inv X pins σ H { s with heap := h' } := I.kept (t' := s.toks) kp
  refine ⟨.ref h'.objs.size, upd H h'.objs.size (.frz { cls := .type "tuple", data := .seq its.toArray } (.tup ys)), I1.laid (t' := s.toks) (fun b o e => Heap.get?_push_of_some _ e) (Nat.le_refl _) ?_, rfl, q _ _ (I1.hok.fresh (Nat.le_refl _)) rfl⟩
  exact ⟨Heap.get?_push_size _ rfl, hz, its, r', IsTup.new _ _⟩
/-- what a row of pairs holds: the pair's address, the key's, the key, the value -/
abbrev Prs := List (Addr × Addr × List Int × V)
def PrsAt (K : PySem.W.Frag) (H : Hp) (M : Prs) : Prop := ∀ m ∈ M, SqT K H m.1 [.ref m.2.1, m.2.2.2] ∧ SqT K H m.2.1 (m.2.2.1.map V.int)
theorem prs_vals (I : Inv X pins σ H s) : ∀ {M : Prs}, PrsAt X.K H M → ∃ N : List ((Addr × Addr × List Int × V) × Value), N.map (·.1) = M ∧ ∀ n ∈ N, RelV n.1.2.2.2 n.2 ∧ IsTup s.heap n.1.1 #[.ref n.1.2.1, n.2] ∧ IsT X.prog X.w s.heap n.1.2.2.1 n.1.2.1
  | [], _ => ⟨[], rfl, fun n hn => (by cases hn)⟩
  | m :: M, h => by
    obtain ⟨N, e, hN⟩ := prs_vals I (M := M) fun z hz => h z (List.mem_cons_of_mem _ hz)
    obtain ⟨h1, h2⟩ := h m List.mem_cons_self
    obtain ⟨its, rv, pt, _⟩ := I.tuple h1
    cases rv with
    | cons r1 rr =>
      cases rr with
      | cons r2 rn =>
        cases rn
        cases r1
        rename_i u
        refine ⟨(m, u) :: N, by rw [List.map_cons, e], fun n hn => ?_⟩
        rcases List.mem_cons.mp hn with z | z
        · rw [z]
          exact ⟨r2, pt, Inv.isT I h2⟩
        · exact hN n z
theorem refs_vals {α : Type} {f : α → Addr} : ∀ {M : List α} {us : List Value}, Vals (M.map fun m => V.ref (f m)) us → us = M.map fun m => Value.ref (f m)
  | [], _, .nil => rfl
  | _ :: _, _, .cons r t => by
    cases r
    rw [refs_vals t] <;> rfl
theorem nodup_ent {M : Prs} {N : List ((Addr × Addr × List Int × V) × Value)} (e : N.map (·.1) = M) : ((N.map fun n => ((n.1.2.2.1, n.1.2.1, n.2) : Ent)).map (·.1)) = M.map fun m => m.2.2.1 := by
  rw [← e, List.map_map, List.map_map]
  rfl
theorem valF_of {M : Prs} {N : List ((Addr × Addr × List Int × V) × Value)} (e : N.map (·.1) = M) (hN : ∀ n ∈ N, RelV n.1.2.2.2 n.2) : ValF (M.map (·.2)) (N.map fun n => ((n.1.2.2.1, n.1.2.1, n.2) : Ent)) := by
  subst e
  unfold ValF
  induction N with
  | nil => exact .nil
  | cons n N ih =>
    rw [List.map_cons, List.map_cons, List.map_cons]
    exact .cons ⟨rfl, rfl, hN n List.mem_cons_self⟩ (ih fun z hz => hN z (List.mem_cons_of_mem _ hz))
theorem tsAt {N : List ((Addr × Addr × List Int × V) × Value)} {j : Nat} {n : (Addr × Addr × List Int × V) × Value} (h : N[j]? = some n) : ((N[j]?).map (·.1.1)).getD 0 = n.1.1 := by rw [h] <;> rfl
theorem prs_items {h : Heap} {N : List ((Addr × Addr × List Int × V) × Value)} {its : List Value} (e : its = N.map fun n => Value.ref n.1.1) (hN : ∀ n ∈ N, IsTup h n.1.1 #[.ref n.1.2.1, n.2]) :
    PairItems h its.toArray (fun j => ((N[j]?).map (·.1.1)).getD 0) (N.map fun n => (Value.ref n.1.2.1, n.2)) := by
  refine ⟨by rw [e] <;> simp, fun j k v hj => ?_⟩
  rw [List.getElem?_map] at hj
  obtain ⟨n, hn, en⟩ := Option.map_eq_some_iff.mp hj
  cases en
  refine ⟨?_, ?_⟩
  · rw [e]
    simp [hn]
  · show PairAt h (((N[j]?).map (·.1.1)).getD 0) _ _
    rw [tsAt hn]
    exact .inl (hN n (List.mem_of_getElem? hn))
theorem prs_have {N : List ((Addr × Addr × List Int × V) × Value)} : PairsHaveH (TK P w) (N.map fun n => (Value.ref n.1.2.1, n.2)).length (PairRel (N.map fun n => (Value.ref n.1.2.1, n.2))) (N.map fun n => ((n.1.2.2.1, n.1.2.1, n.2) : Ent)) := by
  refine ⟨by simp, fun i key v hi => ?_⟩
  have hi' : (N.map fun n => (Value.ref n.1.2.1, n.2))[i]? = some (key, v) := hi
  rw [List.getElem?_map] at hi'
  obtain ⟨n, hn, en⟩ := Option.map_eq_some_iff.mp hi'
  cases en
  exact ⟨n.1.2.2.1, n.1.2.1, by rw [List.getElem?_map, hn] <;> rfl, rfl⟩
/-- dict(row) -/
def rDictT (K : PySem.W.Frag) (P : Program) (w : World) : List V → Hp → VK → Prop := fun xs H Q => ∃ (a : Addr) (o : Obj) (M : Prs), xs = [V.ref a] ∧ H a = some (.frz o (.tup (M.map fun m => V.ref m.1))) ∧ o.dict = none ∧ PrsAt K H M ∧ (M.map fun m => m.2.2.1).Nodup ∧ M.length ≤ 1000 ∧
  ∀ d, H d = none → Q (.ref d) (upd H d (DTO P w d (ValF (M.map (·.2)))))
theorem call_dictT (hc : X.calm = true) (hu : X.A.units + 64 < cLine) (eK : X.K = K := by rfl) (eP : X.prog = P := by rfl) (ew : X.w = w := by rfl) : CallR X (.type "dict") (rDictT K P w) := by
  subst eK eP ew
  intro pins s σ H xs us Q I r h
  obtain ⟨a, o, M, rfl, ha, od, hM, nd, few, q⟩ := h
  rw [Vals.ref1 r]
  obtain ⟨N, e, hN⟩ := prs_vals I hM
  obtain ⟨hget, hz, its, rv, ob, hob, hcls, n, hdat⟩ := I.hok a _ ha
  rw [hget] at hob
  cases hob
  have hi : its = N.map fun n => Value.ref n.1.1 := by
    have := refs_vals rv
    rw [this, ← e, List.map_map]
    rfl
  have ok : PlainSeq "tuple" s.heap a its.toArray ∧ PairItems s.heap its.toArray (fun j => ((N[j]?).map (·.1.1)).getD 0) (N.map fun n => (Value.ref n.1.2.1, n.2)) := ⟨⟨o, n, hget, hcls, od, hdat⟩, prs_items hi fun n hn => (hN n hn).2.1⟩
  have hlen : N.length = M.length := by rw [← e, List.length_map]
  refine call_dict_pairsH (PairArg.tuple a its.toArray _ _) (I.ok.hd hc) (show X.A.units + 1 + 1 < cLine by omega) ok prs_have (fun g hk x hx => ?_) (by rw [List.length_map, sizeLine_eq]; omega) fun g tk hd hk => ?_
  · obtain ⟨n, hn, ex⟩ := List.mem_map.mp hx
    subst ex
    obtain ⟨ob, it, m, k1, r⟩ := (hN n hn).2.2
    exact ⟨ob, it, m, hk _ _ (Nat.ne_of_lt (Heap.lt_size k1)) (by simp) k1, r⟩
  · rw [storedAllH_nil_of_nodup _ (by rw [nodup_ent e]; exact nd)] at hd
    have hn : H s.heap.objs.size = none := I.hok.fresh (Nat.le_refl _)
    exact ⟨.ref s.heap.objs.size, _, I.laid (a := s.heap.objs.size) (t' := tk) (fun b ob z => hk b ob (by simp) z) (Nat.le_refl _) (dto_ok (valF_of e fun n hn => (hN n hn).1) (raw_of hd (beq_eq_false_iff_ne.mpr (Ne.symm (Nat.ne_of_lt I.big))))), rfl, q _ hn⟩
end
end Fm
namespace Fm
open PySem PySem.Spec PyProof.Rows L2 PySem.W
section
variable {X : Cx} {K : PySem.W.Frag} {P : Program} {w : World} {pins : List (Addr × Obj)} {σ : L2.St} {H : Hp} {s : Shared}
/-! ### {k: v}, k a tuple of ints -/
def tDispT (K : PySem.W.Frag) (P : Program) (w : World) (tk tv : TE) : TE := fun σ H Q => ∀ p, H p = none → tk σ (upd H p (DTO P w p (KeyF []))) fun x H1 => tv σ H1 fun y H2 => ∃ (b : Addr) (q : List Int) (z : V), [(x, y)] = [(V.ref b, z)] ∧ H2 p = some (DTO P w p (KeyF [])) ∧
  SqT K H2 b (q.map V.int) ∧ Q (.ref p) (upd H2 p (DTO P w p (KeyF [(b, q)])))
theorem keyF_nil {xs : List Ent} (h : KeyF [] xs) : xs = [] := List.map_eq_nil_iff.mp h
theorem pe_dispT {pos : Pos} {k v : Expr} {tk tv : TE} (hu : X.A.units + 64 < cLine) (hk : PE X k tk) (hv : PE X v tv) (hshape : (evalEachOpt [some k] X.env).zip ((evalEach [v] X.env).map fun z => do let y ← z; standAt pos; pure y) = (pairTrees [some k] [v] X.env pos).map fun p => (some p.1, p.2) := by rfl)
    (hl : (pairTrees [some k] [v] X.env pos).length ≤ 15 := by decide) (h0 : pairTrees [some k] [v] X.env pos ≠ [] := by intro z; cases z) (eK : X.K = K := by rfl) (eP : X.prog = P := by rfl) (ew : X.w = w := by rfl) :
    PE X (.Dict [some k] [v] pos) (tDispT K P w tk tv) := by
  subst eK eP ew
  refine ⟨fun pins s σ H Q I h => ?_⟩
  have hn := I.hok.fresh (Nat.le_refl s.heap.objs.size)
  have hs : (s.heap.objs.size == sysModules) = false := beq_eq_false_iff_ne.mpr (Ne.symm (Nat.ne_of_lt I.big))
  have I1 : Inv X pins σ (upd H s.heap.objs.size (DTO X.prog X.w s.heap.objs.size (KeyF []))) { s with heap := s.heap.push { cls := .type "dict", data := .dict #[] } } :=
    I.laid (t' := s.toks) (fun _ _ z => Heap.get?_push_of_some _ z) (Nat.le_refl _) (dto_ok (xs := []) rfl (raw_of (Heap.DictOfH.new s.heap) hs))
  have run : PPs X pos [some k] [v] [(tk, tv)] := pps_cons hk hv pps_nil
  rw [arm_eval_Dict, hshape, dictDisplay_pairs _ h0 (by omega)]
  refine wpAny_bind (wpAny_standAt (wpAny_bind (wpAny_subDictH (knd := TK X.prog X.w) (Q := fun d u => wpAny (model X.prog X.w) X.A (pure (Value.ref d)) (fun v s' => EP X pins σ Q v s') X.xe u) (show X.A.units < cLine by omega) hl
    (thn (run.run pins _ σ _ (fun ps H2 => ∃ (b : Addr) (q : List Int) (z : V), ps = [(V.ref b, z)] ∧ H2 s.heap.objs.size = some (DTO X.prog X.w s.heap.objs.size (KeyF [])) ∧ SqT X.K H2 b (q.map V.int) ∧ Q (.ref s.heap.objs.size) (upd H2 s.heap.objs.size (DTO X.prog X.w s.heap.objs.size (KeyF [(b, q)])))) I1 ?_) fun ws s2 ⟨ps, H2, I2, rel, b, q, z, ep, hp, hb, qq⟩ => ?_))))
  · show tk _ _ _
    exact h _ hn
  · subst ep
    cases rel with
    | @cons p kv ps qs r t =>
      cases t
      obtain ⟨k1, v1⟩ := kv
      obtain ⟨r1, r2⟩ := r
      cases r1
      obtain ⟨xs, hF, hd⟩ := Inv.dto I2 (.inl hp)
      rw [keyF_nil hF] at hd
      have hk1 : IsT X.prog X.w s2.heap q b := Inv.isT I2 hb
      refine ⟨[(q, b, v1)], ⟨rfl, rfl, hk1, trivial⟩, hd.full fun z hz => (by cases hz), fun h' tk' hm hs' => wpAny_pure ?_⟩
      have he : ∃ u, h'.get? s.heap.objs.size = some u := by
        obtain ⟨o, es, ep, z, _⟩ := hm
        exact ⟨o, z⟩
      exact ⟨.ref s.heap.objs.size, _, I2.write (e := s.heap.objs.size) (t' := tk') (by rw [hp]; trivial) (.inl rfl) (fun c u hc hu => (hs'.2 c hc).trans hu) he (dto_ok (F := KeyF [(b, q)]) (xs := [(q, b, v1)]) rfl (raw_of hm hs)), rfl, qq⟩
/-! ### d.get(k, z) -/
def tDGetT (K : PySem.W.Frag) (P : Program) (w : World) (td ty tx : TE) : TE := fun σ H Q => td σ H fun x H1 => (∃ a F, x = .ref a ∧ H1 a = some (DTO P w a F)) ∧ ty σ H1 fun y H2 => tx σ H2 fun z H3 =>
  ∃ (a b : Addr) (L : List (Addr × List Int × V)) (q : List Int), x = .ref a ∧ y = .ref b ∧ H3 a = some (DTO P w a (ValF L)) ∧ (∀ p ∈ L, SqT K H3 p.1 (p.2.1.map V.int)) ∧ SqT K H3 b (q.map V.int) ∧ Q (((L.find? fun p => decide (p.2.1 = q)).map (·.2.2)).getD z) H3
theorem valF_mem {L : List (Addr × List Int × V)} {xs : List Ent} (h : ValF L xs) : ∀ x ∈ xs, ∃ p ∈ L, x.2.1 = p.1 ∧ x.1 = p.2.1 := by
  unfold ValF at h
  induction h with
  | nil => intro x hx; cases hx
  | @cons p x ps qs r _ ih =>
    intro z hz
    rcases List.mem_cons.mp hz with e | e
    · rw [e]
      exact ⟨p, List.mem_cons_self, r.1, r.2.1⟩
    · obtain ⟨p', hp', r'⟩ := ih z e
      exact ⟨p', List.mem_cons_of_mem _ hp', r'⟩
theorem pe_dgetT {o e f : Expr} {apos cpos : Pos} {td ty tx : TE} (hu : X.A.units + 64 < cLine) (ho : PE X o td) (he : PE X e ty) (hf : PE X f tx) (m : M2 X o "get" apos e f cpos) (eK : X.K = K := by rfl) (eP : X.prog = P := by rfl) (ew : X.w = w := by rfl) :
    PE X (.Call (.Attribute o "get" apos) [e, f] [] cpos) (tDGetT K P w td ty tx) := by
  subst eK eP ew
  refine ⟨fun pins s σ H Q I h => ?_⟩
  refine wpAny_Call_method m.base m.few m.line F.plainAttrs_dict F.slot_dict_get F.type_dict_get (thn (ho.run pins s σ H _ I h) fun u s1 ⟨x, H1, I1, rx, ⟨a, G, ex, hd⟩, q1⟩ => ?_)
  subst ex
  cases rx
  obtain ⟨xs, _, sysm, _, ob, es, ep, g1, g2, _⟩ := Inv.dto I1 (.inl hd)
  refine ⟨⟨ob, g1, g2.1⟩, fun c z => (by cases z; exact ⟨ob, g1, g2.2.1⟩), ?_⟩
  rw [m.trees]
  refine Calls.callWith_builtin rfl (Calls.evalArgs_plain (Calls.spliced_cons (thn (he.run pins s1 σ H1 _ I1 q1) fun iv s2 ⟨y, H2, I2, ry, q2⟩ =>
    Calls.spliced_cons (thn (hf.run pins s2 σ H2 _ I2 q2) fun fv s3 ⟨z, H3, I3, rz, a', b, L, q, ea, eb, hd3, hL, hb, q3⟩ => Calls.spliced_nil ?_))))
  cases ea
  subst eb
  cases ry
  obtain ⟨ys, hF, hraw⟩ := Inv.dto I3 (.inl hd3)
  have hkeys : ∀ x ∈ ys, IsT X.prog X.w s3.heap x.1 x.2.1 := fun x hx => by
    obtain ⟨p, hp, e1, e2⟩ := valF_mem hF x hx
    rw [e1, e2]
    exact Inv.isT I3 (hL p hp)
  have dd := hraw.full hkeys
  refine call_meetsIn F.slot_dict_get dd.typeIs F.entry_dict_get (F.args_dict_get_3 _ _ _) (meetsH_dict_get_default (TK X.prog X.w) a b hraw.1 fv) ⟨show X.A.units + 1 < cLine by omega, q, ys, Inv.isT I3 hb, dd, ?_⟩
  exact ⟨_, H3, I3.tok _, (hF.find q).getD rz, q3⟩
/-! ### for k in d -/
def ItkO (P : Program) (w : World) (d : Addr) (o : Obj) (G : List Ent → Prop) (L : List Addr) : It := ⟨fun i H => H d = some (.frz o (DTO P w d G)) ∧ i < L.length, fun i H x H' => H' = H ∧ ∃ a, L[i]? = some a ∧ x = .ref a, fun i H => H d = some (.frz o (DTO P w d G)) ∧ L.length ≤ i⟩
theorem Inv.frzO {G : List Ent → Prop} {d : Addr} {o : Obj} {L : List Addr} (I : Inv X pins σ H s) (h : H d = some (.frz o (DTO X.prog X.w d G))) (hG : ∀ xs, G xs → xs.map (·.2.1) = L) :
    (d == sysModules) = false ∧ s.heap.get? d = some o ∧ o.ExactDict ∧ ∃ (es : Array DictEntry) (ep : Nat), o.data = .dict es ep ∧ es.size = L.length ∧ ∀ (i : Nat) a, L[i]? = some a → ∃ en, es[i]? = some en ∧ en.key = .ref a := by
  obtain ⟨g0, ⟨xs, hx, sy, _, o', es, ep, g1, g2, g3, g4⟩, _⟩ := I.hok d _ h
  rw [g0] at g1
  cases g1
  have e := hG xs hx
  refine ⟨sy, g0, g2, es, ep, g3, by rw [size_of_entries g4, ← e, List.length_map], fun i a hi => ?_⟩
  rw [← e, List.getElem?_map] at hi
  obtain ⟨x, hx, rfl⟩ := Option.map_eq_some_iff.mp hi
  exact ⟨_, by rw [entry_at g4, hx] <;> rfl, rfl⟩
theorem turn_keysO {tg : Expr} {d : Addr} {o : Obj} {G : List Ent → Prop} {L : List Addr} {es : Array DictEntry} {ep : Nat} (it : Addr) (hod : o.data = .dict es ep) (hG : ∀ xs, G xs → xs.map (·.2.1) = L) : Turn P w K tg (ItkO P w d o G L) [it] it (fun i h => h.IsKeyIter it d i L.length ep) where
  mem := List.mem_singleton.mpr rfl
  obj := fun i h st b hb => by
    rw [List.mem_singleton.mp hb]
    obtain ⟨oi, e, c, dd⟩ := st
    exact ⟨oi, e, fun v z => by rw [dd] at z; cases z⟩
  keep := fun i h h' st k => st.at fun oi e => k it (List.mem_singleton.mpr rfl) oi e
  item := by
    intro X hP hw hK hc i pins s σ H E I hf st hg
    subst hP hw hK
    obtain ⟨hd, hi⟩ := hg
    obtain ⟨f0, f1, f2, f3, f4, f5⟩ := hf it (List.mem_singleton.mpr rfl)
    obtain ⟨_, g0, _, es', ep', hdt, hsz, ent⟩ := Inv.frzO I hd hG
    obtain ⟨rfl, rfl⟩ := dict_ep hod hdt
    obtain ⟨en, hen, hkey⟩ := ent i _ (List.getElem?_eq_getElem hi)
    refine next_key_item st g0 hdt hsz hen fun h' st' sb => ?_
    have I1 : Inv X pins σ H { s with heap := h' } := I.turned (t' := s.toks) (fun b ob hb e => (sb.2 b hb).trans e) f0 f1 f3 f4 f5
    obtain ⟨oi, e, c, dd⟩ := id st'
    rw [hkey]
    exact ⟨_, rfl, go_of (s := { s with heap := h' }) e c dd (by decide) ⟨.ref _, H, I1, rfl, ⟨rfl, _, List.getElem?_eq_getElem hi, rfl⟩, st', fun b hb => (hf b hb).1⟩⟩
  done := by
    intro X hP hw hK hc i pins s σ H E I hf st hg
    subst hP hw hK
    obtain ⟨hd, hi⟩ := hg
    obtain ⟨f0, f1, f2, f3, f4, f5⟩ := hf it (List.mem_singleton.mpr rfl)
    obtain ⟨_, g0, _, es', ep', hdt, hsz, _⟩ := Inv.frzO I hd hG
    obtain ⟨rfl, rfl⟩ := dict_ep hod hdt
    exact next_key_end (I.ok.hd hc) st g0 hdt hsz hi fun h' eb => ⟨rfl, I.turned (t' := s.toks) (fun b ob hb e => eb b ob hb e) f0 f1 f3 f4 f5⟩
  self := fun A i s Q E st h => wpAny_pyIter_keyiter st h
def iKeysO (P : Program) (w : World) (td : TE) : TI := fun σ H R => td σ H fun x H1 => ∃ d o G L, x = .ref d ∧ H1 d = some (.frz o (DTO P w d G)) ∧ (∀ xs, G xs → xs.map (·.2.1) = L) ∧ R (ItkO P w d o G L) H1
theorem pi_keysO {tg e : Expr} {td : TE} (he : PE X e td) (eP : X.prog = P := by rfl) (ew : X.w = w := by rfl) : PI X tg e (iKeysO P w td) := by
  subst eP ew
  refine ⟨fun pins s σ H R I h => ?_⟩
  refine thn (he.run pins s σ H _ I h) fun u s1 ⟨x, H1, I1, rx, d, o, G, L, ex, hd, hG, q⟩ => ?_
  subst ex
  cases rx
  obtain ⟨sy, g0, g1, es, ep, hdt, hsz, _⟩ := Inv.frzO I1 hd hG
  refine iter_keys sy g0 g1 hdt (pi_one (tk := s1.toks) I1 _ (turn_keysO _ hdt hG) ⟨_, Heap.get?_push_size _ rfl, rfl, ?_⟩ q)
  rw [hsz] <;> rfl
/-! ### d.update(l), l a list of pairs -/
theorem stored_keys {xs : List Ent} {k : List Int} {a : Addr} {v : Value} (q : List Int) : q ∈ (storedH xs k a v).map (·.1) ↔ q ∈ xs.map (·.1) ∨ q = k := by
  unfold storedH
  by_cases h : (atKey xs k).isSome = true
  · rw [if_pos h]
    have e : (xs.map (putAt k v)).map (·.1) = xs.map (·.1) := by
      rw [List.map_map]
      refine List.map_congr_left fun x _ => ?_
      show (putAt k v x).1 = x.1
      unfold putAt
      split <;> rfl
    rw [e]
    refine ⟨.inl, fun z => z.elim id fun z => ?_⟩
    rw [z]
    unfold atKey at h
    rw [Option.isSome_map] at h
    obtain ⟨x, hx⟩ := Option.isSome_iff_exists.mp h
    have h1 := List.mem_of_find?_eq_some hx
    have h2 := List.find?_some hx
    exact List.mem_map.mpr ⟨x, h1, by simpa using h2⟩
  · rw [if_neg h]
    simp
theorem storedAll_keys : ∀ {ps xs : List Ent} (q : List Int), q ∈ (storedAllH xs ps).map (·.1) ↔ q ∈ xs.map (·.1) ∨ q ∈ ps.map (·.1)
  | [], xs, q => by
    show q ∈ xs.map (·.1) ↔ _
    simp
  | p :: ps, xs, q => by
    have := storedAll_keys (ps := ps) (xs := storedH xs p.1 p.2.1 p.2.2) q
    show q ∈ (storedAllH (storedH xs p.1 p.2.1 p.2.2) ps).map (·.1) ↔ _
    rw [this, stored_keys, List.map_cons, List.mem_cons]
    constructor
    · rintro ((h | h) | h)
      · exact .inl h
      · exact .inr (.inl h)
      · exact .inr (.inr h)
    · rintro (h | h | h)
      · exact .inl (.inl h)
      · exact .inl (.inr h)
      · exact .inr h
def rUpdT (K : PySem.W.Frag) (P : Program) (w : World) : V → List V → Hp → VK → Prop := fun x xs H Q => ∃ (d l : Addr) (L : List (Addr × List Int)) (M : Prs), x = .ref d ∧ xs = [.ref l] ∧ H d = some (DTO P w d (KeyF L)) ∧ SqL K H l (M.map fun m => V.ref m.1) ∧ PrsAt K H M ∧ TupsAt K H L ∧ L.length + M.length ≤ 1000 ∧
  ∀ L', (∀ p ∈ L', p ∈ L ∨ p ∈ M.map fun m => (m.2.1, m.2.2.1)) → (∀ q, q ∈ L'.map (·.2) ↔ q ∈ L.map (·.2) ∨ q ∈ M.map fun m => m.2.2.1) → (L'.map (·.2)).Nodup → Q .non (upd H d (DTO P w d (KeyF L')))
theorem mt_updT (hc : X.calm = true) (hu : X.A.units + 64 < cLine) (eK : X.K = K := by rfl) (eP : X.prog = P := by rfl) (ew : X.w = w := by rfl) : MtR X "dict.update" (rUpdT K P w) := by
  subst eK eP ew
  intro pins s σ H x xs v us Q I rx rxs h
  obtain ⟨d, l, L, M, rfl, rfl, hd, hl, hM, hL, few, q⟩ := h
  cases rx
  rw [Vals.ref1 rxs]
  obtain ⟨N, e, hN⟩ := prs_vals I hM
  obtain ⟨its, rv, pl, hz⟩ := I.list hl
  have hi : its = N.map fun n => Value.ref n.1.1 := by
    have := refs_vals rv
    rw [this, ← e, List.map_map]
    rfl
  obtain ⟨ol, nl, g0, gc, gd, gdat⟩ := pl
  obtain ⟨ys, hF, hraw⟩ := Inv.dto I (.inl hd)
  have hyl : ys.length = L.length := by
    have := congrArg List.length hF
    rwa [List.length_map] at this
  have hkeys : ∀ x ∈ ys, IsT X.prog X.w s.heap x.1 x.2.1 := fun x hx => by
    have : (x.2.1, x.1) ∈ L := by
      rw [← hF]
      exact List.mem_map.mpr ⟨x, hx, rfl⟩
    exact Inv.isT I (hL _ this)
  have hlen : N.length = M.length := by rw [← e, List.length_map]
  obtain ⟨sy, nd, od, es, ep, k1, k2, k3, k4⟩ := id hraw
  have ok : PlainSeq "list" s.heap l its.toArray ∧ PairItems s.heap its.toArray (fun j => ((N[j]?).map (·.1.1)).getD 0) (N.map fun n => (Value.ref n.1.2.1, n.2)) := ⟨⟨ol, nl, g0, gc, gd, gdat⟩, prs_items hi fun n hn => (hN n hn).2.1⟩
  have off : d ∉ l :: (List.range (N.map fun n => (Value.ref n.1.2.1, n.2)).length).map fun j => ((N[j]?).map (·.1.1)).getD 0 := by
    intro z
    rcases List.mem_cons.mp z with z | z
    · rw [z, g0] at k1
      cases k1
      rw [gdat] at k3
      cases k3
    · obtain ⟨j, hj, ej⟩ := List.mem_map.mp z
      rw [List.length_map] at hj
      have hj' : N[j]? = some (N[j]'(List.mem_range.mp hj)) := List.getElem?_eq_getElem _
      rw [tsAt hj'] at ej
      obtain ⟨o2, m1, _, n2, m3⟩ := (hN _ (List.getElem_mem (List.mem_range.mp hj))).2.1
      rw [ej, k1] at m1
      cases m1
      rw [k3] at m3
      cases m3
  have stay : ∀ {g : Heap} {k : List Int} {b : Addr}, (∀ b o, b ≠ d → b ∉ ([] : List Addr) → s.heap.get? b = some o → g.get? b = some o) → IsT X.prog X.w s.heap k b → IsT X.prog X.w g k b := fun {g k b} hk x => by
    obtain ⟨ob, it, m, z1, z2, z3, r⟩ := x
    refine ⟨ob, it, m, hk _ _ (fun z => ?_) (by simp) z1, z2, z3, r⟩
    rw [z, k1] at z1
    cases z1
    rw [k3] at z3
    cases z3
  refine call_update_pairsH (PairArg.list l its.toArray _ _) (I.ok.hd hc) (show X.A.units + 1 < cLine by omega) ok off prs_have (fun g hk x hx => ?_) (hraw.full hkeys) (by rw [List.length_map, hyl, sizeLine_eq]; omega) fun g tk hd' hk => ?_
  · rcases List.mem_append.mp hx with z | z
    · exact stay hk (hkeys x z)
    · obtain ⟨n, hn, ex⟩ := List.mem_map.mp z
      subst ex
      exact stay hk (hN n hn).2.2
  · generalize hzs : storedAllH ys (N.map fun n => ((n.1.2.2.1, n.1.2.1, n.2) : Ent)) = zs at hd'
    have he : ∃ u, g.get? d = some u := by
      obtain ⟨o, _, _, z, _⟩ := hd'
      exact ⟨o, z⟩
    have I' : Inv X pins σ (upd H d (DTO X.prog X.w d (KeyF (zs.map fun x => (x.2.1, x.1))))) { s with heap := g, toks := tk } :=
      I.write (e := d) (t' := tk) (by rw [hd]; trivial) (.inl rfl) (fun c u hc hu => hk c u hc (by simp) hu) he (dto_ok rfl (raw_of hd' sy))
    have e1 : (zs.map fun x => (x.2.1, x.1)).map (·.2) = zs.map (·.1) := by rw [List.map_map] <;> rfl
    have e2 : (N.map fun n => ((n.1.2.2.1, n.1.2.1, n.2) : Ent)).map (·.1) = M.map fun m => m.2.2.1 := nodup_ent e
    have e3 : ys.map (·.1) = L.map (·.2) := by rw [← hF, List.map_map] <;> rfl
    refine ⟨.non, _, I', rfl, q _ (fun p hp => ?_) (fun k => ?_) ?_⟩
    · obtain ⟨x, hx, rfl⟩ := List.mem_map.mp hp
      rw [← hzs] at hx
      exact storedAllH_keys (P := fun k a => (a, k) ∈ L ∨ (a, k) ∈ M.map fun m => (m.2.1, m.2.2.1)) (fun x hx => .inl (by rw [← hF]; exact List.mem_map.mpr ⟨x, hx, rfl⟩)) (fun x hx => .inr (by
        obtain ⟨n, hn, ex⟩ := List.mem_map.mp hx
        subst ex
        rw [← e, List.map_map]
        exact List.mem_map.mpr ⟨n, hn, rfl⟩)) x hx
    · rw [e1, ← hzs, storedAll_keys, e2, e3]
    · rw [e1]
      exact hd'.nodup
end
end Fm
/-! sorted of a dict whose keys are tuples of ints of any lengths. -/
namespace Fm
open PySem PySem.Spec PyProof.Rows L2 PySem.W
section
variable {P : Program} {w : World} {A : Around} {E : Value → Shared → Prop} {s : Shared}
theorem refs_each {h : Heap} : ∀ M : List (Addr × List Int), (∀ q ∈ M, IsT P w h q.2 q.1) → EachIs (fun (v : Value) (b : Addr × List Int) => ∃ as, Reads h v (.tuple (b.2.map .int)) as) (M.map fun q => Value.ref q.1) M
  | [], _ => .nil
  | q :: M, h => .cons (by
      obtain ⟨o, its, n, ho, hc, hd, hk⟩ := h q List.mem_cons_self
      exact ⟨_, .tuple ho hc hd (ints_readAll _ (ints_of_items hk))⟩) (refs_each M fun r hr => h r (List.mem_cons_of_mem _ hr))
theorem refs_self : ∀ M : List (Addr × List Int), EachIs (fun (v : Value) (b : Addr × List Int) => v = Value.ref b.1) (M.map fun q => Value.ref q.1) M
  | [] => .nil
  | _ :: M => .cons rfl (refs_self M)
theorem each_refs : ∀ {us : List Value} {M : List (Addr × List Int)}, EachIs (fun (v : Value) (b : Addr × List Int) => v = Value.ref b.1) us M → us = M.map fun q => Value.ref q.1
  | _, _, .nil => rfl
  | _, _, .cons e t => by rw [e, each_refs t, List.map_cons]
theorem sorted_seen {a : Addr} {L : List (Addr × List Int)} {Q : Value → Shared → Prop} (ht : ∀ p ∈ L, IsT P w s.heap p.2 p.1) (nd : (L.map (·.2)).Nodup) (few : L.length < 64) (hu : A.units + 64 < cLine)
    (col : ∀ (E' : Value → Shared → Prop) (R : List Value → Shared → Prop), (∀ h' tk, (∀ b o, s.heap.get? b = some o → h'.get? b = some o) → R (L.map fun p => Value.ref p.1) { s with heap := h', toks := tk }) → wpAny (model P w) A.in1 (collect (.ref a)) R E' s)
    (hQ : ∀ (h1 h' : Heap) (tk : Nat) p (out : Array Value) (c : Nat) (L' : List (Addr × List Int)), (∀ b o, s.heap.get? b = some o → h1.get? b = some o) → (∀ b o, h1.get? b = some o → h'.get? b = some o) → h1.objs.size ≤ p →
      h'.get? p = some (seqObj "list" out c) → out.toList = L'.map (fun q => Value.ref q.1) → L'.Perm L → L'.Pairwise (fun q r => HT.lexLt q.2 r.2 = true) → Q (.ref p) { s with heap := h', toks := tk }) :
    wpAny (model P w) A (call (.builtin "sorted") [.ref a]) Q E s := by
  refine Calls.call_function_entry kind_sorted plain_sorted entry_sorted (args_sorted1 _) ?_
  unfold Builtin.«sorted»
  refine wpAny_bind (m := checkCount "sorted" 1 1 _) (wpAny_pure ?_)
  refine wpAny_bind (col _ _ fun h1 tk1 k1 => ?_)
  obtain ⟨vs, hvs⟩ : ∃ vs, vs = L.map fun p => Value.ref p.1 := ⟨_, rfl⟩
  rw [← hvs]
  have hvl : vs.length < 64 := by rw [hvs, List.length_map]; exact few
  refine wpAny_bind (wpAny_newList ?_ (by rw [sizeLine_eq]; omega))
  have hoL : (h1.push (seqObj "list" vs.toArray 0)).get? h1.objs.size = some (seqObj "list" vs.toArray 0) := Heap.get?_push_size _ rfl
  have up : ∀ b u, s.heap.get? b = some u → (sortingHeap (h1.push (seqObj "list" vs.toArray 0)) h1.objs.size vs).get? b = some u := fun b u z => by
    have q1 := k1 b u z
    exact sortingHeap_old (Nat.ne_of_lt (Heap.lt_size q1)) (Heap.get?_push_of_some _ q1)
  have er := refs_each (P := P) (w := w) (h := sortingHeap (h1.push (seqObj "list" vs.toArray 0)) h1.objs.size vs) L fun q hq => isT_keep (ht q hq) up
  have e0 := refs_self L
  rw [← hvs] at er e0
  have hal : AllAlike (L.map fun b => PyData.tuple (b.2.map .int)) := AllAlike.of fun b b' => by
    show alikeAll (b.2.map .int) (b'.2.map .int) = true
    exact alike_ints _ _
  have S := FmSort.sortsAt_tups (prog := P) (w := w) (A := A.in1.in1) (s := { s with heap := sortingHeap (h1.push (seqObj "list" vs.toArray 0)) h1.objs.size vs, toks := tk1 }) (each_map (R := fun v d => ∃ as, Reads (sortingHeap (h1.push (seqObj "list" vs.toArray 0)) h1.objs.size vs) v d as) (fun b : Addr × List Int => PyData.tuple (b.2.map .int)) er) hal (fun d hd => by
    obtain ⟨b, _, rfl⟩ := List.mem_map.mp hd
    exact ⟨_, rfl⟩) (fun d hd => by
    obtain ⟨b, _, rfl⟩ := List.mem_map.mp hd
    have z : (PyData.tuple (b.2.map .int)).depth = 1 := by
      show PyData.depthAll (b.2.map .int) + 1 = 1
      rw [depth_ints]
    show A.units + 1 + 1 + (PyData.tuple (b.2.map .int)).depth < cLine
    omega)
  refine wpAny_bind (wpAny_holding (wpAny_call_entry slot_list_sort ⟨_, hoL, rfl⟩ entry_list_sort (list_sort_vals (s := { s with heap := h1.push (seqObj "list" vs.toArray 0), toks := tk1 }) hoL S (by rw [sizeLine_eq]; omega) ⟨_, rfl, ?_⟩) (args_list_sort _)))
  have eo := sortVals_data (R := fun (v : Value) (b : Addr × List Int) => v = Value.ref b.1) false e0 er hal
  generalize sortVals (dataKind (sortingHeap (h1.push (seqObj "list" vs.toArray 0)) h1.objs.size vs) (L.map fun b => PyData.tuple (b.2.map .int))) false vs vs = out at eo ⊢
  obtain ⟨c, hc⟩ := sortedHeap_at (vs := vs) (out := out.toArray) hoL
  refine wpAny_pure ⟨_, rfl, hQ h1 _ tk1 h1.objs.size out.toArray c _ k1 (fun b u z => ?_) (Nat.le_refl _) hc (by rw [List.toList_toArray]; exact each_refs eo) (List.mergeSort_perm _ _) (sorted_lt (fun b : Addr × List Int => b.2) L nd)⟩
  have hlt := Heap.lt_size z
  show (sortedHeap (h1.push (seqObj "list" vs.toArray 0)) h1.objs.size vs out.toArray).get? b = some u
  rw [sortedHeap_old (Nat.ne_of_lt hlt) (by rw [size_push']; exact Nat.lt_succ_of_lt hlt)]
  exact Heap.get?_push_of_some _ z
end
section
variable {X : Cx} {K : PySem.W.Frag} {P : Program} {w : World}
def rSortDK (K : PySem.W.Frag) (P : Program) (w : World) : List V → Hp → VK → Prop := fun vs H Q => ∃ (a : Addr) (L : List (Addr × List Int)), vs = [V.ref a] ∧ H a = some (DTO P w a (KeyF L)) ∧ TupsAt K H L ∧ L.length < 64 ∧
  ∀ (L' : List (Addr × List Int)) (p : Addr), L'.Perm L → L'.Pairwise (fun q r => HT.lexLt q.2 r.2 = true) → H p = none → Q (.ref p) (upd H p (.lst (L'.map fun q => V.ref q.1)))
theorem call_sortDK (hc : X.calm = true) (hu : X.A.units + 64 < cLine) (eK : X.K = K := by rfl) (eP : X.prog = P := by rfl) (ew : X.w = w := by rfl) : CallR X (.builtin "sorted") (rSortDK K P w) := by
  subst eK eP ew
  intro pins s σ H vs us Q I r h
  obtain ⟨a, L, rfl, ha, hk, few, q⟩ := h
  rw [Vals.ref1 r]
  obtain ⟨xs, hF, hraw⟩ := Inv.dto I (.inl ha)
  have hT : ∀ p ∈ L, IsT X.prog X.w s.heap p.2 p.1 := fun p hp => Inv.isT I (hk p hp)
  have nd : (L.map (·.2)).Nodup := by
    have e : L.map (·.2) = xs.map (·.1) := by
      rw [← hF, List.map_map]
      rfl
    rw [e]
    exact hraw.2.1
  obtain ⟨sy, _, o, es, ep, k1, k2, k3, k4⟩ := id hraw
  have hxl : xs.length = L.length := by
    rw [← hF, List.length_map]
  have hes : es.size = xs.length := size_of_entries k4
  have dr : s.heap.DictRaw a es ep := ⟨o, k1, k2, k3⟩
  refine sorted_seen hT nd few hu (fun E' R hR => ?_) fun h1 h' tk p out c L' kA kB hp hg hout pm pw => ?_
  · refine kdu_collect (A := X.A.in1) (KdlSrc.rawDict (es := es) (ep := ep) sy) (I.ok.hd hc) dr (by rw [hes, hxl, sizeLine_eq]; omega) fun h' tk acc hk' hacc => ?_
    have e : acc.toList = L.map fun p => Value.ref p.1 := by
      refine List.ext_getElem? fun j => ?_
      rw [← hF, List.map_map, List.getElem?_map]
      cases hx : xs[j]? with
      | none =>
        have hj : xs.length ≤ j := List.getElem?_eq_none_iff.mp hx
        rw [List.getElem?_eq_none (by rw [Array.length_toList, hacc.1, hes]; exact hj)] <;> rfl
      | some x =>
        have hj : j < es.size := by
          rw [hes]
          exact (List.getElem?_eq_some_iff.mp hx).1
        have hj2 : j < acc.size := by rw [hacc.1]; exact hj
        have ha2 : acc[j]? = some acc[j] := Array.getElem?_eq_getElem hj2
        obtain ⟨hi, hv⟩ := hacc.2 j _ ha2
        have he := entry_at k4 j
        rw [hx, Array.getElem?_eq_getElem hi] at he
        have he' := Option.some.inj he
        rw [Array.getElem?_toList, ha2, hv, he'] <;> rfl
    rw [e]
    exact hR h' tk hk'
  · have hfew : L'.length < 64 := by rw [pm.length_eq]; exact few
    have I1 : Inv X pins σ H { s with heap := h1 } := I.kept (t' := s.toks) kA
    have hn : H p = none := I1.hok.fresh hp
    have hlen : (L'.map fun q => V.ref q.1).length ≤ sizeLine := by rw [List.length_map, sizeLine_eq]; omega
    have hv : Vals (L'.map fun q => V.ref q.1) out.toList := by rw [hout]; exact vals_of_refs L'
    exact ⟨.ref p, _, I1.laid (t' := tk) kB hp (show ObjOk X.prog X.w _ h' p (.lst (L'.map fun q => V.ref q.1)) from ⟨hlen, out.toList, c, hv, hg⟩), rfl, q L' p pm pw hn⟩
end
end Fm
namespace Fm
open PySem PySem.Spec PyProof.Rows L2 PySem.W
section
variable {X : Cx} {K : PySem.W.Frag} {P : Program} {w : World}
def tUpdT (K : PySem.W.Frag) (P : Program) (w : World) (to : TE) (t : TA) : TE := fun σ H Q => to σ H fun x H1 => (∃ a G, x = V.ref a ∧ H1 a = some (DTO P w a G)) ∧ t σ H1 fun xs H2 => rUpdT K P w x xs H2 Q
theorem pe_updT {o e : Expr} {to : TE} {t : TA} {apos cpos : Pos} (hc : X.calm = true) (hu : X.A.units + 64 < cLine) (ho : PE X o to) (ha : PA X [e] t)
    (b1 : attributeBase o "update" X.env (eval o X.env) = eval o X.env := by rfl)
    (b2 : ((backTo cpos (starEach [e] X.env)).all (fun x => !x.1) && (backToKw cpos (keywordEach [] X.env)).all (fun x => x.1.isSome) && decide (([e] : List Expr).length + ([] : List Keyword).length + (if ([] : List Keyword).isEmpty then 0 else 1) < 30)) = true := by rfl)
    (b3 : (apos.endLine == cpos.line) = true := by rfl) (b4 : starEach [e] X.env = [(false, eval e X.env)] := by rfl) (eK : X.K = K := by rfl) (eP : X.prog = P := by rfl) (ew : X.w = w := by rfl) :
    PE X (.Call (.Attribute o "update" apos) [e] [] cpos) (tUpdT K P w to t) := by
  subst eK eP ew
  refine ⟨fun pins s σ H Q I h => ?_⟩
  refine wpAny_Call_method_late b1 b2 b3 rfl (thn (ho.run pins s σ H _ I h) fun v s1 ⟨x, H1, I1, r1, ty, q1⟩ => ?_)
  obtain ⟨a, G, rfl, hka⟩ := ty
  cases r1
  obtain ⟨xs, _, _, _, ob, es, ep, g1, g2, _⟩ := Inv.dto I1 (.inl hka)
  refine ⟨"dict", "dict.update", F.plainAttrs_dict, F.slot_dict_update, F.type_dict_update, ⟨ob, g1, g2.1⟩, fun c e => (by cases e; exact ⟨ob, g1, g2.2.1⟩), ?_⟩
  have hA := ha.run cpos pins s1 σ H1 _ I1 q1
  rw [b4] at hA ⊢
  refine Calls.callWith_builtin rfl (Calls.evalArgs_plain (thn hA fun us s2 ⟨vs, H2, I2, r2, q2⟩ => (mt_updT hc hu) pins s2 σ H2 (.ref a) vs (.ref a) us Q I2 rfl r2 q2))
end
end Fm
/-! Dicts whose keys are boxes: pairs of tuples of ints, wherever these stand. -/
namespace Fm
open PySem PySem.Spec PyProof.Rows L2 PySem.W
/-- the key of a box -/
def bk (q : List Int × List Int) : NestedKey := .tup [.tup (q.1.map NestedKey.num), .tup (q.2.map NestedKey.num)]
theorem num_inj : ∀ {a b : List Int}, a.map NestedKey.num = b.map NestedKey.num → a = b
  | [], [], _ => rfl
  | x :: a, y :: b, h => by
    rw [List.map_cons, List.map_cons] at h
    injection h with h1 h2
    injection h1 with h1
    rw [h1, num_inj h2]
  | [], _ :: _, h => by cases h
  | _ :: _, [], h => by cases h
theorem bk_inj {p q : List Int × List Int} (h : bk p = bk q) : p = q := by
  unfold bk at h
  injection h with h
  injection h with h1 h2
  injection h1 with h1
  injection h2 with h2 _
  injection h2 with h2
  exact Prod.ext (num_inj h1) (num_inj h2)
abbrev NK (P : Program) (w : World) : HeapKind P w NestedKey := nestedKind P w
abbrev EntB := NestedKey × Addr × Value
abbrev BoxL := List (Addr × (List Int × List Int) × V)
section
variable {P : Program} {w : World} {h h' : Heap} {a : Addr} {xs : List EntB}
def BRaw (P : Program) (w : World) (h : Heap) (a : Addr) (xs : List EntB) : Prop := (a == sysModules) = false ∧ (xs.map (·.1)).Nodup ∧ ∃ o es ep, h.get? a = some o ∧ o.ExactDict ∧ o.data = .dict es ep ∧ es.toList = xs.map (entryOfKey (NK P w))
def ValB (L : BoxL) : List EntB → Prop := fun xs => Paired (fun p (x : EntB) => x.2.1 = p.1 ∧ x.1 = bk p.2.1 ∧ RelV p.2.2 x.2.2) L xs
def DBO (P : Program) (w : World) (a : Addr) (L : BoxL) : HO := .ext fun h => ∃ xs, ValB L xs ∧ BRaw P w h a xs
theorem BRaw.full (d : BRaw P w h a xs) (ht : ∀ x ∈ xs, (NK P w).is h x.1 x.2.1) : h.DictOfH (NK P w) a xs := by
  obtain ⟨_, nd, o, es, ep, h1, h2, h3, h4⟩ := d
  exact ⟨o, es, ep, h1, h2, h3, h4, ht, nd⟩
theorem braw_of (m : h.DictOfH (NK P w) a xs) (hs : (a == sysModules) = false) : BRaw P w h a xs := by
  obtain ⟨o, es, ep, h1, h2, h3, h4, _, nd⟩ := m
  exact ⟨hs, nd, o, es, ep, h1, h2, h3, h4⟩
theorem dbo_ok {L : BoxL} {H : Hp} (hF : ValB L xs) (d : BRaw P w h a xs) : ObjOk P w H h a (DBO P w a L) := by
  have ⟨_, _, o, es, ep, h1, _⟩ := d
  refine ⟨⟨xs, hF, d⟩, ⟨o, h1⟩, fun g1 g2 p k => ?_⟩
  have ⟨ys, hy, hs, nd, o', es', ep', k1, r⟩ := p
  exact ⟨ys, hy, hs, nd, o', es', ep', k _ k1, r⟩
/-- what the dict has for a box -/
def findB (L : BoxL) (q : List Int × List Int) : Option V := (L.find? fun p => decide (p.2.1 = q)).map (·.2.2)
theorem ValB.find {L : BoxL} {xs : List EntB} (h : ValB L xs) (q : List Int × List Int) : RelO (findB L q) ((atKey xs (bk q)).map (·.2)) := by
  unfold ValB at h
  unfold findB
  induction h with
  | nil => exact True.intro
  | @cons p x ps qs r _ ih =>
    obtain ⟨_, r2, r3⟩ := r
    by_cases e : p.2.1 = q
    · have b : atKey (x :: qs) (bk q) = some x.2 := by simp [atKey, List.find?_cons, r2, e]
      rw [b, List.find?_cons]
      simp only [e, decide_true, Option.map_some]
      exact r3
    · have e' : ¬ bk p.2.1 = bk q := fun z => e (bk_inj z)
      have b : atKey (x :: qs) (bk q) = atKey qs (bk q) := by simp [atKey, List.find?_cons, r2, e']
      rw [b, List.find?_cons]
      simp only [e, decide_false]
      exact ih
theorem valB_mem {L : BoxL} {xs : List EntB} (h : ValB L xs) : ∀ x ∈ xs, ∃ p ∈ L, x.2.1 = p.1 ∧ x.1 = bk p.2.1 := by
  unfold ValB at h
  induction h with
  | nil => intro x hx; cases hx
  | @cons p x ps qs r _ ih =>
    intro z hz
    rcases List.mem_cons.mp hz with e | e
    · rw [e]
      exact ⟨p, List.mem_cons_self, r.1, r.2.1⟩
    · obtain ⟨p', hp', r'⟩ := ih z e
      exact ⟨p', List.mem_cons_of_mem _ hp', r'⟩
theorem valB_addrs {L : BoxL} {xs : List EntB} (h : ValB L xs) : xs.map (·.2.1) = L.map (·.1) := by
  unfold ValB at h
  induction h with
  | nil => rfl
  | cons r _ ih => rw [List.map_cons, List.map_cons, ih, r.1]
end
section
variable {X : Cx} {K : PySem.W.Frag} {P : Program} {w : World} {pins : List (Addr × Obj)} {σ : L2.St} {H : Hp} {s : Shared}
/-- at b: the box q -/
def BoxAt (K : PySem.W.Frag) (H : Hp) (b : Addr) (q : List Int × List Int) : Prop := ∃ pa wa, SqT K H b [.ref pa, .ref wa] ∧ SqT K H pa (q.1.map V.int) ∧ SqT K H wa (q.2.map V.int)
theorem num_all {h : Heap} : ∀ {c : List Int} {us : List Value}, Vals (c.map V.int) us → NestedAll h (c.map NestedKey.num) us
  | [], _, .nil => .nil
  | _ :: _, _, .cons r t => by
    obtain ⟨u, rfl⟩ := r
    exact .cons (.int _ u) (num_all t)
theorem num_key {H : Hp} (I : Inv X pins σ H s) {a : Addr} {c : List Int} (h : SqT X.K H a (c.map V.int)) : NestedIs s.heap (.tup (c.map NestedKey.num)) (.ref a) := by
  obtain ⟨its, r, ⟨o, ho, hc, n, hd⟩, _⟩ := I.tuple h
  exact .tup ho hc hd (by simpa using num_all r)
theorem num_depth : ∀ c : List Int, NestedKey.depthAll (c.map NestedKey.num) = 0
  | [] => rfl
  | x :: c => by
    rw [List.map_cons]
    unfold NestedKey.depthAll
    rw [num_depth c]
    rfl
theorem Inv.boxKey (I : Inv X pins σ H s) {b : Addr} {q : List Int × List Int} (h : BoxAt X.K H b q) : (NK X.prog X.w).is s.heap (bk q) b := by
  obtain ⟨pa, wa, h1, h2, h3⟩ := h
  obtain ⟨its, r, ⟨o, ho, hc, n, hd⟩, _⟩ := I.tuple h1
  refine ⟨.tup ho hc hd ?_, ?_⟩
  · cases r with
    | cons r1 rr =>
      cases rr with
      | cons r2 rn =>
        cases rn
        cases r1
        cases r2
        exact .cons (num_key I h2) (.cons (num_key I h3) .nil)
  · show NestedKey.depth (.tup [.tup (q.1.map NestedKey.num), .tup (q.2.map NestedKey.num)]) ≤ 8
    simp [NestedKey.depth, NestedKey.depthAll, num_depth]
theorem Inv.dbo {L : BoxL} {a : Addr} (I : Inv X pins σ H s) (h : Rd H a (DBO X.prog X.w a L)) : ∃ xs, ValB L xs ∧ BRaw X.prog X.w s.heap a xs := (h.ok I.hok).1
def BoxesAt (K : PySem.W.Frag) (H : Hp) (L : BoxL) : Prop := ∀ p ∈ L, BoxAt K H p.1 p.2.1
theorem boxes_full (I : Inv X pins σ H s) {L : BoxL} {a : Addr} {xs : List EntB} (hF : ValB L xs) (d : BRaw X.prog X.w s.heap a xs) (h : BoxesAt X.K H L) : s.heap.DictOfH (NK X.prog X.w) a xs := d.full fun x hx => by
  obtain ⟨p, hp, e1, e2⟩ := valB_mem hF x hx
  rw [e1, e2]
  exact Inv.boxKey I (h p hp)
/-- {} -/
def tDNewB (P : Program) (w : World) : TE := fun _ H Q => ∀ p, H p = none → Q (.ref p) (upd H p (DBO P w p []))
theorem pe_dnewB {pos : Pos} (eP : X.prog = P := by rfl) (ew : X.w = w := by rfl) : PE X (.Dict [] [] pos) (tDNewB P w) := by
  subst eP ew
  refine ⟨fun pins s σ H Q I h => ?_⟩
  have hs : (s.heap.objs.size == sysModules) = false := beq_eq_false_iff_ne.mpr (Ne.symm (Nat.ne_of_lt I.big))
  exact wpAny_Dict_empty ⟨.ref s.heap.objs.size, _, I.laid (a := s.heap.objs.size) (o := DBO X.prog X.w s.heap.objs.size []) (t' := s.toks) (fun _ _ q => Heap.get?_push_of_some _ q) (Nat.le_refl _) (dbo_ok (xs := []) .nil (braw_of (Heap.DictOfH.new s.heap) hs)), rfl, h _ (I.hok.fresh (Nat.le_refl _))⟩
/-- b not in d -/
def rNotInB (K : PySem.W.Frag) (P : Program) (w : World) : R2 := fun x y H Q => ∃ (b a : Addr) (q : List Int × List Int) (L : BoxL), x = .ref b ∧ y = .ref a ∧ H a = some (DBO P w a L) ∧ BoxesAt K H L ∧ BoxAt K H b q ∧ Q (.bl (!(findB L q).isSome)) H
theorem op_notinB (hu : X.A.units + 64 < cLine) (eK : X.K = K := by rfl) (eP : X.prog = P := by rfl) (ew : X.w = w := by rfl) : OpR X (compareOp .NotIn) (rNotInB K P w) := by
  subst eK eP ew
  intro pins s σ H x y v u Q I rx ry h
  obtain ⟨b, a, q, L, rfl, rfl, ha, hL, hb, hq⟩ := h
  cases rx
  cases ry
  obtain ⟨xs, hF, hd⟩ := Inv.dbo I (.inl ha)
  refine wpAny_notIn_heap (knd := NK X.prog X.w) (show X.A.units + 1 + 8 < cLine by omega) (Inv.boxKey I hb) hd.1 (boxes_full I hF hd hL) ?_
  have e : (findB L q).isSome = (atKey xs (bk q)).isSome := by
    rw [(hF.find q).isSome_eq, Option.isSome_map]
  rw [e] at hq
  exact ⟨.bl (!(atKey xs (bk q)).isSome), H, I.tok _, rfl, hq⟩
/-- d[b] = v, b a new key -/
def sDPutB (K : PySem.W.Frag) (P : Program) (w : World) (td ty tv : TE) : TS := fun D σ H => tv σ H fun v H1 => td σ H1 fun x H2 => ty σ H2 fun y H3 => ∃ (a b : Addr) (q : List Int × List Int) (L : BoxL), x = .ref a ∧ y = .ref b ∧ H3 a = some (DBO P w a L) ∧ BoxesAt K H3 L ∧ BoxAt K H3 b q ∧ findB L q = none ∧ L.length ≤ 100000 ∧
  D.nx σ (upd H3 a (DBO P w a (L ++ [(b, q, v)])))
theorem ps_dputB {o i value : Expr} {pos pos' : Pos} {td ty tv : TE} (hu : X.A.units + 64 < cLine) (ho : PE X o td) (hi : PE X i ty) (hv : PE X value tv) (hs : swapsWith value (some (.Subscript o i pos')) pos.line X.env = pure false) (eK : X.K = K := by rfl) (eP : X.prog = P := by rfl) (ew : X.w = w := by rfl) :
    PS X (.Assign [.Subscript o i pos'] value pos) (sDPutB K P w td ty tv) := by
  subst eK eP ew
  refine ⟨fun pins s σ H D I h => ?_⟩
  refine wpAny_Assign_Subscript (thn (hv.run pins s σ H _ I h) fun r s1 ⟨v, H1, I1, rv, q1⟩ => thn (ho.run pins s1 σ H1 _ I1 q1) fun u s2 ⟨x, H2, I2, rx, q2⟩ => thn (hi.run pins s2 σ H2 _ I2 q2) fun iv s3 ⟨y, H3, I3, ry, a, b, q, L, ex, ey, ha, hL, hb, hn, hl, q3⟩ => ?_) hs
  subst ex ey
  cases rx
  cases ry
  obtain ⟨xs, hF, hd⟩ := Inv.dbo I3 (.inl ha)
  have hxl : xs.length = L.length := (Paired.length hF).symm
  refine wpAny_setItem_heap (knd := NK X.prog X.w) (hsz := by rw [hxl, sizeLine_eq]; omega) (show X.A.units + 1 + 8 < cLine by omega) (Inv.boxKey I3 hb) (boxes_full I3 hF hd hL) fun h' hm sb => ?_
  have he : ∃ u, h'.get? a = some u := by
    obtain ⟨o, _, _, z, _⟩ := hm
    exact ⟨o, z⟩
  have hno : ¬ (atKey xs (bk q)).isSome = true := by
    have e : (findB L q).isSome = (atKey xs (bk q)).isSome := by
      rw [(hF.find q).isSome_eq, Option.isSome_map]
    rw [← e, hn]
    exact Bool.false_ne_true
  have es : storedH xs (bk q) b r = xs ++ [(bk q, b, r)] := by
    unfold storedH
    rw [if_neg hno]
  rw [es] at hm
  exact ⟨σ, _, I3.write (e := a) (t' := s3.toks + (NK X.prog X.w).draws (bk q)) (by rw [ha]; trivial) (.inl rfl) (fun c u hc hu => (sb.2 c hc).trans hu) he (dbo_ok (Paired.snoc hF ⟨rfl, rfl, rv⟩) (braw_of hm hd.1)), q3⟩
/-- d[b] -/
def tDGetB (K : PySem.W.Frag) (P : Program) (w : World) (td ty : TE) : TE := fun σ H Q => td σ H fun x H1 => ty σ H1 fun y H2 => ∃ (a b : Addr) (q : List Int × List Int) (L : BoxL) (v : V), x = .ref a ∧ y = .ref b ∧ H2 a = some (DBO P w a L) ∧ BoxesAt K H2 L ∧ BoxAt K H2 b q ∧ findB L q = some v ∧ Q v H2
theorem pe_dgetB {o i : Expr} {pos : Pos} {td ty : TE} (hu : X.A.units + 64 < cLine) (ho : PE X o td) (hi : PE X i ty) (hs : NoSl i) (eK : X.K = K := by rfl) (eP : X.prog = P := by rfl) (ew : X.w = w := by rfl) : PE X (.Subscript o i pos) (tDGetB K P w td ty) := by
  subst eK eP ew
  refine ⟨fun pins s σ H Q I h => ?_⟩
  refine subD_of PySem.F.slot_dict_getitem.lookup hs (thn (ho.run pins s σ H _ I h) fun u s1 ⟨x, H1, I1, rx, q1⟩ => thn (hi.run pins s1 σ H1 _ I1 q1) fun iv s2 ⟨y, H2, I2, ry, a, b, q, L, v, ex, ey, ha, hL, hb, hv, q2⟩ => ?_)
  subst ex ey
  cases rx
  cases ry
  obtain ⟨xs, hF, hd⟩ := Inv.dbo I2 (.inl ha)
  have dd := boxes_full I2 hF hd hL
  have rl := hF.find q
  rw [hv] at rl
  cases hz : atKey xs (bk q) with
  | none =>
    rw [hz] at rl
    exact (show False from rl).elim
  | some p =>
    rw [hz] at rl
    exact ⟨dd.typeIs, wpAny_getItem_heap (knd := NK X.prog X.w) (show X.A.units + 1 + 8 < cLine by omega) (Inv.boxKey I2 hb) dd hz ⟨_, H2, I2.tok _, rl, q2⟩⟩
/-! ### for b in d -/
def ItkB (P : Program) (w : World) (d : Addr) (o : Obj) (L : BoxL) : It := ⟨fun i H => H d = some (.frz o (DBO P w d L)) ∧ i < L.length, fun i H x H' => H' = H ∧ ∃ p, L[i]? = some p ∧ x = .ref p.1, fun i H => H d = some (.frz o (DBO P w d L)) ∧ L.length ≤ i⟩
theorem Inv.frzB {d : Addr} {o : Obj} {L : BoxL} (I : Inv X pins σ H s) (h : H d = some (.frz o (DBO X.prog X.w d L))) :
    (d == sysModules) = false ∧ s.heap.get? d = some o ∧ o.ExactDict ∧ ∃ (es : Array DictEntry) (ep : Nat), o.data = .dict es ep ∧ es.size = L.length ∧ ∀ (i : Nat) p, L[i]? = some p → ∃ en, es[i]? = some en ∧ en.key = .ref p.1 := by
  obtain ⟨g0, ⟨xs, hx, sy, _, o', es, ep, g1, g2, g3, g4⟩, _⟩ := I.hok d _ h
  rw [g0] at g1
  cases g1
  have e := valB_addrs hx
  refine ⟨sy, g0, g2, es, ep, g3, by rw [size_of_entries g4, ← Paired.length hx], fun i p hi => ?_⟩
  have hi2 : (xs.map (·.2.1))[i]? = some p.1 := by
    rw [e, List.getElem?_map, hi] <;> rfl
  rw [List.getElem?_map] at hi2
  obtain ⟨x, hx, e2⟩ := Option.map_eq_some_iff.mp hi2
  refine ⟨_, by rw [entry_at g4, hx] <;> rfl, ?_⟩
  rw [← e2]
  rfl
theorem turn_keysB {tg : Expr} {d : Addr} {o : Obj} {L : BoxL} {es : Array DictEntry} {ep : Nat} (it : Addr) (hod : o.data = .dict es ep) : Turn P w K tg (ItkB P w d o L) [it] it (fun i h => h.IsKeyIter it d i L.length ep) where
  mem := List.mem_singleton.mpr rfl
  obj := fun i h st b hb => by
    rw [List.mem_singleton.mp hb]
    obtain ⟨oi, e, c, dd⟩ := st
    exact ⟨oi, e, fun v z => by rw [dd] at z; cases z⟩
  keep := fun i h h' st k => st.at fun oi e => k it (List.mem_singleton.mpr rfl) oi e
  item := by
    intro X hP hw hK hc i pins s σ H E I hf st hg
    subst hP hw hK
    obtain ⟨hd, hi⟩ := hg
    obtain ⟨f0, f1, f2, f3, f4, f5⟩ := hf it (List.mem_singleton.mpr rfl)
    obtain ⟨_, g0, _, es', ep', hdt, hsz, ent⟩ := Inv.frzB I hd
    obtain ⟨rfl, rfl⟩ := dict_ep hod hdt
    obtain ⟨en, hen, hkey⟩ := ent i _ (List.getElem?_eq_getElem hi)
    refine next_key_item st g0 hdt hsz hen fun h' st' sb => ?_
    have I1 : Inv X pins σ H { s with heap := h' } := I.turned (t' := s.toks) (fun b ob hb e => (sb.2 b hb).trans e) f0 f1 f3 f4 f5
    obtain ⟨oi, e, c, dd⟩ := id st'
    rw [hkey]
    exact ⟨_, rfl, go_of (s := { s with heap := h' }) e c dd (by decide) ⟨.ref _, H, I1, rfl, ⟨rfl, _, List.getElem?_eq_getElem hi, rfl⟩, st', fun b hb => (hf b hb).1⟩⟩
  done := by
    intro X hP hw hK hc i pins s σ H E I hf st hg
    subst hP hw hK
    obtain ⟨hd, hi⟩ := hg
    obtain ⟨f0, f1, f2, f3, f4, f5⟩ := hf it (List.mem_singleton.mpr rfl)
    obtain ⟨_, g0, _, es', ep', hdt, hsz, _⟩ := Inv.frzB I hd
    obtain ⟨rfl, rfl⟩ := dict_ep hod hdt
    exact next_key_end (I.ok.hd hc) st g0 hdt hsz hi fun h' eb => ⟨rfl, I.turned (t' := s.toks) (fun b ob hb e => eb b ob hb e) f0 f1 f3 f4 f5⟩
  self := fun A i s Q E st h => wpAny_pyIter_keyiter st h
def iKeysB (P : Program) (w : World) (td : TE) : TI := fun σ H R => td σ H fun x H1 => ∃ d o L, x = .ref d ∧ H1 d = some (.frz o (DBO P w d L)) ∧ R (ItkB P w d o L) H1
theorem pi_keysB {tg e : Expr} {td : TE} (he : PE X e td) (eP : X.prog = P := by rfl) (ew : X.w = w := by rfl) : PI X tg e (iKeysB P w td) := by
  subst eP ew
  refine ⟨fun pins s σ H R I h => ?_⟩
  refine thn (he.run pins s σ H _ I h) fun u s1 ⟨x, H1, I1, rx, d, o, L, ex, hd, q⟩ => ?_
  subst ex
  cases rx
  obtain ⟨sy, g0, g1, es, ep, hdt, hsz, _⟩ := Inv.frzB I1 hd
  refine iter_keys sy g0 g1 hdt (pi_one (tk := s1.toks) I1 _ (turn_keysB _ hdt) ⟨_, Heap.get?_push_size _ rfl, rfl, ?_⟩ q)
  rw [hsz] <;> rfl
end
end Fm
/-! A dict comprehension whose keys are tuples of ints (also within another comprehension); setdefault with such keys. -/
namespace Fm
open PySem PySem.Spec PyProof.Rows L2 PySem.W
/-- a block that captures nothing -/
theorem blkOk_nf {N : List Str} {sc scope : Scope} {own : List (Str × Nat)} (h1 : scope.kind = .function) (h2 : (scope.names.all fun y => decide (scope.names.lookup y.1 = some y.2)) = true) (h3 : (own.all fun p => decide (N[p.2]? = some p.1)) = true)
    (h4 : (scope.names.all fun y => !(y.2 == .free)) = true) (h5 : (scope.names.all fun y => (!(y.2 == .local || y.2 == .cell)) || ((own.map (·.1)).contains y.1 || !(N.contains y.1))) = true) : BlkOk N sc scope own where
  kind := h1
  uniq := fun y hy => of_decide_eq_true (List.all_eq_true.mp h2 y hy)
  ix := fun p hp => of_decide_eq_true (List.all_eq_true.mp h3 p hp)
  free := fun y hy e => by
    have z := List.all_eq_true.mp h4 y hy
    rw [e] at z
    cases z
  own := fun y hy e => by
    have z := List.all_eq_true.mp h5 y hy
    have e2 : (y.2 == NameKind.local || y.2 == NameKind.cell) = true := by
      rcases e with e | e <;> (rw [e]; rfl)
    rw [e2] at z
    simp only [Bool.not_true, Bool.false_or, Bool.or_eq_true] at z
    rcases z with z | z
    · exact .inl (by simpa using z)
    · exact .inr (by simpa using z)
section
variable {X : Cx} {K : PySem.W.Frag} {P : Program} {w : World}
def tDcT (K : PySem.W.Frag) (P : Program) (w : World) (wa : TI) (ga : TG) (tk tv : TE) (vs : List Nat) : TE := fun σ H Q => wa σ H fun J H1 => ∀ D, H1 D = none → ∃ W : Nat → Nat → Hp → Prop, (∃ m, W 0 m (upd H1 D (DTO P w D (ValF [])))) ∧ ∀ i m H, W i m H →
  (J.stop i H ∧ Q (.ref D) H) ∨ (J.go i H ∧ ∃ Nx : Hp → Prop, (∀ H', Nx H' → ∃ m', m' < m ∧ W (i + 1) m' H') ∧ ∀ x H', J.yld i H x H' → ga x (wipe σ vs) H' fun σ2 H2 => wipe σ2 vs = wipe σ vs ∧ tk σ2 H2 fun y H3 => tv σ2 H3 fun z H4 =>
    ∃ (b : Addr) (q : List Int) (L : List (Addr × List Int × L2.V)), y = .ref b ∧ SqT K H4 b (q.map V.int) ∧ H4 D = some (DTO P w D (ValF L)) ∧ (∀ p ∈ L, SqT K H4 p.1 (p.2.1.map V.int)) ∧ (∀ p ∈ L, p.2.1 ≠ q) ∧ L.length ≤ 1000 ∧ Nx (upd H4 D (DTO P w D (ValF (L ++ [(b, q, z)])))))
theorem dset_inv {pins : List (Addr × Obj)} {s : Shared} {σ : L2.St} {H : Hp} {A : Around} {E : Value → Shared → Prop} {D b : Addr} {q : List Int} {L : List (Addr × List Int × L2.V)} {z : L2.V} {r : Value} {Q : Unit → Shared → Prop} (I : Inv X pins σ H s) (hD : H D = some (DTO X.prog X.w D (ValF L)))
    (hL : ∀ p ∈ L, SqT X.K H p.1 (p.2.1.map V.int)) (hb : SqT X.K H b (q.map V.int)) (hne : ∀ p ∈ L, p.2.1 ≠ q) (few : L.length ≤ 1000) (rz : RelV z r) (hu : A.units < cLine) (h : ∀ s', Inv X pins σ (upd H D (DTO X.prog X.w D (ValF (L ++ [(b, q, z)])))) s' → Q () s') :
    wpAny (model X.prog X.w) A (dictSet D (.ref b) r) Q E s := by
  obtain ⟨xs, hF, hd⟩ := Inv.dto I (.inl hD)
  have hxl : xs.length = L.length := (Paired.length hF).symm
  have hk : ∀ x ∈ xs, IsT X.prog X.w s.heap x.1 x.2.1 := fun x hx => by
    obtain ⟨p, hp, e1, e2⟩ := valF_mem hF x hx
    rw [e1, e2]
    exact Inv.isT I (hL p hp)
  refine wpAny_dictSet_heap (knd := TK X.prog X.w) (hsz := by rw [hxl, sizeLine_eq]; omega) hu (Inv.isT I hb) (hd.full hk) fun h' hm sb => h _ ?_
  have he : ∃ u, h'.get? D = some u := by
    obtain ⟨o, _, _, y, _⟩ := hm
    exact ⟨o, y⟩
  have hno : ¬ (atKey xs q).isSome = true := by
    intro y
    unfold atKey at y
    rw [Option.isSome_map] at y
    obtain ⟨x, hx⟩ := Option.isSome_iff_exists.mp y
    have h1 := List.mem_of_find?_eq_some hx
    have h2 := List.find?_some hx
    obtain ⟨p, hp, _, e2⟩ := valF_mem hF x h1
    exact hne p hp (by rw [← e2]; simpa using h2)
  have es : storedH xs q b r = xs ++ [(q, b, r)] := by
    unfold storedH
    rw [if_neg hno]
  rw [es] at hm
  exact I.write (e := D) (by rw [hD]; trivial) (.inl rfl) (fun c u hc hu => (sb.2 c hc).trans hu) he (dto_ok (F := ValF (L ++ [(b, q, z)])) (Paired.snoc hF ⟨rfl, rfl, rz⟩) (raw_of hm hd.1))
theorem pe_dcT {kx vx ta ea : Expr} {sc : Scope} {own : List (Str × Nat)} {ps : Pos} {wa : TI} {ga : TG} {tk tv : TE} (hc : X.calm = true) (hu : X.A.units + 64 < cLine) (hN : X.N.Nodup) (pa : PI X ta ea wa) (ok : BlkOk X.N X.env.scope sc own)
    (pga : ∀ (s : Shared) (H : Hp) (C : Addr) (cl : List (Str × Addr)) (fp : List Addr), PG (X.blk s H sc (compEnvC sc cl C X.env) fp) ta ga)
    (pk : ∀ (s : Shared) (H : Hp) (C : Addr) (cl : List (Str × Addr)) (fp : List Addr), PE (X.blk s H sc (compEnvC sc cl C X.env) fp) kx tk)
    (pv : ∀ (s : Shared) (H : Hp) (C : Addr) (cl : List (Str × Addr)) (fp : List Addr), PE (X.blk s H sc (compEnvC sc cl C X.env) fp) vx tv)
    (fa : ∀ x, foldedSetIterable ea X.env x = pure x := by intro _; rfl) (eK : X.K = K := by rfl) (eP : X.prog = P := by rfl) (ew : X.w = w := by rfl) :
    PE X (.DictComp kx vx [⟨ta, ea, [], 0⟩] sc ps) (tDcT K P w wa ga tk tv (own.map (·.2))) := by
  subst eK eP ew
  refine ⟨fun pins s σ H Q I h => ?_⟩
  rw [arm_eval_DictComp]
  have hfree : ∀ y ∈ sc.names, y.2 = .free → ∃ c, X.env.cells.lookup y.1 = some c := fun y hy e => (ok.free y hy e).elim (fun z => I.ok.has _ (.inl z)) fun z => I.ok.has _ (.inr z)
  refine wpAny_comprehension_free (use := none) rfl fa (closure_ok hfree) ok.kind (fun y hy e => by rw [ok.uniq y hy, e]) (thn (pa.run pins s σ H _ I h) fun xv s1 hx => thn hx fun itv s2 h2 => ?_)
  obtain ⟨it, fp, tn, J, H2, e, I2, T, st2, f2, q⟩ := h2
  subst e
  refine wpAny_newObj_type (newEnv_comp ?_)
  generalize hD : s2.heap.objs.size = D
  have hDn : H2 D = none := I2.hok.fresh (Nat.le_of_eq hD)
  obtain ⟨W, ⟨m0, w0⟩, turn⟩ := q D hDn
  have hsys : (D == sysModules) = false := by
    rw [← hD]
    exact beq_eq_false_iff_ne.mpr (Ne.symm (Nat.ne_of_lt I2.big))
  generalize hs3 : ({ s2 with heap := s2.heap.push { cls := .type "dict", data := .dict #[] } } : Shared) = s3
  have h3 : s3.heap = s2.heap.push { cls := .type "dict", data := .dict #[] } := by rw [← hs3]
  have old3 : ∀ b o, s2.heap.get? b = some o → s3.heap.get? b = some o := fun b o z => by
    rw [h3]
    exact Heap.get?_push_of_some _ z
  have I3 : Inv X pins σ (upd H2 D (DTO X.prog X.w D (ValF []))) s3 := by
    have d0 : DRaw X.prog X.w s3.heap D [] := by
      rw [h3, ← hD]
      exact raw_of (Heap.DictOfH.new s2.heap) (by rw [hD]; exact hsys)
    have := I2.laid (a := D) (o := DTO X.prog X.w D (ValF [])) (h' := s3.heap) (t' := s2.toks) old3 (Nat.le_of_eq hD) (dto_ok (F := ValF []) .nil d0)
    rw [← hs3] at this ⊢
    exact this
  have lo : ∀ b ∈ fp, b < s2.heap.objs.size := fun b hb => by
    obtain ⟨o, z, _⟩ := T.obj _ _ st2 b hb
    exact Heap.lt_size z
  have f3 : ∀ b ∈ fp, FpOk X pins (upd H2 D (DTO X.prog X.w D (ValF []))) b ∧ b < s3.heap.objs.size := fun b hb => by
    have l := lo b hb
    have ne : b ≠ D := by
      rw [← hD]
      exact Nat.ne_of_lt l
    exact ⟨⟨by rw [upd_ne ne]; exact (f2 b hb).1, (f2 b hb).2⟩, by rw [h3, Heap.size_push]; exact Nat.lt_succ_of_lt l⟩
  have st3 : tn 0 s3.heap := T.keep _ _ _ st2 fun b _ o z => old3 b o z
  have I4 := block_start I3 ok hN f3
  generalize hH3 : upd H2 D (DTO X.prog X.w D (ValF [])) = H3 at I3 I4 f3 w0
  generalize hcl : cellsFrom (s3.heap.objs.size + 1) sc.names (cloFrom X.env.cells sc.names []) = cl at I4
  have gA := pga s3 H3 s3.heap.objs.size cl fp
  have gK := pk s3 H3 s3.heap.objs.size cl fp
  have gV := pv s3 H3 s3.heap.objs.size cl fp
  show codeAny _ _ (.compStart (.DictComp kx vx [⟨ta, ea, [], 0⟩] sc ps) 0 (.ref it) (.ref D) (compEnvC sc cl s3.heap.objs.size X.env)) (compPost (model X.prog X.w) X.A X.xe none _ (.ref D) s3.heap.objs.size) { s3 with heap := pushCells (s3.heap.push { cls := .type "dict", data := .dict #[] }) sc.names }
  generalize hce : compEnvC sc cl s3.heap.objs.size X.env = ce at I4 gA gK gV ⊢
  have cL : ce.locals = s3.heap.objs.size := by subst hce; rfl
  generalize hs4 : ({ s3 with heap := pushCells (s3.heap.push { cls := .type "dict", data := .dict #[] }) sc.names } : Shared) = s4 at I4 ⊢
  have st4 : tn 0 s4.heap := T.keep _ _ _ st3 fun b _ o z => by rw [← hs4]; exact pushCells_keeps _ _ _ _ (Heap.get?_push_of_some _ z)
  have nfp : ∀ b ∈ fp, H3 b = none := fun b hb => (f3 b hb).1.1
  have stand : ∀ {τ : L2.St} {G : Hp} {u : Shared}, Inv (X.blk s3 H3 sc ce fp) [] τ G u → (∀ b ∈ fp, G b = none) → ∀ b ∈ fp, FpOk (X.blk s3 H3 sc ce fp) [] G b := fun I' hn b hb =>
    ⟨hn b hb, (I'.ok.exf b hb).1, I'.ok.exfs b hb, .inl hb, fun x c z => (I'.ok.exf b hb).2 x c z, fun p hp => absurd (show p ∈ ([] : List (Addr × Obj)) ++ [] from hp) (by simp)⟩
  have loop : codeAny (model X.prog X.w) X.A (.compLoop (.DictComp kx vx [⟨ta, ea, [], 0⟩] sc ps) 0 (.ref it) (.ref D) ce) (compPost (model X.prog X.w) X.A X.xe none (fun v s' => EP X pins σ Q v s') (.ref D) s3.heap.objs.size) s4 := by
    refine compLoop_anyD (fun m u => ∃ i G, Inv (X.blk s3 H3 sc ce fp) [] (wipe σ (own.map (·.2))) G u ∧ tn i u.heap ∧ (∀ b ∈ fp, G b = none) ∧ W i m G) ?_ m0 ⟨0, H3, I4, st4, nfp, w0⟩
    rintro m u5 ⟨i, G5, I5, st5, n5, w5⟩
    rcases turn i m G5 w5 with ⟨stop, qq⟩ | ⟨go, Nx, hNx, step⟩
    · refine thnF (T.done (X.blk s3 H3 sc ce fp) rfl rfl rfl hc i [] u5 _ G5 (fun _ _ => False) I5 (stand I5 n5) st5 stop) fun r u6 ⟨hr, I6⟩ => ?_
      subst hr
      have I7 : Inv X pins σ G5 u6 := I3.call' (ch := fp) I6.os I6.base I6.hok I6.bare fun b hb => ⟨(f3 b hb).1.2.2.2.1, (f3 b hb).1.2.1, (f3 b hb).1.2.2.2.2.1, (f3 b hb).1.2.2.2.2.2⟩
      have nC : G5 ce.locals = none := I6.free
      obtain ⟨mm, hn, _⟩ := I6.loc
      have hn : u6.heap.Ns ce.locals mm := hn
      rw [cL] at hn nC
      refine ⟨mm, hn, fun g sb => ?_⟩
      obtain ⟨f0, f1, f2', f3', f4, f5⟩ := I3.fpOk (Nat.le_refl _) nC
      exact ⟨.ref D, G5, I7.turned (t' := u6.toks) (fun b o hb z => (sb.2 b hb).trans z) f0 f1 f3' f4 f5, rfl, qq⟩
    · refine thnF (T.item (X.blk s3 H3 sc ce fp) rfl rfl rfl hc i [] u5 _ G5 (fun _ _ => False) I5 (stand I5 n5) st5 go) fun r u6 ⟨got, hr, h6⟩ => ?_
      subst hr
      refine thnF h6 fun _ u7 ⟨x, G7, I7, r7, y7, st7, n7⟩ => ?_
      have I7' := I7.pinned (stand I7 n7) (T.obj _ _ st7)
      refine thnF (gA.run _ u7 _ G7 x got _ I7' r7 (step x G7 y7)) fun _ u8 ⟨σ8, G8, I8, hw8, q8⟩ => ?_
      refine wpAny_pure ?_
      simp only [if_true]
      have fin : ∀ {u : Shared} {G : Hp}, Inv (X.blk s3 H3 sc ce fp) ([] ++ pinsAt fp u7.heap) σ8 G u → Nx G → ∃ m', m' < m ∧ ∃ i G, Inv (X.blk s3 H3 sc ce fp) [] (wipe σ (own.map (·.2))) G u ∧ tn i u.heap ∧ (∀ b ∈ fp, G b = none) ∧ W i m' G := fun {u G} I' nx => by
        obtain ⟨m', hm, w'⟩ := hNx G nx
        have pin' : ∀ b ∈ fp, ∀ o, u7.heap.get? b = some o → u.heap.get? b = some o ∧ G b = none := fun b hb o z =>
          have zz := I'.pin (b, o) (List.mem_append_right _ (List.mem_append_right _ (mem_pinsAt hb z)))
          ⟨zz.1, zz.2.1⟩
        have hl : (wipe σ (own.map (·.2))).length = σ8.length := by rw [← hw8, wipe_length]
        refine ⟨m', hm, i + 1, G, (I'.unpinned (pins := [])).weak hl (fun j v z => ?_), T.keep _ _ _ st7 fun b hb o z => (pin' b hb o z).1, fun b hb => ?_, w'⟩
        · rw [← hw8] at z
          exact (wipe_some z).1
        · obtain ⟨o, z, _⟩ := T.obj _ _ st7 b hb
          exact (pin' b hb o z).2
      refine thnF (gK.run _ u8 σ8 G8 _ I8 q8) fun z u10 ⟨yk, G10, I10, r10, q10⟩ => ?_
      refine thnF (gV.run _ u10 σ8 G10 _ I10 q10) fun z2 u11 ⟨yv, G11, I11, r11, b, qk, L, ek, hb, hDL, hL, hne, few, nx⟩ => ?_
      subst ek
      cases r10
      exact dset_inv (X := X.blk s3 H3 sc ce fp) I11 hDL hL hb hne few r11 (show X.A.units < cLine by omega) fun u12 I12 => fin I12 nx
  exact codeAny_compStart_dict loop (T.self X.A 0 _ _ _ st4 loop)
end
end Fm
namespace Fm
open PySem PySem.Spec PyProof.Rows L2 PySem.W
section
variable {X : Cx} {K : PySem.W.Frag} {P : Program} {w : World}
/-- what the dict has for a tuple of ints -/
def findT (L : List (Addr × List Int × L2.V)) (q : List Int) : Option L2.V := (L.find? fun p => decide (p.2.1 = q)).map (·.2.2)
/-- d.setdefault(k, z) -/
def tDSetT (K : PySem.W.Frag) (P : Program) (w : World) (td ty tx : TE) : TE := fun σ H Q => td σ H fun x H1 => (∃ a F, x = .ref a ∧ H1 a = some (DTO P w a F)) ∧ ty σ H1 fun y H2 => tx σ H2 fun z H3 =>
  ∃ (a b : Addr) (L : List (Addr × List Int × L2.V)) (q : List Int), x = .ref a ∧ y = .ref b ∧ H3 a = some (DTO P w a (ValF L)) ∧ (∀ p ∈ L, SqT K H3 p.1 (p.2.1.map V.int)) ∧ SqT K H3 b (q.map V.int) ∧ L.length ≤ 100000 ∧
    (∀ v, findT L q = some v → Q v H3) ∧ (findT L q = none → Q z (upd H3 a (DTO P w a (ValF (L ++ [(b, q, z)])))))
theorem pe_dsetT {o e f : Expr} {apos cpos : Pos} {td ty tx : TE} (hu : X.A.units + 64 < cLine) (ho : PE X o td) (he : PE X e ty) (hf : PE X f tx) (m : M2 X o "setdefault" apos e f cpos) (eK : X.K = K := by rfl) (eP : X.prog = P := by rfl) (ew : X.w = w := by rfl) :
    PE X (.Call (.Attribute o "setdefault" apos) [e, f] [] cpos) (tDSetT K P w td ty tx) := by
  subst eK eP ew
  refine ⟨fun pins s σ H Q I h => ?_⟩
  refine wpAny_Call_method m.base m.few m.line F.plainAttrs_dict F.slot_dict_setdefault F.type_dict_setdefault (thn (ho.run pins s σ H _ I h) fun u s1 ⟨x, H1, I1, rx, ⟨a, G, ex, hd⟩, q1⟩ => ?_)
  subst ex
  cases rx
  obtain ⟨xs, _, sysm, _, ob, es, ep, g1, g2, _⟩ := Inv.dto I1 (.inl hd)
  refine ⟨⟨ob, g1, g2.1⟩, fun c z => (by cases z; exact ⟨ob, g1, g2.2.1⟩), ?_⟩
  rw [m.trees]
  refine Calls.callWith_builtin rfl (Calls.evalArgs_plain (Calls.spliced_cons (thn (he.run pins s1 σ H1 _ I1 q1) fun iv s2 ⟨y, H2, I2, ry, q2⟩ =>
    Calls.spliced_cons (thn (hf.run pins s2 σ H2 _ I2 q2) fun fv s3 ⟨z, H3, I3, rz, a', b, L, q, ea, eb, hd3, hL, hb, hl, q3, q4⟩ => Calls.spliced_nil ?_))))
  cases ea
  subst eb
  cases ry
  obtain ⟨ys, hF, hraw⟩ := Inv.dto I3 (.inl hd3)
  have hyl : ys.length = L.length := (Paired.length hF).symm
  have hkeys : ∀ x ∈ ys, IsT X.prog X.w s3.heap x.1 x.2.1 := fun x hx => by
    obtain ⟨p, hp, e1, e2⟩ := valF_mem hF x hx
    rw [e1, e2]
    exact Inv.isT I3 (hL p hp)
  have rl : RelO (findT L q) ((atKey ys q).map (·.2)) := hF.find q
  refine call_setdefault_heap (knd := TK X.prog X.w) (hsz := by rw [hyl, sizeLine_eq]; omega) (show X.A.units + 1 < cLine by omega) (Inv.isT I3 hb) hraw.1 (hraw.full hkeys) (fun p hp => ?_) fun hn h' hm sb => ?_
  · rw [hp] at rl
    cases hv : findT L q with
    | none =>
      rw [hv] at rl
      exact (show False from rl).elim
    | some v =>
      rw [hv] at rl
      exact ⟨v, H3, I3.tok _, rl, q3 v hv⟩
  · have hnone : findT L q = none := by
      rw [hn] at rl
      cases hv : findT L q with
      | none => rfl
      | some v =>
        rw [hv] at rl
        exact (show False from rl).elim
    have es' : storedH ys q b fv = ys ++ [(q, b, fv)] := by
      unfold storedH
      rw [if_neg (by rw [hn]; exact Bool.false_ne_true)]
    rw [es'] at hm
    have he : ∃ u, h'.get? a = some u := by
      obtain ⟨o, _, _, y, _⟩ := hm
      exact ⟨o, y⟩
    exact ⟨z, _, I3.write (e := a) (t' := s3.toks + (TK X.prog X.w).draws q) (by rw [hd3]; trivial) (.inl rfl) (fun c u hc hu => (sb.2 c hc).trans hu) he (dto_ok (F := ValF (L ++ [(b, q, z)])) (Paired.snoc hF ⟨rfl, rfl, rz⟩) (raw_of hm hraw.1)), rz, q4 hnone⟩
/-- {}, to be a dict with such keys -/
def tDNewT (P : Program) (w : World) : TE := fun _ H Q => ∀ p, H p = none → Q (.ref p) (upd H p (DTO P w p (ValF [])))
theorem pe_dnewT {pos : Pos} (eP : X.prog = P := by rfl) (ew : X.w = w := by rfl) : PE X (.Dict [] [] pos) (tDNewT P w) := by
  subst eP ew
  refine ⟨fun pins s σ H Q I h => ?_⟩
  have hs : (s.heap.objs.size == sysModules) = false := beq_eq_false_iff_ne.mpr (Ne.symm (Nat.ne_of_lt I.big))
  exact wpAny_Dict_empty ⟨.ref s.heap.objs.size, _, I.laid (a := s.heap.objs.size) (o := DTO X.prog X.w s.heap.objs.size (ValF [])) (t' := s.toks) (fun _ _ q => Heap.get?_push_of_some _ q) (Nat.le_refl _) (dto_ok (F := ValF []) (xs := []) .nil (raw_of (Heap.DictOfH.new s.heap) hs)), rfl, h _ (I.hok.fresh (Nat.le_refl _))⟩
end
end Fm
/-! Dicts whose keys are boxes: compared, copied, cleared, made of pairs, asked, told anew. -/
namespace Fm
open PySem PySem.Spec PyProof.Rows L2 PySem.W
open PySem.SeqAt (EqIn EqAt)
section
variable {prog : Program} {w : World} {K : Type} [DecidableEq K] {knd : HeapKind prog w K} {A : Around} {E : Value → Shared → Prop} {s : Shared}
def HitsH (prog : Program) (w : World) {K : Type} [DecidableEq K] (A : Around) (s : Shared) (kb ks : List (K × Addr × Value)) : Prop := ∀ x ∈ ks, ∃ p, atKey kb x.1 = some p ∧ EqIn prog w A s x.2.2 p.2 true
theorem samePairsH {nm : String} {a b : Addr} {ka kb : List (K × Addr × Value)} {Q : Bool → Shared → Prop} (hu : knd.room A) (ha : (a == sysModules) = false) (hb : (b == sysModules) = false)
    (da : s.heap.DictOfH knd a ka) (db : s.heap.DictOfH knd b kb) (hl : ka.length = kb.length) (hits : HitsH prog w A s kb ka) (h : Q true s) :
    wpAny (model prog w) A (Builtin.Dict.samePairs nm a b) Q E s := by
  obtain ⟨oa, es, ep, hoa, _, hda, hea, hia, hna⟩ := da
  obtain ⟨ob, es', ep', hob, _, hdb, heb, hib, hnb⟩ := db
  have hla : es.size = ka.length := size_of_entries hea
  have hlb : es'.size = kb.length := size_of_entries heb
  have hsz : es.size = es'.size := by omega
  unfold Builtin.Dict.samePairs Builtin.Dict.showsAll
  rw [if_neg (show ¬ (a == sysModules) = true by rw [ha]; exact Bool.false_ne_true), if_neg (show ¬ (b == sysModules) = true by rw [hb]; exact Bool.false_ne_true)]
  refine wpAny_bind (wpAny_pure (wpAny_bind (wpAny_pure ?_)))
  refine wpAny_bind (wpAny_dictEntries hoa hda ?_)
  dsimp only
  refine wpAny_bind (wpAny_dictEntries hob hdb ?_)
  rw [if_neg (by rw [hsz]; simp)]
  refine wpAny_bind (wpAny_dictEpoch hoa hda ?_)
  refine wpAny_bind ?_
  rw [Std.Legacy.Range.forIn_eq_forIn_range']
  simp only [Std.Legacy.Range.size, Nat.sub_zero, Nat.add_sub_cancel, Nat.div_one]
  refine wpAny_forIn_list _
    (fun rest q s' => s' = s ∧ q = (none, ()) ∧ ∃ i, rest = List.range' i (es.size - i) ∧ i ≤ es.size)
    _ ?_ ?_ _ _ ⟨rfl, rfl, 0, by simp, Nat.zero_le _⟩
  · rintro x rest q s' ⟨rfl, rfl, i, hr, hi⟩
    have hlt : i < es.size := by
      rcases Nat.lt_or_ge i es.size with h | h
      · exact h
      · rw [Nat.sub_eq_zero_of_le h] at hr; simp at hr
    obtain ⟨rfl, hrest⟩ : x = i ∧ rest = List.range' (i + 1) (es.size - (i + 1)) := by
      have e : es.size - i = (es.size - (i + 1)) + 1 := by omega
      rw [e, List.range'_succ] at hr
      injection hr with h1 h2
      exact ⟨h1, h2⟩
    refine wpAny_bind (wpAny_dictEntries hoa hda ?_)
    have hlt' : x < ka.length := by omega
    have hx := List.getElem?_eq_getElem hlt'
    generalize ka[x] = kx at hx
    obtain ⟨k, ak, v⟩ := kx
    have hmem := List.mem_of_getElem? hx
    obtain ⟨p, hp, heq⟩ := hits _ hmem
    rw [entry_at hea x, hx]
    show wpAny _ _ (holding [Value.ref ak, v] _ >>= _) _ _ _
    refine wpAny_bind (wpAny_holding (wpAny_bind (wpAny_dictFind_heap hu (hia _ hmem) hob hdb heb hib hnb (fun hnone => ?_) fun j pj hj => ?_)))
    · rw [atKey_none_of_get hnone] at hp
      cases hp
    · have hpj := atKey_of_get hnb hj
      rw [hpj] at hp
      have ep := Option.some.inj hp
      subst ep
      refine wpAny_bind (wpAny_dictEntries hob hdb ?_)
      rw [entry_at heb j, hj]
      refine wpAny_holding (heq _ _ ?_)
      show wpAny _ _ (if (!true) = true then _ else _) _ _ _
      rw [if_neg (by decide)]
      refine wpAny_bind (wpAny_dictEpoch hoa hda ?_)
      rw [if_neg (by simp)]
      exact wpAny_pure ⟨rfl, rfl, x + 1, hrest, hlt⟩
  · rintro q s' ⟨rfl, rfl, i, hr, hi⟩
    exact wpAny_pure h
theorem keqH_ne {a b : Addr} {ka kb : List (K × Addr × Value)} {Q : Value → Shared → Prop} (hr : knd.room A.in1) (ha : (a == sysModules) = false) (hb : (b == sysModules) = false)
    (da : s.heap.DictOfH knd a ka) (db : s.heap.DictOfH knd b kb) (hu : A.units < cLine) (hl : ka.length = kb.length) (hits : HitsH prog w A.in1 s kb ka) (h : Q (.bool false) s) :
    wpAny (model prog w) A (compareOp .NotEq (.ref a) (.ref b)) Q E s := by
  refine wpAny_richCompare_same_room (op := .NotEq) da.typeIs db.typeIs PySem.F.slot_dict_ne (wpAny_call_entry PySem.F.slot_dict_ne da.typeIs PySem.F.entry_dict_ne ?_ (PySem.F.args_dict_ne_2 _ _)) hu
  show wpAny _ _ (Builtin.Dict.dictSlotArgs "__ne__" ⟨[.ref a, .ref b], []⟩ >>= _) _ _ s
  refine wpAny_bind ?_
  unfold Builtin.Dict.dictSlotArgs
  refine wpAny_bind (wpAny_notOrdered_dict da.typeIs ?_)
  show wpAny _ _ (pure (Value.ref a, Value.ref b)) _ _ s
  refine wpAny_pure ?_
  refine wpAny_bind (wpAny_isInstance (T := "dict") db.typeIs PySem.F.sub_dict_dict ?_)
  simp only [Bool.not_true, Bool.false_eq_true, if_false]
  refine wpAny_bind (wpAny_pure (wpAny_bind (wpAny_pure ?_)))
  refine wpAny_bind (samePairsH hr ha hb da db hl hits ?_)
  refine wpAny_pure ⟨_, rfl, ?_, ?_⟩
  · exact fun x => nomatch x
  · simpa using h
/-- dict(o) -/
theorem call_dictH {o : Addr} {more : List (K × Addr × Value)} {Q : Value → Shared → Prop} (hu : knd.room A.in1.in1) (hoS : (o == sysModules) = false) (ho : s.heap.DictOfH knd o more)
    (ho' : ∀ x, (s.heap.push x).DictOfH knd o more) (hty : ∀ x ∈ more, ∀ y, ({ s with heap := s.heap.push y } : Shared).TypeIs (.ref x.2.1) "tuple") (hap : (more.map fun x => knd.hash x.1).Nodup) (hsz : more.length ≤ sizeLine)
    (h : ∀ h', h'.DictOfH knd s.heap.objs.size more → Heap.SameBut s.heap.objs.size (s.heap.push { cls := .type "dict", data := .dict #[] }) h' → Q (.ref s.heap.objs.size) { s with heap := h' }) :
    wpAny (model prog w) A (call (.type "dict") [.ref o]) Q E s := by
  refine callType_codes (Q₁ := fun obj s₁ => obj = .ref s.heap.objs.size ∧ s₁ = { s with heap := s.heap.push { cls := .type "dict", data := .dict #[] } }) F.kt_called_dict (F.kt_typeCall_dict_1 _) F.entry_dict_init (kt_code_dict_new _ ⟨rfl, rfl⟩) ?_
  rintro obj s₁ ⟨rfl, rfl⟩
  have hnew : (s.heap.push { cls := .type "dict", data := .dict #[] }).DictOfH knd s.heap.objs.size [] := Heap.DictOfH.new s.heap
  have ho2 := ho' { cls := .type "dict", data := .dict #[] }
  have hn : (more.map (·.1)).Nodup := ho.nodup
  have hdo : s.heap.objs.size ≠ o := by
    obtain ⟨_, _, _, hg, _⟩ := ho
    exact fun e => absurd (Heap.lt_size hg) (by rw [e]; exact Nat.lt_irrefl _)
  refine ⟨hnew.typeIs, F.args_dict_init_2 _ _, ?_⟩
  unfold Builtin.«dict.__init__»
  refine wpAny_bind ?_
  unfold Builtin.Dict.selfAndRest
  refine wpAny_bind (wpAny_notOrdered_dict hnew.typeIs ?_)
  show wpAny _ _ (pure (s.heap.objs.size, [Value.ref o])) _ _ _
  refine wpAny_pure ?_
  show wpAny _ _ (Builtin.Dict.updateFrom "dict.__init__" s.heap.objs.size (.ref o) [] .none) _ _ _
  refine updateFrom_dictH .none hu hdo hoS hnew ho2 (.inr ⟨fun x hx => hty x hx _, hap⟩) (by simpa using hsz) fun h' hd' _ hs' => ?_
  rw [storedAllH_nil_of_nodup _ hn] at hd'
  exact ⟨rfl, h h' hd' hs'⟩
end
section
variable {X : Cx} {K : PySem.W.Frag} {P : Program} {w : World} {pins : List (Addr × Obj)} {σ : L2.St} {H : Hp} {s : Shared}
/-- a == b, a != b: what both have is alike -/
def BoxEq (K : PySem.W.Frag) (H : Hp) (L1 L2 : BoxL) : Prop := L1.length = L2.length ∧ ∀ p ∈ L1, ∃ v, findB L2 p.2.1 = some v ∧ ∃ c : List Int, Dp K H p.2.2 (.tuple (c.map PyData.int)) ∧ Dp K H v (.tuple (c.map PyData.int))
def rNeB (K : PySem.W.Frag) (P : Program) (w : World) : R2 := fun x y H Q => ∃ (a b : Addr) (L1 L2 : BoxL), x = .ref a ∧ y = .ref b ∧ Rd H a (DBO P w a L1) ∧ Rd H b (DBO P w b L2) ∧ BoxesAt K H L1 ∧ BoxesAt K H L2 ∧ BoxEq K H L1 L2 ∧ Q (.bl false) H
theorem depth_ints : ∀ c : List Int, PyData.depthAll (c.map PyData.int) = 0
  | [] => rfl
  | i :: c => by
    rw [List.map_cons]
    show max 0 (PyData.depthAll (c.map PyData.int)) = 0
    rw [depth_ints c]
    rfl
theorem eqv_intsT (c : List Int) : PyData.eqv (.tuple (c.map PyData.int)) (.tuple (c.map PyData.int)) = true := by
  rw [PyData.eqv]
  induction c with
  | nil => rfl
  | cons x c ih =>
    rw [List.map_cons, PyData.eqvAll, ih, PyData.eqv]
    simp
theorem op_neB (hu : X.A.units + 64 < cLine) (eK : X.K = K := by rfl) (eP : X.prog = P := by rfl) (ew : X.w = w := by rfl) : OpR X (compareOp .NotEq) (rNeB K P w) := by
  subst eK eP ew
  intro pins s σ H x y v u Q I rx ry h
  obtain ⟨a, b, L1, L2, rfl, rfl, ha, hb, h1, h2, ⟨hl, he⟩, q⟩ := h
  cases rx
  cases ry
  obtain ⟨xs, hF, hd⟩ := Inv.dbo I ha
  obtain ⟨ys, hG, hd2⟩ := Inv.dbo I hb
  have lx : xs.length = L1.length := (Paired.length hF).symm
  have ly : ys.length = L2.length := (Paired.length hG).symm
  refine keqH_ne (knd := NK X.prog X.w) (show X.A.units + 1 + 8 < cLine by omega) hd.1 hd2.1 (boxes_full I hF hd h1) (boxes_full I hG hd2 h2) (show X.A.units < cLine by omega) (by omega) (fun x hx => ?_) ⟨.bl false, H, I, rfl, q⟩
  obtain ⟨i, hi, ei⟩ := List.mem_iff_getElem.mp hx
  have hxi : xs[i]? = some x := by rw [← ei]; exact List.getElem?_eq_getElem hi
  have hpi : L1[i]? = some (L1[i]'(by omega)) := List.getElem?_eq_getElem (by omega)
  obtain ⟨r1, r2, r3⟩ : x.2.1 = (L1[i]'(by omega)).1 ∧ x.1 = bk (L1[i]'(by omega)).2.1 ∧ RelV (L1[i]'(by omega)).2.2 x.2.2 := by
    obtain ⟨y, hy, r⟩ := _root_.L2.paired_get hF hpi
    rw [hxi] at hy
    cases hy
    exact r
  generalize L1[i]'(by omega) = p at hpi r1 r2 r3
  obtain ⟨v, hv, c, d1, d2⟩ := he p (List.mem_of_getElem? hpi)
  have rl := hG.find p.2.1
  rw [hv, ← r2] at rl
  cases hz : atKey ys x.1 with
  | none =>
    rw [hz] at rl
    exact (show False from rl).elim
  | some z =>
    rw [hz] at rl
    refine ⟨z, rfl, ?_⟩
    obtain ⟨as, q1⟩ := Dp.reads I _ _ x.2.2 d1 r3
    obtain ⟨bs, q2⟩ := Dp.reads I _ _ z.2 d2 rl
    have y := eqAt_alike (.tuple (c.map PyData.int)) (.tuple (c.map PyData.int)) X.A.in1 s x.2.2 z.2 as bs q1 q2 (show alikeAll _ _ = true from alike_ints c c) (by
      show X.A.units + 1 + min (PyData.depthAll (c.map PyData.int) + 1) (PyData.depthAll (c.map PyData.int) + 1) < cLine
      rw [depth_ints]
      show X.A.units + 1 + min 1 1 < cLine
      omega)
    rw [eqv_intsT] at y
    exact y.inModel _ _
/-- dict(d) -/
def rDictCB (K : PySem.W.Frag) (P : Program) (w : World) : List V → Hp → VK → Prop := fun xs H Q => ∃ (a : Addr) (L : BoxL), xs = [V.ref a] ∧ Rd H a (DBO P w a L) ∧ BoxesAt K H L ∧ (L.map fun p => (bk p.2.1).hash w).Nodup ∧ L.length ≤ 100000 ∧ ∀ d, H d = none → Q (.ref d) (upd H d (DBO P w d L))
theorem call_dictCB (hu : X.A.units + 64 < cLine) (eK : X.K = K := by rfl) (eP : X.prog = P := by rfl) (ew : X.w = w := by rfl) : CallR X (.type "dict") (rDictCB K P w) := by
  subst eK eP ew
  intro pins s σ H xs us Q I r h
  obtain ⟨a, L, rfl, ha, hL, hh, few, q⟩ := h
  rw [Vals.ref1 r]
  obtain ⟨xs, hF, hd⟩ := Inv.dbo I ha
  have lx : xs.length = L.length := (Paired.length hF).symm
  have dd := boxes_full I hF hd hL
  have key : ∀ x ∈ xs, NestedIs s.heap x.1 (.ref x.2.1) := fun x hx => by
    obtain ⟨p, hp, e1, e2⟩ := valB_mem hF x hx
    rw [e1, e2]
    exact (Inv.boxKey I (hL p hp)).1
  refine call_dictH (knd := NK X.prog X.w) (show X.A.units + 1 + 1 + 8 < cLine by omega) hd.1 dd (fun x => ?_) (fun x hx y => ?_) ?_ (by rw [lx, sizeLine_eq]; omega) fun h' hd' hs => ?_
  · have sb : ∀ b o, s.heap.get? b = some o → (s.heap.push x).get? b = some o := fun b o e => Heap.get?_push_of_some _ e
    obtain ⟨o, es, ep, g1, g2, g3, g4, g5, g6⟩ := dd
    exact ⟨o, es, ep, sb _ _ g1, g2, g3, g4, fun z hz => nestedKind_stays.stays (fun b o vs n e _ => sb b o e) (g5 z hz), g6⟩
  · have k := key x hx
    obtain ⟨p, hp, e1, e2⟩ := valB_mem hF x hx
    rw [e2] at k
    unfold bk at k
    cases k with
    | tup h1 h2 _ _ => exact ⟨_, Heap.get?_push_of_some _ h1, h2⟩
  · have e : (xs.map fun x => (NK X.prog X.w).hash x.1) = L.map fun p => (bk p.2.1).hash X.w := by
      have : xs.map (fun x => x.1) = L.map fun p => bk p.2.1 := by
        clear key dd hd lx ha hL hh few q
        unfold ValB at hF
        induction hF with
        | nil => rfl
        | cons r _ ih => rw [List.map_cons, List.map_cons, ih, r.2.1]
      have e2 := congrArg (List.map fun k => NestedKey.hash X.w k) this
      rw [List.map_map, List.map_map] at e2
      exact e2
    rw [e]
    exact hh
  · have hm : (s.heap.objs.size == sysModules) = false := beq_eq_false_iff_ne.mpr (Nat.ne_of_gt I.big)
    exact ⟨.ref s.heap.objs.size, _, I.laid (a := s.heap.objs.size) (t' := s.toks) (fun b u e => (hs.2 b (Nat.ne_of_lt (Heap.lt_size e))).trans (Heap.get?_push_of_some _ e)) (Nat.le_refl _) (dbo_ok hF (braw_of hd' hm)), rfl, q _ (I.hok.fresh (Nat.le_refl _))⟩
/-- isinstance(d, dict) -/
def rIsiB (P : Program) (w : World) : List V → Hp → VK → Prop := fun xs H Q => ∃ (a : Addr) (L : BoxL), xs = [.ref a, .ty "dict"] ∧ Rd H a (DBO P w a L) ∧ Q (.bl true) H
theorem call_isiB (eP : X.prog = P := by rfl) (ew : X.w = w := by rfl) : CallR X (.builtin "isinstance") (rIsiB P w) := by
  subst eP ew
  intro pins s σ H xs us Q I r h
  obtain ⟨a, L, rfl, ha, q⟩ := h
  obtain ⟨u1, u2, rfl, r1, r2⟩ := vals2 r
  cases (show u1 = Value.ref a from r1)
  cases (show u2 = Value.type "dict" from r2)
  obtain ⟨xs, _, _, _, o, es, ep, g1, g2, _⟩ := Inv.dbo I ha
  exact PySem.W.kia_one PySem.W.kitx_dict I.kIn ⟨o, g1, g2.1⟩ (show PySem.W.kitOne X.K (.type "dict") (.type "dict") = some true from if_pos (beq_self_eq_true _)) (fun z => nomatch z) fun tk => ⟨.bl true, H, I.tok tk, rfl, q⟩
end
end Fm
namespace Fm
open PySem PySem.Spec PyProof.Rows L2 PySem.W
section
variable {X : Cx} {K : PySem.W.Frag} {P : Program} {w : World} {pins : List (Addr × Obj)} {σ : L2.St} {H : Hp} {s : Shared}
/-! ### d.clear() -/
def tClearB (P : Program) (w : World) (to : TE) : TE := fun σ H Q => to σ H fun x H1 => ∃ (a : Addr) (L : BoxL), x = .ref a ∧ H1 a = some (DBO P w a L) ∧ L.length ≤ 100000 ∧ Q .non (upd H1 a (DBO P w a []))
theorem pe_clearB {o : Expr} {to : TE} {apos cpos : Pos} (ho : PE X o to) (hbase : attributeBase o "clear" X.env (eval o X.env) = eval o X.env := by rfl) (hline : (apos.endLine == cpos.line) = true := by rfl) (eP : X.prog = P := by rfl) (ew : X.w = w := by rfl) :
    PE X (.Call (.Attribute o "clear" apos) [] [] cpos) (tClearB P w to) := by
  subst eP ew
  refine ⟨fun pins s σ H Q I h => ?_⟩
  refine wpAny_Call_method0_late hbase hline (thn (ho.run pins s σ H _ I h) fun v s1 ⟨x, H1, I1, r1, a, L, ex, hd, hl, q⟩ => ?_)
  subst ex
  cases r1
  obtain ⟨xs, hF, sysm, _, ob, es, ep, g1, g2, g3, g4⟩ := Inv.dbo I1 (.inl hd)
  have lx : xs.length = L.length := (Paired.length hF).symm
  refine ⟨"dict", "dict.clear", F.plainAttrs_dict, F.slot_dict_clear, F.type_dict_clear, ⟨ob, g1, g2.1⟩, fun c e => (by cases e; exact ⟨ob, g1, g2.2.1⟩), Calls.callWith_builtin rfl (PySem.evalArgs_none ?_)⟩
  have hr : s1.heap.DictRaw a es ep := ⟨ob, g1, g2, g3⟩
  refine call_meetsIn F.slot_dict_clear hr.typeIs F.entry_dict_clear (F.args_dict_clear_1 _) (meets_dict_clear_raw a) ⟨es, ep, hr, by rw [size_of_entries g4, lx, sizeLine_eq]; omega, fun h' hr' hs' => ?_⟩
  obtain ⟨o', ho', hc', hd'⟩ := hr'
  exact ⟨.non, _, I1.write (e := a) (t' := s1.toks) (by rw [hd]; trivial) (.inl rfl) (fun c u hc hu => (hs'.2 c hc).trans hu) ⟨_, ho'⟩ (dbo_ok (xs := []) .nil ⟨sysm, List.nodup_nil, o', #[], ep + 1, ho', hc', hd', rfl⟩), rfl, q⟩
/-! ### dict(list of pairs) -/
abbrev PrB := List (Addr × Addr × (List Int × List Int) × V)
def PrBAt (K : PySem.W.Frag) (H : Hp) (M : PrB) : Prop := ∀ m ∈ M, SqT K H m.1 [.ref m.2.1, m.2.2.2] ∧ BoxAt K H m.2.1 m.2.2.1
abbrev NB := List ((Addr × Addr × (List Int × List Int) × V) × Value)
theorem prb_vals (I : Inv X pins σ H s) : ∀ {M : PrB}, PrBAt X.K H M → ∃ N : NB, N.map (·.1) = M ∧ ∀ n ∈ N, RelV n.1.2.2.2 n.2 ∧ IsTup s.heap n.1.1 #[.ref n.1.2.1, n.2] ∧ (NK X.prog X.w).is s.heap (bk n.1.2.2.1) n.1.2.1
  | [], _ => ⟨[], rfl, fun n hn => (by cases hn)⟩
  | m :: M, h => by
    obtain ⟨N, e, hN⟩ := prb_vals I (M := M) fun z hz => h z (List.mem_cons_of_mem _ hz)
    obtain ⟨h1, h2⟩ := h m List.mem_cons_self
    obtain ⟨its, rv, pt, _⟩ := I.tuple h1
    cases rv with
    | cons r1 rr =>
      cases rr with
      | cons r2 rn =>
        cases rn
        cases r1
        rename_i u
        refine ⟨(m, u) :: N, by rw [List.map_cons, e], fun n hn => ?_⟩
        rcases List.mem_cons.mp hn with z | z
        · rw [z]
          exact ⟨r2, pt, Inv.boxKey I h2⟩
        · exact hN n z
theorem tsB {N : NB} {j : Nat} {n : (Addr × Addr × (List Int × List Int) × V) × Value} (h : N[j]? = some n) : ((N[j]?).map (·.1.1)).getD 0 = n.1.1 := by rw [h] <;> rfl
theorem prb_items {h : Heap} {N : NB} {its : List Value} (e : its = N.map fun n => Value.ref n.1.1) (hN : ∀ n ∈ N, IsTup h n.1.1 #[.ref n.1.2.1, n.2]) :
    PairItems h its.toArray (fun j => ((N[j]?).map (·.1.1)).getD 0) (N.map fun n => (Value.ref n.1.2.1, n.2)) := by
  refine ⟨by rw [e] <;> simp, fun j k v hj => ?_⟩
  rw [List.getElem?_map] at hj
  obtain ⟨n, hn, en⟩ := Option.map_eq_some_iff.mp hj
  cases en
  refine ⟨?_, ?_⟩
  · rw [e]
    simp [hn]
  · show PairAt h (((N[j]?).map (·.1.1)).getD 0) _ _
    rw [tsB hn]
    exact .inl (hN n (List.mem_of_getElem? hn))
def entB (n : (Addr × Addr × (List Int × List Int) × V) × Value) : EntB := (bk n.1.2.2.1, n.1.2.1, n.2)
theorem prb_have {N : NB} : PairsHaveH (NK P w) (N.map fun n => (Value.ref n.1.2.1, n.2)).length (PairRel (N.map fun n => (Value.ref n.1.2.1, n.2))) (N.map entB) := by
  refine ⟨by simp, fun i key v hi => ?_⟩
  have hi' : (N.map fun n => (Value.ref n.1.2.1, n.2))[i]? = some (key, v) := hi
  rw [List.getElem?_map] at hi'
  obtain ⟨n, hn, en⟩ := Option.map_eq_some_iff.mp hi'
  cases en
  exact ⟨bk n.1.2.2.1, n.1.2.1, by rw [List.getElem?_map, hn] <;> rfl, rfl⟩
theorem valB_of {M : PrB} {N : NB} (e : N.map (·.1) = M) (hN : ∀ n ∈ N, RelV n.1.2.2.2 n.2) : ValB (M.map (·.2)) (N.map entB) := by
  subst e
  unfold ValB
  induction N with
  | nil => exact .nil
  | cons n N ih =>
    rw [List.map_cons, List.map_cons, List.map_cons]
    exact .cons ⟨rfl, rfl, hN n List.mem_cons_self⟩ (ih fun z hz => hN z (List.mem_cons_of_mem _ hz))
theorem nodup_bk : ∀ {qs : List (List Int × List Int)}, qs.Nodup → (qs.map bk).Nodup
  | [], _ => List.nodup_nil
  | q :: qs, h => by
    rw [List.nodup_cons] at h
    rw [List.map_cons, List.nodup_cons]
    refine ⟨fun hm => ?_, nodup_bk h.2⟩
    obtain ⟨z, hz, e⟩ := List.mem_map.mp hm
    exact h.1 (by rw [← bk_inj e]; exact hz)
def rDictLB (K : PySem.W.Frag) (P : Program) (w : World) : List V → Hp → VK → Prop := fun xs H Q => ∃ (a : Addr) (M : PrB), xs = [V.ref a] ∧ SqL K H a (M.map fun m => V.ref m.1) ∧ PrBAt K H M ∧ (M.map fun m => m.2.2.1).Nodup ∧ M.length ≤ 100000 ∧
  ∀ d, H d = none → Q (.ref d) (upd H d (DBO P w d (M.map (·.2))))
theorem call_dictLB (hc : X.calm = true) (hu : X.A.units + 64 < cLine) (eK : X.K = K := by rfl) (eP : X.prog = P := by rfl) (ew : X.w = w := by rfl) : CallR X (.type "dict") (rDictLB K P w) := by
  subst eK eP ew
  intro pins s σ H xs us Q I r h
  obtain ⟨a, M, rfl, ha, hM, nd, few, q⟩ := h
  rw [Vals.ref1 r]
  obtain ⟨N, e, hN⟩ := prb_vals I hM
  obtain ⟨its, rv, pl, hz⟩ := I.list ha
  have hi : its = N.map fun n => Value.ref n.1.1 := by
    have := refs_vals rv
    rw [this, ← e, List.map_map]
    rfl
  obtain ⟨ol, nl, g0, gc, gd, gdat⟩ := pl
  have ok : PlainSeq "list" s.heap a its.toArray ∧ PairItems s.heap its.toArray (fun j => ((N[j]?).map (·.1.1)).getD 0) (N.map fun n => (Value.ref n.1.2.1, n.2)) := ⟨⟨ol, nl, g0, gc, gd, gdat⟩, prb_items hi fun n hn => (hN n hn).2.1⟩
  have hlen : N.length = M.length := by rw [← e, List.length_map]
  have ndN : ((N.map entB).map (·.1)).Nodup := by
    have e1 : (N.map entB).map (·.1) = (M.map fun m => m.2.2.1).map bk := by
      rw [← e, List.map_map, List.map_map, List.map_map]
      rfl
    rw [e1]
    exact nodup_bk nd
  refine call_dict_pairsH (knd := NK X.prog X.w) (PairArg.list a its.toArray _ _) (I.ok.hd hc) (show X.A.units + 1 + 1 + 8 < cLine by omega) ok prb_have (fun g hk x hx => ?_) (by rw [List.length_map, sizeLine_eq]; omega) fun g tk hd hk => ?_
  · obtain ⟨n, hn, ex⟩ := List.mem_map.mp hx
    subst ex
    obtain ⟨k1, k2⟩ := (hN n hn).2.2
    exact ⟨NestedIs.at (fun b o vs m e _ => hk b o (Nat.ne_of_lt (Heap.lt_size e)) (by simp) e) _ _ k1, k2⟩
  · rw [storedAllH_nil_of_nodup _ ndN] at hd
    have hn : H s.heap.objs.size = none := I.hok.fresh (Nat.le_refl _)
    exact ⟨.ref s.heap.objs.size, _, I.laid (a := s.heap.objs.size) (t' := tk) (fun b ob z => hk b ob (by simp) z) (Nat.le_refl _) (dbo_ok (valB_of e fun n hn => (hN n hn).1) (braw_of hd (beq_eq_false_iff_ne.mpr (Ne.symm (Nat.ne_of_lt I.big))))), rfl, q _ hn⟩
/-! ### d.get(b, z) -/
def tDGetZ (K : PySem.W.Frag) (P : Program) (w : World) (td ty tx : TE) : TE := fun σ H Q => td σ H fun x H1 => (∃ a L, x = .ref a ∧ H1 a = some (DBO P w a L)) ∧ ty σ H1 fun y H2 => tx σ H2 fun z H3 =>
  ∃ (a b : Addr) (L : BoxL) (q : List Int × List Int), x = .ref a ∧ y = .ref b ∧ H3 a = some (DBO P w a L) ∧ BoxesAt K H3 L ∧ BoxAt K H3 b q ∧ Q ((findB L q).getD z) H3
theorem pe_dgetZ {o e f : Expr} {apos cpos : Pos} {td ty tx : TE} (hu : X.A.units + 64 < cLine) (ho : PE X o td) (he : PE X e ty) (hf : PE X f tx) (m : M2 X o "get" apos e f cpos) (eK : X.K = K := by rfl) (eP : X.prog = P := by rfl) (ew : X.w = w := by rfl) :
    PE X (.Call (.Attribute o "get" apos) [e, f] [] cpos) (tDGetZ K P w td ty tx) := by
  subst eK eP ew
  refine ⟨fun pins s σ H Q I h => ?_⟩
  refine wpAny_Call_method m.base m.few m.line F.plainAttrs_dict F.slot_dict_get F.type_dict_get (thn (ho.run pins s σ H _ I h) fun u s1 ⟨x, H1, I1, rx, ⟨a, G, ex, hd⟩, q1⟩ => ?_)
  subst ex
  cases rx
  obtain ⟨xs, _, sysm, _, ob, es, ep, g1, g2, _⟩ := Inv.dbo I1 (.inl hd)
  refine ⟨⟨ob, g1, g2.1⟩, fun c z => (by cases z; exact ⟨ob, g1, g2.2.1⟩), ?_⟩
  rw [m.trees]
  refine Calls.callWith_builtin rfl (Calls.evalArgs_plain (Calls.spliced_cons (thn (he.run pins s1 σ H1 _ I1 q1) fun iv s2 ⟨y, H2, I2, ry, q2⟩ =>
    Calls.spliced_cons (thn (hf.run pins s2 σ H2 _ I2 q2) fun fv s3 ⟨z, H3, I3, rz, a', b, L, q, ea, eb, hd3, hL, hb, q3⟩ => Calls.spliced_nil ?_))))
  cases ea
  subst eb
  cases ry
  obtain ⟨ys, hF, hraw⟩ := Inv.dbo I3 (.inl hd3)
  have dd := boxes_full I3 hF hraw hL
  refine call_meetsIn F.slot_dict_get dd.typeIs F.entry_dict_get (F.args_dict_get_3 _ _ _) (meetsH_dict_get_default (NK X.prog X.w) a b hraw.1 fv) ⟨show X.A.units + 1 + 8 < cLine by omega, bk q, ys, Inv.boxKey I3 hb, dd, ?_⟩
  exact ⟨_, H3, I3.tok _, (hF.find q).getD rz, q3⟩
/-! ### d[b] = v, whether b is there or not -/
def storeB (L : BoxL) (b : Addr) (q : List Int × List Int) (v : V) : BoxL := if (findB L q).isSome then L.map (fun p => if p.2.1 = q then (p.1, p.2.1, v) else p) else L ++ [(b, q, v)]
theorem valB_put {L : BoxL} {xs : List EntB} {q : List Int × List Int} {v : V} {r : Value} (h : ValB L xs) (rv : RelV v r) : ValB (L.map fun p => if p.2.1 = q then (p.1, p.2.1, v) else p) (xs.map (putAt (bk q) r)) := by
  unfold ValB at h ⊢
  induction h with
  | nil => exact .nil
  | @cons p x ps qs r1 _ ih =>
    rw [List.map_cons, List.map_cons]
    refine .cons ?_ ih
    obtain ⟨a1, a2, a3⟩ := r1
    unfold putAt
    by_cases e : p.2.1 = q
    · rw [if_pos e, if_pos (by rw [a2, e])]
      exact ⟨a1, a2, rv⟩
    · rw [if_neg e, if_neg (fun z => e (bk_inj (a2.symm.trans z)))]
      exact ⟨a1, a2, a3⟩
def sDPutR (K : PySem.W.Frag) (P : Program) (w : World) (td ty tv : TE) : TS := fun D σ H => tv σ H fun v H1 => td σ H1 fun x H2 => ty σ H2 fun y H3 => ∃ (a b : Addr) (q : List Int × List Int) (L : BoxL), x = .ref a ∧ y = .ref b ∧ H3 a = some (DBO P w a L) ∧ BoxesAt K H3 L ∧ BoxAt K H3 b q ∧ L.length ≤ 100000 ∧
  D.nx σ (upd H3 a (DBO P w a (storeB L b q v)))
theorem ps_dputR {o i value : Expr} {pos pos' : Pos} {td ty tv : TE} (hu : X.A.units + 64 < cLine) (ho : PE X o td) (hi : PE X i ty) (hv : PE X value tv) (hs : swapsWith value (some (.Subscript o i pos')) pos.line X.env = pure false) (eK : X.K = K := by rfl) (eP : X.prog = P := by rfl) (ew : X.w = w := by rfl) :
    PS X (.Assign [.Subscript o i pos'] value pos) (sDPutR K P w td ty tv) := by
  subst eK eP ew
  refine ⟨fun pins s σ H D I h => ?_⟩
  refine wpAny_Assign_Subscript (thn (hv.run pins s σ H _ I h) fun r s1 ⟨v, H1, I1, rv, q1⟩ => thn (ho.run pins s1 σ H1 _ I1 q1) fun u s2 ⟨x, H2, I2, rx, q2⟩ => thn (hi.run pins s2 σ H2 _ I2 q2) fun iv s3 ⟨y, H3, I3, ry, a, b, q, L, ex, ey, ha, hL, hb, hl, q3⟩ => ?_) hs
  subst ex ey
  cases rx
  cases ry
  obtain ⟨xs, hF, hd⟩ := Inv.dbo I3 (.inl ha)
  have hxl : xs.length = L.length := (Paired.length hF).symm
  refine wpAny_setItem_heap (knd := NK X.prog X.w) (hsz := by rw [hxl, sizeLine_eq]; omega) (show X.A.units + 1 + 8 < cLine by omega) (Inv.boxKey I3 hb) (boxes_full I3 hF hd hL) fun h' hm sb => ?_
  have he : ∃ u, h'.get? a = some u := by
    obtain ⟨o, _, _, z, _⟩ := hm
    exact ⟨o, z⟩
  have e : (findB L q).isSome = (atKey xs (bk q)).isSome := by
    rw [(hF.find q).isSome_eq, Option.isSome_map]
  have hF2 : ValB (storeB L b q v) (storedH xs (bk q) b r) := by
    unfold storeB storedH
    rw [e]
    by_cases z : (atKey xs (bk q)).isSome = true
    · rw [if_pos z, if_pos z]
      exact valB_put hF rv
    · rw [if_neg z, if_neg z]
      exact Paired.snoc hF ⟨rfl, rfl, rv⟩
  exact ⟨σ, _, I3.write (e := a) (t' := s3.toks + (NK X.prog X.w).draws (bk q)) (by rw [ha]; trivial) (.inl rfl) (fun c u hc hu => (sb.2 c hc).trans hu) he (dbo_ok hF2 (braw_of hm hd.1)), q3⟩
/-! ### for b, v in d.items() -/
def ItiB (P : Program) (w : World) (d : Addr) (o : Obj) (L : BoxL) : It := ⟨fun i H => H d = some (.frz o (DBO P w d L)) ∧ i < L.length, fun i H x H' => ∃ T p, L[i]? = some p ∧ x = .ref T ∧ H T = none ∧ H' = upd H T (.tup [.ref p.1, p.2.2]), fun i H => H d = some (.frz o (DBO P w d L)) ∧ L.length ≤ i⟩
theorem Inv.frzB2 {d : Addr} {o : Obj} {L : BoxL} (I : Inv X pins σ H s) (h : H d = some (.frz o (DBO X.prog X.w d L))) :
    (d == sysModules) = false ∧ s.heap.get? d = some o ∧ o.ExactDict ∧ ∃ (es : Array DictEntry) (ep : Nat), o.data = .dict es ep ∧ es.size = L.length ∧ ∀ (i : Nat) p, L[i]? = some p → ∃ en, es[i]? = some en ∧ en.key = .ref p.1 ∧ RelV p.2.2 en.val := by
  obtain ⟨g0, ⟨xs, hx, sy, _, o', es, ep, g1, g2, g3, g4⟩, _⟩ := I.hok d _ h
  rw [g0] at g1
  cases g1
  refine ⟨sy, g0, g2, es, ep, g3, by rw [size_of_entries g4, ← Paired.length hx], fun i p hi => ?_⟩
  obtain ⟨y, hy, r1, _, r3⟩ := _root_.L2.paired_get hx hi
  refine ⟨_, by rw [entry_at g4, hy] <;> rfl, ?_, r3⟩
  rw [← r1]
  rfl
theorem turn_itemsB {elts : List Expr} {kk : Nat} {tpos : Pos} {d : Addr} {o : Obj} {L : BoxL} {es : Array DictEntry} {ep : Nat} (it : Addr) (hod : o.data = .dict es ep) : Turn P w K (.Tuple elts kk tpos) (ItiB P w d o L) [it] it (fun i h => ∃ ok ov, IsItemIter h it d i L.length ep ok ov) where
  mem := List.mem_singleton.mpr rfl
  obj := fun i h st b hb => by
    rw [List.mem_singleton.mp hb]
    obtain ⟨ok, ov, e⟩ := st
    exact ⟨_, e, fun v z => nomatch z⟩
  keep := fun i h h' st k => let ⟨ok, ov, e⟩ := st; ⟨ok, ov, k it (by simp) _ e⟩
  item := by
    intro X hP hw hK hc i pins s σ H E I hf st hg
    subst hP hw hK
    obtain ⟨hd, hi⟩ := hg
    obtain ⟨hs, g0, hx, es', ep', hdt, hsz, ent⟩ := Inv.frzB2 I hd
    obtain ⟨rfl, rfl⟩ := dict_ep hod hdt
    obtain ⟨p, hp⟩ : ∃ p, L[i]? = some p := ⟨_, List.getElem?_eq_getElem hi⟩
    obtain ⟨en, hen, hk, hv⟩ := ent i p hp
    obtain ⟨ok, ov, he⟩ := st
    rw [← hsz] at he
    have hlt : it < s.heap.objs.size := Heap.lt_size he
    have hi' : i < es'.size := by omega
    have een : es'[i] = en := by
      rw [Array.getElem?_eq_getElem hi'] at hen
      exact Option.some.inj hen
    refine wpAny_pyNext_items_item_raw he ⟨o, g0, hx, hod⟩ hi' fun h' ho hT hz hk' => ?_
    rw [een] at ho hT
    refine ⟨_, rfl, wpAny_letOwnedTupleGo_items (s := { s with heap := h' }) ho fun h'' he' sb => ?_⟩
    have hT2 : h''.get? s.heap.objs.size = some { cls := .type "tuple", data := .seq #[en.key, en.val] } := (sb.2 _ (Nat.ne_of_gt hlt)).trans hT
    have new : ObjOk X.prog X.w (upd H s.heap.objs.size (.tup [.ref p.1, p.2.2])) h'' s.heap.objs.size (.tup [.ref p.1, p.2.2]) :=
      ⟨by show 2 ≤ sizeLine; decide, [en.key, en.val], .cons (by rw [hk]; exact rfl) (.cons hv .nil), ⟨_, hT2, rfl, _, rfl⟩⟩
    have I1 : Inv X pins σ (upd H s.heap.objs.size (.tup [.ref p.1, p.2.2])) { s with heap := h'' } :=
      I.turnedNew (t' := s.toks) (ch := [it]) (fun b ob hb e => (sb.2 b (by simpa using hb)).trans (hk' b ob (by simpa using hb) e)) hf (Nat.le_refl _) new
    refine ⟨.ref s.heap.objs.size, _, I1, rfl, ⟨_, p, hp, rfl, I.hok.fresh (Nat.le_refl _), rfl⟩, ⟨en.key, en.val, ?_⟩, fun b hb => ?_⟩
    · rw [← hsz]; exact he'
    · have e : b = it := by simpa using hb
      rw [e, upd_ne (Nat.ne_of_lt hlt)]
      exact (hf it (by simp)).1
  done := by
    intro X hP hw hK hc i pins s σ H E I hf st hg
    subst hP hw hK
    obtain ⟨hd, hi⟩ := hg
    obtain ⟨f0, f1, f2, f3, f4, f5⟩ := hf it (by simp)
    obtain ⟨hs, g0, hx, es', ep', hdt, hsz, ent⟩ := Inv.frzB2 I hd
    obtain ⟨rfl, rfl⟩ := dict_ep hod hdt
    obtain ⟨ok, ov, he⟩ := st
    rw [← hsz] at he
    exact wpAny_pyNext_items_end_raw (I.ok.hd hc) he ⟨o, g0, hx, hod⟩ (by omega) fun h' eb => ⟨rfl, I.turned (t' := s.toks) (fun b ob hb e => eb b ob hb e) f0 f1 f3 f4 f5⟩
  self := fun A i s Q E st h => let ⟨_, _, e⟩ := st; PySem.W.kcp_self e h
def iItemsB (P : Program) (w : World) (td : TE) : TI := fun σ H R => td σ H fun x H1 => ∃ d o L, x = .ref d ∧ H1 d = some (.frz o (DBO P w d L)) ∧ R (ItiB P w d o L) H1
theorem pi_itemsB {e : Expr} {td : TE} {apos cpos : Pos} {elts : List Expr} {kk : Nat} {tpos : Pos} (he : PE X e td) (hbase : attributeBase e "items" X.env (eval e X.env) = eval e X.env := by rfl) (hline : (apos.endLine == cpos.line) = true := by rfl) (eP : X.prog = P := by rfl) (ew : X.w = w := by rfl) :
    PI X (.Tuple elts kk tpos) (.Call (.Attribute e "items" apos) [] [] cpos) (iItemsB P w td) := by
  subst eP ew
  refine ⟨fun pins s σ H R I h => ?_⟩
  refine wpAny_Call_method (T := "dict") (id := "dict.items") hbase rfl hline F.plainAttrs_dict F.slot_dict_items F.type_dict_items (thn (he.run pins s σ H _ I h) fun u s1 ⟨x, H1, I1, rx, d, o, L, ex, hd, q⟩ => ?_)
  subst ex
  obtain rfl : u = Value.ref d := rx
  obtain ⟨hs, g0, hx, es, ep, hdt, hsz, ent⟩ := Inv.frzB2 I1 hd
  have hr : s1.heap.DictRaw d es ep := ⟨o, g0, hx, hdt⟩
  refine ⟨hr.typeIs, fun c e => (by cases e; exact ⟨o, g0, hx.2.1⟩), ?_⟩
  have I2 : Inv X pins σ H1 { s1 with heap := s1.heap.push { cls := .type "dict_items", data := .fields #[.ref d] } } := I1.kept (t' := s1.toks) fun b ob q => Heap.get?_push_of_some _ q
  have fin : wpAny (model X.prog X.w) X.A (pyIter (.ref s1.heap.objs.size)) (PIE X pins σ (.Tuple elts kk tpos) R) X.xe { s1 with heap := s1.heap.push { cls := .type "dict_items", data := .fields #[.ref d] } } := by
    refine wpAny_pyIter_items_raw (d := d) ⟨_, Heap.get?_push_size _ rfl, rfl, rfl⟩ (hr.at fun o' z => Heap.get?_push_of_some _ z) (pi_one (tk := s1.toks) I2 _ (turn_itemsB _ hdt) ⟨.none, .none, ?_⟩ q)
    rw [← hsz]
    exact Heap.get?_push_size _ rfl
  show wpAny _ _ (callWith cpos (.builtin "dict.items") [.ref d] [] []) _ X.xe s1
  exact method_meetsIn F.slot_dict_items F.entry_dict_items rfl (PySem.evalArgs_none ⟨rfl, hr.typeIs, F.args_dict_items_1 _, _, meets_dict_items_raw d hs, ⟨es, ep, hr⟩, fin⟩)
end
end Fm
/-! {p for .. in ..}: a set comprehension of one for, its members tuples of ints. -/
namespace Fm
open PySem PySem.Spec PyProof.Rows L2 PySem.W
abbrev sc1 (el ta ea : Expr) (sc : Scope) (ps : Pos) : Expr := .SetComp el [⟨ta, ea, [], 0⟩] sc ps
section
variable {X : Cx} {K : PySem.W.Frag} {P : Program} {w : World}
def tSc1 (K : PySem.W.Frag) (P : Program) (w : World) (wa : TI) (ga : TG) (te : TE) (vs : List Nat) : TE := fun σ H Q => wa σ H fun J H1 => ∀ D, H1 D = none → ∃ W : Nat → Nat → Hp → Prop, (∃ m, W 0 m (upd H1 D (SetTO P w D []))) ∧ ∀ i m H, W i m H →
  (J.stop i H ∧ Q (.ref D) H) ∨ (J.go i H ∧ ∃ Nx : Hp → Prop, (∀ H', Nx H' → ∃ m', m' < m ∧ W (i + 1) m' H') ∧ ∀ x H', J.yld i H x H' → ga x (wipe σ vs) H' fun σ2 H2 => wipe σ2 vs = wipe σ vs ∧ te σ2 H2 fun y H7 =>
      ∃ (b : Addr) (q : List Int) (L : List (Addr × List Int)), y = .ref b ∧ SqT K H7 b (q.map V.int) ∧ H7 D = some (SetTO P w D L) ∧ TupsAt K H7 L ∧ L.length + 1 < 64 ∧ ∀ L', PutIn L b q L' → Nx (upd H7 D (SetTO P w D L')))
theorem sc1_all {pins : List (Addr × Obj)} {s : Shared} {σ : L2.St} {H : Hp} {Q : VK} {el ta ea : Expr} {sc : Scope} {own : List (Str × Nat)} {ps qs : Pos} {wa : TI} {ga : TG} {te : TE} {use : Option (Value → Sem Unit)} {Qf : Value → Shared → Prop}
    (hc : X.calm = true) (hu : X.A.units + 64 < cLine) (hN : X.N.Nodup) (I : Inv X pins σ H s) (pa : PI X ta ea wa) (ok : BlkOk X.N X.env.scope sc own)
    (pga : ∀ (s : Shared) (H : Hp) (C : Addr) (cl : List (Str × Addr)) (fp : List Addr), PG (X.blk s H sc (compEnvC sc cl C X.env) fp) ta ga)
    (pe : ∀ (s : Shared) (H : Hp) (C : Addr) (cl : List (Str × Addr)) (fp : List Addr), PE (X.blk s H sc (compEnvC sc cl C X.env) fp) el te)
    (fa : ∀ x, foldedSetIterable ea X.env x = pure x) (eK : X.K = K) (eP : X.prog = P) (ew : X.w = w)
    (h : tSc1 K P w wa ga te (own.map (·.2)) σ H Q)
    (post : ∀ D C u m H', Inv X pins σ H' u → Q (.ref D) H' → u.heap.Ns C m → FpOk X pins H' C → compPost (model X.prog X.w) X.A X.xe use Qf (.ref D) C (.ok .next) u) :
    wpAny (model X.prog X.w) X.A (comprehension (sc1 el ta ea sc ps) sc X.env qs (newSet (.type "set")) false (eval ea X.env) use) Qf X.xe s := by
  subst eK eP ew
  have hfree : ∀ y ∈ sc.names, y.2 = .free → ∃ c, X.env.cells.lookup y.1 = some c := fun y hy e => (ok.free y hy e).elim (fun z => I.ok.has _ (.inl z)) fun z => I.ok.has _ (.inr z)
  refine wpAny_comprehension_free (use := use) rfl fa (closure_ok hfree) ok.kind (fun y hy e => by rw [ok.uniq y hy, e]) (thn (pa.run pins s σ H _ I h) fun xv s1 hx => thn hx fun itv s2 h2 => ?_)
  obtain ⟨it, fp, tn, J, H2, e, I2, T, st2, f2, q⟩ := h2
  subst e
  refine wpAny_newSet_raw fun led hled => newEnv_comp ?_
  subst hled
  generalize hD : s2.heap.objs.size = D
  have hDn : H2 D = none := I2.hok.fresh (Nat.le_of_eq hD)
  obtain ⟨W, ⟨m0, w0⟩, turn⟩ := q D hDn
  generalize hob : ({ cls := .type "set", dict := none, data := .set #[] 0 (.fresh 0 0 (!X.w.params.followText "set-order")) } : Obj) = ob
  generalize hs3 : ({ s2 with heap := s2.heap.push ob } : Shared) = s3
  have h3 : s3.heap = s2.heap.push ob := by rw [← hs3]
  have gD : s3.heap.get? D = some ob := by
    rw [h3, ← hD]
    exact Heap.get?_push_size _ (by rw [← hob] <;> rfl)
  have old3 : ∀ b o, s2.heap.get? b = some o → s3.heap.get? b = some o := fun b o z => by
    rw [h3]
    exact Heap.get?_push_of_some _ z
  have I3 : Inv X pins σ (upd H2 D (SetTO X.prog X.w D [])) s3 := by
    have t0 : SetT0 X.prog X.w s3.heap D [] := (setTR_fresh (P := X.prog) (w := X.w) (by rw [gD, ← hob])).t0
    have := I2.laid (a := D) (o := SetTO X.prog X.w D []) (h' := s3.heap) (t' := s2.toks) old3 (Nat.le_of_eq hD) (setTO_new t0)
    rw [← hs3] at this ⊢
    exact this
  have lo : ∀ b ∈ fp, b < s2.heap.objs.size := fun b hb => by
    obtain ⟨o, z, _⟩ := T.obj _ _ st2 b hb
    exact Heap.lt_size z
  have f3 : ∀ b ∈ fp, FpOk X pins (upd H2 D (SetTO X.prog X.w D [])) b ∧ b < s3.heap.objs.size := fun b hb => by
    have l := lo b hb
    have ne : b ≠ D := by
      rw [← hD]
      exact Nat.ne_of_lt l
    exact ⟨⟨by rw [upd_ne ne]; exact (f2 b hb).1, (f2 b hb).2⟩, by rw [h3, Heap.size_push]; exact Nat.lt_succ_of_lt l⟩
  have st3 : tn 0 s3.heap := T.keep _ _ _ st2 fun b _ o z => old3 b o z
  have I4 := block_start I3 ok hN f3
  generalize hH3 : upd H2 D (SetTO X.prog X.w D []) = H3 at I3 I4 f3 w0
  generalize hcl : cellsFrom (s3.heap.objs.size + 1) sc.names (cloFrom X.env.cells sc.names []) = cl at I4
  have gA := pga s3 H3 s3.heap.objs.size cl fp
  have gE := pe s3 H3 s3.heap.objs.size cl fp
  show codeAny _ _ (.compStart (sc1 el ta ea sc ps) 0 (.ref it) (.ref D) (compEnvC sc cl s3.heap.objs.size X.env)) (compPost (model X.prog X.w) X.A X.xe use Qf (.ref D) s3.heap.objs.size) { s3 with heap := pushCells (s3.heap.push { cls := .type "dict", data := .dict #[] }) sc.names }
  generalize hce : compEnvC sc cl s3.heap.objs.size X.env = ce at I4 gA gE ⊢
  have cL : ce.locals = s3.heap.objs.size := by subst hce; rfl
  generalize hs4 : ({ s3 with heap := pushCells (s3.heap.push { cls := .type "dict", data := .dict #[] }) sc.names } : Shared) = s4 at I4 ⊢
  have st4 : tn 0 s4.heap := T.keep _ _ _ st3 fun b _ o z => by rw [← hs4]; exact pushCells_keeps _ _ _ _ (Heap.get?_push_of_some _ z)
  have nfp : ∀ b ∈ fp, H3 b = none := fun b hb => (f3 b hb).1.1
  have stand : ∀ {τ : L2.St} {G : Hp} {u : Shared}, Inv (X.blk s3 H3 sc ce fp) [] τ G u → (∀ b ∈ fp, G b = none) → ∀ b ∈ fp, FpOk (X.blk s3 H3 sc ce fp) [] G b := fun I' hn b hb =>
    ⟨hn b hb, (I'.ok.exf b hb).1, I'.ok.exfs b hb, .inl hb, fun x c z => (I'.ok.exf b hb).2 x c z, fun p hp => absurd (show p ∈ ([] : List (Addr × Obj)) ++ [] from hp) (by simp)⟩
  have loop : codeAny (model X.prog X.w) X.A (.compLoop (sc1 el ta ea sc ps) 0 (.ref it) (.ref D) ce) (compPost (model X.prog X.w) X.A X.xe use Qf (.ref D) s3.heap.objs.size) s4 := by
    refine PpSet.compLoopS_any (fun m u => ∃ i G, Inv (X.blk s3 H3 sc ce fp) [] (wipe σ (own.map (·.2))) G u ∧ tn i u.heap ∧ (∀ b ∈ fp, G b = none) ∧ W i m G) ?_ m0 ⟨0, H3, I4, st4, nfp, w0⟩
    rintro m u5 ⟨i, G5, I5, st5, n5, w5⟩
    rcases turn i m G5 w5 with ⟨stop, qq⟩ | ⟨go, Nx, hNx, step⟩
    · refine thnF (T.done (X.blk s3 H3 sc ce fp) rfl rfl rfl hc i [] u5 _ G5 (fun _ _ => False) I5 (stand I5 n5) st5 stop) fun r u6 ⟨hr, I6⟩ => ?_
      subst hr
      have I7 : Inv X pins σ G5 u6 := I3.call' (ch := fp) I6.os I6.base I6.hok I6.bare fun b hb => ⟨(f3 b hb).1.2.2.2.1, (f3 b hb).1.2.1, (f3 b hb).1.2.2.2.2.1, (f3 b hb).1.2.2.2.2.2⟩
      have nC : G5 ce.locals = none := I6.free
      obtain ⟨mm, hn, _⟩ := I6.loc
      have hn : u6.heap.Ns ce.locals mm := hn
      rw [cL] at hn nC
      exact post D s3.heap.objs.size u6 mm G5 I7 qq hn (I3.fpOk (Nat.le_refl _) nC)
    · refine thnF (T.item (X.blk s3 H3 sc ce fp) rfl rfl rfl hc i [] u5 _ G5 (fun _ _ => False) I5 (stand I5 n5) st5 go) fun r u6 ⟨got, hr, h6⟩ => ?_
      subst hr
      refine thnF h6 fun _ u7 ⟨x, G7, I7, r7, y7, st7, n7⟩ => ?_
      have I7' := I7.pinned (stand I7 n7) (T.obj _ _ st7)
      refine thnF (gA.run _ u7 _ G7 x got _ I7' r7 (step x G7 y7)) fun _ u8 ⟨σ8, G8, I8, hw8, q8⟩ => ?_
      refine wpAny_pure ?_
      simp only [if_true]
      have fin : ∀ {u : Shared} {G : Hp}, Inv (X.blk s3 H3 sc ce fp) ([] ++ pinsAt fp u7.heap) σ8 G u → Nx G → ∃ m', m' < m ∧ ∃ i G, Inv (X.blk s3 H3 sc ce fp) [] (wipe σ (own.map (·.2))) G u ∧ tn i u.heap ∧ (∀ b ∈ fp, G b = none) ∧ W i m' G := fun {u G} I' nx => by
        obtain ⟨m', hm, w'⟩ := hNx G nx
        have pin' : ∀ b ∈ fp, ∀ o, u7.heap.get? b = some o → u.heap.get? b = some o ∧ G b = none := fun b hb o z =>
          have zz := I'.pin (b, o) (List.mem_append_right _ (List.mem_append_right _ (mem_pinsAt hb z)))
          ⟨zz.1, zz.2.1⟩
        have hl : (wipe σ (own.map (·.2))).length = σ8.length := by rw [← hw8, wipe_length]
        refine ⟨m', hm, i + 1, G, (I'.unpinned (pins := [])).weak hl (fun j v z => ?_), T.keep _ _ _ st7 fun b hb o z => (pin' b hb o z).1, fun b hb => ?_, w'⟩
        · rw [← hw8] at z
          exact (wipe_some z).1
        · obtain ⟨o, z, _⟩ := T.obj _ _ st7 b hb
          exact (pin' b hb o z).2
      refine thnF (gE.run _ u8 σ8 G8 _ I8 q8) fun z u17 ⟨yv, G17, I17, r17, b, kk, L, ey, hb, hDL, hL, few, nx⟩ => ?_
      subst ey
      cases r17
      exact add_inv (X := X.blk s3 H3 sc ce fp) I17 hDL hL hb (by show X.A.units + 2 < cLine; omega) few fun L' u18 p I18 => fin I18 (nx L' p)
  exact codeAny_compStart_set loop (T.self X.A 0 _ _ _ st4 loop)
theorem pe_sc1 {el ta ea : Expr} {sc : Scope} {own : List (Str × Nat)} {ps : Pos} {wa : TI} {ga : TG} {te : TE} (hc : X.calm = true) (hu : X.A.units + 64 < cLine) (hN : X.N.Nodup) (pa : PI X ta ea wa) (ok : BlkOk X.N X.env.scope sc own)
    (pga : ∀ (s : Shared) (H : Hp) (C : Addr) (cl : List (Str × Addr)) (fp : List Addr), PG (X.blk s H sc (compEnvC sc cl C X.env) fp) ta ga)
    (pe : ∀ (s : Shared) (H : Hp) (C : Addr) (cl : List (Str × Addr)) (fp : List Addr), PE (X.blk s H sc (compEnvC sc cl C X.env) fp) el te)
    (fa : ∀ x, foldedSetIterable ea X.env x = pure x := by intro _; rfl) (eK : X.K = K := by rfl) (eP : X.prog = P := by rfl) (ew : X.w = w := by rfl) :
    PE X (sc1 el ta ea sc ps) (tSc1 K P w wa ga te (own.map (·.2))) := by
  refine ⟨fun pins s σ H Q I h => ?_⟩
  rw [arm_eval_SetComp]
  refine sc1_all hc hu hN I pa ok pga pe fa eK eP ew h fun D C u m H' I' q hn f => ⟨m, hn, fun g sb => ?_⟩
  obtain ⟨f0, f1, f2, f3, f4, f5⟩ := f
  exact ⟨.ref D, H', I'.turned (t' := u.toks) (fun b o hb z => (sb.2 b hb).trans z) f0 f1 f3 f4 f5, rfl, q⟩
end
end Fm
/-! sorted(list of tuples, key=len) -/
namespace Fm
open PySem PySem.Spec PyProof.Rows L2
theorem perm_map_inv {α β : Type} {f : α → β} {l l2 : List β} (h : l.Perm l2) : ∀ M : List α, l2 = M.map f → ∃ M' : List α, M'.Perm M ∧ l = M'.map f := by
  induction h with
  | nil => intro M e; exact ⟨M, .refl _, e⟩
  | cons x h ih =>
    intro M e
    cases M with
    | nil => cases e
    | cons a M =>
      rw [List.map_cons] at e
      injection e with e1 e2
      obtain ⟨M', p, e3⟩ := ih M e2
      exact ⟨a :: M', .cons a p, by rw [List.map_cons, ← e3, e1]⟩
  | swap x y l =>
    intro M e
    match M, e with
    | [], e => cases e
    | [_], e => cases e
    | a :: b :: M, e =>
      rw [List.map_cons, List.map_cons] at e
      injection e with e1 e2
      injection e2 with e2 e3
      exact ⟨b :: a :: M, .swap a b M, by rw [List.map_cons, List.map_cons, ← e1, ← e2, ← e3]⟩
  | trans h1 h2 ih1 ih2 =>
    intro M e
    obtain ⟨M1, p1, e1⟩ := ih2 M e
    obtain ⟨M2, p2, e2⟩ := ih1 M1 e1
    exact ⟨M2, p2.trans p1, e2⟩
theorem objOk_there {P : Program} {w : World} {H : Hp} {h : Heap} {a : Addr} {o : HO} (x : ObjOk P w H h a o) : h.get? a ≠ none := by
  have key : ∀ {u : Obj}, h.get? a = some u → h.get? a ≠ none := fun e z => by
    rw [e] at z
    cases z
  cases o with
  | lst xs => obtain ⟨_, _, _, _, e⟩ := x; exact key e
  | tup xs => obtain ⟨_, _, _, ⟨_, e, _⟩⟩ := x; exact key e
  | dK kvs => obtain ⟨_, _, _, _, o, _, _, e, _⟩ := x; exact key e
  | dT kvs => obtain ⟨_, _, _, _, o, _, _, e, _⟩ := x; exact key e
  | set S n => obtain ⟨o, _, _, _, e, _⟩ := x; exact key e
  | ins C dx fs => obtain ⟨_, _, _, e, _⟩ := x; exact key e
  | own y => obtain ⟨_, e⟩ := x; exact key e
  | xd fs => obtain ⟨_, ⟨_, _, _, e, _⟩, _⟩ := x; exact key e
  | rng lo hi => obtain ⟨_, _, _, e⟩ := x; exact key e
  | frz ob u => obtain ⟨e, _⟩ := x; exact key e
  | tbl ps => exact key (show h.get? a = some _ from x)
  | met f y => exact key (show h.get? a = some _ from x)
  | ext φ => obtain ⟨_, ⟨_, e⟩, _⟩ := x; exact key e
section
variable {X : Cx} {pins : List (Addr × Obj)} {σ : L2.St} {H : Hp} {s : Shared}
theorem inv_news {h' : Heap} {m : Str → Option Value} {D : Addr} {o : HO} {t' : Nat} (I : Inv X pins σ H s) (F : Fr X.base X.env.locals h' m) (hm : s.heap.Ns X.env.locals m) (kept : ∀ b u, b ≠ X.env.locals → s.heap.get? b = some u → h'.get? b = some u) (hD : s.heap.get? D = none) (hn : H D = none)
    (new : ObjOk X.prog X.w (upd H D o) h' D o) : Inv X pins σ (upd H D o) { s with heap := h', toks := t' } := by
  refine I.step (g' := s.gens) (d' := s.drawn) (ch := []) (fun b hb => by cases hb) (fun b u hL _ _ e _ => kept b u hL e) (fun b u hL _ _ e _ => ⟨u.slots, kept b u hL e⟩) (fun b u _ e n => ?_) (fun b u _ e => ?_)
    (fun b xs e => by rw [upd_ne (ne_of_none e hn)]; exact e) (fun b u v e => by rw [upd_ne (ne_of_none e hn)]; exact e) (fun b ps e => ⟨#[], by rw [upd_ne (ne_of_none e hn), e]; simp⟩) (fun m' hm' => by rw [SlX.ns_only hm' hm]; exact F.ns) (fun b u e => ?_) I.bare
  · rw [upd_ne (fun z => by rw [z, hD] at e; cases e)]
    exact n
  · by_cases z : b = X.env.locals
    · obtain ⟨o', _, _, ho, _⟩ := F.ns
      exact ⟨o', by rw [z]; exact ho⟩
    · exact ⟨u, kept b u z e⟩
  · by_cases hb : b = D
    · subst hb
      rw [upd_same] at e
      cases e
      exact new
    · rw [upd_ne hb] at e
      have own : ∀ c, (c = b ∨ H c = some (.own b)) → c ≠ X.env.locals := fun c hc z => by
        rcases hc with y | y
        · rw [← y, z, I.free] at e
          cases e
        · rw [z, I.free] at y
          cases y
      exact (I.hok b u e).stay (fun c v hc q => kept c v (own c hc) q) (fun c q => by rw [upd_ne (ne_of_none q hn)]; exact q) fun c xs q => by rw [upd_ne (ne_of_none q hn)]; exact q
end
section
variable {X : Cx} {K : PySem.W.Frag} {e : Expr} {ta : TA} {p p2 kpos pos : Pos}
def tSortLen (K : PySem.W.Frag) (ta : TA) : TE := fun σ H Q => ta σ H fun vs H1 => ∃ (a : Addr) (M : List (Addr × List V)), vs = [.ref a] ∧ SqL K H1 a (M.map fun m => V.ref m.1) ∧ (∀ m ∈ M, SqT K H1 m.1 m.2) ∧
  ∀ (M' : List (Addr × List V)) d, M'.Perm M → M'.Pairwise (fun x y => x.2.length ≤ y.2.length) → H1 d = none → Q (.ref d) (upd H1 d (.lst (M'.map fun m => V.ref m.1)))
theorem vals_refs {M : List (Addr × List V)} {us : List Value} (r : Vals (M.map fun m => V.ref m.1) us) : us = M.map fun m => Value.ref m.1 := by
  induction M generalizing us with
  | nil => cases r; rfl
  | cons m M ih =>
    cases r with
    | cons h t =>
      cases h
      rw [List.map_cons, ← ih t]
theorem pe_sortLen (hg : Gl X "sorted") (hm : X.mg "sorted" = none) (hg2 : Gl X "len") (hm2 : X.mg "len" = none) (ha : PA X [e] ta) (eK : X.K = K := by rfl)
    (hen : backTo pos (starEach [e] X.env) = (false, eval e X.env) :: backTo pos (starEach [] X.env) := by rfl) (hpl : (backTo pos (starEach [e] X.env)).any (·.1) = false := by rfl) :
    PE X (.Call (.Name "sorted" p) [e] [⟨some "key", .Name "len" p2, kpos⟩] pos) (tSortLen K ta) := by
  subst eK
  refine ⟨fun pins s σ H Q I h => ?_⟩
  refine wpAny_Call_Name_kw (ld_blt I hg hm (by decide +kernel : bootBuiltins "sorted" = some (.builtin "sorted")) ?_)
  refine PyProof.Rows.callWith_kw (thn (ha.run pos pins s σ H _ I h) fun us s1 ⟨vs, H1, I1, r1, q1⟩ => ?_) hen hpl rfl rfl
  obtain ⟨a, M, rfl, hl, ht, q⟩ := q1
  refine wpAny_evalAll_cons (wpAny_bind (ld_blt I1 hg2 hm2 PySem.boot_len (wpAny_bind (wpAny_standAt (wpAny_pure (wpAny_evalAll_nil ?_))))))
  obtain ⟨u, rfl, hu⟩ := r1.one
  cases hu
  obtain ⟨its, rv, pl, hz⟩ := I1.list hl
  have eit := vals_refs rv
  subst eit
  obtain ⟨ol, nl, hol, hcl, hdl, hdt⟩ := pl
  obtain ⟨m, hns, _⟩ := I1.loc
  have F : Fr X.base X.env.locals s1.heap m := ⟨hns, I1.bk, Nat.le_trans I1.ok.bsz I1.ok.above⟩
  have tupL : ∀ k ∈ M, k.1 ≠ X.env.locals := fun k hk z => by
    obtain ⟨its, _, ⟨o, ho, _, n, hd⟩, _⟩ := I1.tuple (ht k hk)
    obtain ⟨o', es, ep, ho', hd', _⟩ := hns
    rw [z, ho'] at ho
    cases ho
    rw [hd'] at hd
    cases hd
  have keptOf : ∀ {h' : Heap} {own : List (Addr × Obj)}, Fr X.base X.env.locals h' m → News X.base X.env.locals h' (allNews X.base s1.heap X.env.locals ++ own) → ∀ b u, b ≠ X.env.locals → s1.heap.get? b = some u → h'.get? b = some u := fun {h' own} F' N' b u hb e => by
    cases q0 : X.base.get? b with
    | some v =>
      have := I1.bk b v q0
      rw [e] at this
      cases this
      exact F'.keep b _ q0
    | none => exact (N' (b, u) (List.mem_append_left _ (mem_allNews hb q0 e))).1
  refine ksk_sortedAny (b := false) (kz := M.map fun m => (m.2.length : Int)) (vs := M.map fun m => Value.ref m.1) F news_all ⟨ol, hol, hcl, nl, hdt⟩ (by rw [List.length_map, List.length_map]) (by rw [List.length_map]; rw [List.length_map] at hz; exact hz)
    (ksk_s1 _ _) (fun x => ksk_l1 _ _) (fun x => ksk_t4 _ _) (fun i v k hv hk h tk own F' N' => ?turn) (fun D h' tk out c F' N' l1 ko => ?done)
  case turn =>
    rw [List.getElem?_map] at hv hk
    cases hi : M[i]? with
    | none =>
      rw [hi] at hv
      cases hv
    | some k0 =>
      rw [hi] at hv hk
      cases hv
      cases hk
      have hk0 := List.mem_of_getElem? hi
      obtain ⟨its, r0, ⟨o, ho, hc, n, hd⟩, hz0⟩ := I1.tuple (ht k0 hk0)
      have el := r0.length
      refine PyProof.Rows.len_tuple (items := its.toArray) ⟨o, keptOf F' N' _ _ (tupL k0 hk0) ho, hc, n, hd⟩ ?_ ?_
      · rw [List.size_toArray]
        rw [sizeLine_eq] at hz0
        omega
      · rw [List.size_toArray, ← el]
        exact ⟨h, _, _, rfl, rfl, F', N'⟩
  case done =>
    obtain ⟨ps, hp, eout, pw⟩ := ko
    rw [List.zip_map'] at hp
    obtain ⟨M', pM, rfl⟩ := perm_map_inv hp M rfl
    have nD := N' (D, seqObj "list" out c) (List.mem_cons_self ..)
    have N2 : News X.base X.env.locals h' (allNews X.base s1.heap X.env.locals ++ []) := fun z hz => N' z (by rw [List.append_nil] at hz; exact List.mem_cons_of_mem _ hz)
    have kept := keptOf F' N2
    have hD0 : s1.heap.get? D = none := by
      cases e0 : s1.heap.get? D with
      | none => rfl
      | some u => exact absurd (l1 (D, u) (mem_allNews nD.2.1 nD.2.2 e0)) (Nat.lt_irrefl D)
    have hn : H1 D = none := by
      cases e0 : H1 D with
      | none => rfl
      | some o => exact absurd hD0 (objOk_there (I1.hok D o e0))
    have lens : M'.length ≤ sizeLine := by
      rw [pM.length_eq]
      rw [List.length_map] at hz
      exact hz
    have eo : out = (M'.map fun m => Value.ref m.1).toArray := by
      rw [← (Array.toArray_toList : out.toList.toArray = out), eout, List.map_map]
      rfl
    refine ⟨.ref D, upd H1 D (.lst (M'.map fun m => V.ref m.1)), inv_news I1 F' hns kept hD0 hn ⟨by rw [List.length_map]; exact lens, M'.map (fun m => Value.ref m.1), c, ?_, ?_⟩, rfl, q M' D pM ?_ hn⟩
    · clear pM pw eout eo lens hp
      have key : ∀ N : List (Addr × List V), Vals (N.map fun m => V.ref m.1) (N.map fun m => Value.ref m.1) := fun N => by
        induction N with
        | nil => exact Paired.nil
        | cons k N ih => exact Paired.cons rfl ih
      exact key M'
    · rw [← eo]
      exact nD.1
    · rw [List.pairwise_map] at pw
      refine pw.imp fun {x y} h => ?_
      have h : (x.2.length : Int) ≤ (y.2.length : Int) := h
      omega
end
end Fm
/-! not in of a tuple; min of a list of tuples of ints -/
namespace Fm
open PySem PySem.Spec PyProof.Rows L2 PySem.W
theorem dp_intsF {K : PySem.W.Frag} {H : Hp} : ∀ c : List Int, DpAll K H (c.map V.int) (c.map PyData.int)
  | [] => .nil
  | _ :: r => .cons (.int _) (dp_intsF r)
section
variable {X : Cx} {K : PySem.W.Frag}
def rNotInT (K : PySem.W.Frag) : R2 := fun x y H Q => ∃ d ds, Dp K H x d ∧ Dp K H y (.tuple ds) ∧ SeqAt.shaped d = true ∧ SeqAt.shaped (.tuple ds) = true ∧ Q (.bl (!ds.any fun z => PyData.eqv z d)) H
theorem op_notinT (hu : X.A.units + 65 < cLine) (e : X.K = K := by rfl) : OpR X (compareOp .NotIn) (rNotInT K) := by
  subst e
  intro pins s σ H x y v u Q I rx ry h
  obtain ⟨d, ds, h1, h2, s1, s2, q⟩ := h
  obtain ⟨as, r1⟩ := Dp.reads I d x v h1 rx
  obtain ⟨bs, r2⟩ := Dp.reads I (.tuple ds) y u h2 ry
  exact SeqAt.notIn_tuple_reads r2 r1 (SeqAt.canLay_of_shaped s2) (SeqAt.canLay_of_shaped s1) (room_in_shaped s1 hu) ⟨.bl _, H, I, rfl, q⟩
theorem op_notinLK (hu : X.A.units + 65 < cLine) (e : X.K = K := by rfl) : OpR X (compareOp .NotIn) (rNotInD K) := e ▸ op_notInD hu
def intP (c : List Int) : PyData := .tuple (c.map PyData.int)
theorem alike_ints : ∀ (x y : List Int), alikeAll (x.map PyData.int) (y.map PyData.int) = true
  | [], _ => by cases ‹List Int› <;> rfl
  | _ :: _, [] => rfl
  | a :: x, b :: y => by
    rw [List.map_cons, List.map_cons, alikeAll, alike_ints x y, alike]
    rfl
theorem minD_first : ∀ (ys : List (List Int)) (x : List Int), (∀ y ∈ ys, decide (y < x) = false) → minD (intP x) (ys.map intP) = intP x
  | [], _, _ => rfl
  | y :: ys, x, h => by
    unfold minD
    rw [List.map_cons, List.foldl_cons]
    have e : dataLt (intP y) (intP x) = false := by
      unfold intP
      rw [dataLt_tups]
      exact h y (List.mem_cons_self ..)
    rw [e]
    exact minD_first ys x fun z hz => h z (List.mem_cons_of_mem _ hz)
def rMinT (K : PySem.W.Frag) : List V → Hp → VK → Prop := fun vs H Q => ∃ (a : Addr) (m : Addr × List Int) (M : List (Addr × List Int)), vs = [V.ref a] ∧ SqL K H a ((m :: M).map fun m => V.ref m.1) ∧ (∀ k ∈ m :: M, SqT K H k.1 (k.2.map V.int)) ∧
  (∀ k ∈ M, decide (k.2 < m.2) = false) ∧ ∀ k ∈ m :: M, k.2 = m.2 → Q (.ref k.1) H
theorem call_minT (hc : X.calm = true) (hu : X.A.units + 64 < cLine) (e : X.K = K := by rfl) : CallR X (.builtin "min") (rMinT K) := by
  subst e
  intro pins s σ H vs us Q I r h
  obtain ⟨a, m, M, rfl, hl, ht, hm, q⟩ := h
  obtain ⟨its, rv, pl, hz⟩ := I.list hl
  rw [Vals.ref1 r]
  have eit : its = (m :: M).map fun m => Value.ref m.1 := by
    have := vals_refs (M := (m :: M).map fun k => (k.1, k.2.map V.int)) (us := its) (by rw [List.map_map]; exact rv)
    rw [this, List.map_map]
    rfl
  have da : DpAll X.K H ((m :: M).map fun m => V.ref m.1) ((m :: M).map fun k => intP k.2) := by
    have key : ∀ N : List (Addr × List Int), (∀ k ∈ N, SqT X.K H k.1 (k.2.map V.int)) → DpAll X.K H (N.map fun m => V.ref m.1) (N.map fun k => intP k.2) := fun N => by
      induction N with
      | nil => intro _; exact .nil
      | cons k N ih => exact fun h => .cons (.tup (h k (List.mem_cons_self ..)) (dp_intsF k.2)) (ih fun z hz => h z (List.mem_cons_of_mem _ hz))
    exact key _ ht
  obtain ⟨as, r4⟩ := Dp.readsAll I ((m :: M).map fun k => intP k.2) _ its da rv
  have hal : AlikeAll ((m :: M).map fun k => intP k.2) := ⟨fun x hx y hy => by
    obtain ⟨k, _, rfl⟩ := List.mem_map.mp hx
    obtain ⟨k', _, rfl⟩ := List.mem_map.mp hy
    show alike (.tuple _) (.tuple _) = true
    rw [alike]
    exact alike_ints _ _, fun x hx z => by
    obtain ⟨k, _, rfl⟩ := List.mem_map.mp hx
    cases z⟩
  have hd1 : ∀ N : List (Addr × List Int), PyData.depthAll (N.map fun k => intP k.2) ≤ 1 := fun N => by
    induction N with
    | nil => exact Nat.zero_le _
    | cons k N ih =>
      have z : (intP k.2).depth = 1 := by
        unfold intP
        rw [PyData.depth, depth_ints]
      rw [List.map_cons, PyData.depthAll, z]
      omega
  have r6 : ReadsAll s.heap its.toArray.toList (intP m.2 :: M.map fun k : Addr × List Int => intP k.2) as := r4
  have hal : AlikeAll (intP m.2 :: M.map fun k : Addr × List Int => intP k.2) := hal
  refine min_list_data (vs := its.toArray) (I.ok.hd hc) pl.isList r6 hal (by have := hd1 (m :: M); rw [List.map_cons] at this; omega) fun i v h' tk bs hv hr hk => ?_
  have hv : its[i]? = some v := by simpa using hv
  rw [eit, List.getElem?_map] at hv
  obtain ⟨k, hk0, rfl⟩ := Option.map_eq_some_iff.mp hv
  have hkm := List.mem_of_getElem? hk0
  obtain ⟨bs2, r5⟩ := Dp.reads I (intP k.2) (.ref k.1) (Value.ref k.1) (.tup (ht k hkm) (dp_intsF k.2)) rfl
  obtain ⟨e1, _⟩ := reads_det (fun b o e _ => hk b o e) r5 hr
  have e2 := minD_first (M.map fun k => k.2) m.2 fun y hy => by
    obtain ⟨z, hz, rfl⟩ := List.mem_map.mp hy
    exact hm z hz
  rw [List.map_map] at e2
  have e3 : intP m.2 = intP k.2 := e2.symm.trans e1
  have e4 : m.2 = k.2 := by
    unfold intP at e3
    injection e3 with e3
    exact (List.map_inj_right fun a b e => by injection e).mp e3
  exact ⟨.ref k.1, H, I.kept hk, rfl, q k hkm e4.symm⟩
end
end Fm
namespace Fm
open PySem PySem.Spec PyProof.Rows L2
def topS (i : Nat) : Stmt := PySem.Challenge.pw_fairmasks_k23_whole_nest_columns_and_ord.main.body.getD i (.Pass ⟨0, 0, 0, 0⟩)
abbrev s_is_whole : Stmt := topS 1
abbrev N_is_whole : List Str := ["thing"]
theorem sc_is_whole : FnScope N_is_whole ["thing"] (defScope s_is_whole) := ⟨rfl, rfl, rfl, by decide +kernel, rfl, by decide +kernel, by decide +kernel⟩
abbrev s_is_pattern : Stmt := topS 9
abbrev N_is_pattern : List Str := ["columns", "thing", "last", "column"]
theorem sc_is_pattern : FnScope N_is_pattern ["columns", "thing"] (defScope s_is_pattern) := ⟨rfl, rfl, rfl, by decide +kernel, rfl, by decide +kernel, by decide +kernel⟩
abbrev s_all_columns : Stmt := topS 10
abbrev N_all_columns : List Str := ["columns"]
theorem sc_all_columns : FnScope N_all_columns ["columns"] (defScope s_all_columns) := ⟨rfl, rfl, rfl, by decide +kernel, rfl, by decide +kernel, by decide +kernel⟩
abbrev s_less : Stmt := topS 11
abbrev N_less : List Str := ["pattern", "column", "other"]
theorem sc_less : FnScope N_less ["pattern", "column"] (defScope s_less) := ⟨rfl, rfl, rfl, by decide +kernel, rfl, by decide +kernel, by decide +kernel⟩
abbrev s_is_list : Stmt := topS 12
abbrev N_is_list : List Str := ["columns", "thing", "last", "pattern"]
theorem sc_is_list : FnScope N_is_list ["columns", "thing"] (defScope s_is_list) := ⟨rfl, rfl, rfl, by decide +kernel, rfl, by decide +kernel, by decide +kernel⟩
abbrev s_parts_of : Stmt := topS 14
abbrev N_parts_of : List Str := ["columns", "listed", "pattern"]
theorem sc_parts_of : FnScope N_parts_of ["columns", "listed"] (defScope s_parts_of) := ⟨rfl, rfl, rfl, by decide +kernel, rfl, by decide +kernel, by decide +kernel⟩
abbrev s_within : Stmt := topS 15
abbrev N_within : List Str := ["inner", "outer", "column"]
theorem sc_within : FnScope N_within ["inner", "outer"] (defScope s_within) := ⟨rfl, rfl, rfl, by decide +kernel, rfl, by decide +kernel, by decide +kernel⟩
abbrev s_is_nest : Stmt := topS 16
abbrev N_is_nest : List Str := ["parts", "column", "chain", "pattern", "inner", "outer"]
theorem sc_is_nest : FnScope N_is_nest ["parts", "column"] (defScope s_is_nest) := ⟨rfl, rfl, rfl, by decide +kernel, rfl, by decide +kernel, by decide +kernel⟩
abbrev s_struck : Stmt := topS 17
abbrev N_struck : List Str := ["parts", "column", "pattern"]
theorem sc_struck : FnScope N_struck ["parts", "column"] (defScope s_struck) := ⟨rfl, rfl, rfl, by decide +kernel, rfl, by decide +kernel, by decide +kernel⟩
abbrev s_order_of : Stmt := topS 18
abbrev N_order_of : List Str := ["parts", "left", "column", "behind"]
theorem sc_order_of : FnScope N_order_of ["parts", "left"] (defScope s_order_of) := ⟨rfl, rfl, rfl, by decide +kernel, rfl, by decide +kernel, by decide +kernel⟩
abbrev s_count_orders : Stmt := topS 19
abbrev N_count_orders : List Str := ["parts", "left", "nested", "column"]
theorem sc_count_orders : FnScope N_count_orders ["parts", "left"] (defScope s_count_orders) := ⟨rfl, rfl, rfl, by decide +kernel, rfl, by decide +kernel, by decide +kernel⟩
abbrev s_nests : Stmt := topS 20
abbrev N_nests : List Str := ["columns", "listed", "parts", "column"]
theorem sc_nests : FnScope N_nests ["columns", "listed"] (defScope s_nests) := ⟨rfl, rfl, rfl, by decide +kernel, rfl, by decide +kernel, by decide +kernel⟩
abbrev s_order : Stmt := topS 21
abbrev N_order : List Str := ["columns", "listed"]
theorem sc_order : FnScope N_order ["columns", "listed"] (defScope s_order) := ⟨rfl, rfl, rfl, by decide +kernel, rfl, by decide +kernel, by decide +kernel⟩
abbrev s_many_orders : Stmt := topS 22
abbrev N_many_orders : List Str := ["columns", "listed"]
theorem sc_many_orders : FnScope N_many_orders ["columns", "listed"] (defScope s_many_orders) := ⟨rfl, rfl, rfl, by decide +kernel, rfl, by decide +kernel, by decide +kernel⟩
abbrev s_law_pot : Stmt := topS 24
abbrev N_law_pot : List Str := ["script", "cells", "greats", "smalls", "item"]
theorem sc_law_pot : FnScope N_law_pot ["script"] (defScope s_law_pot) := ⟨rfl, rfl, rfl, by decide +kernel, rfl, by decide +kernel, by decide +kernel⟩
abbrev s_law_draw : Stmt := topS 25
abbrev N_law_draw : List Str := ["pot", "many", "turn", "seed", "number"]
theorem sc_law_draw : FnScope N_law_draw ["pot", "many"] (defScope s_law_draw) := ⟨rfl, rfl, rfl, by decide +kernel, rfl, by decide +kernel, by decide +kernel⟩
abbrev s_law_mixed : Stmt := topS 26
abbrev N_law_mixed : List Str := ["pot", "items", "line", "at", "other"]
theorem sc_law_mixed : FnScope N_law_mixed ["pot", "items"] (defScope s_law_mixed) := ⟨rfl, rfl, rfl, by decide +kernel, rfl, by decide +kernel, by decide +kernel⟩
abbrev s_law_patterns : Stmt := topS 27
abbrev N_law_patterns : List Str := ["columns", "found", "c", "pattern"]
theorem sc_law_patterns : FnScope N_law_patterns ["columns"] (defScope s_law_patterns) := ⟨rfl, rfl, rfl, by decide +kernel, rfl, by decide +kernel, by decide +kernel⟩
abbrev s_law_list : Stmt := topS 28
abbrev N_law_list : List Str := ["pot", "columns", "most", "whole", "some", "pattern"]
theorem sc_law_list : FnScope N_law_list ["pot", "columns", "most"] (defScope s_law_list) := ⟨rfl, rfl, rfl, by decide +kernel, rfl, by decide +kernel, by decide +kernel⟩
abbrev s_law_parts : Stmt := topS 29
abbrev N_law_parts : List Str := ["columns", "patterns", "pattern"]
theorem sc_law_parts : FnScope N_law_parts ["columns", "patterns"] (defScope s_law_parts) := ⟨rfl, rfl, rfl, by decide +kernel, rfl, by decide +kernel, by decide +kernel⟩
abbrev s_law_inside : Stmt := topS 30
abbrev N_law_inside : List Str := ["one", "other", "c"]
theorem sc_law_inside : FnScope N_law_inside ["one", "other"] (defScope s_law_inside) := ⟨rfl, rfl, rfl, by decide +kernel, rfl, by decide +kernel, by decide +kernel⟩
abbrev s_law_is_nest : Stmt := topS 31
abbrev N_law_is_nest : List Str := ["c", "some", "holding", "one", "pattern", "other"]
theorem sc_law_is_nest : FnScope N_law_is_nest ["c", "some"] (defScope s_law_is_nest) := ⟨rfl, rfl, rfl, by decide +kernel, rfl, by decide +kernel, by decide +kernel⟩
abbrev s_law_struck : Stmt := topS 32
abbrev N_law_struck : List Str := ["c", "some", "pattern", "other"]
theorem sc_law_struck : FnScope N_law_struck ["c", "some"] (defScope s_law_struck) := ⟨rfl, rfl, rfl, by decide +kernel, rfl, by decide +kernel, by decide +kernel⟩
abbrev s_law_orders : Stmt := topS 33
abbrev N_law_orders : List Str := ["columns", "some", "found", "turn", "later", "row", "left", "c"]
theorem sc_law_orders : FnScope N_law_orders ["columns", "some"] (defScope s_law_orders) := ⟨rfl, rfl, rfl, by decide +kernel, rfl, by decide +kernel, by decide +kernel⟩
abbrev s_law_ringless : Stmt := topS 34
abbrev N_law_ringless : List Str := ["pot", "columns", "most", "row", "some", "c", "whole", "chain", "at", "fits", "k"]
theorem sc_law_ringless : FnScope N_law_ringless ["pot", "columns", "most"] (defScope s_law_ringless) := ⟨rfl, rfl, rfl, by decide +kernel, rfl, by decide +kernel, by decide +kernel⟩
abbrev s_law_renamed : Stmt := topS 35
abbrev N_law_renamed : List Str := ["patterns", "row", "pattern", "c"]
theorem sc_law_renamed : FnScope N_law_renamed ["patterns", "row"] (defScope s_law_renamed) := ⟨rfl, rfl, rfl, by decide +kernel, rfl, by decide +kernel, by decide +kernel⟩
abbrev s_law_is_right : Stmt := topS 36
abbrev N_law_is_right : List Str := ["columns", "patterns", "parts", "rows", "found", "due", "c"]
theorem sc_law_is_right : FnScope N_law_is_right ["columns", "patterns"] (defScope s_law_is_right) := ⟨rfl, rfl, rfl, by decide +kernel, rfl, by decide +kernel, by decide +kernel⟩
abbrev s_law : Stmt := topS 37
abbrev N_law : List Str := ["script", "pot", "turn", "columns", "patterns", "known", "rows", "row", "others", "less_v", "fewer", "pattern", "one", "c"]
theorem sc_law : FnScope N_law ["script"] (defScope s_law) := ⟨rfl, rfl, rfl, by decide +kernel, rfl, by decide +kernel, by decide +kernel⟩
abbrev s_NoNumber_init : Stmt := inClass (topS 4) 0
abbrev N_NoNumber_init : List Str := ["self"]
theorem sc_NoNumber_init : FnScope N_NoNumber_init ["self"] (defScope s_NoNumber_init) := ⟨rfl, rfl, rfl, by decide +kernel, rfl, by decide +kernel, by decide +kernel⟩
abbrev s_NoList_init : Stmt := inClass (topS 5) 0
abbrev N_NoList_init : List Str := ["self"]
theorem sc_NoList_init : FnScope N_NoList_init ["self"] (defScope s_NoList_init) := ⟨rfl, rfl, rfl, by decide +kernel, rfl, by decide +kernel, by decide +kernel⟩
/-- what the top has left: each def, each constant, the built-ins that are not hidden -/
structure Txt (K : PySem.W.Frag) (mg : Str → Option Value) where
  f_is_whole : Addr
  d_is_whole : FuncData
  F_is_whole : Fun K "is_whole" "is_whole" s_is_whole f_is_whole d_is_whole
  b_is_whole : Binds K d_is_whole ["thing"] []
  g_is_whole : mg "is_whole" = some (.ref f_is_whole)
  f_is_pattern : Addr
  d_is_pattern : FuncData
  F_is_pattern : Fun K "is_pattern" "is_pattern" s_is_pattern f_is_pattern d_is_pattern
  b_is_pattern : Binds K d_is_pattern ["columns", "thing"] []
  g_is_pattern : mg "is_pattern" = some (.ref f_is_pattern)
  f_all_columns : Addr
  d_all_columns : FuncData
  F_all_columns : Fun K "all_columns" "all_columns" s_all_columns f_all_columns d_all_columns
  b_all_columns : Binds K d_all_columns ["columns"] []
  g_all_columns : mg "all_columns" = some (.ref f_all_columns)
  f_less : Addr
  d_less : FuncData
  F_less : Fun K "less" "less" s_less f_less d_less
  b_less : Binds K d_less ["pattern", "column"] []
  g_less : mg "less" = some (.ref f_less)
  f_is_list : Addr
  d_is_list : FuncData
  F_is_list : Fun K "is_list" "is_list" s_is_list f_is_list d_is_list
  b_is_list : Binds K d_is_list ["columns", "thing"] []
  g_is_list : mg "is_list" = some (.ref f_is_list)
  f_parts_of : Addr
  d_parts_of : FuncData
  F_parts_of : Fun K "parts_of" "parts_of" s_parts_of f_parts_of d_parts_of
  b_parts_of : Binds K d_parts_of ["columns", "listed"] []
  g_parts_of : mg "parts_of" = some (.ref f_parts_of)
  f_within : Addr
  d_within : FuncData
  F_within : Fun K "within" "within" s_within f_within d_within
  b_within : Binds K d_within ["inner", "outer"] []
  g_within : mg "within" = some (.ref f_within)
  f_is_nest : Addr
  d_is_nest : FuncData
  F_is_nest : Fun K "is_nest" "is_nest" s_is_nest f_is_nest d_is_nest
  b_is_nest : Binds K d_is_nest ["parts", "column"] []
  g_is_nest : mg "is_nest" = some (.ref f_is_nest)
  f_struck : Addr
  d_struck : FuncData
  F_struck : Fun K "struck" "struck" s_struck f_struck d_struck
  b_struck : Binds K d_struck ["parts", "column"] []
  g_struck : mg "struck" = some (.ref f_struck)
  f_order_of : Addr
  d_order_of : FuncData
  F_order_of : Fun K "order_of" "order_of" s_order_of f_order_of d_order_of
  b_order_of : Binds K d_order_of ["parts", "left"] []
  g_order_of : mg "order_of" = some (.ref f_order_of)
  f_count_orders : Addr
  d_count_orders : FuncData
  F_count_orders : Fun K "count_orders" "count_orders" s_count_orders f_count_orders d_count_orders
  b_count_orders : Binds K d_count_orders ["parts", "left"] []
  g_count_orders : mg "count_orders" = some (.ref f_count_orders)
  f_nests : Addr
  d_nests : FuncData
  F_nests : Fun K "nests" "nests" s_nests f_nests d_nests
  b_nests : Binds K d_nests ["columns", "listed"] []
  g_nests : mg "nests" = some (.ref f_nests)
  f_order : Addr
  d_order : FuncData
  F_order : Fun K "order" "order" s_order f_order d_order
  b_order : Binds K d_order ["columns", "listed"] []
  g_order : mg "order" = some (.ref f_order)
  f_many_orders : Addr
  d_many_orders : FuncData
  F_many_orders : Fun K "many_orders" "many_orders" s_many_orders f_many_orders d_many_orders
  b_many_orders : Binds K d_many_orders ["columns", "listed"] []
  g_many_orders : mg "many_orders" = some (.ref f_many_orders)
  f_law_pot : Addr
  d_law_pot : FuncData
  F_law_pot : Fun K "_law_pot" "_law_pot" s_law_pot f_law_pot d_law_pot
  b_law_pot : Binds K d_law_pot ["script"] []
  g_law_pot : mg "_law_pot" = some (.ref f_law_pot)
  f_law_draw : Addr
  d_law_draw : FuncData
  F_law_draw : Fun K "_law_draw" "_law_draw" s_law_draw f_law_draw d_law_draw
  b_law_draw : Binds K d_law_draw ["pot", "many"] []
  g_law_draw : mg "_law_draw" = some (.ref f_law_draw)
  f_law_mixed : Addr
  d_law_mixed : FuncData
  F_law_mixed : Fun K "_law_mixed" "_law_mixed" s_law_mixed f_law_mixed d_law_mixed
  b_law_mixed : Binds K d_law_mixed ["pot", "items"] []
  g_law_mixed : mg "_law_mixed" = some (.ref f_law_mixed)
  f_law_patterns : Addr
  d_law_patterns : FuncData
  F_law_patterns : Fun K "_law_patterns" "_law_patterns" s_law_patterns f_law_patterns d_law_patterns
  b_law_patterns : Binds K d_law_patterns ["columns"] []
  g_law_patterns : mg "_law_patterns" = some (.ref f_law_patterns)
  f_law_list : Addr
  d_law_list : FuncData
  F_law_list : Fun K "_law_list" "_law_list" s_law_list f_law_list d_law_list
  b_law_list : Binds K d_law_list ["pot", "columns", "most"] []
  g_law_list : mg "_law_list" = some (.ref f_law_list)
  f_law_parts : Addr
  d_law_parts : FuncData
  F_law_parts : Fun K "_law_parts" "_law_parts" s_law_parts f_law_parts d_law_parts
  b_law_parts : Binds K d_law_parts ["columns", "patterns"] []
  g_law_parts : mg "_law_parts" = some (.ref f_law_parts)
  f_law_inside : Addr
  d_law_inside : FuncData
  F_law_inside : Fun K "_law_inside" "_law_inside" s_law_inside f_law_inside d_law_inside
  b_law_inside : Binds K d_law_inside ["one", "other"] []
  g_law_inside : mg "_law_inside" = some (.ref f_law_inside)
  f_law_is_nest : Addr
  d_law_is_nest : FuncData
  F_law_is_nest : Fun K "_law_is_nest" "_law_is_nest" s_law_is_nest f_law_is_nest d_law_is_nest
  b_law_is_nest : Binds K d_law_is_nest ["c", "some"] []
  g_law_is_nest : mg "_law_is_nest" = some (.ref f_law_is_nest)
  f_law_struck : Addr
  d_law_struck : FuncData
  F_law_struck : Fun K "_law_struck" "_law_struck" s_law_struck f_law_struck d_law_struck
  b_law_struck : Binds K d_law_struck ["c", "some"] []
  g_law_struck : mg "_law_struck" = some (.ref f_law_struck)
  f_law_orders : Addr
  d_law_orders : FuncData
  F_law_orders : Fun K "_law_orders" "_law_orders" s_law_orders f_law_orders d_law_orders
  b_law_orders : Binds K d_law_orders ["columns", "some"] []
  g_law_orders : mg "_law_orders" = some (.ref f_law_orders)
  f_law_ringless : Addr
  d_law_ringless : FuncData
  F_law_ringless : Fun K "_law_ringless" "_law_ringless" s_law_ringless f_law_ringless d_law_ringless
  b_law_ringless : Binds K d_law_ringless ["pot", "columns", "most"] []
  g_law_ringless : mg "_law_ringless" = some (.ref f_law_ringless)
  f_law_renamed : Addr
  d_law_renamed : FuncData
  F_law_renamed : Fun K "_law_renamed" "_law_renamed" s_law_renamed f_law_renamed d_law_renamed
  b_law_renamed : Binds K d_law_renamed ["patterns", "row"] []
  g_law_renamed : mg "_law_renamed" = some (.ref f_law_renamed)
  f_law_is_right : Addr
  d_law_is_right : FuncData
  F_law_is_right : Fun K "_law_is_right" "_law_is_right" s_law_is_right f_law_is_right d_law_is_right
  b_law_is_right : Binds K d_law_is_right ["columns", "patterns"] []
  g_law_is_right : mg "_law_is_right" = some (.ref f_law_is_right)
  f_NoNumber_init : Addr
  d_NoNumber_init : FuncData
  F_NoNumber_init : Fun K "__init__" "NoNumber.__init__" s_NoNumber_init f_NoNumber_init d_NoNumber_init
  b_NoNumber_init : Binds K d_NoNumber_init ["self"] []
  f_NoList_init : Addr
  d_NoList_init : FuncData
  F_NoList_init : Fun K "__init__" "NoList.__init__" s_NoList_init f_NoList_init d_NoList_init
  b_NoList_init : Binds K d_NoList_init ["self"] []
  c_MaskError : Addr
  g_MaskError : mg "MaskError" = some (.ref c_MaskError)
  m_MaskError : Value
  U_MaskError : UpC K c_MaskError m_MaskError
  c_NoNumber : Addr
  g_NoNumber : mg "NoNumber" = some (.ref c_NoNumber)
  o_NoNumber : OexC K c_NoNumber
  i_NoNumber : PySem.W.findIn K (.ref c_NoNumber) "__init__" = some (some (.ref f_NoNumber_init))
  t_NoNumber : PySem.W.typeIn K (.ref f_NoNumber_init) = some (.type "function")
  e_NoNumber : ExcC K c_NoNumber
  x_NoNumber : PySem.W.exmOne K (.ref c_NoNumber) (.ref c_MaskError) = some true
  c_NoList : Addr
  g_NoList : mg "NoList" = some (.ref c_NoList)
  o_NoList : OexC K c_NoList
  i_NoList : PySem.W.findIn K (.ref c_NoList) "__init__" = some (some (.ref f_NoList_init))
  t_NoList : PySem.W.typeIn K (.ref f_NoList_init) = some (.type "function")
  e_NoList : ExcC K c_NoList
  x_NoList : PySem.W.exmOne K (.ref c_NoList) (.ref c_MaskError) = some true
  q_NoNumber_NoNumber : PySem.W.kitOne K (.ref c_NoNumber) (.ref c_NoNumber) = some true
  q_NoNumber_NoList : PySem.W.kitOne K (.ref c_NoNumber) (.ref c_NoList) = some false
  q_NoList_NoNumber : PySem.W.kitOne K (.ref c_NoList) (.ref c_NoNumber) = some false
  q_NoList_NoList : PySem.W.kitOne K (.ref c_NoList) (.ref c_NoList) = some true
  u_MOST_COLUMNS : Value
  k_MOST_COLUMNS : mg "MOST_COLUMNS" = some u_MOST_COLUMNS ∧ RelV (.int 5) u_MOST_COLUMNS
  u_MOST_PATTERNS : Value
  k_MOST_PATTERNS : mg "MOST_PATTERNS" = some u_MOST_PATTERNS ∧ RelV (.int 12) u_MOST_PATTERNS
  z_len : mg "len" = none
  z_isinstance : mg "isinstance" = none
  z_range : mg "range" = none
  z_zip : mg "zip" = none
  z_tuple : mg "tuple" = none
  z_list : mg "list" = none
  z_int : mg "int" = none
  z_bool : mg "bool" = none
  z_abs : mg "abs" = none
  z_sorted : mg "sorted" = none
  z_set : mg "set" = none
  z_min : mg "min" = none
  z_sum : mg "sum" = none
  z_all : mg "all" = none
section
variable {P : Program} {w : World} {K : PySem.W.Frag} {mg : Str → Option Value} {base : Heap}

/-! ### judges -/
def m_is_whole : List Dt → Option Dt
  | [d] => some (.bl d.isW)
  | _ => none
theorem ok_is_whole (T : Txt K mg) : FnOk P w K mg base CX0 1 T.f_is_whole T.d_is_whole ["thing"] (spD K m_is_whole) := by
  refine T.F_is_whole.ok sc_is_whole (fun vs H Q E h => ?_) (fun cdv A outer s H vs Q E hr h => ?_)
  · obtain ⟨ds, r, hd, e, _⟩ := h
    exact match ds, e, hd with | [_], _, hd => hd.length
  · obtain ⟨ds, r, hd, e, q⟩ := h
    match ds, e, hd, q with
    | [d], e, .cons h .nil, q =>
      cases e
      obtain ⟨t, ty, ki, kt, kb⟩ := h.kinds
      refine ⟨_, (pss_one (ps_ret (pe_and (pe_callB (call_isiK' K) (by rfl) T.z_isinstance (by decide +kernel) (pa_cons (pv 0) (pa_cons (pe_bltn (v := .ty "int") (by rfl) T.z_int (by decide +kernel) rfl) pa_nil))) (pe_one (pe_not (pe_callB (call_isiK' K) (by rfl) T.z_isinstance (by decide +kernel) (pa_cons (pv 0) (pa_cons (pe_bltn (v := .ty "bool") (by rfl) T.z_bool (by decide +kernel) rfl) pa_nil)))))))), ?_⟩
      refine ⟨_, rfl, _, _, _, _, _, rfl, .ty _, ty, ki, _, rfl, ?_⟩
      cases hi : d.isInt with
      | true =>
        refine iteT ?_
        refine ⟨_, rfl, _, _, _, _, _, rfl, .ty _, ty, kb hi, _, rfl, ?_⟩
        rw [Bool.not_not]
        exact q _ _ (Same.refl H) (.bl _)
      | false =>
        refine iteF ?_
        have e : d.isW = false := by cases d <;> first | rfl | cases hi
        have q' := q (.bl false) H (Same.refl H)
        rw [e] at q'
        exact q' (.bl _)
def patGo (n : Int) : Int → List Dt → Bool
  | _, [] => true
  | l, .int c :: r => if l < c ∧ c < n then patGo n c r else false
  | _, _ :: _ => false
def Dt.isPat (n : Int) : Dt → Bool
  | .tup ds => patGo n (-1) ds
  | _ => false
def m_is_pattern : List Dt → Option Dt
  | [.int n, d] => some (.bl (d.isPat n))
  | _ => none
theorem ok_is_pattern (T : Txt K mg) : FnOk P w K mg base CX0 2 T.f_is_pattern T.d_is_pattern ["columns", "thing"] (spD K m_is_pattern) := by
  refine T.F_is_pattern.ok sc_is_pattern (fun vs H Q E h => ?_) (fun cdv A outer s H vs Q E hr h => ?_)
  · obtain ⟨ds, r, hd, e, _⟩ := h
    exact match ds, e, hd with | [.int _, _], _, hd => hd.length
  · obtain ⟨ds, r, hd, e, q⟩ := h
    match ds, e, hd, q with
    | [.int n, d], e, .cons hn (.cons h .nil), q =>
      cases e
      cases hn
      obtain ⟨t, ty, ki, kt, kb⟩ := h.kinds
      refine ⟨_, (pss_cons (ps_if (pt_not (pt_val (pe_callB (call_isiK' K) (by rfl) T.z_isinstance (by decide +kernel) (pa_cons (pv 1) (pa_cons (pe_bltn (v := .ty "tuple") (by rfl) T.z_tuple (by decide +kernel) rfl) pa_nil))))) (pss_one (ps_ret pe_bl)) pss_nil)
      (pss_cons (ps_set (i := 2) sc_is_pattern.nd rfl (.inl rfl) (pe_un un_neg pe_int))
      (pss_cons (ps_for PassesOwn.never rfl (pi_tupK K (pv 1)) (pg_name (i := 3) sc_is_pattern.nd rfl (.inl rfl)) (pss_cons (ps_if (PW.pt (pw_or (pt_not (pt_val (pe_call (ok_is_whole T) hr (by rfl) T.g_is_whole T.F_is_whole.kp T.b_is_whole .nil pass0 (pa_cons (pv 3) pa_nil)))) (pw_or1 (pt_not (pt_chain op_lt op_lt (pv 2) (pv 3) (pv 0)))))) (pss_one (ps_ret pe_bl)) pss_nil)
      (pss_one (ps_set (i := 2) sc_is_pattern.nd rfl (.inl rfl) (pv 3)))))
      (pss_one (ps_ret pe_bl))))), ?_⟩
      refine ⟨_, rfl, _, _, _, _, _, rfl, .ty _, ty, kt, _, rfl, ?_⟩
      cases hi : d.isTup with
      | false =>
        refine iteT ?_
        have e : d.isPat n = false := by cases d <;> first | rfl | cases hi
        have q' := q (.bl false) H (Same.refl H)
        rw [e] at q'
        exact q' (.bl _)
      | true =>
        refine iteF ?_
        cases d with
        | tup xs =>
          obtain ⟨a, vs, rfl, hs, ha⟩ := h.tup_inv
          refine ⟨1, rfl, _, rfl, a, rfl, ⟨_, hs⟩, for_tup (xs := vs) (fun i σ H' => ∃ (l : Int) (c : Option V), σ = [some (.int n), some (.ref a), some (.int l), c] ∧ Same H H' ∧ patGo n (-1) xs = patGo n l (xs.drop i))
            ⟨-1, none, rfl, Same.refl H, rfl⟩ (fun i σ H' _ ⟨_, _, _, sm, _⟩ => (Ext.of sm).sqT hs) ?_ ?_⟩
          · rintro i x σ H' hx ⟨l, c, rfl, sm, e⟩
            obtain ⟨dx, hdx, hx2⟩ := ha.get hx
            have hdr : xs.drop i = dx :: xs.drop (i + 1) := by
              obtain ⟨hlt, e2⟩ := List.getElem?_eq_some_iff.mp hdx
              rw [List.drop_eq_getElem_cons hlt, e2]
            rw [hdr] at e
            -- not is_whole(column) or not last < column < columns
            refine ⟨_, rfl, spD_bl (.cons (hx2.ext (.of sm)) .nil) rfl fun H1 s1 => ⟨_, rfl, ?_⟩⟩
            have fin : patGo n l (dx :: xs.drop (i + 1)) = false → ∀ H2, Same H' H2 → Q (.bl false) H2 := fun z H2 s2 => by
              have q' := q (.bl false) H2 (sm.trans s2)
              rw [show (Dt.tup xs).isPat n = patGo n (-1) xs from rfl, e, z] at q'
              exact q' (.bl _)
            cases hw : dx.isW with
            | false =>
              refine iteT (iteT ?_)
              exact fin (by cases dx <;> first | rfl | cases hw) _ s1
            | true =>
              refine iteF ?_
              cases dx with
              | int c =>
                cases hx2
                refine ⟨_, rfl, _, rfl, _, _, rfl, rfl, _, rfl, ?_⟩
                refine ite2 (fun h1 => ?_) (fun h1 => ?_)
                · refine ⟨_, rfl, _, _, rfl, rfl, _, rfl, ?_⟩
                  refine ite2 (fun h2 => ?_) (fun h2 => ?_)
                  · have n2 : ¬ c < n := by simpa using h2
                    exact fin (by show (if l < c ∧ c < n then _ else false) = false; rw [if_neg fun z => n2 z.2]) _ s1
                  · have y2 : c < n := by simpa using h2
                    refine ⟨_, rfl, c, _, rfl, sm.trans s1, ?_⟩
                    rw [e]
                    show (if l < c ∧ c < n then _ else false) = _
                    rw [if_pos ⟨of_decide_eq_true h1, y2⟩]
                · refine ⟨_, rfl, iteT ?_⟩
                  exact fin (by show (if l < c ∧ c < n then _ else false) = false; rw [if_neg fun z => h1 (decide_eq_true z.1)]) _ s1
              | _ => cases hw
          · rintro σ H' ⟨l, c, rfl, sm, e⟩
            have ed : xs.drop vs.length = [] := List.drop_eq_nil_of_le (by rw [ha.length]; exact Nat.le_refl _)
            rw [ed] at e
            have q' := q (.bl true) H' sm
            rw [show (Dt.tup xs).isPat n = patGo n (-1) xs from rfl, e] at q'
            exact q' (.bl _)
        | _ => cases hi
theorem drop_at {α : Type} {xs : List α} {i : Nat} {x : α} (h : xs[i]? = some x) : xs.drop i = x :: xs.drop (i + 1) := by
  obtain ⟨hlt, e⟩ := List.getElem?_eq_some_iff.mp h
  rw [List.drop_eq_getElem_cons hlt, e]
theorem int_at {ss : List Int} {i : Nat} {x : V} (h : (ss.map V.int)[i]? = some x) : ∃ n, x = .int n ∧ ss[i]? = some n := by
  rw [List.getElem?_map] at h
  cases e : ss[i]? with
  | none =>
    rw [e] at h
    cases h
  | some n =>
    rw [e] at h
    exact ⟨n, (Option.some.inj h).symm, rfl⟩

end
end Fm
namespace Fm
open PySem PySem.Spec PyProof.Rows L2
section
variable {P : Program} {w : World} {K : PySem.W.Frag} {mg : Str → Option Value} {base : Heap}

/-! ### tuples of ints -/
theorem ints_dh {K : PySem.W.Frag} {H : Hp} : ∀ c : List Int, DhAll K H (c.map V.int) (c.map Dt.int)
  | [] => .nil
  | i :: r => .cons (.int i) (ints_dh r)
theorem dh_ints {K : PySem.W.Frag} {H : Hp} : ∀ {vs : List V} (c : List Int), DhAll K H vs (c.map Dt.int) → vs = c.map V.int
  | [], [], _ => rfl
  | v :: vs, i :: r, .cons h t => by rw [h.int_inv, dh_ints r t]; rfl
def ctD (c : List Int) : Dt := .tup (c.map Dt.int)
theorem dh_ct {K : PySem.W.Frag} {H : Hp} {a : Addr} {c : List Int} (h : SqT K H a (c.map V.int)) : Dh K H (.ref a) (ctD c) := .tup h (ints_dh c)
theorem ct_inv {K : PySem.W.Frag} {H : Hp} {v : V} {c : List Int} (h : Dh K H v (ctD c)) : ∃ a, v = .ref a ∧ SqT K H a (c.map V.int) := by
  obtain ⟨a, xs, rfl, s, t⟩ := h.tup_inv
  rw [dh_ints c t] at s
  exact ⟨a, rfl, s⟩
theorem map_at {α β : Type} {l : List α} {f : α → β} {i : Nat} {y : β} (h : (l.map f)[i]? = some y) : ∃ x, l[i]? = some x ∧ f x = y := by
  rw [List.getElem?_map] at h
  cases e : l[i]? with
  | none =>
    rw [e] at h
    cases h
  | some x =>
    rw [e] at h
    exact ⟨x, rfl, Option.some.inj h⟩
theorem sz_small {n : Nat} (h : n ≤ 100000) : n < sizeLine := Nat.lt_of_le_of_lt h (by decide)
theorem Same.put {H0 H : Hp} {D : Addr} {o : HO} (h : H0 D = none) (s : Same H0 H) : Same H0 (upd H D o) := fun b x e => by
  rw [upd_ne (ne_of_none e h)]
  exact s b x e
theorem Ext.put {H : Hp} {D : Addr} {xs ys : List V} (h : H D = some (.lst xs)) : Ext H (upd H D (.lst ys)) := fun b o e => by
  by_cases hb : b = D
  · subst hb
    rw [h] at e
    cases e
    exact .inr ⟨⟨xs, rfl⟩, ys, upd_same⟩
  · rw [upd_ne hb]
    exact .inl e
def InR (ps : List Int) (n : Int) : Prop := ∀ p ∈ ps, 0 ≤ p ∧ p < n
def Asc (n : Int) : Int → List Int → Prop
  | _, [] => True
  | l, c :: r => l < c ∧ c < n ∧ Asc n c r
theorem patGo_asc {n : Int} : ∀ {l : Int} {ds : List Dt}, patGo n l ds = true → ∃ ps, ds = ps.map Dt.int ∧ Asc n l ps
  | _, [], _ => ⟨[], rfl, True.intro⟩
  | l, .int c :: r, h => by
    have h' : (if l < c ∧ c < n then patGo n c r else false) = true := h
    by_cases hc : l < c ∧ c < n
    · rw [if_pos hc] at h'
      obtain ⟨ps, rfl, ha⟩ := patGo_asc h'
      exact ⟨c :: ps, rfl, hc.1, hc.2, ha⟩
    · rw [if_neg hc] at h'
      cases h'
  | _, .non :: _, h => by cases h
  | _, .bl _ :: _, h => by cases h
  | _, .str _ :: _, h => by cases h
  | _, .tup _ :: _, h => by cases h
  | _, .oth _ :: _, h => by cases h
theorem asc_patGo {n : Int} : ∀ {l : Int} {ps : List Int}, Asc n l ps → patGo n l (ps.map Dt.int) = true
  | _, [], _ => rfl
  | l, c :: r, ⟨h1, h2, h3⟩ => by
    show (if l < c ∧ c < n then patGo n c (r.map Dt.int) else false) = true
    rw [if_pos ⟨h1, h2⟩]
    exact asc_patGo h3
theorem Asc.mem {n : Int} : ∀ {l : Int} {ps : List Int}, Asc n l ps → ∀ p ∈ ps, l < p ∧ p < n
  | l, c :: r, ⟨h1, h2, h3⟩, p, hp => by
    rcases List.mem_cons.mp hp with e | e
    · rw [e]
      exact ⟨h1, h2⟩
    · have := h3.mem p e
      omega
theorem Asc.inR {n : Int} {ps : List Int} (h : Asc n (-1) ps) : InR ps n := fun p hp => by
  have := h.mem p hp
  omega
theorem Asc.lenA {n : Int} : ∀ {l : Int} {ps : List Int}, Asc n l ps → l < n → (ps.length : Int) + l < n
  | l, [], _, h => by simpa using h
  | l, c :: r, ⟨h1, h2, h3⟩, _ => by
    have := h3.lenA h2
    rw [List.length_cons]
    omega
theorem Asc.len {n : Int} {ps : List Int} (h : Asc n (-1) ps) (hn : 0 ≤ n) : (ps.length : Int) ≤ n := by
  have := h.lenA (by omega)
  omega
def Dt.ints : Dt → List Int
  | .tup ds => ds.map fun d => match d with
    | .int i => i
    | _ => 0
  | _ => []
theorem ints_ct (c : List Int) : (ctD c).ints = c := by
  show (c.map Dt.int).map _ = c
  rw [List.map_map]
  conv => rhs; rw [← List.map_id c]
  rfl
theorem isPat_ct {n : Int} {d : Dt} (h : d.isPat n = true) : ∃ ps, d = ctD ps ∧ Asc n (-1) ps := by
  cases d with
  | tup ds =>
    obtain ⟨ps, rfl, a⟩ := patGo_asc (show patGo n (-1) ds = true from h)
    exact ⟨ps, rfl, a⟩
  | _ => cases h
theorem dh_two {K : PySem.W.Frag} {H : Hp} {xs : List V} {d1 d2 : Dt} : DhAll K H xs [d1, d2] → ∃ v1 v2, xs = [v1, v2] ∧ Dh K H v1 d1 ∧ Dh K H v2 d2
  | .cons h1 (.cons h2 .nil) => ⟨_, _, rfl, h1, h2⟩
abbrev ctP (c : List Int) : PyData := .tuple (c.map PyData.int)
abbrev ctsP (cs : List (List Int)) : PyData := .list (cs.map ctP)
theorem lay_all {α : Type} {f : α → PyData} {n : Nat} (h : ∀ x, (f x).canLay0 = true ∧ (f x).depth ≤ n) : ∀ l : List α, PyData.canLayAll0 (l.map f) = true ∧ PyData.depthAll (l.map f) ≤ n
  | [] => ⟨rfl, Nat.zero_le _⟩
  | x :: r => by
    obtain ⟨h1, h2⟩ := lay_all h r
    obtain ⟨h3, h4⟩ := h x
    refine ⟨?_, ?_⟩
    · show ((f x).canLay0 && PyData.canLayAll0 (r.map f)) = true
      rw [h1, h3]
      rfl
    · show max (f x).depth (PyData.depthAll (r.map f)) ≤ n
      exact Nat.max_le.mpr ⟨h4, h2⟩
theorem lay_ct (c : List Int) : (ctP c).canLay0 = true ∧ (ctP c).depth ≤ 1 := by
  obtain ⟨h1, h2⟩ := lay_all (f := PyData.int) (n := 0) (fun _ => ⟨rfl, Nat.le_refl _⟩) c
  exact ⟨h1, Nat.succ_le_succ h2⟩
theorem shaped_of {d : PyData} {n : Nat} (h : d.canLay0 = true ∧ d.depth ≤ n) (hn : n ≤ 64) : SeqAt.shaped d = true := by
  unfold SeqAt.shaped
  rw [h.1, decide_eq_true (Nat.le_trans h.2 hn)]
  rfl
theorem shaped_ct (c : List Int) : SeqAt.shaped (ctP c) = true := shaped_of (lay_ct c) (by decide)
theorem lay_cts (cs : List (List Int)) : (ctsP cs).canLay0 = true ∧ (ctsP cs).depth ≤ 2 := by
  obtain ⟨h1, h2⟩ := lay_all (f := fun c => ctP c) (n := 1) lay_ct cs
  exact ⟨h1, Nat.succ_le_succ h2⟩
theorem shaped_cts (cs : List (List Int)) : SeqAt.shaped (ctsP cs) = true := shaped_of (lay_cts cs) (by decide)
theorem eqv_all {α : Type} [DecidableEq α] {f : α → PyData} (h : ∀ x y, PyData.eqv (f x) (f y) = decide (x = y)) : ∀ l m : List α, PyData.eqvAll (l.map f) (m.map f) = decide (l = m)
  | [], [] => by simp [PyData.eqvAll]
  | [], _ :: _ => by simp [PyData.eqvAll]
  | _ :: _, [] => by simp [PyData.eqvAll]
  | x :: l, y :: m => by
    rw [List.map_cons, List.map_cons, PyData.eqvAll, h, eqv_all h l m]
    by_cases e1 : x = y <;> by_cases e2 : l = m <;> simp [e1, e2]
theorem eqv_ct (c d : List Int) : PyData.eqv (ctP c) (ctP d) = decide (c = d) := by
  rw [PyData.eqv]
  exact eqv_all (f := PyData.int) (fun x y => by rw [PyData.eqv]; by_cases e : x = y <;> simp [e]) c d
theorem eqv_cts (c d : List (List Int)) : PyData.eqv (ctsP c) (ctsP d) = decide (c = d) := by
  rw [PyData.eqv]
  exact eqv_all (f := fun c => ctP c) eqv_ct c d
theorem dp_ints {K : PySem.W.Frag} {H : Hp} : ∀ c : List Int, DpAll K H (c.map V.int) (c.map PyData.int)
  | [] => .nil
  | i :: r => .cons (.int i) (dp_ints r)
theorem dp_ct {K : PySem.W.Frag} {H : Hp} {v : V} {c : List Int} (h : Dh K H v (ctD c)) : Dp K H v (ctP c) := by
  obtain ⟨a, rfl, s⟩ := ct_inv h
  exact .tup s (dp_ints c)
theorem dp_ctAll {K : PySem.W.Frag} {H : Hp} : ∀ {xs : List V} (cs : List (List Int)), DhAll K H xs (cs.map ctD) → DpAll K H xs (cs.map ctP)
  | _, [], .nil => .nil
  | _, _ :: r, .cons h t => .cons (dp_ct h) (dp_ctAll r t)
theorem dp_cts {K : PySem.W.Frag} {H : Hp} {a : Addr} {xs : List V} {cs : List (List Int)} (s : SqL K H a xs) (h : DhAll K H xs (cs.map ctD)) : Dp K H (.ref a) (ctsP cs) := .lst s (dp_ctAll cs h)
theorem Asc.isPat {n : Int} {ps : List Int} (h : Asc n (-1) ps) : (ctD ps).isPat n = true := asc_patGo h

end
end Fm
namespace Fm
open PySem PySem.Spec PyProof.Rows L2
section
variable {P : Program} {w : World} {K : PySem.W.Frag} {mg : Str → Option Value} {base : Heap}

/-! ### lists of patterns -/
def rgI (n : Nat) : List Int := (List.range n).map fun (i : Nat) => (i : Int)
theorem rgV_I (n : Nat) : rgV 0 (n : Int) = (rgI n).map V.int := by
  unfold rgV rgI
  rw [List.map_map]
  have e : ((n : Int) - 0).toNat = n := by omega
  rw [e]
  refine List.map_congr_left fun i _ => ?_
  show V.int (0 + (i : Int)) = V.int (i : Int)
  rw [Int.zero_add]
def spCols (K : PySem.W.Frag) : Sp := fun vs H Q _ => ∃ n : Nat, vs = [.int n] ∧ n ≤ 1000 ∧ ∀ v H', Same H H' → Dh K H' v (ctD (rgI n)) → Q v H'
theorem ok_all_columns (T : Txt K mg) : FnOk P w K mg base CX0 1 T.f_all_columns T.d_all_columns ["columns"] (spCols K) := by
  refine T.F_all_columns.ok sc_all_columns (fun vs H Q E h => ?_) (fun cdv A outer s H vs Q E hr h => ?_)
  · obtain ⟨_, rfl, _⟩ := h
    rfl
  · obtain ⟨n, rfl, hn, q⟩ := h
    refine ⟨_, (pss_one (ps_ret (pe_tupRg rfl (by rfl) T.z_tuple (prg_1 (by rfl) T.z_range (pv 0))))), ?_⟩
    refine ⟨_, rfl, _, rfl, RgOk.of_le (by omega) (by omega) (by omega) (by omega), fun p np => ?_⟩
    rw [rgV_I]
    exact q _ _ (same_new np) (dh_ct (SqT.of upd_same))
def lGo (n : Int) : Option (List Int) → List Dt → Bool
  | _, [] => true
  | last, d :: r => if d.isPat n = true then (match last with
    | none => lGo n (some d.ints) r
    | some l => if HT.lexLt l d.ints = true then lGo n (some d.ints) r else false) else false
def Dt.isList (n : Nat) : Dt → Bool
  | .tup ds => decide (1 ≤ ds.length ∧ ds.length ≤ 12) && (lGo n none ds && ds.any fun d => decide (d.ints = rgI n))
  | _ => false
def LastOk (K : PySem.W.Frag) (H : Hp) (v : V) : Option (List Int) → Prop
  | none => v = .non
  | some l => Dh K H v (ctD l)
theorem dp_pats {K : PySem.W.Frag} {H : Hp} {n : Int} : ∀ {xs : List V} {ds : List Dt}, DhAll K H xs ds → (∀ d ∈ ds, d.isPat n = true) → DpAll K H xs (ds.map fun d => ctP d.ints)
  | _, _, .nil, _ => .nil
  | _, _, .cons (d := d) h t, hp => by
    obtain ⟨ps, rfl, _⟩ := isPat_ct (hp d (List.mem_cons_self ..))
    rw [List.map_cons, ints_ct]
    exact .cons (dp_ct h) (dp_pats t fun e he => hp e (List.mem_cons_of_mem _ he))
theorem any_ct (ds : List Dt) (c : List Int) : ((ds.map fun d => ctP d.ints).any fun z => PyData.eqv z (ctP c)) = ds.any fun d => decide (d.ints = c) := by
  rw [List.any_map]
  congr 1
  funext d
  exact eqv_ct d.ints c
theorem shaped_pats (ds : List Dt) : SeqAt.shaped (.tuple (ds.map fun d => ctP d.ints)) = true := by
  obtain ⟨h1, h2⟩ := lay_all (f := fun c => ctP c) (n := 1) lay_ct (ds.map fun d => d.ints)
  rw [List.map_map] at h1 h2
  exact shaped_of (n := 2) ⟨h1, Nat.succ_le_succ h2⟩ (by decide)
def spList (K : PySem.W.Frag) : Sp := fun vs H Q _ => ∃ (n : Nat) (v : V) (d : Dt), vs = [.int n, v] ∧ 1 ≤ n ∧ n ≤ 5 ∧ Dh K H v d ∧ ∀ H', Same H H' → Q (.bl (d.isList n)) H'
theorem ok_is_list (T : Txt K mg) : FnOk P w K mg base CX0 3 T.f_is_list T.d_is_list ["columns", "thing"] (spList K) := by
  refine T.F_is_list.ok sc_is_list (fun vs H Q E h => ?_) (fun cdv A outer s H vs Q E hr h => ?_)
  · obtain ⟨_, _, _, rfl, _⟩ := h
    rfl
  · obtain ⟨n, v, d, rfl, n1, n5, h, q⟩ := h
    refine ⟨_, (pss_cons (ps_if (PW.pt (pw_or (pt_not (pt_val (pe_call (ok_is_whole T) (hr.mono (by decide)) (by rfl) T.g_is_whole T.F_is_whole.kp T.b_is_whole .nil pass0 (pa_cons (pv 0) pa_nil)))) (pw_or1 (pt_not (pt_chain op_le op_le pe_int (pv 0) (pe_glob (by rfl) T.k_MOST_COLUMNS.1 T.k_MOST_COLUMNS.2)))))) (pss_one ps_never) pss_nil)
      (pss_cons (ps_if (PW.pt (pw_or (pt_not (pt_val (pe_callB (call_isiK' K) (by rfl) T.z_isinstance (by decide +kernel) (pa_cons (pv 1) (pa_cons (pe_bltn (v := .ty "tuple") (by rfl) T.z_tuple (by decide +kernel) rfl) pa_nil))))) (pw_or1 (pt_not (pt_chain op_le op_le pe_int (pe_callB (call_lenK K) (by rfl) T.z_len PySem.boot_len (pa_cons (pv 1) pa_nil)) (pe_glob (by rfl) T.k_MOST_PATTERNS.1 T.k_MOST_PATTERNS.2)))))) (pss_one (ps_ret pe_bl)) pss_nil)
      (pss_cons (ps_set (i := 2) sc_is_list.nd rfl (.inl rfl) pe_non)
      (pss_cons (ps_for PassesOwn.never rfl (pi_tupK K (pv 1)) (pg_name (i := 3) sc_is_list.nd rfl (.inl rfl)) (pss_cons (ps_if (pt_not (pt_val (pe_call (ok_is_pattern T) hr (by rfl) T.g_is_pattern T.F_is_pattern.kp T.b_is_pattern .nil pass0 (pa_cons (pv 0) (pa_cons (pv 3) pa_nil))))) (pss_one (ps_ret pe_bl)) pss_nil)
      (pss_cons (ps_if (PW.pt (pw_and (pt_cmpR op_notN (pv 2) pe_non (nomark _)) (pw_and1 (pt_not (pt_cmpR (op_ltTK (K := K) hr.units0) (pv 2) (pv 3) (nomark _)))))) (pss_one (ps_ret pe_bl)) pss_nil)
      (pss_one (ps_set (i := 2) sc_is_list.nd rfl (.inl rfl) (pv 3))))))
      (pss_one (ps_ret (pe_cmpR (op_inT (K := K) (room65 hr)) (pe_call (ok_all_columns T) (hr.mono (by decide)) (by rfl) T.g_all_columns T.F_all_columns.kp T.b_all_columns .nil pass0 (pa_cons (pv 0) pa_nil)) (pv 1) (by rfl)))))))), ?_⟩
    refine ⟨_, rfl, spD_bl (.cons (.int _) .nil) rfl fun H1 s1 => ⟨_, rfl, ?_⟩⟩
    refine iteF ?_
    refine ⟨_, rfl, _, _, rfl, rfl, _, rfl, ?_⟩
    rw [decide_eq_true (show (1 : Int) ≤ n by omega)]
    refine iteT ?_
    refine ⟨_, _, rfl, rfl, _, rfl, ?_⟩
    rw [decide_eq_true (show (n : Int) ≤ 5 by omega)]
    refine iteF ?_
    have h := h.ext (.of s1)
    obtain ⟨t, ty, ki, kt, kb⟩ := h.kinds
    refine ⟨_, rfl, _, _, _, _, _, rfl, .ty _, ty, kt, _, rfl, ?_⟩
    cases hi : d.isTup with
    | false =>
      refine iteT (iteT ?_)
      have e : d.isList n = false := by cases d <;> first | rfl | cases hi
      rw [e] at q
      exact q H1 s1
    | true =>
      refine iteF ?_
      cases d with
      | tup ds =>
        obtain ⟨a, xs, rfl, hs, ha⟩ := h.tup_inv
        have hl := ha.length
        have eq0 : (Dt.tup ds).isList n = (decide (1 ≤ ds.length ∧ ds.length ≤ 12) && (lGo n none ds && ds.any fun d => decide (d.ints = rgI n))) := rfl
        rw [eq0] at q
        refine ⟨_, rfl, a, xs, rfl, .inr hs, _, _, rfl, rfl, _, rfl, ?_⟩
        have out : ¬ (1 ≤ ds.length ∧ ds.length ≤ 12) → Q (.bl false) H1 := fun z => by
          rw [decide_eq_false z] at q
          exact q H1 s1
        refine ite2 (fun h1 => ?_) (fun h1 => ?_)
        · have h1' : (1 : Int) ≤ xs.length := of_decide_eq_true h1
          refine ⟨_, _, rfl, rfl, _, rfl, ?_⟩
          refine ite2 (fun h2 => ?_) (fun h2 => ?_)
          · have h2' : ¬ (xs.length : Int) ≤ 12 := by simpa using h2
            exact out fun z => h2' (by omega)
          · have h2' : (xs.length : Int) ≤ 12 := by simpa using h2
            rw [decide_eq_true (show 1 ≤ ds.length ∧ ds.length ≤ 12 by omega), Bool.true_and] at q
            refine ⟨_, rfl, a, rfl, ⟨_, hs⟩, for_tup (xs := xs) (fun i σ H' => ∃ (last : Option (List Int)) (v2 : V) (y3 : Option V), σ = [some (.int n), some (.ref a), some v2, y3] ∧ Same H1 H' ∧ LastOk K H' v2 last ∧ lGo n none ds = lGo n last (ds.drop i) ∧ ∀ d ∈ ds.take i, d.isPat n = true)
              ⟨none, _, none, rfl, Same.refl _, rfl, rfl, fun d hd => by simp at hd⟩ (fun i σ H' _ ⟨_, _, _, _, sm, _⟩ => (Ext.of sm).sqT hs) ?_ ?_⟩
            · rintro i x σ H' hx ⟨last, v2, y3, rfl, sm, hlast, e, hpat⟩
              obtain ⟨dx, hdx, hx2⟩ := ha.get hx
              rw [drop_at hdx] at e
              refine ⟨_, rfl, _, rfl, spD_bl (.cons (.int _) (.cons (hx2.ext (.of sm)) .nil)) rfl fun H2 s2 => ⟨_, rfl, ?_⟩⟩
              have sm2 := (s1.trans sm).trans s2
              cases hp : dx.isPat n with
              | false =>
                refine iteT ?_
                have z : lGo n none ds = false := by
                  rw [e]
                  show (if dx.isPat n = true then _ else false) = false
                  rw [if_neg (by rw [hp]; exact Bool.false_ne_true)]
                rw [z] at q
                exact q H2 sm2
              | true =>
                refine iteF ?_
                obtain ⟨ps, rfl, _⟩ := isPat_ct hp
                have hx3 := hx2.ext (.of (sm.trans s2))
                have hpat' : ∀ d ∈ ds.take (i + 1), d.isPat n = true := fun d hd => by
                  rw [List.take_add_one, hdx] at hd
                  rcases List.mem_append.mp hd with hd | hd
                  · exact hpat d hd
                  · rw [List.mem_singleton.mp hd]
                    exact hp
                cases last with
                | none =>
                  have hl2 : v2 = .non := hlast
                  subst hl2
                  refine ⟨_, rfl, rfl, _, rfl, iteF ?_⟩
                  refine ⟨_, rfl, some ps, x, _, rfl, sm.trans s2, hx3, ?_, hpat'⟩
                  rw [e]
                  show (if (ctD ps).isPat n = true then lGo n (some (ctD ps).ints) _ else false) = _
                  rw [if_pos hp, ints_ct]
                | some l =>
                  have hl2 : Dh K H2 v2 (ctD l) := (show Dh K H' v2 (ctD l) from hlast).ext (.of s2)
                  obtain ⟨la, rfl, hla⟩ := ct_inv hl2
                  obtain ⟨xa, rfl, hxa⟩ := ct_inv hx3
                  refine ⟨_, rfl, rfl, _, rfl, ?_⟩
                  rw [decide_eq_false (show ¬ V.ref la = V.non from fun z => by cases z)]
                  refine iteT ?_
                  refine ⟨_, rfl, _, rfl, la, xa, l, ps, rfl, rfl, hla, hxa, _, rfl, ?_⟩
                  have e' : lGo n none ds = if HT.lexLt l ps = true then lGo n (some ps) (ds.drop (i + 1)) else false := by
                    rw [e]
                    show (if (ctD ps).isPat n = true then (if HT.lexLt l (ctD ps).ints = true then lGo n (some (ctD ps).ints) _ else false) else false) = _
                    rw [if_pos hp, ints_ct]
                  cases hlt : HT.lexLt l ps with
                  | true =>
                    refine iteF ?_
                    rw [if_pos hlt] at e'
                    exact ⟨_, rfl, some ps, _, _, rfl, sm.trans s2, hx3, e', hpat'⟩
                  | false =>
                    refine iteT ?_
                    rw [if_neg (by rw [hlt]; exact Bool.false_ne_true)] at e'
                    rw [e'] at q
                    exact q H2 sm2
            · rintro σ H' ⟨last, v2, y3, rfl, sm, hlast, e, hpat⟩
              rw [List.drop_eq_nil_of_le (by omega)] at e
              have e' : lGo n none ds = true := e
              rw [e', Bool.true_and] at q
              have hall : ∀ d ∈ ds, d.isPat n = true := fun d hd => hpat d (by rw [hl, List.take_length]; exact hd)
              refine ⟨_, rfl, n, rfl, by omega, fun v H3 s3 hv => ?_⟩
              have sm3 := sm.trans s3
              refine ⟨_, rfl, ctP (rgI n), (ds.map fun d => ctP d.ints), dp_ct hv, .tup ((Ext.of sm3).sqT hs) (dp_pats (ha.ext (.of sm3)) hall), shaped_ct _, shaped_pats _, ?_⟩
              rw [any_ct]
              exact q H3 (s1.trans sm3)
        · refine ⟨_, rfl, iteT ?_⟩
          exact out fun z => h1 (decide_eq_true (by omega))
      | _ => cases hi

end
end Fm
namespace Fm
open PySem PySem.Spec PyProof.Rows L2
section
variable {P : Program} {w : World} {K : PySem.W.Frag} {mg : Str → Option Value} {base : Heap}

/-! ### less, struck, within -/
/-- a pattern without a column -/
def cut1 (c : Int) (p : List Int) : List Int := p.filter fun x => decide (x ≠ c)
def strk (c : Int) (ps : List (List Int)) : List (List Int) := ps.map (cut1 c)
def patsD (ps : List (List Int)) : Dt := .tup (ps.map ctD)
theorem cut1_len (c : Int) (p : List Int) : (cut1 c p).length ≤ p.length := List.length_filter_le _ _
theorem take_filter {α : Type} {f : α → Bool} {l : List α} {j : Nat} {e : α} (he : l[j]? = some e) : (l.take (j + 1)).filter f = (l.take j).filter f ++ if f e = true then [e] else [] := by
  rw [List.take_add_one, he, List.filter_append]
  congr 1
  show List.filter _ [e] = _
  by_cases h : f e = true
  · rw [if_pos h, List.filter_cons, if_pos h]
    rfl
  · rw [if_neg h, List.filter_cons, if_neg h]
    rfl
def spLess (K : PySem.W.Frag) : Sp := fun vs H Q _ => ∃ (v : V) (p : List Int) (c : Int), vs = [v, .int c] ∧ Dh K H v (ctD p) ∧ p.length ≤ 1000 ∧ ∀ u H', Same H H' → Dh K H' u (ctD (cut1 c p)) → Q u H'
theorem ok_less (T : Txt K mg) : FnOk P w K mg base CX0 1 T.f_less T.d_less ["pattern", "column"] (spLess K) := by
  refine T.F_less.ok sc_less (fun vs H Q E h => ?_) (fun cdv A outer s H vs Q E hr h => ?_)
  · obtain ⟨_, _, _, rfl, _⟩ := h
    rfl
  · obtain ⟨v, p, c, rfl, hv, hl, q⟩ := h
    obtain ⟨a, rfl, ha⟩ := ct_inv hv
    refine ⟨_, (pss_one (ps_ret (pe_callTy (call_tupleK K) (by rfl) T.z_tuple (by decide +kernel) (pa_cons (pe_lc (own := [("other", 2)]) rfl sc_less.nd (pi_tupK K (pv 0)) (blkOk_by (N := N_less) (sc := defScope s_less) (by decide +kernel)) (fun _ _ _ _ _ => (pg_name (i := 2) sc_less.nd rfl (.inl rfl))) (fun _ _ _ _ _ => (pts_one (pt_cmpR op_ne (pv 2) (pv 1) (nomark _)))) (fun _ _ _ _ _ => (pv 2))) pa_nil)))), ?_⟩
    refine ⟨_, rfl, a, rfl, ⟨_, ha⟩, fun D nD => lc_tup (K := K) (xs := p.map V.int) (fun j H' => Same H H' ∧ H' D = some (.lst (((p.take j).filter fun x => decide (x ≠ c)).map V.int))) ⟨same_new nD, upd_same⟩ (fun j H' _ ⟨s', _⟩ => (Ext.of s').sqT ha) ?_ ?_⟩
    · rintro j x H1 hx ⟨s1, hD⟩
      rw [List.getElem?_map] at hx
      obtain ⟨z, hz, rfl⟩ := Option.map_eq_some_iff.mp hx
      have hf := take_filter (f := fun x => decide (x ≠ c)) hz
      refine ⟨rfl, ?_⟩
      have hlt : ∀ k, (((p.take k).filter fun x => decide (x ≠ c)).map V.int).length ≤ 1000 := fun k => by
        rw [List.length_map]
        have := List.length_filter_le (fun x => decide (x ≠ c)) (p.take k)
        have := List.length_take (i := k) (l := p)
        omega
      refine ⟨_, rfl, _, rfl, ⟨rfl, _, rfl, ?_⟩⟩
      by_cases e : z = c
      · rw [show decide (V.int z = V.int c) = true from decide_eq_true (by rw [e])]
        rw [if_neg (by rw [decide_eq_false (fun h => h e)]; decide), List.append_nil] at hf
        refine iteF ?_
        rw [hf]
        exact ⟨s1, hD⟩
      · rw [show decide (V.int z = V.int c) = false from decide_eq_false fun h => e (by injection h)]
        rw [if_pos (decide_eq_true e)] at hf
        refine iteT ?_
        refine ⟨_, rfl, _, hD, sz_small (by have := hlt j; omega), Same.put nD s1, ?_⟩
        rw [hf, List.map_append]
        exact upd_same
    · rintro H1 ⟨s1, hD⟩
      have hD : H1 D = some (.lst (((p.take p.length).filter fun x => decide (x ≠ c)).map V.int)) := by
        rw [← List.length_map (f := V.int)]
        exact hD
      rw [List.take_length] at hD
      exact ⟨D, _, rfl, .inl ⟨SqL.of hD, fun t nt => q _ _ (s1.trans (same_new nt)) (dh_ct (SqT.of upd_same))⟩⟩
def spStruck (K : PySem.W.Frag) : Sp := fun vs H Q _ => ∃ (v : V) (ps : List (List Int)) (c : Int), vs = [v, .int c] ∧ Dh K H v (patsD ps) ∧ ps.length ≤ 1000 ∧ (∀ p ∈ ps, p.length ≤ 1000) ∧ ∀ u H', Same H H' → Dh K H' u (patsD (strk c ps)) → Q u H'
/-- what a comprehension over known things has collected -/
structure Got (K : PySem.W.Frag) (H0 : Hp) (D : Addr) (ds : List Dt) (H : Hp) : Prop where
  same : Same H0 H
  got : ∃ acc, H D = some (.lst acc) ∧ DhAll K H acc ds
theorem Got.put {H0 H H' : Hp} {D : Addr} {ds : List Dt} {d : Dt} {v : V} (nD : H0 D = none) (g : Got K H0 D ds H) (s : Same H H') (h : Dh K H' v d) (hl : ds.length ≤ 10000) : ∃ acc, H' D = some (.lst acc) ∧ acc.length < sizeLine ∧ Got K H0 D (ds ++ [d]) (upd H' D (.lst (acc ++ [v]))) := by
  obtain ⟨acc, h1, h2⟩ := g.got
  have hD := s _ _ h1
  have ep := Ext.put (ys := acc ++ [v]) hD
  refine ⟨acc, hD, sz_small (by have := h2.length; omega), Same.put nD (g.same.trans s), acc ++ [v], upd_same, ?_⟩
  have key : ∀ {xs : List V} {es : List Dt}, DhAll K (upd H' D (.lst (acc ++ [v]))) xs es → DhAll K (upd H' D (.lst (acc ++ [v]))) (xs ++ [v]) (es ++ [d]) := by
    intro xs es z
    induction es generalizing xs with
    | nil =>
      cases z
      exact .cons (h.ext ep) .nil
    | cons e es ih =>
      cases z with
      | cons z1 z2 => exact .cons z1 (ih z2)
  exact key ((h2.ext (.of s)).ext ep)
theorem Got.zero {H0 : Hp} {D : Addr} (nD : H0 D = none) : Got K H0 D [] (upd H0 D (.lst [])) := ⟨same_new nD, [], upd_same, .nil⟩
theorem dhAll_at {H : Hp} : ∀ {xs : List V} {ds : List Dt} {i : Nat} {x : V}, DhAll K H xs ds → xs[i]? = some x → ∃ d, ds[i]? = some d ∧ Dh K H x d
  | _, _, _, _, .nil, e => by simp at e
  | v :: _, _, 0, x, .cons (d := d) h _, e => by
    have e : v = x := by simpa using e
    subst e
    exact ⟨d, rfl, h⟩
  | _, _, i + 1, x, .cons _ t, e => dhAll_at (i := i) t (by simpa using e)
theorem ok_struck (T : Txt K mg) : FnOk P w K mg base CX0 2 T.f_struck T.d_struck ["parts", "column"] (spStruck K) := by
  refine T.F_struck.ok sc_struck (fun vs H Q E h => ?_) (fun cdv A outer s H vs Q E hr h => ?_)
  · obtain ⟨_, _, _, rfl, _⟩ := h
    rfl
  · obtain ⟨v, ps, c, rfl, hv, hl, hp, q⟩ := h
    obtain ⟨a, xs, rfl, ha, hx⟩ := hv.tup_inv
    have hxl : xs.length = ps.length := by rw [hx.length, List.length_map]
    refine ⟨_, (pss_one (ps_ret (pe_callTy (call_tupleK K) (by rfl) T.z_tuple (by decide +kernel) (pa_cons (pe_lc (own := [("pattern", 2)]) rfl sc_struck.nd (pi_tupK K (pv 0)) (blkOk_by (N := N_struck) (sc := defScope s_struck) (by decide +kernel)) (fun _ _ _ _ _ => (pg_name (i := 2) sc_struck.nd rfl (.inl rfl))) (fun _ _ _ _ _ => pts_nil) (fun _ _ _ _ _ => (pe_call (ok_less T) hr (by rfl) T.g_less T.F_less.kp T.b_less .nil pass0 (pa_cons (pv 2) (pa_cons (pv 1) pa_nil))))) pa_nil)))), ?_⟩
    refine ⟨_, rfl, a, rfl, ⟨_, ha⟩, fun D nD => lc_tup (K := K) (xs := xs) (fun j H' => Got K H D ((ps.take j).map fun p => ctD (cut1 c p)) H') (.zero nD) (fun j H' _ g => (Ext.of g.same).sqT ha) ?_ ?_⟩
    · rintro j x H1 hxj g
      obtain ⟨d, hd, hxd⟩ := dhAll_at hx hxj
      obtain ⟨p, hp1, rfl⟩ := map_at hd
      refine ⟨rfl, ?_⟩
      dsimp only [tYes]
      rw [if_pos rfl]
      refine ⟨_, rfl, _, rfl, _, p, c, rfl, hxd.ext (.of g.same), hp p (List.mem_of_getElem? hp1), fun u H2 s2 hu => ?_⟩
      obtain ⟨acc, h1, h2, h3⟩ := g.put nD s2 hu (by rw [List.length_map]; have := List.length_take (i := j) (l := ps); omega)
      refine ⟨acc, h1, h2, ?_⟩
      rw [List.take_add_one, hp1, List.map_append]
      exact h3
    · rintro H1 ⟨s1, acc, hD, hac⟩
      rw [hxl, List.take_length] at hac
      refine ⟨D, _, rfl, .inl ⟨SqL.of hD, fun t nt => q _ _ (s1.trans (same_new nt)) (.tup (SqT.of upd_same) ?_)⟩⟩
      unfold strk
      rw [List.map_map]
      exact hac.ext (.of (same_new nt))
/-! ### within -/
def sub1 (p q : List Int) : Bool := p.all fun x => decide (x ∈ q)
theorem any_mem (q : List Int) (x : Int) : ((q.map PyData.int).any fun z => PyData.eqv z (.int x)) = decide (x ∈ q) := by
  induction q with
  | nil => rfl
  | cons y q ih =>
    rw [List.map_cons, List.any_cons, ih]
    have e : PyData.eqv (.int y) (.int x) = decide (y = x) := by
      rw [PyData.eqv]
      by_cases h : y = x
      · rw [decide_eq_true h, h]
        simp
      · rw [decide_eq_false h]
        simp [h]
    rw [e, ← Bool.decide_or]
    refine decide_eq_decide.mpr ?_
    rw [List.mem_cons]
    exact ⟨fun h => h.elim (fun h => .inl h.symm) .inr, fun h => h.elim (fun h => .inl h.symm) .inr⟩
theorem shaped_int (x : Int) : SeqAt.shaped (.int x) = true := shaped_of (n := 0) ⟨rfl, Nat.le_refl _⟩ (by decide)
def spIn (K : PySem.W.Frag) : Sp := fun vs H Q _ => ∃ (v u : V) (p q : List Int), vs = [v, u] ∧ Dh K H v (ctD p) ∧ Dh K H u (ctD q) ∧ p.length ≤ 1000 ∧ ∀ H', Same H H' → Q (.bl (sub1 p q)) H'
theorem ok_within (T : Txt K mg) : FnOk P w K mg base CX0 1 T.f_within T.d_within ["inner", "outer"] (spIn K) := by
  refine T.F_within.ok sc_within (fun vs H Q E h => ?_) (fun cdv A outer s H vs Q E hr h => ?_)
  · obtain ⟨_, _, _, _, rfl, _⟩ := h
    rfl
  · obtain ⟨v, u, p, q, rfl, hv, hu, hl, k⟩ := h
    obtain ⟨a, rfl, ha⟩ := ct_inv hv
    refine ⟨_, (pss_one (ps_ret (pe_callB (call_allK (K := K) rfl) (by rfl) T.z_all (by decide +kernel) (pa_cons (pe_lc (own := [("column", 2)]) rfl sc_within.nd (pi_tupK K (pv 0)) (blkOk_by (N := N_within) (sc := defScope s_within) (by decide +kernel)) (fun _ _ _ _ _ => (pg_name (i := 2) sc_within.nd rfl (.inl rfl))) (fun _ _ _ _ _ => pts_nil) (fun _ _ _ _ _ => (pe_cmpR (op_inT (K := K) (room65 hr)) (pv 2) (pv 1) (by rfl)))) pa_nil)))), ?_⟩
    refine ⟨_, rfl, a, rfl, ⟨_, ha⟩, fun D nD => lc_tup (K := K) (xs := p.map V.int) (fun j H' => Same H H' ∧ H' D = some (.lst (((p.take j).map fun x => decide (x ∈ q)).map V.bl))) ⟨same_new nD, upd_same⟩ (fun j H' _ ⟨s', _⟩ => (Ext.of s').sqT ha) ?_ ?_⟩
    · rintro j x H1 hx ⟨s1, hD⟩
      rw [List.getElem?_map] at hx
      obtain ⟨z, hz, rfl⟩ := Option.map_eq_some_iff.mp hx
      refine ⟨rfl, ?_⟩
      dsimp only [tYes]
      rw [if_pos rfl]
      refine ⟨_, rfl, _, rfl, .int z, q.map PyData.int, .int z, dp_ct (hu.ext (.of s1)), shaped_int z, shaped_ct q, ?_⟩
      rw [any_mem]
      refine ⟨_, hD, sz_small (by rw [List.length_map, List.length_map]; have := List.length_take (i := j) (l := p); omega), Same.put nD s1, ?_⟩
      rw [List.take_add_one, hz, List.map_append, List.map_append]
      exact upd_same
    · rintro H1 ⟨s1, hD⟩
      have hD : H1 D = some (.lst (((p.take p.length).map fun x => decide (x ∈ q)).map V.bl)) := by
        rw [← List.length_map (f := V.int)]
        exact hD
      rw [List.take_length] at hD
      refine ⟨D, _, rfl, SqL.of hD, ?_⟩
      have e : (p.map fun x => decide (x ∈ q)).all id = sub1 p q := by
        unfold sub1
        rw [List.all_map]
        rfl
      rw [e]
      exact k _ s1

end
end Fm
namespace Fm
open PySem PySem.Spec PyProof.Rows L2
section
variable {P : Program} {w : World} {K : PySem.W.Frag} {mg : Str → Option Value} {base : Heap}

/-! ### is_nest -/
/-- of each two patterns that hold a column one lies within the other -/
def Nest (c : Int) (ps : List (List Int)) : Prop := ∀ p ∈ ps, ∀ q ∈ ps, c ∈ p → c ∈ q → sub1 p q = true ∨ sub1 q p = true
instance (c : Int) (ps : List (List Int)) : Decidable (Nest c ps) := inferInstanceAs (Decidable (∀ p ∈ ps, ∀ q ∈ ps, c ∈ p → c ∈ q → sub1 p q = true ∨ sub1 q p = true))
theorem nodup_len {α : Type} [DecidableEq α] : ∀ (l D : List α), l.Nodup → (∀ x ∈ l, x ∈ D) → l.length ≤ D.length
  | [], _, _, _ => Nat.zero_le _
  | x :: l, D, hn, hs => by
    have h' := List.nodup_cons.mp hn
    have hx := hs x (List.mem_cons_self ..)
    have ih := nodup_len l (D.erase x) h'.2 fun y hy => (List.mem_erase_of_ne (show y ≠ x from by
      intro e
      rw [e] at hy
      exact h'.1 hy)).mpr (hs y (List.mem_cons_of_mem _ hy))
    rw [List.length_erase_of_mem hx] at ih
    have := List.length_pos_of_mem hx
    rw [List.length_cons]
    omega
theorem sub1_iff {p q : List Int} : sub1 p q = true ↔ ∀ x ∈ p, x ∈ q := by
  unfold sub1
  rw [List.all_eq_true]
  exact ⟨fun h x hx => of_decide_eq_true (h x hx), fun h x hx => decide_eq_true (h x hx)⟩
theorem sub1_back {p q : List Int} (hp : p.Nodup) (hl : q.length ≤ p.length) (h : sub1 p q = true) : sub1 q p = true := by
  rw [sub1_iff] at h ⊢
  intro x hx
  by_cases hm : x ∈ p
  · exact hm
  · have := nodup_len (x :: p) q (List.nodup_cons.mpr ⟨hm, hp⟩) fun y hy => by
      rcases List.mem_cons.mp hy with u | u
      · rw [u]; exact hx
      · exact h y u
    rw [List.length_cons] at this
    omega
theorem chain_all {L : List (List Int)} (nd : ∀ p ∈ L, p.Nodup) (pw : L.Pairwise fun x y => x.length ≤ y.length) :
    (((List.range (L.length - 1)).map fun k => sub1 (L.getD k []) (L.getD (k + 1) [])).all id = true) ↔ ∀ p ∈ L, ∀ q ∈ L, sub1 p q = true ∨ sub1 q p = true := by
  have gd : ∀ k, (h : k < L.length) → L.getD k [] = L[k] := fun k h => by
    rw [List.getD_eq_getElem?_getD, List.getElem?_eq_getElem h]
    rfl
  rw [List.all_map, List.all_eq_true]
  constructor
  · intro h
    have step : ∀ k, (h1 : k + 1 < L.length) → sub1 L[k] L[k + 1] = true := fun k h1 => by
      have z := h k (List.mem_range.mpr (by omega))
      have z : sub1 (L.getD k []) (L.getD (k + 1) []) = true := z
      rw [gd k (by omega), gd (k + 1) h1] at z
      exact z
    have up : ∀ (d i : Nat), (h1 : i + d < L.length) → sub1 (L[i]'(by omega)) L[i + d] = true := by
      intro d
      induction d with
      | zero => exact fun i h1 => sub1_iff.mpr fun x hx => hx
      | succ d ih => exact fun i h1 => sub1_iff.mpr fun x hx => sub1_iff.mp (step (i + d) h1) x (sub1_iff.mp (ih i (by omega)) x hx)
    intro p hp q hq
    obtain ⟨i, hi, rfl⟩ := List.mem_iff_getElem.mp hp
    obtain ⟨j, hj, rfl⟩ := List.mem_iff_getElem.mp hq
    rcases Nat.le_total i j with u | u
    · obtain ⟨d, rfl⟩ := Nat.exists_eq_add_of_le u
      exact .inl (up d i hj)
    · obtain ⟨d, rfl⟩ := Nat.exists_eq_add_of_le u
      exact .inr (up d j hi)
  · intro h k hk
    have hk := List.mem_range.mp hk
    have h1 : k + 1 < L.length := by omega
    show sub1 (L.getD k []) (L.getD (k + 1) []) = true
    rw [gd k (by omega), gd (k + 1) h1]
    rcases h L[k] (List.getElem_mem _) L[k + 1] (List.getElem_mem _) with u | u
    · exact u
    · exact sub1_back (nd _ (List.getElem_mem _)) (List.pairwise_iff_getElem.mp pw k (k + 1) (by omega) h1 (by omega)) u
def spNest (K : PySem.W.Frag) : Sp := fun vs H Q _ => ∃ (v : V) (ps : List (List Int)) (c : Int), vs = [v, .int c] ∧ Dh K H v (patsD ps) ∧ ps.length ≤ 1000 ∧ (∀ p ∈ ps, p.length ≤ 1000 ∧ p.Nodup) ∧ ∀ H', Same H H' → Q (.bl (decide (Nest c ps))) H'
theorem ok_is_nest (T : Txt K mg) : FnOk P w K mg base CX0 2 T.f_is_nest T.d_is_nest ["parts", "column"] (spNest K) := by
  refine T.F_is_nest.ok sc_is_nest (fun vs H Q E h => ?_) (fun cdv A outer s H vs Q E hr h => ?_)
  · obtain ⟨_, _, _, rfl, _⟩ := h
    rfl
  · obtain ⟨v, ps, c, rfl, hv, hl, hp, q⟩ := h
    obtain ⟨a, xs, rfl, ha, hx⟩ := hv.tup_inv
    have hxl : xs.length = ps.length := by rw [hx.length, List.length_map]
    refine ⟨_, (pss_cons (ps_set (i := 2) sc_is_nest.nd rfl (.inl rfl) (pe_sortLen (K := K) (by rfl) T.z_sorted (by rfl) T.z_len (pa_cons (pe_lc (own := [("pattern", 3)]) rfl sc_is_nest.nd (pi_tupK K (pv 0)) (blkOk_by (N := N_is_nest) (sc := defScope s_is_nest) (by decide +kernel)) (fun _ _ _ _ _ => (pg_name (i := 3) sc_is_nest.nd rfl (.inl rfl))) (fun _ _ _ _ _ => (pts_one (pt_cmpR (op_inT (K := K) (room65 hr)) (pv 1) (pv 3) (by rfl)))) (fun _ _ _ _ _ => (pv 3))) pa_nil)))
      (pss_one (ps_ret (pe_callB (call_allK (K := K) rfl) (by rfl) T.z_all (by decide +kernel) (pa_cons (pe_lc (own := [("inner", 4), ("outer", 5)]) rfl sc_is_nest.nd (pi_zip (by rfl) T.z_zip (pa_cons (pv 2) (pa_cons (pe_slice (sl_listK K) (pv 2) (po_some pe_int) po_none) pa_nil))) (blkOk_by (N := N_is_nest) (sc := defScope s_is_nest) (by decide +kernel)) (fun _ _ _ _ _ => (pg_tupK K (n := 2) rfl (pgs_cons (pg_name (i := 4) sc_is_nest.nd rfl (.inl rfl)) (pgs_cons (pg_name (i := 5) sc_is_nest.nd rfl (.inl rfl)) pgs_nil)))) (fun _ _ _ _ _ => pts_nil) (fun _ _ _ _ _ => (pe_call (ok_within T) hr (by rfl) T.g_within T.F_within.kp T.b_within .nil pass0 (pa_cons (pv 4) (pa_cons (pv 5) pa_nil))))) pa_nil))))), ?_⟩
    refine ⟨_, rfl, a, rfl, ⟨_, ha⟩, fun D nD => lc_tup (K := K) (xs := xs) (fun j H' => ∃ N : List (Addr × List Int), Same H H' ∧ H' D = some (.lst (N.map fun n => V.ref n.1)) ∧ N.map (·.2) = (ps.take j).filter (fun p => decide (c ∈ p)) ∧ ∀ n ∈ N, SqT K H' n.1 (n.2.map V.int)) ⟨[], same_new nD, upd_same, rfl, fun n hn => by cases hn⟩ (fun j H' _ ⟨_, s', _⟩ => (Ext.of s').sqT ha) ?_ ?_⟩
    · rintro j x H1 hxj ⟨N, s1, hD, hN, hS⟩
      obtain ⟨d, hd, hxd⟩ := dhAll_at hx hxj
      obtain ⟨p, hp1, rfl⟩ := map_at hd
      obtain ⟨b, rfl, hb⟩ := ct_inv (hxd.ext (.of s1))
      have hf := take_filter (f := fun p => decide (c ∈ p)) hp1
      have hNl : N.length ≤ 1000 := by
        have z := congrArg List.length hN
        rw [List.length_map] at z
        have := List.length_filter_le (fun p => decide (c ∈ p)) (ps.take j)
        have := List.length_take (i := j) (l := ps)
        omega
      refine ⟨rfl, _, rfl, _, rfl, .int c, p.map PyData.int, .int c, dp_ct (dh_ct hb), shaped_int c, shaped_ct p, ?_⟩
      rw [any_mem]
      refine ⟨_, rfl, ?_⟩
      by_cases e : c ∈ p
      · rw [decide_eq_true e]
        dsimp only
        rw [if_pos rfl]
        have ep := Ext.put (ys := N.map (fun n => V.ref n.1) ++ [.ref b]) hD
        refine ⟨_, rfl, _, hD, sz_small (by rw [List.length_map]; omega), N ++ [(b, p)], Same.put nD s1, ?_, ?_, fun n hn => ?_⟩
        · rw [List.map_append]
          exact upd_same
        · rw [List.map_append, hN, hf, if_pos (decide_eq_true e)]
          rfl
        · rcases List.mem_append.mp hn with u | u
          · exact ep.sqT (hS n u)
          · rw [List.mem_singleton.mp u]
            exact ep.sqT hb
      · rw [decide_eq_false e]
        dsimp only
        rw [if_neg (by decide)]
        refine ⟨N, s1, hD, ?_, hS⟩
        rw [hN, hf, if_neg (by rw [decide_eq_false e]; decide), List.append_nil]
    · rintro H1 ⟨N, s1, hD, hN, hS⟩
      rw [hxl, List.take_length] at hN
      refine ⟨D, N.map fun n => (n.1, n.2.map V.int), rfl, by rw [List.map_map]; exact SqL.of hD, fun m hm => ?_, fun M' d pm pw nd => ?_⟩
      · obtain ⟨n, hn, rfl⟩ := List.mem_map.mp hm
        exact hS n hn
      obtain ⟨N', pN, rfl⟩ := perm_map_inv pm N rfl
      have pw' : N'.Pairwise fun x y => x.2.length ≤ y.2.length := by
        rw [List.pairwise_map] at pw
        exact pw.imp fun {x y} h => by
          have h : (x.2.map V.int).length ≤ (y.2.map V.int).length := h
          rw [List.length_map, List.length_map] at h
          exact h
      rw [List.map_map, show (N'.map ((fun m : Addr × List V => V.ref m.1) ∘ fun n : Addr × List Int => (n.1, n.2.map V.int))) = N'.map fun n => V.ref n.1 from rfl]
      have s2 : Same H1 (upd H1 d (.lst (N'.map fun n => V.ref n.1))) := same_new nd
      have hd2 : (upd H1 d (.lst (N'.map fun n => V.ref n.1))) d = some (.lst (N'.map fun n => V.ref n.1)) := upd_same
      generalize upd H1 d (.lst (N'.map fun n => V.ref n.1)) = H2 at s2 hd2 ⊢
      have hS2 : ∀ n ∈ N', SqT K H2 n.1 (n.2.map V.int) := fun n hn => (Ext.of s2).sqT (hS n (pN.mem_iff.mp hn))
      have s02 := s1.trans s2
      dsimp only [tNext, tSeq, tAsg, gName, List.set_cons_succ, List.set_cons_zero]
      refine ⟨_, rfl, _, rfl, 1, rfl, d, _, rfl, SqL.of hd2, fun d2 nd2 => ?_⟩
      have ec : cutV (N'.map fun n => V.ref n.1) (some 1) none = (N'.drop 1).map fun n => V.ref n.1 := by
        unfold cutV
        rw [HT.sIx_none, show (1 : Int) = ((1 : Nat) : Int) from rfl, HT.sIx_nat, List.map_drop]
        rcases Nat.lt_or_ge (N'.map fun n => V.ref n.1).length 1 with u | u
        · rw [List.drop_eq_nil_of_le (by omega), List.drop_eq_nil_of_le (by omega), List.take_nil]
        · rw [Nat.min_eq_left u]
          exact List.take_of_length_le (by rw [List.length_drop]; omega)
      rw [ec]
      have s3 : Same H2 (upd H2 d2 (.lst ((N'.drop 1).map fun n => V.ref n.1))) := same_new nd2
      have hd3 : (upd H2 d2 (.lst ((N'.drop 1).map fun n => V.ref n.1))) d2 = some (.lst ((N'.drop 1).map fun n => V.ref n.1)) := upd_same
      generalize upd H2 d2 (.lst ((N'.drop 1).map fun n => V.ref n.1)) = H3 at s3 hd3 ⊢
      refine ⟨d, d2, _, _, rfl, SqL.of (s3 _ _ hd2), SqL.of hd3, fun D3 nD3 => ?_⟩
      have s03 := s02.trans s3
      have hS3 : ∀ n ∈ N', SqT K H3 n.1 (n.2.map V.int) := fun n hn => (Ext.of s3).sqT (hS2 n hn)
      have hlen : N'.length = (ps.filter fun p => decide (c ∈ p)).length := by
        rw [pN.length_eq, ← List.length_map (f := fun n : Addr × List Int => n.2), hN]
      refine lc_it (walk_zip (K := K) (xs := N'.map fun n => V.ref n.1) (ys := (N'.drop 1).map fun n => V.ref n.1) (n := N'.length - 1) (by rw [List.length_map, List.length_map, List.length_drop]; omega)) (fun j H' => Same H3 H' ∧ H' D3 = some (.lst (((List.range j).map fun k => sub1 ((N'.map (·.2)).getD k []) ((N'.map (·.2)).getD (k + 1) [])).map V.bl))) ⟨same_new nD3, upd_same⟩ (fun j H' _ ⟨s', _⟩ => ⟨SqL.of (s' _ _ (s3 _ _ hd2)), SqL.of (s' _ _ hd3)⟩) ?_ ?_
      · rintro j x H4 H5 hj ⟨s4, hD4⟩ ⟨t, y1, y2, rfl, nt, rfl, h1, h2⟩
        refine ⟨t, _, rfl, SqT.of upd_same, rfl, _, _, rfl, _, _, rfl, rfl, rfl, ?_⟩
        dsimp only [tYes]
        rw [if_pos rfl]
        dsimp only at h1 h2
        rw [List.getElem?_map] at h1 h2
        obtain ⟨n1, hn1, rfl⟩ := Option.map_eq_some_iff.mp h1
        obtain ⟨n2, hn2, rfl⟩ := Option.map_eq_some_iff.mp h2
        rw [List.getElem?_drop, Nat.add_comm] at hn2
        have s5 : Same H4 (upd H4 t (.tup [V.ref n1.1, V.ref n2.1])) := same_new nt
        have s45 := s4.trans s5
        have hD5 := s5 _ _ hD4
        generalize upd H4 t (.tup [V.ref n1.1, V.ref n2.1]) = H5 at s45 hD5 ⊢
        have m1 := List.mem_of_getElem? hn1
        have m2 := List.mem_of_getElem? hn2
        have lenp : n1.2.length ≤ 1000 := by
          have : n1.2 ∈ ps.filter fun p => decide (c ∈ p) := hN ▸ List.mem_map_of_mem (f := fun n : Addr × List Int => n.2) (pN.mem_iff.mp m1)
          exact (hp _ (List.mem_filter.mp this).1).1
        refine ⟨_, rfl, _, rfl, _, _, n1.2, n2.2, rfl, dh_ct ((Ext.of s45).sqT (hS3 n1 m1)), dh_ct ((Ext.of s45).sqT (hS3 n2 m2)), lenp, fun H6 s6 => ?_⟩
        have hfl := List.length_filter_le (fun p => decide (c ∈ p)) ps
        refine ⟨_, s6 _ _ hD5, sz_small (by rw [List.length_map, List.length_map, List.length_range]; omega), Same.put nD3 (s45.trans s6), ?_⟩
        rw [upd_same, List.range_succ, List.map_append, List.map_append]
        have g1 : (N'.map (·.2)).getD j [] = n1.2 := by
          rw [List.getD_eq_getElem?_getD, List.getElem?_map, hn1]
          rfl
        have g2 : (N'.map (·.2)).getD (j + 1) [] = n2.2 := by
          rw [List.getD_eq_getElem?_getD, List.getElem?_map, hn2]
          rfl
        rw [List.map_cons, List.map_nil, List.map_cons, List.map_nil, g1, g2]
      · rintro H4 ⟨s4, hD4⟩
        refine ⟨D3, _, rfl, SqL.of hD4, ?_⟩
        have em : ∀ p, p ∈ N'.map (·.2) ↔ p ∈ ps ∧ c ∈ p := fun p => by
          rw [(pN.map (·.2)).mem_iff, hN, List.mem_filter]
          exact ⟨fun ⟨h1, h2⟩ => ⟨h1, of_decide_eq_true h2⟩, fun ⟨h1, h2⟩ => ⟨h1, decide_eq_true h2⟩⟩
        have ch := chain_all (L := N'.map (·.2)) (fun p hp' => (hp p ((em p).mp hp').1).2) (List.pairwise_map.mpr pw')
        rw [List.length_map] at ch
        have eb : ((List.range (N'.length - 1)).map fun k => sub1 ((N'.map (·.2)).getD k []) ((N'.map (·.2)).getD (k + 1) [])).all id = decide (Nest c ps) := by
          rw [Bool.eq_iff_iff, ch, decide_eq_true_iff]
          exact ⟨fun h p hp' q hq' c1 c2 => h p ((em p).mpr ⟨hp', c1⟩) q ((em q).mpr ⟨hq', c2⟩), fun h p hp' q hq' => h p ((em p).mp hp').1 q ((em q).mp hq').1 ((em p).mp hp').2 ((em q).mp hq').2⟩
        rw [eb]
        exact q _ (s03.trans s4)

end
end Fm
namespace Fm
open PySem PySem.Spec PyProof.Rows L2
section
variable {P : Program} {w : World} {K : PySem.W.Frag} {mg : Str → Option Value} {base : Heap}

/-! ### orders in which columns can be struck -/
def ords : Nat → List (List Int) → List Int → List (List Int)
  | 0, _, _ => [[]]
  | n + 1, ps, left => left.flatMap fun c => if Nest c ps then (ords n (strk c ps) (cut1 c left)).map (c :: ·) else []
def Val : List (List Int) → List Int → Prop
  | _, [] => True
  | ps, c :: r => Nest c ps ∧ Val (strk c ps) r
theorem mem_cut1 {c x : Int} {p : List Int} : x ∈ cut1 c p ↔ x ∈ p ∧ x ≠ c := by
  unfold cut1
  rw [List.mem_filter]
  exact ⟨fun ⟨h1, h2⟩ => ⟨h1, of_decide_eq_true h2⟩, fun ⟨h1, h2⟩ => ⟨h1, decide_eq_true h2⟩⟩
theorem cut1_nodup {c : Int} {p : List Int} (h : p.Nodup) : (cut1 c p).Nodup := List.Nodup.sublist List.filter_sublist h
theorem cut1_comm (c d : Int) (p : List Int) : cut1 c (cut1 d p) = cut1 d (cut1 c p) := by
  unfold cut1
  rw [List.filter_filter, List.filter_filter]
  congr 1
  funext x
  exact Bool.and_comm _ _
theorem strk_comm (c d : Int) (ps : List (List Int)) : strk c (strk d ps) = strk d (strk c ps) := by
  unfold strk
  rw [List.map_map, List.map_map]
  exact List.map_congr_left fun p _ => cut1_comm c d p
theorem strk_idem (c : Int) (ps : List (List Int)) : strk c (strk c ps) = strk c ps := by
  unfold strk
  rw [List.map_map]
  refine List.map_congr_left fun p _ => ?_
  show cut1 c (cut1 c p) = cut1 c p
  unfold cut1
  rw [List.filter_filter]
  congr 1
  funext x
  exact Bool.and_self _
theorem Nest.her {c d : Int} {ps : List (List Int)} (h : Nest d ps) : Nest d (strk c ps) := fun p hp q hq dp dq => by
  obtain ⟨p', hp', rfl⟩ := List.mem_map.mp hp
  obtain ⟨q', hq', rfl⟩ := List.mem_map.mp hq
  have lift : ∀ {p q : List Int}, sub1 p q = true → sub1 (cut1 c p) (cut1 c q) = true := fun {p q} z => sub1_iff.mpr fun x hx => by
    obtain ⟨h1, h2⟩ := mem_cut1.mp hx
    exact mem_cut1.mpr ⟨sub1_iff.mp z x h1, h2⟩
  exact (h p' hp' q' hq' (mem_cut1.mp dp).1 (mem_cut1.mp dq).1).imp lift lift
theorem Nest.sub {c : Int} {ps qs : List (List Int)} (h : Nest c ps) (hs : ∀ q ∈ qs, q ∈ ps) : Nest c qs := fun p hp q hq => h p (hs p hp) q (hs q hq)
theorem strk_sub {c : Int} {ps qs : List (List Int)} (hs : ∀ q ∈ qs, q ∈ ps) : ∀ q ∈ strk c qs, q ∈ strk c ps := fun q hq => by
  obtain ⟨z, hz, rfl⟩ := List.mem_map.mp hq
  exact List.mem_map_of_mem (hs z hz)
theorem Val.sub : ∀ {r : List Int} {ps qs : List (List Int)}, Val ps r → (∀ q ∈ qs, q ∈ ps) → Val qs r
  | [], _, _, _, _ => True.intro
  | _ :: _, _, _, ⟨h1, h2⟩, hs => ⟨h1.sub hs, h2.sub (strk_sub hs)⟩
theorem Val.her {c : Int} : ∀ {r : List Int} {ps : List (List Int)}, Val ps r → Val (strk c ps) (cut1 c r)
  | [], _, _ => True.intro
  | d :: r, ps, ⟨h1, h2⟩ => by
    by_cases e : d = c
    · subst e
      have z : cut1 d (d :: r) = cut1 d r := by
        unfold cut1
        rw [List.filter_cons, if_neg (by simp)]
      rw [z, ← strk_idem d ps]
      exact h2.her
    · have z : cut1 c (d :: r) = d :: cut1 c r := by
        unfold cut1
        rw [List.filter_cons, if_pos (decide_eq_true e)]
      rw [z]
      refine ⟨h1.her, ?_⟩
      rw [strk_comm]
      exact h2.her
theorem cut1_len_of {c : Int} : ∀ {p : List Int}, p.Nodup → c ∈ p → (cut1 c p).length + 1 = p.length
  | [], _, h => by cases h
  | x :: p, nd, h => by
    rw [List.nodup_cons] at nd
    by_cases e : x = c
    · subst e
      have z : cut1 x (x :: p) = p := by
        unfold cut1
        rw [List.filter_cons, if_neg (by simp)]
        exact List.filter_eq_self.mpr fun y hy => decide_eq_true fun z => nd.1 (z ▸ hy)
      rw [z]
      rfl
    · have z : cut1 c (x :: p) = x :: cut1 c p := by
        unfold cut1
        rw [List.filter_cons, if_pos (decide_eq_true e)]
      rw [z, List.length_cons, List.length_cons, cut1_len_of nd.2 ((List.mem_cons.mp h).resolve_left fun z => e z.symm)]
theorem cut1_cons {c : Int} {r : List Int} (h : (c :: r).Nodup) : cut1 c (c :: r) = r := by
  unfold cut1
  rw [List.filter_cons, if_neg (by simp)]
  exact List.filter_eq_self.mpr fun y hy => decide_eq_true fun z => (List.nodup_cons.mp h).1 (z ▸ hy)
theorem perm_cut {c : Int} {p : List Int} (nd : p.Nodup) (h : c ∈ p) : (c :: cut1 c p).Perm p :=
  (List.perm_ext_iff_of_nodup (List.nodup_cons.mpr ⟨fun z => (mem_cut1.mp z).2 rfl, cut1_nodup nd⟩) nd).mpr fun x => by
    rw [List.mem_cons, mem_cut1]
    constructor
    · rintro (rfl | ⟨h, _⟩)
      · assumption
      · exact h
    · intro hx
      by_cases e : x = c
      · exact .inl e
      · exact .inr ⟨hx, e⟩
theorem mem_ords : ∀ {n : Nat} {ps : List (List Int)} {left : List Int} {r : List Int}, left.length = n → left.Nodup → (r ∈ ords n ps left ↔ r.Perm left ∧ Val ps r)
  | 0, ps, left, r, hl, nd => by
    have e : left = [] := List.eq_nil_of_length_eq_zero hl
    subst e
    show r ∈ [[]] ↔ _
    rw [List.mem_singleton]
    constructor
    · rintro rfl
      exact ⟨.refl _, True.intro⟩
    · exact fun h => h.1.eq_nil
  | n + 1, ps, left, r, hl, nd => by
    show r ∈ left.flatMap _ ↔ _
    rw [List.mem_flatMap]
    constructor
    · rintro ⟨c, hc, h⟩
      by_cases hn : Nest c ps
      · rw [if_pos hn] at h
        obtain ⟨r', hr, rfl⟩ := List.mem_map.mp h
        have hlc := cut1_len_of nd hc
        obtain ⟨h1, h2⟩ := (mem_ords (n := n) (by omega) (cut1_nodup nd)).mp hr
        exact ⟨(h1.cons c).trans (perm_cut nd hc), hn, h2⟩
      · rw [if_neg hn] at h
        cases h
    · rintro ⟨hp, hv⟩
      cases r with
      | nil => rw [← hp.length_eq] at hl; cases hl
      | cons c r =>
        have hc : c ∈ left := hp.mem_iff.mp (List.mem_cons_self ..)
        refine ⟨c, hc, ?_⟩
        rw [if_pos hv.1]
        have ndr : (c :: r).Nodup := hp.nodup_iff.mpr nd
        have hlc := cut1_len_of nd hc
        refine List.mem_map.mpr ⟨r, (mem_ords (n := n) (by omega) (cut1_nodup nd)).mpr ⟨?_, hv.2⟩, rfl⟩
        have z := hp.filter fun x => decide (x ≠ c)
        have z : (cut1 c (c :: r)).Perm (cut1 c left) := z
        rw [cut1_cons ndr] at z
        exact z
theorem ords_her {n : Nat} {ps : List (List Int)} {left r : List Int} {c : Int} (hl : left.length = n + 1) (nd : left.Nodup) (hc : c ∈ left) (h : r ∈ ords (n + 1) ps left) : cut1 c r ∈ ords n (strk c ps) (cut1 c left) := by
  obtain ⟨h1, h2⟩ := (mem_ords hl nd).mp h
  have := cut1_len_of nd hc
  exact (mem_ords (by omega) (cut1_nodup nd)).mpr ⟨h1.filter _, h2.her⟩
/-- the least order begins with the least column that can be struck -/
theorem ords_head {n : Nat} {ps : List (List Int)} {l1 l2 : List Int} {c : Int} (hl : (l1 ++ c :: l2).length = n + 1) (nd : (l1 ++ c :: l2).Nodup) (h1 : ∀ d ∈ l1, ¬ Nest d ps) (hc : Nest c ps) :
    (ords (n + 1) ps (l1 ++ c :: l2)).head? = (ords n (strk c ps) (cut1 c (l1 ++ c :: l2))).head?.map (c :: ·) := by
  have e1 : ∀ (f : Int → List (List Int)) (l : List Int), (∀ d ∈ l, f d = []) → l.flatMap f = [] := fun f l h => List.flatMap_eq_nil_iff.mpr h
  cases hd : ords n (strk c ps) (cut1 c (l1 ++ c :: l2)) with
  | nil =>
    have : ords (n + 1) ps (l1 ++ c :: l2) = [] := List.eq_nil_iff_forall_not_mem.mpr fun r hr => by
      have z := ords_her hl nd (c := c) (List.mem_append_right _ (List.mem_cons_self ..)) hr
      rw [hd] at z
      cases z
    rw [this]
    rfl
  | cons r rs =>
    unfold ords
    rw [List.flatMap_append, e1 _ l1 fun d hd => if_neg (h1 d hd), List.nil_append, List.flatMap_cons, if_pos hc, hd]
    rfl
theorem ords_none {n : Nat} {ps : List (List Int)} {left : List Int} (h1 : ∀ d ∈ left, ¬ Nest d ps) : ords (n + 1) ps left = [] :=
  List.flatMap_eq_nil_iff.mpr fun d hd => if_neg (h1 d hd)
theorem ords_count {n : Nat} {ps : List (List Int)} {left : List Int} : ((ords (n + 1) ps left).length : Int) = ((left.filter fun c => decide (Nest c ps)).map fun c => ((ords n (strk c ps) (cut1 c left)).length : Int)).sum := by
  have key : ∀ l : List Int, ((l.flatMap fun c => if Nest c ps then (ords n (strk c ps) (cut1 c left)).map (c :: ·) else []).length : Int) = ((l.filter fun c => decide (Nest c ps)).map fun c => ((ords n (strk c ps) (cut1 c left)).length : Int)).sum := by
    intro l
    induction l with
    | nil => rfl
    | cons c l ih =>
      rw [List.flatMap_cons, List.length_append, Int.natCast_add, ih, List.filter_cons]
      by_cases h : Nest c ps
      · rw [if_pos h, if_pos (decide_eq_true h), List.map_cons, List.sum_cons, List.length_map]
      · rw [if_neg h, if_neg (by rw [decide_eq_false h]; decide), List.length_nil]
        omega
  exact key left

end
end Fm
namespace Fm
open PySem PySem.Spec PyProof.Rows L2
section
variable {P : Program} {w : World} {K : PySem.W.Frag} {mg : Str → Option Value} {base : Heap}

/-! ### order_of -/
def OrdV (K : PySem.W.Frag) (H : Hp) (v : V) : Option (List Int) → Prop
  | none => v = .non
  | some r => Dh K H v (ctD r)
def PsOk (ps : List (List Int)) : Prop := ps.length ≤ 1000 ∧ ∀ p ∈ ps, p.length ≤ 1000 ∧ p.Nodup
theorem PsOk.strk {c : Int} {ps : List (List Int)} (h : PsOk ps) : PsOk (strk c ps) := ⟨by unfold Fm.strk; rw [List.length_map]; exact h.1, fun p hp => by
  obtain ⟨q, hq, rfl⟩ := List.mem_map.mp hp
  have := cut1_len c q
  exact ⟨by have := (h.2 q hq).1; omega, cut1_nodup (h.2 q hq).2⟩⟩
def spOrd (K : PySem.W.Frag) (n : Nat) : Sp := fun vs H Q _ => ∃ (v u : V) (ps : List (List Int)) (left : List Int), vs = [v, u] ∧ Dh K H v (patsD ps) ∧ Dh K H u (ctD left) ∧ PsOk ps ∧ left.Nodup ∧ left.length < n ∧ left.length ≤ 1000 ∧
  ∀ w H', Same H H' → OrdV K H' w (ords left.length ps left).head? → Q w H'
theorem ok_order_ofN (T : Txt K mg) : ∀ n : Nat, FnOk P w K mg base CX0 (n + 3) T.f_order_of T.d_order_of ["parts", "left"] (spOrd K n)
  | 0 => by
    refine T.F_order_of.ok sc_order_of (fun vs H Q E h => ?_) (fun cdv A outer s H vs Q E hr h => ?_)
    · obtain ⟨_, _, _, _, rfl, _⟩ := h
      rfl
    · obtain ⟨_, _, _, _, _, _, _, _, _, h, _⟩ := h
      exact absurd h (Nat.not_lt_zero _)
  | n + 1 => by
    have ih := ok_order_ofN T n
    refine T.F_order_of.ok sc_order_of (fun vs H Q E h => ?_) (fun cdv A outer s H vs Q E hr h => ?_)
    · obtain ⟨_, _, _, _, rfl, _⟩ := h
      rfl
    · obtain ⟨v, u, ps, left, rfl, hv, hu, pok, nd, hn, hl, q⟩ := h
      obtain ⟨a, rfl, ha⟩ := ct_inv hu
      refine ⟨_, (pss_cons (ps_if (pt_not (pt_truth (pv 1) (fun _ => rfl))) (pss_one (ps_ret (pe_tup pa_nil))) pss_nil)
      (pss_cons (ps_for PassesOwn.never rfl (pi_tupK K (pv 1)) (pg_name (i := 2) sc_order_of.nd rfl (.inl rfl)) (pss_one (ps_if (pt_val (pe_call (ok_is_nest T) (hr.mono (by omega)) (by rfl) T.g_is_nest T.F_is_nest.kp T.b_is_nest .nil pass0 (pa_cons (pv 0) (pa_cons (pv 2) pa_nil)))) (pss_cons (ps_set (i := 3) sc_order_of.nd rfl (.inl rfl) (pe_call ih hr (by rfl) T.g_order_of T.F_order_of.kp T.b_order_of .nil pass0 (pa_cons (pe_call (ok_struck T) (hr.mono (by omega)) (by rfl) T.g_struck T.F_struck.kp T.b_struck .nil pass0 (pa_cons (pv 0) (pa_cons (pv 2) pa_nil))) (pa_cons (pe_call (ok_less T) (hr.mono (by omega)) (by rfl) T.g_less T.F_less.kp T.b_less .nil pass0 (pa_cons (pv 1) (pa_cons (pv 2) pa_nil))) pa_nil))))
      (pss_one (ps_ret (pe_ifExp (pt_cmpR op_isN (pv 3) pe_non (nomark _)) pe_non (pe_op (op_catK K) (pe_tup (pa_cons (pv 2) pa_nil)) (pv 3)))))) pss_nil)))
      (pss_one (ps_ret pe_non)))), ?_⟩
      refine ⟨_, rfl, _, .inr (.inl ⟨_, ha, rfl⟩), ?_⟩
      cases left with
      | nil =>
        refine iteT ?_
        exact ⟨by show 0 ≤ sizeLine; decide, fun p np => q (.ref p) _ (same_new np) (dh_ct (c := []) (SqT.of upd_same))⟩
      | cons c0 l0 =>
        refine iteF ?_
        dsimp only [tNext]
        refine ⟨_, rfl, a, rfl, ⟨_, ha⟩, for_tup (K := K) (a := a) (xs := (c0 :: l0).map V.int) (fun j σ H' => ∃ y2 : Option V, σ = [some v, some (.ref a), y2, none] ∧ Same H H' ∧ ∀ d ∈ (c0 :: l0).take j, ¬ Nest d ps)
          ⟨none, rfl, Same.refl H, fun d hd => by cases hd⟩ (fun j σ H' _ ⟨_, _, s', _⟩ => (Ext.of s').sqT ha) ?_ ?_⟩
        · rintro j x σ H1 hx ⟨y2, rfl, s1, hno⟩
          rw [List.getElem?_map] at hx
          obtain ⟨d, hd, rfl⟩ := Option.map_eq_some_iff.mp hx
          have e1 := Ext.of s1
          refine ⟨_, rfl, _, rfl, v, ps, d, rfl, hv.ext e1, pok.1, pok.2, fun H2 s2 => ⟨_, rfl, ?_⟩⟩
          have s12 := s1.trans s2
          by_cases hn2 : Nest d ps
          · rw [decide_eq_true hn2]
            refine iteT ?_
            have e2 := Ext.of s12
            have hdm : d ∈ c0 :: l0 := List.mem_of_getElem? hd
            have hcl := cut1_len_of nd hdm
            refine ⟨_, rfl, _, rfl, v, ps, d, rfl, hv.ext e2, pok.1, (fun p hp => (pok.2 p hp).1), fun u1 H3 s3 hu1 => ⟨_, rfl, _, rfl, _, c0 :: l0, d, rfl, hu.ext (.of (s12.trans s3)), hl, fun u2 H4 s4 hu2 => ⟨u1, u2, strk d ps, cut1 d (c0 :: l0), rfl, hu1.ext (.of s4), hu2, pok.strk, cut1_nodup nd, by omega, by omega, fun w5 H5 s5 hw => ?_⟩⟩⟩
            have s15 := ((s12.trans s3).trans s4).trans s5
            have eh : (ords (c0 :: l0).length ps (c0 :: l0)).head? = (ords (cut1 d (c0 :: l0)).length (strk d ps) (cut1 d (c0 :: l0))).head?.map (d :: ·) := by
              have hj := (List.getElem?_eq_some_iff.mp hd).1
              have ex : (c0 :: l0) = (c0 :: l0).take j ++ d :: (c0 :: l0).drop (j + 1) := by
                rw [← (List.getElem?_eq_some_iff.mp hd).2, ← List.drop_eq_getElem_cons hj, List.take_append_drop]
              have z := ords_head (n := (cut1 d (c0 :: l0)).length) (ps := ps) (l1 := (c0 :: l0).take j) (l2 := (c0 :: l0).drop (j + 1)) (c := d) (by rw [← ex]; omega) (by rw [← ex]; exact nd) hno hn2
              rw [← ex] at z
              rw [show (c0 :: l0).length = (cut1 d (c0 :: l0)).length + 1 by omega]
              exact z
            rw [eh] at q
            dsimp only [tNext, tSeq, tAsg, gName, List.set_cons_succ, List.set_cons_zero]
            cases ho : (ords (cut1 d (c0 :: l0)).length (strk d ps) (cut1 d (c0 :: l0))).head? with
            | none =>
              rw [ho] at hw q
              have hw : w5 = .non := hw
              subst hw
              refine ⟨_, rfl, rfl, _, rfl, ?_⟩
              rw [decide_eq_true rfl]
              exact iteT (q .non _ s15 rfl)
            | some r =>
              rw [ho] at hw q
              obtain ⟨b, rfl, hb⟩ := ct_inv hw
              have hr5 : r.length ≤ 1000 := by
                have z := ((mem_ords rfl (cut1_nodup nd)).mp (List.mem_of_mem_head? (by rw [ho]; exact rfl))).1.length_eq
                omega
              refine ⟨_, rfl, rfl, _, rfl, ?_⟩
              rw [decide_eq_false (by intro z; cases z)]
              refine iteF ?_
              refine ⟨_, rfl, by show 1 ≤ sizeLine; decide, fun p np => ⟨_, rfl, p, b, [.int d], r.map V.int, rfl, rfl, SqT.of upd_same, (Ext.of (same_new np)).sqT hb, Nat.le_of_lt (sz_small (by rw [List.length_map]; show 1 + r.length ≤ 100000; omega)), (fun z => by cases z), (fun _ hz => ?_), fun _ _ p2 np2 => ?_⟩⟩
              · have hz : r = [] := List.map_eq_nil_iff.mp hz
                subst hz
                exact q _ _ (s15.trans (same_new np)) (dh_ct (c := [d]) (SqT.of upd_same))
              · exact q _ _ ((s15.trans (same_new np)).trans (same_new np2)) (dh_ct (c := d :: r) (SqT.of upd_same))
          · rw [decide_eq_false hn2]
            refine iteF ?_
            refine ⟨_, rfl, s12, fun z hz => ?_⟩
            rw [List.take_add_one, hd] at hz
            rcases List.mem_append.mp hz with u | u
            · exact hno z u
            · have : z = d := by simpa using u
              rw [this]
              exact hn2
        · rintro σ H1 ⟨y2, rfl, s1, hno⟩
          rw [List.length_map, List.take_length] at hno
          refine q .non _ s1 ?_
          rw [show (c0 :: l0).length = l0.length + 1 from rfl, ords_none hno]
          rfl
/-! ### count_orders -/
def spCnt (K : PySem.W.Frag) (n : Nat) : Sp := fun vs H Q _ => ∃ (v u : V) (ps : List (List Int)) (left : List Int), vs = [v, u] ∧ Dh K H v (patsD ps) ∧ Dh K H u (ctD left) ∧ PsOk ps ∧ left.Nodup ∧ left.length < n ∧ left.length ≤ 1000 ∧
  ∀ H', Same H H' → Q (.int (ords left.length ps left).length) H'
theorem ok_count_ordersN (T : Txt K mg) : ∀ n : Nat, FnOk P w K mg base CX0 (n + 3) T.f_count_orders T.d_count_orders ["parts", "left"] (spCnt K n)
  | 0 => by
    refine T.F_count_orders.ok sc_count_orders (fun vs H Q E h => ?_) (fun cdv A outer s H vs Q E hr h => ?_)
    · obtain ⟨_, _, _, _, rfl, _⟩ := h
      rfl
    · obtain ⟨_, _, _, _, _, _, _, _, _, h, _⟩ := h
      exact absurd h (Nat.not_lt_zero _)
  | n + 1 => by
    have ih := ok_count_ordersN T n
    refine T.F_count_orders.ok sc_count_orders (fun vs H Q E h => ?_) (fun cdv A outer s H vs Q E hr h => ?_)
    · obtain ⟨_, _, _, _, rfl, _⟩ := h
      rfl
    · obtain ⟨v, u, ps, left, rfl, hv, hu, pok, nd, hn, hl, q⟩ := h
      obtain ⟨a, rfl, ha⟩ := ct_inv hu
      refine ⟨_, (pss_cons (ps_if (pt_not (pt_truth (pv 1) (fun _ => rfl))) (pss_one (ps_ret pe_int)) pss_nil)
      (pss_cons (ps_setLc (i := 2) (own := [("column", 3)]) rfl sc_count_orders.nd rfl rfl (sw_true rfl rfl rfl (by decide +kernel)) (pi_tupK K (pv 1)) (blkOk_by (N := N_count_orders) (sc := defScope s_count_orders) (by decide +kernel)) (fun _ _ _ _ _ => (pg_name (i := 3) sc_count_orders.nd rfl (.inl rfl))) (fun _ _ _ _ _ => (pts_one (pt_val (pe_call (ok_is_nest T) (hr.mono (by omega)) (by rfl) T.g_is_nest T.F_is_nest.kp T.b_is_nest .nil pass0 (pa_cons (pv 0) (pa_cons (pv 3) pa_nil)))))) (fun _ _ _ _ _ => (pv 3)))
      (pss_one (ps_ret (pe_callB (cr_sum rfl) (by rfl) T.z_sum (by decide +kernel) (pa_cons (pe_lc (own := [("column", 3)]) rfl sc_count_orders.nd (pi_listK K (pv 2)) (blkOk_by (N := N_count_orders) (sc := defScope s_count_orders) (by decide +kernel)) (fun _ _ _ _ _ => (pg_name (i := 3) sc_count_orders.nd rfl (.inl rfl))) (fun _ _ _ _ _ => pts_nil) (fun _ _ _ _ _ => (pe_call ih hr (by rfl) T.g_count_orders T.F_count_orders.kp T.b_count_orders .nil pass0 (pa_cons (pe_call (ok_struck T) (hr.mono (by omega)) (by rfl) T.g_struck T.F_struck.kp T.b_struck .nil pass0 (pa_cons (pv 0) (pa_cons (pv 3) pa_nil))) (pa_cons (pe_call (ok_less T) (hr.mono (by omega)) (by rfl) T.g_less T.F_less.kp T.b_less .nil pass0 (pa_cons (pv 1) (pa_cons (pv 3) pa_nil))) pa_nil))))) pa_nil)))))), ?_⟩
      refine ⟨_, rfl, _, .inr (.inl ⟨_, ha, rfl⟩), ?_⟩
      cases left with
      | nil =>
        refine iteT ?_
        exact q _ (Same.refl H)
      | cons c0 l0 =>
        refine iteF ?_
        dsimp only [tNext]
        refine ⟨_, rfl, a, rfl, ⟨_, ha⟩, fun D nD => lc_tup (K := K) (xs := (c0 :: l0).map V.int) (fun j H' => Same H H' ∧ H' D = some (.lst ((((c0 :: l0).take j).filter fun c => decide (Nest c ps)).map V.int))) ⟨same_new nD, upd_same⟩ (fun j H' _ ⟨s', _⟩ => (Ext.of s').sqT ha) ?_ ?_⟩
        · rintro j x H1 hx ⟨s1, hD⟩
          rw [List.getElem?_map] at hx
          obtain ⟨d, hd, rfl⟩ := Option.map_eq_some_iff.mp hx
          have hf := take_filter (f := fun c => decide (Nest c ps)) hd
          refine ⟨rfl, ?_⟩
          refine ⟨_, rfl, _, rfl, v, ps, d, rfl, hv.ext (.of s1), pok.1, pok.2, fun H2 s2 => ⟨_, rfl, ?_⟩⟩
          have hD2 := s2 _ _ hD
          by_cases e : Nest d ps
          · rw [decide_eq_true e]
            dsimp only
            rw [if_pos rfl]
            refine ⟨_, rfl, _, hD2, sz_small (by rw [List.length_map]; have := List.length_filter_le (fun c => decide (Nest c ps)) ((c0 :: l0).take j); have := List.length_take (i := j) (l := c0 :: l0); omega), Same.put nD (s1.trans s2), ?_⟩
            rw [hf, if_pos (decide_eq_true e), List.map_append]
            exact upd_same
          · rw [decide_eq_false e]
            dsimp only
            rw [if_neg (by decide)]
            refine ⟨s1.trans s2, ?_⟩
            rw [hf, if_neg (by rw [decide_eq_false e]; decide), List.append_nil]
            exact hD2
        · rintro H1 ⟨s1, hD⟩
          have hD : H1 D = some (.lst (((c0 :: l0).filter fun c => decide (Nest c ps)).map V.int)) := by
            have z := hD
            rw [List.length_map, List.take_length] at z
            exact z
          dsimp only [tNext, tSeq, tAsg, gName, List.set_cons_succ, List.set_cons_zero]
          have hns : ∀ d ∈ (c0 :: l0).filter fun c => decide (Nest c ps), d ∈ c0 :: l0 := fun d hd => (List.mem_filter.mp hd).1
          have hnl := List.length_filter_le (fun c => decide (Nest c ps)) (c0 :: l0)
          have hcnt := ords_count (n := l0.length) (ps := ps) (left := c0 :: l0)
          generalize (c0 :: l0).filter (fun c => decide (Nest c ps)) = ns at hD hns hnl hcnt
          refine ⟨_, rfl, D, rfl, ⟨_, SqL.of hD⟩, fun D2 nD2 => lc_list (K := K) (xs := ns.map V.int) (fun j H' => Same H1 H' ∧ H' D2 = some (.lst (((ns.take j).map fun c => ((ords l0.length (strk c ps) (cut1 c (c0 :: l0))).length : Int)).map V.int))) ⟨same_new nD2, upd_same⟩ (fun j H' _ ⟨s', _⟩ => SqL.of (s' _ _ hD)) ?_ ?_⟩
          · rintro j x H2 hx ⟨s2, hD2⟩
            rw [List.getElem?_map] at hx
            obtain ⟨d, hd, rfl⟩ := Option.map_eq_some_iff.mp hx
            have hdm := hns d (List.mem_of_getElem? hd)
            have hcl := cut1_len_of nd hdm
            have s12 := s1.trans s2
            refine ⟨rfl, ?_⟩
            dsimp only [tYes]
            rw [if_pos rfl]
            refine ⟨_, rfl, _, rfl, v, ps, d, rfl, hv.ext (.of s12), pok.1, (fun p hp => (pok.2 p hp).1), fun u1 H3 s3 hu1 => ⟨_, rfl, _, rfl, _, c0 :: l0, d, rfl, hu.ext (.of (s12.trans s3)), hl, fun u2 H4 s4 hu2 => ⟨u1, u2, strk d ps, cut1 d (c0 :: l0), rfl, hu1.ext (.of s4), hu2, pok.strk, cut1_nodup nd, by omega, by omega, fun H5 s5 => ?_⟩⟩⟩
            have s25 := (s3.trans s4).trans s5
            refine ⟨_, s25 _ _ hD2, sz_small (by rw [List.length_map, List.length_map]; have := List.length_take (i := j) (l := ns); omega), Same.put nD2 (s2.trans s25), ?_⟩
            rw [upd_same, List.take_add_one, hd, List.map_append, List.map_append, show (cut1 d (c0 :: l0)).length = l0.length by rw [List.length_cons] at hcl; omega]
            rfl
          · rintro H2 ⟨s2, hD2⟩
            rw [List.length_map, List.take_length] at hD2
            refine ⟨D2, _, rfl, SqL.of hD2, ?_⟩
            rw [← hcnt]
            exact q _ (s1.trans s2)
/-! ### the program's three -/
theorem ok_order_of (T : Txt K mg) : FnOk P w K mg base CX0 9 T.f_order_of T.d_order_of ["parts", "left"] (spOrd K 6) := ok_order_ofN T 6
theorem ok_count_orders (T : Txt K mg) : FnOk P w K mg base CX0 9 T.f_count_orders T.d_count_orders ["parts", "left"] (spCnt K 6) := ok_count_ordersN T 6
def spParts (K : PySem.W.Frag) : Sp := fun vs H Q _ => ∃ (n : Nat) (v : V) (ps : List (List Int)), vs = [.int n, v] ∧ 1 ≤ n ∧ n ≤ 5 ∧ Dh K H v (patsD ps) ∧ (patsD ps).isList n = true ∧ ps.length ≤ 12 ∧ ∀ u H', Same H H' → Dh K H' u (patsD (ps.filter fun p => decide (p.length < n))) → Q u H'
theorem ok_parts_of (T : Txt K mg) : FnOk P w K mg base CX0 4 T.f_parts_of T.d_parts_of ["columns", "listed"] (spParts K) := by
  refine T.F_parts_of.ok sc_parts_of (fun vs H Q E h => ?_) (fun cdv A outer s H vs Q E hr h => ?_)
  · obtain ⟨_, _, _, rfl, _⟩ := h
    rfl
  · obtain ⟨n, v, ps, rfl, n1, n5, hv, hl, hpl, q⟩ := h
    obtain ⟨a, xs, rfl, ha, hx⟩ := hv.tup_inv
    refine ⟨_, (pss_cons (ps_if (pt_not (pt_val (pe_call (ok_is_list T) hr (by rfl) T.g_is_list T.F_is_list.kp T.b_is_list .nil pass0 (pa_cons (pv 0) (pa_cons (pv 1) pa_nil))))) (pss_one ps_never) pss_nil)
      (pss_one (ps_ret (pe_callTy (call_tupleK K) (by rfl) T.z_tuple (by decide +kernel) (pa_cons (pe_lc (own := [("pattern", 2)]) rfl sc_parts_of.nd (pi_tupK K (pv 1)) (blkOk_by (N := N_parts_of) (sc := defScope s_parts_of) (by decide +kernel)) (fun _ _ _ _ _ => (pg_name (i := 2) sc_parts_of.nd rfl (.inl rfl))) (fun _ _ _ _ _ => (pts_one (pt_cmpR op_lt (pe_callB (call_lenK K) (by rfl) T.z_len PySem.boot_len (pa_cons (pv 2) pa_nil)) (pv 0) (nomark _)))) (fun _ _ _ _ _ => (pv 2))) pa_nil))))), ?_⟩
    refine ⟨_, rfl, _, rfl, n, _, _, rfl, n1, n5, hv, fun H1 s1 => ⟨_, rfl, ?_⟩⟩
    rw [hl]
    refine iteF ?_
    dsimp only [tNext]
    refine ⟨_, rfl, a, rfl, ⟨_, (Ext.of s1).sqT ha⟩, fun D nD => lc_tup (K := K) (xs := xs) (fun j H' => Got K H1 D (((ps.take j).filter fun p => decide (p.length < n)).map ctD) H') (.zero nD) (fun j H' _ g => (Ext.of (s1.trans g.same)).sqT ha) ?_ ?_⟩
    · rintro j x H2 hxj g
      obtain ⟨d, hd, hxd⟩ := dhAll_at hx hxj
      obtain ⟨p, hp1, rfl⟩ := map_at hd
      have hxd2 := hxd.ext (.of (s1.trans g.same))
      obtain ⟨b, rfl, hb⟩ := ct_inv hxd2
      have hf := take_filter (f := fun p => decide (p.length < n)) hp1
      refine ⟨rfl, ?_⟩
      refine ⟨_, rfl, b, _, rfl, .inr hb, _, rfl, _, _, rfl, rfl, _, rfl, ?_⟩
      have hpl2 : (((ps.take j).filter fun p => decide (p.length < n)).map ctD).length ≤ 10000 := by
        rw [List.length_map]
        have := List.length_filter_le (fun p : List Int => decide (p.length < n)) (ps.take j)
        have := List.length_take (i := j) (l := ps)
        omega
      rw [List.length_map]
      by_cases e : p.length < n
      · rw [decide_eq_true (show (p.length : Int) < n by omega)]
        rw [hf, if_pos (decide_eq_true e), List.map_append]
        dsimp only
        rw [if_pos rfl]
        exact ⟨_, rfl, g.put nD (Same.refl H2) hxd2 hpl2⟩
      · rw [decide_eq_false (show ¬ (p.length : Int) < n by omega)]
        rw [hf, if_neg (by rw [decide_eq_false e]; decide), List.append_nil]
        dsimp only
        rw [if_neg (by decide)]
        exact g
    · rintro H2 ⟨s2, acc, hD, hac⟩
      rw [List.take_of_length_le (by rw [hx.length, List.length_map]; exact Nat.le_refl _)] at hac
      exact ⟨D, _, rfl, .inl ⟨SqL.of hD, fun t nt => q _ _ ((s1.trans s2).trans (same_new nt)) (.tup (SqT.of upd_same) (hac.ext (.of (same_new nt))))⟩⟩
theorem PsOk.filter {f : List Int → Bool} {ps : List (List Int)} (h : PsOk ps) : PsOk (ps.filter f) := ⟨by
  have := List.length_filter_le f ps
  have := h.1
  omega, fun p hp => h.2 p (List.mem_filter.mp hp).1⟩
theorem rgI_len (n : Nat) : (rgI n).length = n := by
  unfold rgI
  rw [List.length_map, List.length_range]
theorem rgI_nodup (n : Nat) : (rgI n).Nodup := by
  unfold rgI
  exact List.pairwise_map.mpr (List.nodup_range.imp fun {a b} h e => h (Int.ofNat_inj.mp e))
/-- the part patterns of a list -/
def partL (n : Nat) (ps : List (List Int)) : List (List Int) := ps.filter fun p => decide (p.length < n)
/-- a list, as the program takes it -/
structure LsOk (n : Nat) (ps : List (List Int)) : Prop where
  n1 : 1 ≤ n
  n5 : n ≤ 5
  lst : (patsD ps).isList n = true
  len : ps.length ≤ 12
  ok : PsOk ps
def spOrder (K : PySem.W.Frag) : Sp := fun vs H Q _ => ∃ (n : Nat) (v : V) (ps : List (List Int)), vs = [.int n, v] ∧ LsOk n ps ∧ Dh K H v (patsD ps) ∧ ∀ u H', Same H H' → OrdV K H' u (ords n (partL n ps) (rgI n)).head? → Q u H'
theorem ok_order (T : Txt K mg) : FnOk P w K mg base CX0 10 T.f_order T.d_order ["columns", "listed"] (spOrder K) := by
  refine T.F_order.ok sc_order (fun vs H Q E h => ?_) (fun cdv A outer s H vs Q E hr h => ?_)
  · obtain ⟨_, _, _, rfl, _⟩ := h
    rfl
  · obtain ⟨n, v, ps, rfl, lo, hv, q⟩ := h
    refine ⟨_, (pss_one (ps_ret (pe_call (ok_order_of T) hr (by rfl) T.g_order_of T.F_order_of.kp T.b_order_of .nil pass0 (pa_cons (pe_call (ok_parts_of T) (hr.mono (by decide)) (by rfl) T.g_parts_of T.F_parts_of.kp T.b_parts_of .nil pass0 (pa_cons (pv 0) (pa_cons (pv 1) pa_nil))) (pa_cons (pe_call (ok_all_columns T) (hr.mono (by decide)) (by rfl) T.g_all_columns T.F_all_columns.kp T.b_all_columns .nil pass0 (pa_cons (pv 0) pa_nil)) pa_nil))))), ?_⟩
    have n5 := lo.n5
    refine ⟨_, rfl, _, rfl, n, _, ps, rfl, lo.n1, lo.n5, hv, lo.lst, lo.len, fun u H1 s1 hu => ⟨_, rfl, n, rfl, by omega, fun u2 H2 s2 hu2 => ⟨u, u2, partL n ps, rgI n, rfl, hu.ext (.of s2), hu2, lo.ok.filter, rgI_nodup n, by rw [rgI_len]; omega, by rw [rgI_len]; omega, fun w5 H3 s3 hw => q _ _ ((s1.trans s2).trans s3) (by rw [rgI_len] at hw; exact hw)⟩⟩⟩
def spMany (K : PySem.W.Frag) : Sp := fun vs H Q _ => ∃ (n : Nat) (v : V) (ps : List (List Int)), vs = [.int n, v] ∧ LsOk n ps ∧ Dh K H v (patsD ps) ∧ ∀ H', Same H H' → Q (.int (ords n (partL n ps) (rgI n)).length) H'
theorem ok_many_orders (T : Txt K mg) : FnOk P w K mg base CX0 10 T.f_many_orders T.d_many_orders ["columns", "listed"] (spMany K) := by
  refine T.F_many_orders.ok sc_many_orders (fun vs H Q E h => ?_) (fun cdv A outer s H vs Q E hr h => ?_)
  · obtain ⟨_, _, _, rfl, _⟩ := h
    rfl
  · obtain ⟨n, v, ps, rfl, lo, hv, q⟩ := h
    refine ⟨_, (pss_one (ps_ret (pe_call (ok_count_orders T) hr (by rfl) T.g_count_orders T.F_count_orders.kp T.b_count_orders .nil pass0 (pa_cons (pe_call (ok_parts_of T) (hr.mono (by decide)) (by rfl) T.g_parts_of T.F_parts_of.kp T.b_parts_of .nil pass0 (pa_cons (pv 0) (pa_cons (pv 1) pa_nil))) (pa_cons (pe_call (ok_all_columns T) (hr.mono (by decide)) (by rfl) T.g_all_columns T.F_all_columns.kp T.b_all_columns .nil pass0 (pa_cons (pv 0) pa_nil)) pa_nil))))), ?_⟩
    have n5 := lo.n5
    refine ⟨_, rfl, _, rfl, n, _, ps, rfl, lo.n1, lo.n5, hv, lo.lst, lo.len, fun u H1 s1 hu => ⟨_, rfl, n, rfl, by omega, fun u2 H2 s2 hu2 => ⟨u, u2, partL n ps, rgI n, rfl, hu.ext (.of s2), hu2, lo.ok.filter, rgI_nodup n, by rw [rgI_len]; omega, by rw [rgI_len]; omega, fun H3 s3 => by
      have z := q _ ((s1.trans s2).trans s3)
      rw [rgI_len]
      exact z⟩⟩⟩
def spNests (K : PySem.W.Frag) : Sp := fun vs H Q _ => ∃ (n : Nat) (v : V) (ps : List (List Int)), vs = [.int n, v] ∧ LsOk n ps ∧ Dh K H v (patsD ps) ∧ ∀ u H', Same H H' → Dh K H' u (ctD ((rgI n).filter fun c => decide (Nest c (partL n ps)))) → Q u H'
theorem ok_nests (T : Txt K mg) : FnOk P w K mg base CX0 5 T.f_nests T.d_nests ["columns", "listed"] (spNests K) := by
  refine T.F_nests.ok sc_nests (fun vs H Q E h => ?_) (fun cdv A outer s H vs Q E hr h => ?_)
  · obtain ⟨_, _, _, rfl, _⟩ := h
    rfl
  · obtain ⟨n, v, ps, rfl, lo, hv, q⟩ := h
    refine ⟨_, (pss_cons (ps_set (i := 2) sc_nests.nd rfl (.inr rfl) (pe_call (ok_parts_of T) hr (by rfl) T.g_parts_of T.F_parts_of.kp T.b_parts_of .nil pass0 (pa_cons (pv 0) (pa_cons (pv 1) pa_nil))))
      (pss_one (ps_ret (pe_callTy (call_tupleK K) (by rfl) T.z_tuple (by decide +kernel) (pa_cons (pe_lc (own := [("column", 3)]) rfl sc_nests.nd (pi_tupK K (pe_call (ok_all_columns T) (hr.mono (by decide)) (by rfl) T.g_all_columns T.F_all_columns.kp T.b_all_columns .nil pass0 (pa_cons (pv 0) pa_nil))) (blkOk_by (N := N_nests) (sc := defScope s_nests) (by decide +kernel)) (fun _ _ _ _ _ => (pg_name (i := 3) sc_nests.nd rfl (.inl rfl))) (fun _ _ _ _ _ => (pts_one (pt_val (pe_call (ok_is_nest T) (hr.mono (by decide)) (by rfl) T.g_is_nest T.F_is_nest.kp T.b_is_nest .nil pass0 (pa_cons (pv 2) (pa_cons (pv 3) pa_nil)))))) (fun _ _ _ _ _ => (pv 3))) pa_nil))))), ?_⟩
    have n5 := lo.n5
    refine ⟨_, rfl, _, rfl, n, _, ps, rfl, lo.n1, lo.n5, hv, lo.lst, lo.len, fun u H1 s1 hu => ?_⟩
    dsimp only [tNext, tSeq, tAsg, gName, List.set_cons_succ, List.set_cons_zero]
    refine ⟨_, rfl, n, rfl, by omega, fun u2 H2 s2 hu2 => ?_⟩
    obtain ⟨a, rfl, ha⟩ := ct_inv hu2
    have pok := lo.ok.filter (f := fun p => decide (p.length < n))
    refine ⟨a, rfl, ⟨_, ha⟩, fun D nD => lc_tup (K := K) (xs := (rgI n).map V.int) (fun j H' => Same H2 H' ∧ H' D = some (.lst ((((rgI n).take j).filter fun c => decide (Nest c (partL n ps))).map V.int))) ⟨same_new nD, upd_same⟩ (fun j H' _ ⟨s', _⟩ => (Ext.of s').sqT ha) ?_ ?_⟩
    · rintro j x H3 hx ⟨s3, hD⟩
      rw [List.getElem?_map] at hx
      obtain ⟨d, hd, rfl⟩ := Option.map_eq_some_iff.mp hx
      have hf := take_filter (f := fun c => decide (Nest c (partL n ps))) hd
      refine ⟨rfl, ?_⟩
      refine ⟨_, rfl, _, rfl, u, partL n ps, d, rfl, hu.ext (.of (s2.trans s3)), pok.1, pok.2, fun H4 s4 => ⟨_, rfl, ?_⟩⟩
      have hD2 := s4 _ _ hD
      by_cases e : Nest d (partL n ps)
      · rw [decide_eq_true e]
        dsimp only
        rw [if_pos rfl]
        refine ⟨_, rfl, _, hD2, sz_small (by rw [List.length_map]; have := List.length_filter_le (fun c => decide (Nest c (partL n ps))) ((rgI n).take j); have := List.length_take (i := j) (l := rgI n); rw [rgI_len] at this; omega), Same.put nD (s3.trans s4), ?_⟩
        rw [hf, if_pos (decide_eq_true e), List.map_append]
        exact upd_same
      · rw [decide_eq_false e]
        dsimp only
        rw [if_neg (by decide)]
        refine ⟨s3.trans s4, ?_⟩
        rw [hf, if_neg (by rw [decide_eq_false e]; decide), List.append_nil]
        exact hD2
    · rintro H3 ⟨s3, hD⟩
      rw [List.length_map, List.take_length] at hD
      exact ⟨D, _, rfl, .inl ⟨SqL.of hD, fun t nt => q _ _ (((s1.trans s2).trans s3).trans (same_new nt)) (dh_ct (SqT.of upd_same))⟩⟩

end
end Fm
namespace Fm
open PySem PySem.Spec PyProof.Rows L2
section
variable {P : Program} {w : World} {K : PySem.W.Frag} {mg : Str → Option Value} {base : Heap}

theorem cut_map (ns : List Int) (lo hi : Option Int) : ∃ ms : List Int, cutV (ns.map V.int) lo hi = ms.map V.int ∧ ms.length ≤ ns.length := by
  refine ⟨(ns.drop (HT.sIx (ns.map V.int).length 0 lo)).take (HT.sIx (ns.map V.int).length (ns.map V.int).length hi - HT.sIx (ns.map V.int).length 0 lo), ?_, ?_⟩
  · unfold cutV
    rw [List.map_take, List.map_drop]
  · rw [List.length_take, List.length_drop]
    omega

/-! ### the drawing pot -/
abbrev pv4 (g s : Addr) (t tot : Int) : List V := [.ref g, .ref s, .int t, .int tot]
/-- at h a pot: its great numbers at g, its small ones at s -/
structure PotOk (H : Hp) (h g s : Addr) : Prop where
  ex : ∃ (t tot : Int) (gs ss : List Int), H h = some (.lst (pv4 g s t tot)) ∧ H g = some (.lst (gs.map V.int)) ∧ H s = some (.lst (ss.map V.int)) ∧ 0 ≤ t ∧ 0 < ss.length ∧ g ≠ h ∧ s ≠ h ∧ g ≠ s
/-- all but the pot is as it was -/
structure KeepP (h g s : Addr) (H H' : Hp) : Prop where
  rest : ∀ b o, b ≠ h → b ≠ g → H b = some o → H' b = some o
  pot : PotOk H' h g s
theorem PotOk.same {H H' : Hp} {h g s : Addr} (x : PotOk H h g s) (k : Same H H') : PotOk H' h g s := by
  obtain ⟨t, tot, gs, ss, e1, e2, e3, r⟩ := x.ex
  exact ⟨t, tot, gs, ss, k _ _ e1, k _ _ e2, k _ _ e3, r⟩
theorem KeepP.of {H H' : Hp} {h g s : Addr} (x : PotOk H h g s) (k : Same H H') : KeepP h g s H H' := ⟨fun b o _ _ e => k b o e, x.same k⟩
theorem KeepP.trans {H H1 H2 : Hp} {h g s : Addr} (a : KeepP h g s H H1) (b : KeepP h g s H1 H2) : KeepP h g s H H2 := ⟨fun z o n1 n2 e => b.rest z o n1 n2 (a.rest z o n1 n2 e), b.pot⟩
theorem KeepP.same {H H1 H2 : Hp} {h g s : Addr} (a : KeepP h g s H H1) (k : Same H1 H2) : KeepP h g s H H2 := a.trans (.of a.pot k)
theorem KeepP.ext {H H' : Hp} {h g s : Addr} (x : PotOk H h g s) (k : KeepP h g s H H') : Ext H H' := fun b o e => by
  obtain ⟨t, tot, gs, ss, e1, e2, _⟩ := x.ex
  obtain ⟨t', tot', gs', ss', e1', e2', _⟩ := k.pot.ex
  by_cases hb : b = h
  · subst hb
    rw [e1] at e
    cases e
    exact .inr ⟨⟨_, rfl⟩, _, e1'⟩
  · by_cases hg : b = g
    · subst hg
      rw [e2] at e
      cases e
      exact .inr ⟨⟨_, rfl⟩, _, e2'⟩
    · exact .inl (k.rest b o hb hg e)
theorem PotOk.ne {H : Hp} {h g s p : Addr} (x : PotOk H h g s) (n : H p = none) : p ≠ h ∧ p ≠ g ∧ p ≠ s := by
  obtain ⟨_, _, _, _, e1, e2, e3, _⟩ := x.ex
  exact ⟨(ne_of_none e1 n).symm, (ne_of_none e2 n).symm, (ne_of_none e3 n).symm⟩
theorem ixN_at {n j : Nat} (hj : j < n) : ixN n (j : Int) = some j := by
  unfold ixN
  rw [if_pos (by omega), if_pos (by omega), Int.toNat_natCast]
def spDrawP (_K : PySem.W.Frag) : Sp := fun vs H Q _ => ∃ (h g s : Addr) (many : Int), vs = [.ref h, .int many] ∧ PotOk H h g s ∧ 0 < many ∧ many < 1073741824 ∧ ∀ d H', 0 ≤ d → d < many → KeepP h g s H H' → Q (.int d) H'
theorem ok_law_draw (T : Txt K mg) : FnOk P w K mg base CX0 1 T.f_law_draw T.d_law_draw ["pot", "many"] (spDrawP K) := by
  refine T.F_law_draw.ok sc_law_draw (fun vs H Q E h => ?_) (fun cdv A outer s H vs Q E hr h => ?_)
  · obtain ⟨_, _, _, _, rfl, _⟩ := h
    rfl
  · obtain ⟨h, g, sm, many, rfl, hx, m0, m1, q⟩ := h
    obtain ⟨t, tot, gs, ss, hh, hg, hs, t0, sl, gh, sh, gsm⟩ := hx.ex
    refine ⟨_, (pss_cons (ps_set (i := 2) sc_law_draw.nd rfl (.inl rfl) (pe_ix (ix_listK K) (pv 0) pe_int (fun _ _ => rfl)))
      (pss_cons (ps_asg (pe_op op_add (pv 2) pe_int) (pg_sub (pv 0) pe_int set_list))
      (pss_cons (ps_if (pt_cmpR op_gt (pe_callB (call_lenK K) (by rfl) T.z_len PySem.boot_len (pa_cons (pe_ix (ix_listK K) (pv 0) pe_int (fun _ _ => rfl)) pa_nil)) pe_int (nomark _)) (pss_cons (ps_set (i := 4) sc_law_draw.nd rfl (.inl rfl) (pe_ix (ix_listK K) (pe_ix (ix_listK K) (pv 0) pe_int (fun _ _ => rfl)) pe_int (fun _ _ => rfl)))
      (pss_cons (ps_asg (pe_op op_fdiv (pv 4) (pv 1)) (pg_sub (pe_ix (ix_listK K) (pv 0) pe_int (fun _ _ => rfl)) pe_int set_list))
      (pss_cons (ps_if (pt_cmpR op_lt (pv 4) (pv 1) (nomark _)) (pss_one (ps_expr (pe_bm PySem.F.plainAttrs_list PySem.F.slot_list_pop PySem.F.type_list_pop mt_popAt (pe_ix (ix_listK K) (pv 0) pe_int (fun _ _ => rfl)) (pa_cons pe_int pa_nil)))) pss_nil)
      (pss_one (ps_ret (pe_op op_mod (pe_callTy call_int1 (by rfl) T.z_int (by decide +kernel) (pa_cons (pv 4) pa_nil)) (pv 1))))))) pss_nil)
      (pss_cons (ps_set (i := 3) sc_law_draw.nd rfl (.inl rfl) (pe_op op_add (pe_op op_add (pe_op op_mul (pe_ix (ix_listK K) (pe_ix (ix_listK K) (pv 0) pe_int (fun _ _ => rfl)) (pe_op op_mod (pe_callTy call_int1 (by rfl) T.z_int (by decide +kernel) (pa_cons (pv 2) pa_nil)) (pe_callB (call_lenK K) (by rfl) T.z_len PySem.boot_len (pa_cons (pe_ix (ix_listK K) (pv 0) pe_int (fun _ _ => rfl)) pa_nil))) (fun _ _ => rfl)) pe_int) (pe_op op_mul pe_int (pv 2))) (pe_op op_mul (pe_ix (ix_listK K) (pv 0) pe_int (fun _ _ => rfl)) pe_int)))
      (pss_cons (ps_set (i := 4) sc_law_draw.nd rfl (.inl rfl) (pe_op op_mod (pe_callTy call_int1 (by rfl) T.z_int (by decide +kernel) (pa_cons (pe_op op_add (pe_op op_mul (pv 3) pe_int) pe_int) pa_nil)) pe_int))
      (pss_cons (ps_set (i := 4) sc_law_draw.nd rfl (.inl rfl) (pe_op op_mod (pe_callTy call_int1 (by rfl) T.z_int (by decide +kernel) (pa_cons (pe_op op_mul (pv 4) (pe_op op_add (pe_op op_fdiv (pv 4) pe_int) pe_int)) pa_nil)) pe_int))
      (pss_cons (ps_set (i := 4) sc_law_draw.nd rfl (.inl rfl) (pe_op op_mod (pe_callTy call_int1 (by rfl) T.z_int (by decide +kernel) (pa_cons (pe_op op_add (pe_op op_mul (pv 4) (pe_op op_add (pe_op op_fdiv (pv 4) pe_int) pe_int)) (pv 2)) pa_nil)) pe_int))
      (pss_one (ps_ret (pe_op op_mod (pe_callTy call_int1 (by rfl) T.z_int (by decide +kernel) (pa_cons (pe_op op_fdiv (pv 4) pe_int) pa_nil)) (pv 1))))))))))), ?_⟩
    refine ⟨_, rfl, h, _, 2, _, rfl, rfl, SqL.of hh, atI_nat (j := 2) rfl, ?_⟩
    dsimp only [tNext, tSeq, tAsg, gName, List.set_cons_succ, List.set_cons_zero]
    refine ⟨_, rfl, _, _, rfl, rfl, _, rfl, h, _, 2, 2, rfl, rfl, hh, rfl, ?_⟩
    have eh : (upd H h (.lst (pv4 g sm (t + 1) tot))) h = some (.lst (pv4 g sm (t + 1) tot)) := upd_same
    have eg : (upd H h (.lst (pv4 g sm (t + 1) tot))) g = some (.lst (gs.map V.int)) := by rw [upd_ne gh]; exact hg
    have es : (upd H h (.lst (pv4 g sm (t + 1) tot))) sm = some (.lst (ss.map V.int)) := by rw [upd_ne sh]; exact hs
    have kp : ∀ b o, b ≠ h → b ≠ g → H b = some o → (upd H h (.lst (pv4 g sm (t + 1) tot))) b = some o := fun b o n1 _ e => by
      rw [upd_ne n1]
      exact e
    show tSeq _ _ _ _ (upd H h (.lst (pv4 g sm (t + 1) tot)))
    generalize upd H h (.lst (pv4 g sm (t + 1) tot)) = H1 at eh eg es kp ⊢
    refine ⟨_, rfl, h, _, 0, _, rfl, rfl, SqL.of eh, atI_nat (j := 0) rfl, g, _, rfl, .inl (SqL.of eg), _, _, rfl, rfl, _, rfl, ?_⟩
    cases gs with
    | cons z gs =>
      rw [decide_eq_true (by rw [List.length_map, List.length_cons]; omega)]
      refine iteT ?_
      dsimp only [tNext, tSeq, tAsg, gName, List.set_cons_succ, List.set_cons_zero]
      refine ⟨_, rfl, h, _, 0, _, rfl, rfl, SqL.of eh, atI_nat (j := 0) rfl, g, _, 0, _, rfl, rfl, SqL.of eg, atI_nat (j := 0) rfl, ?_⟩
      dsimp only [tNext, tSeq, tAsg, gName, List.set_cons_succ, List.set_cons_zero]
      refine ⟨_, rfl, _, rfl, _, _, rfl, rfl, ⟨m0, m1⟩, _, rfl, h, _, 0, _, rfl, rfl, SqL.of eh, atI_nat (j := 0) rfl, g, _, 0, 0, rfl, rfl, eg, ixN_at (j := 0) (by rw [List.length_map, List.length_cons]; omega), ?_⟩
      have fh : (upd H1 g (.lst (((z :: gs).map V.int).set 0 (.int (z / many))))) h = some (.lst (pv4 g sm (t + 1) tot)) := by rw [upd_ne gh.symm]; exact eh
      have fg : (upd H1 g (.lst (((z :: gs).map V.int).set 0 (.int (z / many))))) g = some (.lst (((z / many) :: gs).map V.int)) := upd_same
      have fs : (upd H1 g (.lst (((z :: gs).map V.int).set 0 (.int (z / many))))) sm = some (.lst (ss.map V.int)) := by rw [upd_ne gsm.symm]; exact es
      have kp2 : ∀ b o, b ≠ h → b ≠ g → H b = some o → (upd H1 g (.lst (((z :: gs).map V.int).set 0 (.int (z / many))))) b = some o := fun b o n1 n2 e => by
        rw [upd_ne n2]
        exact kp b o n1 n2 e
      show tSeq _ _ _ _ (upd H1 g (.lst (((z :: gs).map V.int).set 0 (.int (z / many)))))
      generalize upd H1 g (.lst (((z :: gs).map V.int).set 0 (.int (z / many)))) = H2 at fh fg fs kp2 ⊢
      have fin : ∀ H3 : Hp, H3 h = some (.lst (pv4 g sm (t + 1) tot)) → (∃ gs', H3 g = some (.lst (List.map V.int gs'))) → H3 sm = some (.lst (ss.map V.int)) → (∀ b o, b ≠ h → b ≠ g → H b = some o → H3 b = some o) → KeepP h g sm H H3 := fun H3 a1 ⟨gs', a2⟩ a3 a4 => ⟨a4, ⟨t + 1, tot, gs', ss, a1, a2, a3, by omega, sl, gh, sh, gsm⟩⟩
      refine ⟨_, rfl, _, rfl, _, _, rfl, rfl, _, rfl, ?_⟩
      refine ite2 (fun _ => ?_) (fun _ => ?_)
      · refine ⟨_, rfl, h, _, 0, _, rfl, rfl, SqL.of fh, atI_nat (j := 0) rfl, .inl ⟨rfl, _, SqL.of fg⟩, g, _, 0, 0, _, rfl, rfl, fg, by decide, by decide, (ixN_seq (ixN_at (j := 0) (by rw [List.length_map, List.length_cons]; omega))).1, rfl, ?_⟩
        refine ⟨_, rfl, .inl ⟨_, rfl, _, rfl, _, _, rfl, rfl, m0, ?_⟩⟩
        refine q _ _ (Int.emod_nonneg _ (by omega)) (Int.emod_lt_of_pos _ m0) (fin _ ?_ ⟨gs, ?_⟩ ?_ ?_)
        · rw [upd_ne gh.symm]
          exact fh
        · exact upd_same
        · rw [upd_ne gsm.symm]
          exact fs
        · intro b o n1 n2 e
          rw [upd_ne n2]
          exact kp2 b o n1 n2 e
      · refine ⟨_, rfl, .inl ⟨_, rfl, _, rfl, _, _, rfl, rfl, m0, ?_⟩⟩
        exact q _ _ (Int.emod_nonneg _ (by omega)) (Int.emod_lt_of_pos _ m0) (fin _ fh ⟨_, fg⟩ fs kp2)
    | nil =>
      rw [decide_eq_false (by decide)]
      refine iteF ?_
      dsimp only [tNext, tSeq, tAsg, gName, List.set_cons_succ, List.set_cons_zero]
      have sl0 : (0 : Int) < ((ss.map V.int).length : Int) := by rw [List.length_map]; omega
      have im : ∃ x, atI (ss.map V.int) (t % ((ss.map V.int).length : Int)) = some (.int x) := by
        have h1 := Int.emod_nonneg t (show ((ss.map V.int).length : Int) ≠ 0 by omega)
        have h2 := Int.emod_lt_of_pos t sl0
        rw [List.length_map] at h1 h2 ⊢
        refine ⟨ss[(t % (ss.length : Int)).toNat]'(by omega), at_of (j := (t % (ss.length : Int)).toNat) (by omega) ?_⟩
        rw [List.getElem?_map, List.getElem?_eq_getElem (by omega)]
        rfl
      obtain ⟨x, hx0⟩ := im
      refine ⟨_, rfl, h, _, 1, _, rfl, rfl, SqL.of eh, atI_nat (j := 1) rfl, _, rfl, .inl ⟨_, rfl, _, rfl, h, _, 1, _, rfl, rfl, SqL.of eh, atI_nat (j := 1) rfl, sm, _, rfl, .inl (SqL.of es), _, _, rfl, rfl, sl0, sm, _, _, _, rfl, rfl, SqL.of es, hx0, ?_⟩⟩
      refine ⟨_, _, rfl, rfl, .inr ⟨by decide, by decide⟩, _, rfl, _, _, rfl, rfl, .inl ⟨by decide, by decide⟩, _, _, rfl, rfl, _, rfl, h, _, 3, _, rfl, rfl, SqL.of eh, atI_nat (j := 3) rfl, _, _, rfl, rfl, .inr ⟨by decide, by decide⟩, _, _, rfl, rfl, ?_⟩
      refine ⟨_, rfl, _, _, rfl, rfl, .inr ⟨by decide, by decide⟩, _, _, rfl, rfl, .inl ⟨_, rfl, _, _, rfl, rfl, show (0 : Int) < 2147483647 by decide, ?_⟩⟩
      dsimp only [tNext, tSeq, tAsg, gName, List.set_cons_succ, List.set_cons_zero]
      have b1 : ∀ (m x : Int), 0 < m → 0 ≤ x % m ∧ x % m < m := fun m x hm => ⟨Int.emod_nonneg _ (by omega), Int.emod_lt_of_pos _ hm⟩
      have kf : KeepP h g sm H H1 := ⟨kp, ⟨t + 1, tot, [], ss, eh, eg, es, by omega, sl, gh, sh, gsm⟩⟩
      generalize hn : ((x * 7919 + 104729 * t + tot * 31) * 48271 + 11) % 2147483647 = n1
      have q1 := b1 2147483647 ((x * 7919 + 104729 * t + tot * 31) * 48271 + 11) (by decide)
      rw [hn] at q1
      refine ⟨_, rfl, _, rfl, _, _, rfl, rfl, ⟨by decide, by decide⟩, _, _, rfl, rfl, _, _, rfl, rfl, .inl ⟨by omega, by omega⟩, .inl ⟨_, rfl, _, _, rfl, rfl, show (0 : Int) < 2147483629 by decide, ?_⟩⟩
      generalize hn2 : (n1 * (n1 / 1009 + 69621)) % 2147483629 = n2
      have q2 := b1 2147483629 (n1 * (n1 / 1009 + 69621)) (by decide)
      rw [hn2] at q2
      refine ⟨_, rfl, _, rfl, _, _, rfl, rfl, ⟨by decide, by decide⟩, _, _, rfl, rfl, _, _, rfl, rfl, .inl ⟨by omega, by omega⟩, _, rfl, _, _, rfl, rfl, .inl ⟨_, rfl, _, _, rfl, rfl, show (0 : Int) < 2147483399 by decide, ?_⟩⟩
      refine ⟨_, rfl, _, _, rfl, rfl, ⟨by decide, by decide⟩, .inl ⟨_, rfl, _, rfl, _, _, rfl, rfl, m0, ?_⟩⟩
      exact q _ _ (Int.emod_nonneg _ (by omega)) (Int.emod_lt_of_pos _ m0) kf
def spPot (K : PySem.W.Frag) : Sp := fun vs H Q _ => ∃ (a : Addr) (ns : List Int), vs = [.ref a] ∧ SqL K H a (ns.map V.int) ∧ ns.length ≤ 1000 ∧ ∀ h g s H', H h = none → H g = none → Same H H' → PotOk H' h g s → Q (.ref h) H'
theorem ok_law_pot (T : Txt K mg) : FnOk P w K mg base CX0 1 T.f_law_pot T.d_law_pot ["script"] (spPot K) := by
  refine T.F_law_pot.ok sc_law_pot (fun vs H Q E h => ?_) (fun cdv A outer s H vs Q E hr h => ?_)
  · obtain ⟨_, _, rfl, _⟩ := h
    rfl
  · obtain ⟨a, ns, rfl, ha, hl, q⟩ := h
    obtain ⟨ms, em, hm⟩ := cut_map ns none (some 63)
    refine ⟨_, (pss_cons (ps_setLc (i := 1) (own := [("item", 4)]) rfl sc_law_pot.nd rfl rfl (sw_true rfl rfl rfl (by decide +kernel)) (pi_listK K (pe_slice (sl_listK K) (pv 0) po_none (po_some pe_int))) (blkOk_by (N := N_law_pot) (sc := defScope s_law_pot) (by decide +kernel)) (fun _ _ _ _ _ => (pg_name (i := 4) sc_law_pot.nd rfl (.inl rfl))) (fun _ _ _ _ _ => pts_nil) (fun _ _ _ _ _ => (pe_callTy call_int1 (by rfl) T.z_int (by decide +kernel) (pa_cons (pv 4) pa_nil))))
      (pss_cons (ps_setLc (i := 2) (own := [("item", 4)]) rfl sc_law_pot.nd rfl rfl (sw_true rfl rfl rfl (by decide +kernel)) (pi_listK K (pv 1)) (blkOk_by (N := N_law_pot) (sc := defScope s_law_pot) (by decide +kernel)) (fun _ _ _ _ _ => (pg_name (i := 4) sc_law_pot.nd rfl (.inl rfl))) (fun _ _ _ _ _ => (pts_one (pt_cmpR op_ge (pe_callB call_abs (by rfl) T.z_abs (by decide +kernel) (pa_cons (pv 4) pa_nil)) (pe_op op_pow pe_int pe_int) (nomark _)))) (fun _ _ _ _ _ => (pe_callB call_abs (by rfl) T.z_abs (by decide +kernel) (pa_cons (pv 4) pa_nil))))
      (pss_cons (ps_set (i := 3) sc_law_pot.nd rfl (.inl rfl) (pe_op op_cat (pe_lc (own := [("item", 4)]) rfl sc_law_pot.nd (pi_listK K (pv 1)) (blkOk_by (N := N_law_pot) (sc := defScope s_law_pot) (by decide +kernel)) (fun _ _ _ _ _ => (pg_name (i := 4) sc_law_pot.nd rfl (.inl rfl))) (fun _ _ _ _ _ => (pts_one (pt_cmpR op_lt (pe_callB call_abs (by rfl) T.z_abs (by decide +kernel) (pa_cons (pv 4) pa_nil)) (pe_op op_pow pe_int pe_int) (nomark _)))) (fun _ _ _ _ _ => (pe_op op_mod (pe_callTy call_int1 (by rfl) T.z_int (by decide +kernel) (pa_cons (pv 4) pa_nil)) pe_int))) (pe_lst (pa_cons (pe_op op_add (pe_callB (call_lenK K) (by rfl) T.z_len PySem.boot_len (pa_cons (pv 1) pa_nil)) pe_int) pa_nil))))
      (pss_one (ps_ret (pe_lst (pa_cons (pv 2) (pa_cons (pv 3) (pa_cons pe_int (pa_cons (pe_op op_mod (pe_callTy call_int1 (by rfl) T.z_int (by decide +kernel) (pa_cons (pe_callB (cr_sum rfl) (by rfl) T.z_sum (by decide +kernel) (pa_cons (pv 3) pa_nil)) pa_nil)) pe_int) pa_nil)))))))))), ?_⟩
    refine ⟨_, rfl, 63, rfl, a, _, rfl, ha, fun p np => ⟨p, rfl, ⟨_, SqL.of upd_same⟩, fun D hD => lc_list (K := K) (xs := cutV (ns.map V.int) none (some 63)) (fun i H' => ∃ cs : List Int, cs.length = i ∧ Same (upd H p (.lst (cutV (ns.map V.int) none (some 63)))) H' ∧ H' D = some (.lst (cs.map V.int)))
      ⟨[], rfl, same_new hD, upd_same⟩ (fun i H' _ ⟨_, _, sm, _⟩ => sm.seq (SqL.of upd_same)) ?_ ?_⟩⟩
    · rintro i x H' hx ⟨cs, hcs, sm, hDl⟩
      rw [em] at hx
      obtain ⟨z, rfl, hz⟩ := int_at hx
      have hi := (List.getElem?_eq_some_iff.mp hz).1
      refine ⟨rfl, ?_⟩
      dsimp only [tYes]
      rw [if_pos rfl]
      refine ⟨_, rfl, .inl ⟨_, rfl, _, hDl, sz_small (by rw [List.length_map]; omega), cs ++ [z], by rw [List.length_append, hcs]; rfl, Same.put hD sm, ?_⟩⟩
      rw [upd_same, List.map_append]
      rfl
    · rintro H' ⟨cs, hcs, sm, hDl⟩
      have s1 : Same H H' := (same_new np).trans sm
      have hcl : cs.length ≤ 1000 := by rw [hcs, em, List.length_map]; omega
      clear sm hD
      dsimp only [tNext, tSeq, tAsg, gName, List.set_cons_succ, List.set_cons_zero]
      refine ⟨_, rfl, D, rfl, ⟨_, SqL.of hDl⟩, fun D2 nD2 => lc_list (K := K) (xs := cs.map V.int) (fun i H2 => ∃ gs : List Int, gs.length ≤ i ∧ Same H' H2 ∧ H2 D2 = some (.lst (gs.map V.int))) ⟨[], Nat.le_refl _, same_new nD2, upd_same⟩ (fun i H2 _ ⟨_, _, sm, _⟩ => SqL.of (sm _ _ hDl)) ?_ ?_⟩
      · rintro i x H2 hx ⟨gs, hgs, sm, hD2⟩
        obtain ⟨z, rfl, hz⟩ := int_at hx
        have hi := (List.getElem?_eq_some_iff.mp hz).1
        refine ⟨rfl, ?_⟩
        refine ⟨_, rfl, _, rfl, _, _, rfl, rfl, ⟨by decide, by decide, by decide⟩, _, _, rfl, rfl, _, rfl, ?_⟩
        by_cases e : (10 : Int) ^ (18 : Int).toNat ≤ if z < 0 then -z else z
        · rw [decide_eq_true e]
          dsimp only
          rw [if_pos rfl]
          refine ⟨_, rfl, _, rfl, _, hD2, sz_small (by rw [List.length_map]; omega), gs ++ [if z < 0 then -z else z], by rw [List.length_append]; show gs.length + 1 ≤ i + 1; omega, Same.put nD2 sm, ?_⟩
          rw [upd_same, List.map_append]
          rfl
        · rw [decide_eq_false e]
          dsimp only
          rw [if_neg (by decide)]
          exact ⟨gs, by omega, sm, hD2⟩
      · rintro H2 ⟨gs, hgs, s2, hD2⟩
        have s02 := s1.trans s2
        have hD1 := s2 _ _ hDl
        refine ⟨_, rfl, D, rfl, ⟨_, SqL.of hD1⟩, fun D3 nD3 => lc_list (K := K) (xs := cs.map V.int) (fun i H3 => ∃ ss : List Int, ss.length ≤ i ∧ Same H2 H3 ∧ H3 D3 = some (.lst (ss.map V.int))) ⟨[], Nat.le_refl _, same_new nD3, upd_same⟩ (fun i H2 _ ⟨_, _, sm, _⟩ => SqL.of (sm _ _ hD1)) ?_ ?_⟩
        · rintro i x H3 hx ⟨ss, hss, sm, hD3⟩
          obtain ⟨z, rfl, hz⟩ := int_at hx
          have hi := (List.getElem?_eq_some_iff.mp hz).1
          refine ⟨rfl, ?_⟩
          refine ⟨_, rfl, _, rfl, _, _, rfl, rfl, ⟨by decide, by decide, by decide⟩, _, _, rfl, rfl, _, rfl, ?_⟩
          by_cases e : (if z < 0 then -z else z) < (10 : Int) ^ (18 : Int).toNat
          · rw [decide_eq_true e]
            dsimp only
            rw [if_pos rfl]
            refine ⟨_, rfl, .inl ⟨_, rfl, _, _, rfl, rfl, show (0 : Int) < 1000000007 by decide, _, hD3, sz_small (by rw [List.length_map]; omega), ss ++ [z % 1000000007], by rw [List.length_append]; show ss.length + 1 ≤ i + 1; omega, Same.put nD3 sm, ?_⟩⟩
            rw [upd_same, List.map_append]
            rfl
          · rw [decide_eq_false e]
            dsimp only
            rw [if_neg (by decide)]
            exact ⟨ss, by omega, sm, hD3⟩
        · rintro H3 ⟨ss, hss, s3, hD3⟩
          rw [List.length_map] at hgs hss
          have s03 := s02.trans s3
          refine ⟨_, rfl, D, _, rfl, .inl (SqL.of (s3 _ _ hD1)), _, _, rfl, rfl, by show 1 ≤ sizeLine; decide, fun p1 n1 => ?_⟩
          have t1 := same_new (o := HO.lst [V.int (((cs.map V.int).length : Int) + 1)]) n1
          refine ⟨D3, p1, ss.map V.int, [V.int (((cs.map V.int).length : Int) + 1)], rfl, rfl, t1 _ _ hD3, upd_same, Nat.le_of_lt (sz_small (by rw [List.length_map]; show ss.length + 1 ≤ 100000; omega)), fun p2 n2 => ?_⟩
          have e2 : ss.map V.int ++ [V.int (((cs.map V.int).length : Int) + 1)] = (ss ++ [((cs.map V.int).length : Int) + 1]).map V.int := by
            rw [List.map_append]
            rfl
          rw [e2]
          have t2 := same_new (o := HO.lst ((ss ++ [((cs.map V.int).length : Int) + 1]).map V.int)) n2
          have hp2 : (upd (upd H3 p1 (.lst [V.int (((cs.map V.int).length : Int) + 1)])) p2 (.lst ((ss ++ [((cs.map V.int).length : Int) + 1]).map V.int))) p2 = some (.lst ((ss ++ [((cs.map V.int).length : Int) + 1]).map V.int)) := upd_same
          have t12 := t1.trans t2
          have hD2f := (s3.trans t12) _ _ hD2
          have n2' := n2
          generalize upd (upd H3 p1 (.lst [V.int (((cs.map V.int).length : Int) + 1)])) p2 (.lst ((ss ++ [((cs.map V.int).length : Int) + 1]).map V.int)) = H4 at t12 hp2 hD2f ⊢
          have s04 := s03.trans t12
          refine ⟨_, rfl, _, rfl, _, rfl, p2, _, rfl, SqL.of hp2, .inl ⟨_, rfl, _, _, rfl, rfl, show (0 : Int) < 999983 by decide, by show 4 ≤ sizeLine; decide, fun h nh => ?_⟩⟩
          have t3 := same_new (o := HO.lst (pv4 D2 p2 0 ((ss ++ [((cs.map V.int).length : Int) + 1]).sum % 999983))) nh
          have d2p : D2 ≠ p2 := fun e => by
            have z := (s3.trans t1) _ _ hD2
            rw [e, n2'] at z
            cases z
          have d2h : D2 ≠ h := fun e => by
            rw [← e, hD2f] at nh
            cases nh
          have p2h : p2 ≠ h := fun e => by
            rw [← e, hp2] at nh
            cases nh
          refine q h D2 p2 _ (s04.free nh) (s1.free nD2) (s04.trans t3) ⟨0, _, gs, _, upd_same, t3 _ _ hD2f, t3 _ _ hp2, Int.le_refl 0, ?_, d2h, p2h, d2p⟩
          rw [List.length_append]
          show 0 < ss.length + 1
          omega

end
end Fm
namespace Fm
open PySem PySem.Spec PyProof.Rows L2
section
variable {P : Program} {w : World} {K : PySem.W.Frag} {mg : Str → Option Value} {base : Heap}

/-! ### _law_mixed -/
def spMix (K : PySem.W.Frag) : Sp := fun vs H Q _ => ∃ (h g s a : Addr) (xs : List V), vs = [.ref h, .ref a] ∧ PotOk H h g s ∧ SqL K H a xs ∧ xs.length ≤ 1000 ∧ ∀ d ys H', H d = none → KeepP h g s H H' → H' d = some (.lst ys) → ys.Perm xs → Q (.ref d) H'
theorem ok_law_mixed (T : Txt K mg) : FnOk P w K mg base CX0 2 T.f_law_mixed T.d_law_mixed ["pot", "items"] (spMix K) := by
  refine T.F_law_mixed.ok sc_law_mixed (fun vs H Q E h => ?_) (fun cdv A outer s H vs Q E hr h => ?_)
  · obtain ⟨_, _, _, _, _, rfl, _⟩ := h
    rfl
  · obtain ⟨h, g, sm, a, xs, rfl, hx, ha, hl, q⟩ := h
    refine ⟨_, (pss_cons (ps_set (i := 2) sc_law_mixed.nd rfl (.inl rfl) (pe_callTy (call_listK (K := K)) (by rfl) T.z_list (by decide +kernel) (pa_cons (pv 1) pa_nil)))
      (pss_cons (ps_for PassesOwn.never rfl (pi_range1 (by rfl) T.z_range (pa_cons (pe_callB (call_lenK K) (by rfl) T.z_len PySem.boot_len (pa_cons (pv 2) pa_nil)) pa_nil)) (pg_name (i := 3) sc_law_mixed.nd rfl (.inl rfl)) (pss_cons (ps_set (i := 4) sc_law_mixed.nd rfl (.inl rfl) (pe_call (ok_law_draw T) hr (by rfl) T.g_law_draw T.F_law_draw.kp T.b_law_draw .nil pass0 (pa_cons (pv 0) (pa_cons (pe_callB (call_lenK K) (by rfl) T.z_len PySem.boot_len (pa_cons (pv 2) pa_nil)) pa_nil))))
      (pss_one (ps_asg (pe_tup (pa_cons (pe_ix (ix_listK K) (pv 2) (pv 4) (fun _ _ => rfl)) (pa_cons (pe_ix (ix_listK K) (pv 2) (pv 3) (fun _ _ => rfl)) pa_nil))) (pg_tupK K (n := 2) rfl (pgs_cons (pg_sub (pv 2) (pv 3) set_list) (pgs_cons (pg_sub (pv 2) (pv 4) set_list) pgs_nil)))))))
      (pss_one (ps_ret (pv 2))))), ?_⟩
    refine ⟨_, rfl, a, xs, rfl, .inl ha, fun d nd => ?_⟩
    have s1 : Same H (upd H d (.lst xs)) := same_new nd
    have hd : (upd H d (.lst xs)) d = some (.lst xs) := upd_same
    obtain ⟨dh, dg, ds⟩ := hx.ne nd
    generalize upd H d (.lst xs) = H1 at s1 hd ⊢
    dsimp only [tNext, tSeq, tAsg, gName, List.set_cons_succ, List.set_cons_zero]
    refine ⟨_, rfl, d, _, rfl, .inl (SqL.of hd), (xs.length : Int), rfl, by omega, by omega, for_range (lo := 0) (n := ((xs.length : Nat) : Int).toNat) (fun i σ H' => ∃ (y3 y4 : Option V) (ys : List V), σ = [some (.ref h), some (.ref a), some (.ref d), y3, y4] ∧ KeepP h g sm H H' ∧ H' d = some (.lst ys) ∧ ys.Perm xs)
      ⟨none, none, xs, rfl, .of hx s1, hd, .refl _⟩ ?_ ?_⟩
    · rintro i σ H' hi ⟨y3, y4, ys, rfl, k, hd', pm⟩
      rw [Int.toNat_natCast] at hi
      have yl := pm.length_eq
      refine ⟨_, rfl, _, rfl, d, _, rfl, .inl (SqL.of hd'), h, g, sm, (ys.length : Int), rfl, k.pot, by omega, by omega, fun o H2 o0 o1 k2 => ?_⟩
      have hd2 := k2.rest d _ dh dg hd'
      obtain ⟨m, rfl⟩ : ∃ m : Nat, o = (m : Int) := ⟨o.toNat, by omega⟩
      have hm : m < ys.length := by omega
      have hi2 : i < ys.length := by omega
      have e0 : (0 : Int) + (i : Int) = (i : Int) := by omega
      dsimp only [tNext, tSeq, tAsg, gName, List.set_cons_succ, List.set_cons_zero]
      rw [e0]
      refine ⟨_, rfl, _, rfl, d, _, _, _, rfl, rfl, SqL.of hd2, atI_nat (j := m) (List.getElem?_eq_getElem hm), _, rfl, _, rfl, d, _, _, _, rfl, rfl, SqL.of hd2, atI_nat (j := i) (List.getElem?_eq_getElem hi2), by show 2 ≤ sizeLine; decide, fun p np => ?_⟩
      have s3 : Same H2 (upd H2 p (.tup [ys[m], ys[i]])) := same_new np
      have hp : (upd H2 p (.tup [ys[m], ys[i]])) p = some (.tup [ys[m], ys[i]]) := upd_same
      have hd3 := s3 _ _ hd2
      have k3 := (k.trans k2).same s3
      generalize upd H2 p (.tup [ys[m], ys[i]]) = H3 at hp hd3 k3 ⊢
      refine ⟨p, _, rfl, SqT.of hp, rfl, _, _, rfl, _, rfl, _, rfl, d, _, _, i, rfl, rfl, hd3, ixN_at hi2, _, _, rfl, _, rfl, _, rfl, d, _, _, m, rfl, rfl, upd_same, ixN_at (by rw [List.length_set]; exact hm), rfl, ?_⟩
      refine ⟨_, _, _, rfl, ?_, upd_same, (List.set_set_perm hi2 hm).trans pm⟩
      have kp := k3
      have pz := kp.pot
      obtain ⟨t, tot, gs, ss, e1, e2, e3, r⟩ := pz.ex
      refine ⟨fun b u n1 n2 e => ?_, ⟨t, tot, gs, ss, ?_, ?_, ?_, r⟩⟩
      · have nb : b ≠ d := fun z => by
          rw [z, nd] at e
          cases e
        rw [upd_ne nb, upd_ne nb]
        exact kp.rest b u n1 n2 e
      · rw [upd_ne dh.symm, upd_ne dh.symm]
        exact e1
      · rw [upd_ne dg.symm, upd_ne dg.symm]
        exact e2
      · rw [upd_ne ds.symm, upd_ne ds.symm]
        exact e3
    · rintro σ H' ⟨y3, y4, ys, rfl, k, hd', pm⟩
      exact ⟨_, rfl, q d ys H' nd k hd' pm⟩

end
end Fm
namespace Fm
open PySem PySem.Spec PyProof.Rows L2
section
variable {P : Program} {w : World} {K : PySem.W.Frag} {mg : Str → Option Value} {base : Heap}

theorem cat_ct {K : PySem.W.Frag} {H : Hp} {Q : VK} {x : V} {c : List Int} {j : Int} (hc : Dh K H x (ctD c)) (hl : c.length ≤ 1000) {r : Addr} (hr : H r = some (.tup [.int j]))
    (q : ∀ v H', Same H H' → Dh K H' v (ctD (c ++ [j])) → Q v H') : rCatA K x (.ref r) H Q := by
  obtain ⟨a, rfl, s⟩ := ct_inv hc
  refine ⟨a, r, _, _, rfl, rfl, s, SqT.of hr, ?_, fun e => ?_, fun _ e => (nomatch e), fun _ _ p hp => ?_⟩
  · rw [List.length_map]
    exact Nat.le_of_lt (sz_small (by show c.length + 1 ≤ 100000; omega))
  · have e0 : c = [] := List.map_eq_nil_iff.mp e
    subst e0
    exact q _ _ (Same.refl H) (dh_ct (c := [j]) (SqT.of hr))
  · refine q _ _ (same_new hp) (dh_ct ?_)
    rw [List.map_append]
    exact SqT.of upd_same

/-! ### all patterns -/
/-- patterns of so many columns -/
def CtA (K : PySem.W.Frag) (H : Hp) (n : Nat) (xs : List V) : Prop := ∀ x ∈ xs, ∃ c : List Int, Dh K H x (ctD c) ∧ Asc n (-1) c
theorem CtA.ext {H H' : Hp} {n : Nat} {xs : List V} (e : Ext H H') (h : CtA K H n xs) : CtA K H' n xs := fun x hx => by
  obtain ⟨c, hc, hl⟩ := h x hx
  exact ⟨c, hc.ext e, hl⟩
theorem Asc.snoc {n : Int} : ∀ {l : Int} {ps : List Int}, Asc n l ps → l < n → Asc (n + 1) l (ps ++ [n])
  | _, [], _, h => ⟨h, by omega, True.intro⟩
  | _, c :: r, ⟨h1, h2, h3⟩, _ => ⟨h1, by omega, h3.snoc h2⟩
theorem Asc.wide {n : Int} : ∀ {l : Int} {ps : List Int}, Asc n l ps → Asc (n + 1) l ps
  | _, [], _ => True.intro
  | _, c :: r, ⟨h1, h2, h3⟩ => ⟨h1, by omega, h3.wide⟩

def patsOf : Nat → List (List Int)
  | 0 => [[]]
  | n + 1 => patsOf n ++ (patsOf n).map fun q => q ++ [(n : Int)]
theorem pats_len : ∀ n, (patsOf n).length = 2 ^ n
  | 0 => rfl
  | n + 1 => by
    show (patsOf n ++ (patsOf n).map fun q => q ++ [(n : Int)]).length = _
    rw [List.length_append, List.length_map, pats_len n, Nat.pow_succ]
    omega
theorem Asc.split {n : Int} : ∀ {l : Int} {q : List Int}, Asc (n + 1) l q → Asc n l q ∨ ∃ q', q = q' ++ [n] ∧ Asc n l q'
  | _, [], _ => .inl True.intro
  | l, c :: r, ⟨h1, h2, h3⟩ => by
    by_cases e : c < n
    · rcases h3.split with z | ⟨q', e1, z⟩
      · exact .inl ⟨h1, e, z⟩
      · exact .inr ⟨c :: q', by rw [e1]; rfl, h1, e, z⟩
    · have ec : c = n := by omega
      cases r with
      | nil => exact .inr ⟨[], by rw [ec]; rfl, True.intro⟩
      | cons d r =>
        have := h3.1
        have := h3.2.1
        omega
theorem mem_pats : ∀ {n : Nat} {q : List Int}, q ∈ patsOf n ↔ Asc n (-1) q
  | 0, q => by
    constructor
    · intro h
      rw [List.mem_singleton.mp h]
      exact True.intro
    · intro h
      cases q with
      | nil => exact List.mem_singleton.mpr rfl
      | cons c r =>
        have h1 := h.1
        have h2 := h.2.1
        omega
  | n + 1, q => by
    show q ∈ patsOf n ++ (patsOf n).map (fun q => q ++ [(n : Int)]) ↔ Asc ((n : Int) + 1) (-1) q
    rw [List.mem_append, mem_pats, List.mem_map]
    constructor
    · rintro (h | ⟨p, hp, rfl⟩)
      · exact h.wide
      · exact (mem_pats.mp hp).snoc (by omega)
    · intro h
      rcases h.split with z | ⟨p, e, z⟩
      · exact .inl z
      · exact .inr ⟨p, mem_pats.mpr z, e.symm⟩
theorem pats_nodup : ∀ n, (patsOf n).Nodup
  | 0 => List.nodup_cons.mpr ⟨fun h => (by cases h), List.nodup_nil⟩
  | n + 1 => by
    show (patsOf n ++ (patsOf n).map fun q => q ++ [(n : Int)]).Nodup
    refine List.nodup_append.mpr ⟨pats_nodup n, ?_, fun a ha b hb e => ?_⟩
    · exact List.pairwise_map.mpr ((pats_nodup n).imp fun {x y} hne e => hne (List.append_cancel_right e))
    · obtain ⟨q, _, rfl⟩ := List.mem_map.mp hb
      rw [e] at ha
      have := (mem_pats.mp ha).mem n (List.mem_append_right _ (List.mem_singleton.mpr rfl))
      omega
/-- what a pattern's data tells -/
def unI : PyData → Int
  | .int i => i
  | _ => 0
def unP : PyData → List Int
  | .tuple l => l.map unI
  | _ => []
theorem unP_ct (c : List Int) : unP (ctP c) = c := by
  show (c.map PyData.int).map unI = c
  rw [List.map_map]
  exact (List.map_congr_left fun _ _ => rfl).trans (List.map_id c)
theorem dhs_of {H : Hp} {g : V × PyData → List Int} : ∀ {S : List (V × PyData)}, (∀ b ∈ S, Dh K H b.1 (ctD (g b))) → DhAll K H (S.map (·.1)) ((S.map g).map ctD)
  | [], _ => .nil
  | b :: S, h => .cons (h b (List.mem_cons_self ..)) (dhs_of fun z hz => h z (List.mem_cons_of_mem _ hz))
theorem pats_data {H : Hp} : ∀ {xs : List V} {qs : List (List Int)}, DhAll K H xs (qs.map ctD) → ∃ bs : List (V × PyData), bs.map (·.1) = xs ∧ bs.map (fun b => unP b.2) = qs ∧ ∀ b ∈ bs, Dh K H b.1 (ctD (unP b.2)) ∧ b.2 = ctP (unP b.2)
  | [], [], _ => ⟨[], rfl, rfl, fun b hb => by cases hb⟩
  | x :: xs, c :: qs, h => by
    rw [List.map_cons] at h
    cases h with
    | cons h t =>
      obtain ⟨bs, e, e2, hb⟩ := pats_data t
      refine ⟨(x, ctP c) :: bs, by rw [List.map_cons, e], by rw [List.map_cons, e2, unP_ct], fun b hm => ?_⟩
      rcases List.mem_cons.mp hm with z | z
      · rw [z, unP_ct]
        exact ⟨h, rfl⟩
      · exact hb b z
  | x :: xs, [], h => by cases h
  | [], c :: qs, h => by cases h
theorem le_pats (a b : List Int) : (!PySem.W.dataLt (ctP b) (ctP a)) = decide (a ≤ b) := by
  have e : PySem.W.dataLt (ctP b) (ctP a) = decide (b < a) := (PySem.W.dataLt_tuple _ _).trans (PySem.W.dataLt_ints b a)
  rw [e]
  by_cases h : b < a
  · have h' : ¬ a ≤ b := fun r => List.not_lt.mpr r h
    simp [h, h']
  · have h' : a ≤ b := List.not_lt.mp h
    simp [h, h']
theorem sorted_pats {qs : List (List Int)} (nd : qs.Nodup) : (qs.mergeSort fun a b => decide (a ≤ b)).Pairwise fun a b => HT.lexLt a b = true := by
  have h1 := List.pairwise_mergeSort (le := fun a b : List Int => decide (a ≤ b)) (fun a b c x y => decide_eq_true (List.le_trans (of_decide_eq_true x) (of_decide_eq_true y))) (fun a b => by
    rcases List.le_total a b with x | x <;> simp [x]) qs
  have h2 : (qs.mergeSort fun a b => decide (a ≤ b)).Nodup := (List.mergeSort_perm qs _).nodup_iff.mpr nd
  refine (h1.and h2).imp fun {a b} ⟨x, y⟩ => ?_
  rw [lexLt_dec]
  refine decide_eq_true ?_
  by_cases z : a < b
  · exact z
  · exact absurd (List.le_antisymm (of_decide_eq_true x) (List.not_lt.mp z)) y
theorem sort_pats {H : Hp} {a : Addr} {xs : List V} {qs : List (List Int)} {Q : VK} (hs : SqL K H a xs) (hd : DhAll K H xs (qs.map ctD)) (few : ∀ q ∈ qs, q.length ≤ 5)
    (q : ∀ p ys (qs' : List (List Int)), H p = none → DhAll K H ys (qs'.map ctD) → qs' = (qs.mergeSort fun a b => decide (a ≤ b)) → Q (.ref p) (upd H p (.lst ys))) : rSortTs K [.ref a] H Q := by
  obtain ⟨bs, e, e2, hb⟩ := pats_data hd
  refine ⟨a, bs, rfl, by rw [e]; exact hs, fun b hm => ?_, ?_, fun p np => ?_⟩
  · obtain ⟨h1, h2⟩ := hb b hm
    refine ⟨by rw [h2]; exact dp_ct h1, ⟨_, h2⟩, ?_⟩
    rw [h2]
    have z := (lay_ct (unP b.2)).2
    omega
  · intro d hd d' hd'
    obtain ⟨b, hm, rfl⟩ := List.mem_map.mp hd
    obtain ⟨b', hm', rfl⟩ := List.mem_map.mp hd'
    rw [(hb b hm).2, (hb b' hm').2]
    show PySem.W.alikeAll ((unP b.2).map PyData.int) ((unP b'.2).map PyData.int) = true
    exact PySem.W.alike_ints _ _
  · have pm := List.mergeSort_perm bs (PySem.W.dataLe false (fun b : V × PyData => b.2))
    refine q p _ ((bs.mergeSort (PySem.W.dataLe false (fun b : V × PyData => b.2))).map fun b => unP b.2) np (dhs_of fun b hm => (hb b (pm.mem_iff.mp hm)).1) ?_
    rw [← e2]
    refine List.map_mergeSort (s := fun a b : List Int => decide (a ≤ b)) fun b hm b' hm' => ?_
    rw [PySem.W.dataLe_eq]
    show (!PySem.W.dataLt b'.2 b.2) = _
    rw [(hb b hm).2, (hb b' hm').2, unP_ct, unP_ct]
    exact le_pats _ _
structure PatsAll (n : Nat) (qs : List (List Int)) : Prop where
  nd : qs.Nodup
  all : ∀ q, q ∈ qs ↔ Asc n (-1) q
  len : qs.length = 2 ^ n
  asc : qs.Pairwise fun a b => HT.lexLt a b = true
theorem pats_all {n : Nat} {qs : List (List Int)} (e : qs = (patsOf n).mergeSort fun a b => decide (a ≤ b)) : PatsAll n qs := by
  have h : qs.Perm (patsOf n) := by
    rw [e]
    exact List.mergeSort_perm _ _
  exact ⟨h.nodup_iff.mpr (pats_nodup n), fun q => h.mem_iff.trans mem_pats, by rw [h.length_eq, pats_len], by rw [e]; exact sorted_pats (pats_nodup n)⟩
theorem cta_of {H : Hp} {n : Nat} : ∀ {xs : List V} {qs : List (List Int)}, DhAll K H xs (qs.map ctD) → (∀ q ∈ qs, Asc n (-1) q) → CtA K H n xs
  | [], _, _, _ => fun x hx => by cases hx
  | x :: xs, q :: qs, h, ha => by
    rw [List.map_cons] at h
    cases h with
    | cons h1 t =>
      intro y hy
      rcases List.mem_cons.mp hy with e | e
      · rw [e]
        exact ⟨q, h1, ha q (List.mem_cons_self ..)⟩
      · exact cta_of t (fun z hz => ha z (List.mem_cons_of_mem _ hz)) y e
  | x :: xs, [], h, _ => by cases h
def spPats (K : PySem.W.Frag) : Sp := fun vs H Q _ => ∃ n : Nat, vs = [.int n] ∧ n ≤ 5 ∧ ∀ (p : Addr) (xs : List V) (qs : List (List Int)) (H' : Hp), H p = none → Same H H' → H' p = some (.lst xs) → DhAll K H' xs (qs.map ctD) → PatsAll n qs → Q (.ref p) H'
theorem pow5 {n : Nat} (h : n ≤ 5) : 1 ≤ 2 ^ n ∧ 2 ^ n ≤ 32 := ⟨Nat.one_le_two_pow, Nat.le_trans (Nat.pow_le_pow_right (by decide) h) (by decide)⟩
theorem ok_law_patterns (T : Txt K mg) : FnOk P w K mg base CX0 1 T.f_law_patterns T.d_law_patterns ["columns"] (spPats K) := by
  refine T.F_law_patterns.ok sc_law_patterns (fun vs H Q E h => ?_) (fun cdv A outer s H vs Q E hr h => ?_)
  · obtain ⟨_, rfl, _⟩ := h
    rfl
  · obtain ⟨n, rfl, hn, q⟩ := h
    refine ⟨_, (pss_cons (ps_set (i := 1) sc_law_patterns.nd rfl (.inl rfl) (pe_lst (pa_cons (pe_tup pa_nil) pa_nil)))
      (pss_cons (ps_for PassesOwn.never rfl (pi_range1 (by rfl) T.z_range (pa_cons (pv 0) pa_nil)) (pg_name (i := 2) sc_law_patterns.nd rfl (.inr rfl)) (pss_one (ps_set (i := 1) sc_law_patterns.nd rfl (.inl rfl) (pe_op op_cat (pv 1) (pe_lc (own := [("pattern", 3)]) rfl sc_law_patterns.nd (pi_listK K (pv 1)) (blkOk_by (N := N_law_patterns) (sc := defScope s_law_patterns) (by decide +kernel)) (fun _ _ _ _ _ => (pg_name (i := 3) sc_law_patterns.nd rfl (.inl rfl))) (fun _ _ _ _ _ => pts_nil) (fun _ _ _ _ _ => (pe_op (op_catK K) (pv 3) (pe_tup (pa_cons (pv 2) pa_nil)))))))))
      (pss_one (ps_ret (pe_callB (call_sortTsK (K := K) hr.units) (by rfl) T.z_sorted (by decide +kernel) (pa_cons (pv 1) pa_nil)))))), ?_⟩
    refine ⟨by show 0 ≤ sizeLine; decide, fun t nt => ⟨by show 1 ≤ sizeLine; decide, fun f nf => ?_⟩⟩
    have s1 : Same H (upd H t (.tup [])) := same_new nt
    have e1 : (upd H t (.tup [])) t = some (.tup []) := upd_same
    generalize upd H t (.tup []) = H1 at s1 e1 nf ⊢
    have s2 : Same H1 (upd H1 f (.lst [.ref t])) := same_new nf
    have e2 : (upd H1 f (.lst [.ref t])) f = some (.lst [.ref t]) := upd_same
    generalize upd H1 f (.lst [.ref t]) = H2 at s2 e2 ⊢
    have s12 := s1.trans s2
    refine ⟨_, rfl, n, rfl, by omega, by omega, for_range (lo := 0) (n := ((n : Nat) : Int).toNat) (fun i σ H' => ∃ (f : Addr) (xs : List V) (y2 y3 : Option V), σ = [some (.int n), some (.ref f), y2, y3] ∧ Same H H' ∧ H' f = some (.lst xs) ∧ DhAll K H' xs ((patsOf i).map ctD))
      ⟨f, _, none, none, rfl, s12, e2, .cons (.tup (SqT.of (s2 _ _ e1)) .nil) .nil⟩ ?_ ?_⟩
    · rintro i σ H0 hi ⟨f, xs, y2, y3, rfl, sm, hf, hc⟩
      rw [Int.toNat_natCast] at hi
      have h32 := pow5 (show i ≤ 5 by omega)
      have hlen : xs.length = 2 ^ i := by rw [hc.length, List.length_map, pats_len]
      refine ⟨_, rfl, ?_⟩
      refine ⟨_, rfl, f, rfl, ⟨xs, SqL.of hf⟩, fun D nD => lc_list (K := K) (xs := xs) (fun j H' => ∃ acc, Same H0 H' ∧ H' D = some (.lst acc) ∧ acc.length = j ∧ DhAll K H' acc (((patsOf i).take j).map fun q => ctD (q ++ [(i : Int)]))) ⟨[], same_new nD, upd_same, rfl, by rw [List.take_zero]; exact .nil⟩ (fun j H' _ ⟨_, s', _⟩ => s'.seq (SqL.of hf)) ?_ ?_⟩
      · rintro j x H' hx ⟨acc, s', hD, hal, hac⟩
        obtain ⟨d, hd, hxc⟩ := hc.get hx
        obtain ⟨c, hcq, rfl⟩ := map_at hd
        have hasc := mem_pats.mp (List.mem_of_getElem? hcq)
        have hjl := (List.getElem?_eq_some_iff.mp hx).1
        refine ⟨rfl, ?_⟩
        dsimp only [tYes]
        rw [if_pos rfl]
        have hc5 : c.length ≤ 1000 := by
          have := hasc.len (by omega)
          omega
        refine ⟨_, rfl, _, rfl, by show 1 ≤ sizeLine; decide, fun r nr => cat_ct (K := K) (c := c) (j := (0 + (i : Int))) (hxc.ext (.of (s'.trans (same_new nr)))) hc5 upd_same fun v H3 s4 hv => ?_⟩
        have s5 : Same H' H3 := (same_new nr).trans s4
        refine ⟨acc, s5 _ _ hD, sz_small (by omega), acc ++ [v], Same.put nD (s'.trans s5), upd_same, by rw [List.length_append, hal]; rfl, ?_⟩
        have ep : Ext H3 (upd H3 D (.lst (acc ++ [v]))) := Ext.put (s5 _ _ hD)
        rw [List.take_add_one, hcq, List.map_append]
        refine ((hac.ext (.of s5)).ext ep).snoc ?_
        rw [Int.zero_add] at hv
        exact hv.ext ep
      · rintro H' ⟨acc, s', hD, hal, hac⟩
        have hal2 : acc.length = 2 ^ i := by rw [hal, hlen]
        rw [List.take_of_length_le (by rw [pats_len, hlen]; exact Nat.le_refl _)] at hac
        refine ⟨f, D, xs, acc, rfl, rfl, s' _ _ hf, hD, Nat.le_of_lt (sz_small (by omega)), fun p np => ?_⟩
        have sp : Same H' (upd H' p (.lst (xs ++ acc))) := same_new np
        refine ⟨p, _, _, _, rfl, (sm.trans s').trans sp, upd_same, ?_⟩
        show DhAll K _ (xs ++ acc) ((patsOf i ++ (patsOf i).map fun q => q ++ [(i : Int)]).map ctD)
        rw [List.map_append, List.map_map]
        exact DhAll.append (hc.ext (.of (s'.trans sp))) (hac.ext (.of sp))
    · rintro σ H' ⟨f, xs, y2, y3, rfl, sm, hf, hc⟩
      rw [Int.toNat_natCast] at hc
      refine ⟨_, rfl, sort_pats (SqL.of hf) hc (fun q hq => by have := (mem_pats.mp hq).len (by omega); omega) fun p ys qs' np hd pm => ?_⟩
      have sp : Same H' (upd H' p (.lst ys)) := same_new np
      exact q p ys qs' _ (sm.free np) (sm.trans sp) upd_same (hd.ext (.of sp)) (pats_all pm)

end
end Fm
namespace Fm
open PySem PySem.Spec PyProof.Rows L2
section
variable {P : Program} {w : World} {K : PySem.W.Frag} {mg : Str → Option Value} {base : Heap}

/-! ### the law's own look at lists -/
/-- a list of patterns at d -/
def LstP (K : PySem.W.Frag) (H : Hp) (d : Addr) (ps : List (List Int)) : Prop := ∃ xs, H d = some (.lst xs) ∧ DhAll K H xs (ps.map ctD)
theorem LstP.same {H H' : Hp} {d : Addr} {ps : List (List Int)} (s : Same H H') : LstP K H d ps → LstP K H' d ps := fun ⟨xs, h1, h2⟩ => ⟨xs, s _ _ h1, h2.ext (.of s)⟩
def spLParts (K : PySem.W.Frag) : Sp := fun vs H Q _ => ∃ (n : Nat) (v : V) (ps : List (List Int)), vs = [.int n, v] ∧ Dh K H v (patsD ps) ∧ ps.length ≤ 1000 ∧ ∀ d H', H d = none → Same H H' → LstP K H' d (partL n ps) → Q (.ref d) H'
theorem ok_law_parts (T : Txt K mg) : FnOk P w K mg base CX0 1 T.f_law_parts T.d_law_parts ["columns", "patterns"] (spLParts K) := by
  refine T.F_law_parts.ok sc_law_parts (fun vs H Q E h => ?_) (fun cdv A outer s H vs Q E hr h => ?_)
  · obtain ⟨_, _, _, rfl, _⟩ := h
    rfl
  · obtain ⟨n, v, ps, rfl, hv, hpl, q⟩ := h
    obtain ⟨a, xs, rfl, ha, hx⟩ := hv.tup_inv
    refine ⟨_, (pss_one (ps_ret (pe_lc (own := [("pattern", 2)]) rfl sc_law_parts.nd (pi_tupK K (pv 1)) (blkOk_by (N := N_law_parts) (sc := defScope s_law_parts) (by decide +kernel)) (fun _ _ _ _ _ => (pg_name (i := 2) sc_law_parts.nd rfl (.inl rfl))) (fun _ _ _ _ _ => (pts_one (pt_cmpR op_lt (pe_callB (call_lenK K) (by rfl) T.z_len PySem.boot_len (pa_cons (pv 2) pa_nil)) (pv 0) (nomark _)))) (fun _ _ _ _ _ => (pv 2))))), ?_⟩
    refine ⟨_, rfl, a, rfl, ⟨_, ha⟩, fun D nD => lc_tup (K := K) (xs := xs) (fun j H' => Got K H D (((ps.take j).filter fun p => decide (p.length < n)).map ctD) H') (.zero nD) (fun j H' _ g => (Ext.of g.same).sqT ha) ?_ ?_⟩
    · rintro j x H2 hxj g
      obtain ⟨d, hd, hxd⟩ := dhAll_at hx hxj
      obtain ⟨p, hp1, rfl⟩ := map_at hd
      have hxd2 := hxd.ext (.of g.same)
      obtain ⟨b, rfl, hb⟩ := ct_inv hxd2
      have hf := take_filter (f := fun p => decide (p.length < n)) hp1
      refine ⟨rfl, ?_⟩
      refine ⟨_, rfl, b, _, rfl, .inr hb, _, rfl, _, _, rfl, rfl, _, rfl, ?_⟩
      have hpl2 : (((ps.take j).filter fun p => decide (p.length < n)).map ctD).length ≤ 10000 := by
        rw [List.length_map]
        have := List.length_filter_le (fun p : List Int => decide (p.length < n)) (ps.take j)
        have := List.length_take (i := j) (l := ps)
        omega
      rw [List.length_map]
      by_cases e : p.length < n
      · rw [decide_eq_true (show (p.length : Int) < n by omega)]
        rw [hf, if_pos (decide_eq_true e), List.map_append]
        dsimp only
        rw [if_pos rfl]
        exact ⟨_, rfl, g.put nD (Same.refl H2) hxd2 hpl2⟩
      · rw [decide_eq_false (show ¬ (p.length : Int) < n by omega)]
        rw [hf, if_neg (by rw [decide_eq_false e]; decide), List.append_nil]
        dsimp only
        rw [if_neg (by decide)]
        exact g
    · rintro H2 ⟨s2, acc, hD, hac⟩
      rw [List.take_of_length_le (by rw [hx.length, List.length_map]; exact Nat.le_refl _)] at hac
      exact q _ _ nD s2 ⟨acc, hD, hac⟩
theorem ok_law_inside (T : Txt K mg) : FnOk P w K mg base CX0 1 T.f_law_inside T.d_law_inside ["one", "other"] (spIn K) := by
  refine T.F_law_inside.ok sc_law_inside (fun vs H Q E h => ?_) (fun cdv A outer s H vs Q E hr h => ?_)
  · obtain ⟨_, _, _, _, rfl, _⟩ := h
    rfl
  · obtain ⟨v, u, p, q, rfl, hv, hu, hl, k⟩ := h
    obtain ⟨a, rfl, ha⟩ := ct_inv hv
    refine ⟨_, (pss_one (ps_ret (pe_callB (call_allK (K := K) rfl) (by rfl) T.z_all (by decide +kernel) (pa_cons (pe_lc (own := [("c", 2)]) rfl sc_law_inside.nd (pi_tupK K (pv 0)) (blkOk_by (N := N_law_inside) (sc := defScope s_law_inside) (by decide +kernel)) (fun _ _ _ _ _ => (pg_name (i := 2) sc_law_inside.nd rfl (.inl rfl))) (fun _ _ _ _ _ => pts_nil) (fun _ _ _ _ _ => (pe_cmpR (op_inT (K := K) (room65 hr)) (pv 2) (pv 1) (by rfl)))) pa_nil)))), ?_⟩
    refine ⟨_, rfl, a, rfl, ⟨_, ha⟩, fun D nD => lc_tup (K := K) (xs := p.map V.int) (fun j H' => Same H H' ∧ H' D = some (.lst (((p.take j).map fun x => decide (x ∈ q)).map V.bl))) ⟨same_new nD, upd_same⟩ (fun j H' _ ⟨s', _⟩ => (Ext.of s').sqT ha) ?_ ?_⟩
    · rintro j x H1 hx ⟨s1, hD⟩
      rw [List.getElem?_map] at hx
      obtain ⟨z, hz, rfl⟩ := Option.map_eq_some_iff.mp hx
      refine ⟨rfl, ?_⟩
      dsimp only [tYes]
      rw [if_pos rfl]
      refine ⟨_, rfl, _, rfl, .int z, q.map PyData.int, .int z, dp_ct (hu.ext (.of s1)), shaped_int z, shaped_ct q, ?_⟩
      rw [any_mem]
      refine ⟨_, hD, sz_small (by rw [List.length_map, List.length_map]; have := List.length_take (i := j) (l := p); omega), Same.put nD s1, ?_⟩
      rw [List.take_add_one, hz, List.map_append, List.map_append]
      exact upd_same
    · rintro H1 ⟨s1, hD⟩
      have hD : H1 D = some (.lst (((p.take p.length).map fun x => decide (x ∈ q)).map V.bl)) := by
        rw [← List.length_map (f := V.int)]
        exact hD
      rw [List.take_length] at hD
      refine ⟨D, _, rfl, SqL.of hD, ?_⟩
      have e : (p.map fun x => decide (x ∈ q)).all id = sub1 p q := by
        unfold sub1
        rw [List.all_map]
        rfl
      rw [e]
      exact k _ s1
def spLNest (K : PySem.W.Frag) : Sp := fun vs H Q _ => ∃ (c : Int) (a : Addr) (ps : List (List Int)), vs = [.int c, .ref a] ∧ LstP K H a ps ∧ ps.length ≤ 1000 ∧ (∀ p ∈ ps, p.length ≤ 1000) ∧ ∀ H', Same H H' → Q (.bl (decide (Nest c ps))) H'
theorem ok_law_is_nest (T : Txt K mg) : FnOk P w K mg base CX0 2 T.f_law_is_nest T.d_law_is_nest ["c", "some"] (spLNest K) := by
  refine T.F_law_is_nest.ok sc_law_is_nest (fun vs H Q E h => ?_) (fun cdv A outer s H vs Q E hr h => ?_)
  · obtain ⟨_, _, _, rfl, _⟩ := h
    rfl
  · obtain ⟨c, a, ps, rfl, ⟨xs, ha, hx⟩, hl, hp, q⟩ := h
    have hxl : xs.length = ps.length := by rw [hx.length, List.length_map]
    refine ⟨_, (pss_cons (ps_setLc (i := 2) (own := [("pattern", 4)]) rfl sc_law_is_nest.nd rfl rfl (sw_true rfl rfl rfl (by decide +kernel)) (pi_listK K (pv 1)) (blkOk_by (N := N_law_is_nest) (sc := defScope s_law_is_nest) (by decide +kernel)) (fun _ _ _ _ _ => (pg_name (i := 4) sc_law_is_nest.nd rfl (.inl rfl))) (fun _ _ _ _ _ => (pts_one (pt_cmpR (op_inT (K := K) (room65 hr)) (pv 0) (pv 4) (by rfl)))) (fun _ _ _ _ _ => (pv 4)))
      (pss_cons (ps_for PassesOwn.never rfl (pi_listK K (pv 2)) (pg_name (i := 3) sc_law_is_nest.nd rfl (.inr rfl)) (pss_one (ps_if (pt_not (pt_val (pe_callB (call_allK (K := K) rfl) (by rfl) T.z_all (by decide +kernel) (pa_cons (pe_lc (own := [("other", 5)]) rfl sc_law_is_nest.nd (pi_listK K (pv 2)) (blkOk_by (N := N_law_is_nest) (sc := defScope s_law_is_nest) (by decide +kernel)) (fun _ _ _ _ _ => (pg_name (i := 5) sc_law_is_nest.nd rfl (.inl rfl))) (fun _ _ _ _ _ => pts_nil) (fun _ _ _ _ _ => (pe_or (pe_call (ok_law_inside T) hr (by rfl) T.g_law_inside T.F_law_inside.kp T.b_law_inside .nil pass0 (pa_cons (pv 3) (pa_cons (pv 5) pa_nil))) (pe_one (pe_call (ok_law_inside T) hr (by rfl) T.g_law_inside T.F_law_inside.kp T.b_law_inside .nil pass0 (pa_cons (pv 5) (pa_cons (pv 3) pa_nil))))))) pa_nil)))) (pss_one (ps_ret pe_bl)) pss_nil)))
      (pss_one (ps_ret pe_bl)))), ?_⟩
    refine ⟨_, rfl, a, rfl, ⟨_, SqL.of ha⟩, fun D nD => lc_list (K := K) (xs := xs) (fun j H' => Got K H D (((ps.take j).filter fun p => decide (c ∈ p)).map ctD) H') (.zero nD) (fun j H' _ g => SqL.of (g.same _ _ ha)) ?_ ?_⟩
    · rintro j x H1 hxj g
      obtain ⟨d, hd, hxd⟩ := dhAll_at hx hxj
      obtain ⟨p, hp1, rfl⟩ := map_at hd
      have hxd2 := hxd.ext (.of g.same)
      have hf := take_filter (f := fun p => decide (c ∈ p)) hp1
      have hpl2 : (((ps.take j).filter fun p => decide (c ∈ p)).map ctD).length ≤ 10000 := by
        rw [List.length_map]
        have := List.length_filter_le (fun p : List Int => decide (c ∈ p)) (ps.take j)
        have := List.length_take (i := j) (l := ps)
        omega
      refine ⟨rfl, _, rfl, _, rfl, .int c, p.map PyData.int, .int c, dp_ct hxd2, shaped_int c, shaped_ct p, ?_⟩
      rw [any_mem]
      refine ⟨_, rfl, ?_⟩
      by_cases e : c ∈ p
      · rw [decide_eq_true e]
        dsimp only
        rw [if_pos rfl]
        rw [hf, if_pos (decide_eq_true e), List.map_append]
        exact ⟨_, rfl, g.put nD (Same.refl H1) hxd2 hpl2⟩
      · rw [decide_eq_false e]
        dsimp only
        rw [if_neg (by decide)]
        rw [hf, if_neg (by rw [decide_eq_false e]; decide), List.append_nil]
        exact g
    · rintro H1 ⟨s1, acc, hD, hac⟩
      rw [hxl, List.take_length] at hac
      dsimp only [tNext, tSeq, tAsg, gName, List.set_cons_succ, List.set_cons_zero]
      have hml : ∀ p ∈ ps.filter (fun p => decide (c ∈ p)), p.length ≤ 1000 := fun p hp' => hp p (List.mem_filter.mp hp').1
      have hhl := List.length_filter_le (fun p : List Int => decide (c ∈ p)) ps
      have hacl := hac.length
      rw [List.length_map] at hacl
      have hN : Nest c ps ↔ ∀ p ∈ ps.filter (fun p => decide (c ∈ p)), ∀ q ∈ ps.filter (fun p => decide (c ∈ p)), (sub1 p q || sub1 q p) = true := by
        constructor
        · intro h p hp' q hq'
          obtain ⟨p1, p2⟩ := List.mem_filter.mp hp'
          obtain ⟨q1, q2⟩ := List.mem_filter.mp hq'
          rw [Bool.or_eq_true]
          exact h p p1 q q1 (of_decide_eq_true p2) (of_decide_eq_true q2)
        · intro h p p1 q q1 p2 q2
          have := h p (List.mem_filter.mpr ⟨p1, decide_eq_true p2⟩) q (List.mem_filter.mpr ⟨q1, decide_eq_true q2⟩)
          rw [Bool.or_eq_true] at this
          exact this
      generalize ps.filter (fun p => decide (c ∈ p)) = hs at hac hml hhl hacl hN
      refine ⟨_, rfl, D, rfl, ⟨_, SqL.of hD⟩, for_list (K := K) (a := D) (xs := acc) (fun j σ H' => ∃ y3 y4 y5 : Option V, σ = [some (.int c), some (.ref a), some (.ref D), y3, y4, y5] ∧ Same H1 H' ∧ ∀ p ∈ hs.take j, ∀ q ∈ hs, (sub1 p q || sub1 q p) = true)
        ⟨_, _, _, rfl, Same.refl H1, fun p hp => by cases hp⟩ (fun j σ H' _ ⟨_, _, _, _, s', _⟩ => SqL.of (s' _ _ hD)) ?_ ?_⟩
      · rintro j x σ H2 hxj ⟨y3, y4, y5, rfl, s2, hno⟩
        obtain ⟨d, hd, hxd⟩ := dhAll_at hac hxj
        obtain ⟨p, hp1, rfl⟩ := map_at hd
        have hpm := List.mem_of_getElem? hp1
        dsimp only [tNext, tSeq, tAsg, gName, List.set_cons_succ, List.set_cons_zero]
        refine ⟨_, rfl, D, rfl, ⟨_, SqL.of (s2 _ _ hD)⟩, fun D3 nD3 => lc_list (K := K) (xs := acc) (fun k H' => Same H2 H' ∧ H' D3 = some (.lst (((hs.take k).map fun q => sub1 p q || sub1 q p).map V.bl))) ⟨same_new nD3, upd_same⟩ (fun k H' _ ⟨s', _⟩ => SqL.of (s' _ _ (s2 _ _ hD))) ?_ ?_⟩
        · rintro k y H3 hyk ⟨s3, hD3⟩
          obtain ⟨d2, hd2, hyd⟩ := dhAll_at hac hyk
          obtain ⟨p2, hp2, rfl⟩ := map_at hd2
          have hpm2 := List.mem_of_getElem? hp2
          have s13 := s2.trans s3
          refine ⟨rfl, ?_⟩
          dsimp only [tYes]
          rw [if_pos rfl]
          have hkl : (((hs.take k).map fun q => sub1 p q || sub1 q p).map V.bl).length ≤ 1000 := by
            rw [List.length_map, List.length_map]
            have := List.length_take (i := k) (l := hs)
            omega
          refine ⟨_, rfl, _, rfl, x, y, p, p2, rfl, hxd.ext (.of s13), hyd.ext (.of s13), hml p hpm, fun H4 s4 => ⟨_, rfl, ?_⟩⟩
          have hf : ((hs.take (k + 1)).map fun q => sub1 p q || sub1 q p).map V.bl = ((hs.take k).map fun q => sub1 p q || sub1 q p).map V.bl ++ [.bl (sub1 p p2 || sub1 p2 p)] := by
            rw [List.take_add_one, hp2, List.map_append, List.map_append]
            rfl
          cases e1 : sub1 p p2 with
          | true =>
            rw [e1, Bool.true_or] at hf
            dsimp only
            rw [if_pos rfl]
            refine ⟨_, s4 _ _ hD3, sz_small (by omega), Same.put nD3 (s3.trans s4), ?_⟩
            rw [hf]
            exact upd_same
          | false =>
            rw [e1, Bool.false_or] at hf
            dsimp only
            rw [if_neg (by decide)]
            refine ⟨_, rfl, _, rfl, y, x, p2, p, rfl, hyd.ext (.of (s13.trans s4)), hxd.ext (.of (s13.trans s4)), hml p2 hpm2, fun H5 s5 => ?_⟩
            have s45 := s4.trans s5
            refine ⟨_, s45 _ _ hD3, sz_small (by omega), Same.put nD3 (s3.trans s45), ?_⟩
            rw [hf]
            exact upd_same
        · rintro H3 ⟨s3, hD3⟩
          rw [hacl, List.take_length] at hD3
          refine ⟨D3, _, rfl, SqL.of hD3, _, rfl, ?_⟩
          have ea : ((hs.map fun q => sub1 p q || sub1 q p).all id = true) ↔ ∀ q ∈ hs, (sub1 p q || sub1 q p) = true := by
            rw [List.all_map, List.all_eq_true]
            rfl
          cases e : (hs.map fun q => sub1 p q || sub1 q p).all id with
          | true =>
            refine iteF ?_
            refine ⟨_, _, _, rfl, s2.trans s3, fun z hz => ?_⟩
            rw [List.take_add_one, hp1] at hz
            rcases List.mem_append.mp hz with u | u
            · exact hno z u
            · have : z = p := by simpa using u
              rw [this]
              exact ea.mp e
          | false =>
            refine iteT ?_
            have nn : ¬ Nest c ps := fun h => by
              have := ea.mpr (fun q hq => hN.mp h p hpm q hq)
              rw [this] at e
              cases e
            have z := q H3 (s1.trans (s2.trans s3))
            rw [decide_eq_false nn] at z
            exact z
      · rintro σ H2 ⟨y3, y4, y5, rfl, s2, hno⟩
        rw [hacl, List.take_length] at hno
        have z := q H2 (s1.trans s2)
        rw [decide_eq_true (hN.mpr hno)] at z
        exact z

end
end Fm
namespace Fm
open PySem PySem.Spec PyProof.Rows L2
section
variable {P : Program} {w : World} {K : PySem.W.Frag} {mg : Str → Option Value} {base : Heap}

/-! ### the law's orders -/
def spLStruck (K : PySem.W.Frag) : Sp := fun vs H Q _ => ∃ (c : Int) (a : Addr) (ps : List (List Int)), vs = [.int c, .ref a] ∧ LstP K H a ps ∧ ps.length ≤ 1000 ∧ (∀ p ∈ ps, p.length ≤ 1000) ∧ ∀ d H', H d = none → Same H H' → LstP K H' d (strk c ps) → Q (.ref d) H'
theorem ok_law_struck (T : Txt K mg) : FnOk P w K mg base CX0 1 T.f_law_struck T.d_law_struck ["c", "some"] (spLStruck K) := by
  refine T.F_law_struck.ok sc_law_struck (fun vs H Q E h => ?_) (fun cdv A outer s H vs Q E hr h => ?_)
  · obtain ⟨_, _, _, rfl, _⟩ := h
    rfl
  · obtain ⟨c, a, ps, rfl, ⟨xs, ha, hx⟩, hl, hp, q⟩ := h
    have hxl : xs.length = ps.length := by rw [hx.length, List.length_map]
    refine ⟨_, (pss_one (ps_ret (pe_lc (own := [("pattern", 2)]) rfl sc_law_struck.nd (pi_listK K (pv 1)) (blkOk_by (N := N_law_struck) (sc := defScope s_law_struck) (by decide +kernel)) (fun _ _ _ _ _ => (pg_name (i := 2) sc_law_struck.nd rfl (.inl rfl))) (fun _ _ _ _ _ => pts_nil) (fun _ _ _ _ _ => (pe_callTy (call_tupleK K) (by rfl) T.z_tuple (by decide +kernel) (pa_cons (pe_lc (own := [("other", 3)]) rfl sc_law_struck.nd (pi_tupK K (pv 2)) (blkOk_by (N := N_law_struck) (sc := { kind := .function, names := [(".0", .local), ("pattern", .local), ("tuple", .globalImplicit), ("c", .cell)], isGenerator := false, isCoroutine := false }) (by decide +kernel)) (fun _ _ _ _ _ => (pg_name (i := 3) sc_law_struck.nd rfl (.inl rfl))) (fun _ _ _ _ _ => (pts_one (pt_cmpR op_ne (pv 3) (pv 0) (nomark _)))) (fun _ _ _ _ _ => (pv 3))) pa_nil)))))), ?_⟩
    refine ⟨_, rfl, a, rfl, ⟨_, SqL.of ha⟩, fun D nD => lc_list (K := K) (xs := xs) (fun j H' => Got K H D ((ps.take j).map fun p => ctD (cut1 c p)) H') (.zero nD) (fun j H' _ g => SqL.of (g.same _ _ ha)) ?_ ?_⟩
    · rintro j x H1 hxj g
      obtain ⟨d, hd, hxd⟩ := dhAll_at hx hxj
      obtain ⟨p, hp1, rfl⟩ := map_at hd
      obtain ⟨b, rfl, hb⟩ := ct_inv (hxd.ext (.of g.same))
      have hpl := hp p (List.mem_of_getElem? hp1)
      refine ⟨rfl, ?_⟩
      dsimp only [tYes]
      rw [if_pos rfl]
      refine ⟨_, rfl, b, rfl, ⟨_, hb⟩, fun D2 nD2 => lc_tup (K := K) (xs := p.map V.int) (fun k H' => Same H1 H' ∧ H' D2 = some (.lst (((p.take k).filter fun x => decide (x ≠ c)).map V.int))) ⟨same_new nD2, upd_same⟩ (fun k H' _ ⟨s', _⟩ => (Ext.of s').sqT hb) ?_ ?_⟩
      · rintro k x H2 hxk ⟨s2, hD2⟩
        rw [List.getElem?_map] at hxk
        obtain ⟨z, hz, rfl⟩ := Option.map_eq_some_iff.mp hxk
        have hf := take_filter (f := fun x => decide (x ≠ c)) hz
        have hlt : (((p.take k).filter fun x => decide (x ≠ c)).map V.int).length ≤ 1000 := by
          rw [List.length_map]
          have := List.length_filter_le (fun x => decide (x ≠ c)) (p.take k)
          have := List.length_take (i := k) (l := p)
          omega
        refine ⟨rfl, ?_⟩
        refine ⟨_, rfl, _, rfl, ⟨rfl, _, rfl, ?_⟩⟩
        by_cases e : z = c
        · rw [show decide (V.int z = V.int c) = true from decide_eq_true (by rw [e])]
          rw [if_neg (by rw [decide_eq_false (fun h => h e)]; decide), List.append_nil] at hf
          refine iteF ?_
          rw [hf]
          exact ⟨s2, hD2⟩
        · rw [show decide (V.int z = V.int c) = false from decide_eq_false fun h => e (by injection h)]
          rw [if_pos (decide_eq_true e)] at hf
          refine iteT ?_
          refine ⟨_, rfl, _, hD2, sz_small (by omega), Same.put nD2 s2, ?_⟩
          rw [hf, List.map_append]
          exact upd_same
      · rintro H2 ⟨s2, hD2⟩
        have hD2 : H2 D2 = some (.lst (((p.take p.length).filter fun x => decide (x ≠ c)).map V.int)) := by
          rw [← List.length_map (f := V.int)]
          exact hD2
        rw [List.take_length] at hD2
        refine ⟨D2, _, rfl, .inl ⟨SqL.of hD2, fun t nt => ?_⟩⟩
        have s3 := s2.trans (same_new (o := HO.tup ((p.filter fun x => decide (x ≠ c)).map V.int)) nt)
        obtain ⟨acc, h1, h2, h3⟩ := g.put (v := .ref t) (d := ctD (cut1 c p)) nD s3 (dh_ct (SqT.of upd_same)) (by rw [List.length_map]; have := List.length_take (i := j) (l := ps); omega)
        refine ⟨acc, h1, h2, ?_⟩
        rw [List.take_add_one, hp1, List.map_append]
        exact h3
    · rintro H1 ⟨s1, acc, hD, hac⟩
      rw [hxl, List.take_length] at hac
      refine q D H1 nD s1 ⟨acc, hD, ?_⟩
      unfold strk
      rw [List.map_map]
      exact hac
/-- a state: the columns struck, what is left -/
abbrev OSt := List Int × List (List Int)
def succO (n : Nat) (st : OSt) : List OSt := ((rgI n).filter fun c => decide (c ∉ st.1) && decide (Nest c st.2)).map fun c => (st.1 ++ [c], strk c st.2)
def stepO (n : Nat) (S : List OSt) : List OSt := S.flatMap (succO n)
def iterO (n : Nat) : Nat → List OSt → List OSt
  | 0, S => S
  | m + 1, S => iterO n m (stepO n S)
def lftO (n : Nat) (row : List Int) : List Int := (rgI n).filter fun c => decide (c ∉ row)
theorem lft_snoc {n : Nat} {row : List Int} {c : Int} : lftO n (row ++ [c]) = cut1 c (lftO n row) := by
  unfold lftO cut1
  rw [List.filter_filter]
  refine List.filter_congr fun x _ => ?_
  rw [Bool.eq_iff_iff, Bool.and_eq_true]
  simp only [decide_eq_true_eq, List.mem_append, List.mem_singleton, not_or]
  exact And.comm
theorem iter_ords {n : Nat} : ∀ (m : Nat) (S : List OSt), (iterO n m S).map (·.1) = S.flatMap fun st => (ords m st.2 (lftO n st.1)).map (st.1 ++ ·)
  | 0, S => by
    show S.map (·.1) = S.flatMap fun st => ([[]] : List (List Int)).map (st.1 ++ ·)
    induction S with
    | nil => rfl
    | cons s S ih =>
      rw [List.map_cons, List.flatMap_cons, ← ih]
      show _ = [s.1 ++ []] ++ _
      rw [List.append_nil]
      rfl
  | m + 1, S => by
    show (iterO n m (stepO n S)).map (·.1) = _
    rw [iter_ords m]
    unfold stepO
    rw [List.flatMap_assoc]
    congr 1
    funext st
    have eo : ords (m + 1) st.2 (lftO n st.1) = (lftO n st.1).flatMap fun c => if Nest c st.2 then (ords m (strk c st.2) (cut1 c (lftO n st.1))).map (c :: ·) else [] := rfl
    rw [eo]
    unfold succO
    rw [List.flatMap_map, List.map_flatMap]
    have key : ∀ l : List Int, ((l.filter fun c => decide (c ∉ st.1) && decide (Nest c st.2)).flatMap fun c => (ords m (strk c st.2) (lftO n (st.1 ++ [c]))).map (st.1 ++ [c] ++ ·)) = (l.filter fun c => decide (c ∉ st.1)).flatMap fun c => (if Nest c st.2 then (ords m (strk c st.2) (cut1 c (lftO n st.1))).map (c :: ·) else []).map (st.1 ++ ·) := by
      intro l
      induction l with
      | nil => rfl
      | cons c l ih =>
        rw [List.filter_cons, List.filter_cons]
        by_cases h1 : c ∉ st.1
        · rw [if_pos (decide_eq_true h1), List.flatMap_cons, ← ih]
          by_cases h2 : Nest c st.2
          · rw [if_pos (by rw [decide_eq_true h1, decide_eq_true h2]; rfl), List.flatMap_cons, if_pos h2, lft_snoc, List.map_map]
            congr 1
            refine List.map_congr_left fun r _ => ?_
            show st.1 ++ [c] ++ r = st.1 ++ (c :: r)
            rw [List.append_assoc]
            rfl
          · rw [if_neg (by rw [decide_eq_true h1, decide_eq_false h2]; decide), if_neg h2]
            rfl
        · rw [if_neg (by rw [decide_eq_false h1, Bool.false_and]; decide), if_neg (by rw [decide_eq_false h1]; decide), ih]
    exact key (rgI n)
theorem orders_eq {n : Nat} {ps : List (List Int)} : (iterO n n [([], ps)]).map (·.1) = ords n ps (rgI n) := by
  rw [iter_ords]
  have e : lftO n [] = rgI n := List.filter_eq_self.mpr fun c _ => decide_eq_true (by simp)
  rw [List.flatMap_cons, List.flatMap_nil, List.append_nil, e]
  show (ords n ps (rgI n)).map (fun r => [] ++ r) = _
  rw [show (fun r : List Int => [] ++ r) = id from rfl, List.map_id]
theorem step_len {n : Nat} (S : List OSt) : (stepO n S).length ≤ S.length * n := by
  induction S with
  | nil => exact Nat.zero_le _
  | cons s S ih =>
    have h1 : (succO n s).length ≤ n := by
      unfold succO
      rw [List.length_map]
      have := List.length_filter_le (fun c => decide (c ∉ s.1) && decide (Nest c s.2)) (rgI n)
      rw [rgI_len] at this
      exact this
    unfold stepO at ih ⊢
    rw [List.flatMap_cons, List.length_append, List.length_cons, Nat.add_mul, Nat.one_mul]
    omega

end
end Fm
namespace Fm
open PySem PySem.Spec PyProof.Rows L2
section
variable {P : Program} {w : World} {K : PySem.W.Frag} {mg : Str → Option Value} {base : Heap}

/-! ### _law_orders -/
structure FoundAt (K : PySem.W.Frag) (H : Hp) (f : Addr) (S : List OSt) : Prop where
  ex : ∃ acc, H f = some (.lst acc) ∧ acc.length = S.length ∧ ∀ (i : Nat) st, S[i]? = some st → ∃ t vr l, acc[i]? = some (.ref t) ∧ SqT K H t [vr, .ref l] ∧ Dh K H vr (ctD st.1) ∧ l ≠ f ∧ LstP K H l st.2
theorem FoundAt.same {H H' : Hp} {f : Addr} {S : List OSt} (s : Same H H') (x : FoundAt K H f S) : FoundAt K H' f S := by
  obtain ⟨acc, h1, h2, h3⟩ := x.ex
  refine ⟨acc, s _ _ h1, h2, fun i st hi => ?_⟩
  obtain ⟨t, vr, l, g1, g2, g3, g4, g5⟩ := h3 i st hi
  exact ⟨t, vr, l, g1, (Ext.of s).sqT g2, g3.ext (.of s), g4, g5.same s⟩
theorem LstP.put {H : Hp} {l f : Addr} {ps : List (List Int)} {acc ys : List V} (hf : H f = some (.lst acc)) (n : l ≠ f) : LstP K H l ps → LstP K (upd H f (.lst ys)) l ps := fun ⟨xs, h1, h2⟩ => ⟨xs, by rw [upd_ne n]; exact h1, h2.ext (Ext.put hf)⟩
theorem FoundAt.put {H : Hp} {f t l : Addr} {vr : V} {acc : List V} {S : List OSt} {st : OSt} (x : FoundAt K H f S) (hf : H f = some (.lst acc)) (h1 : SqT K H t [vr, .ref l]) (h2 : Dh K H vr (ctD st.1)) (h3 : l ≠ f) (h4 : LstP K H l st.2) : FoundAt K (upd H f (.lst (acc ++ [.ref t]))) f (S ++ [st]) := by
  obtain ⟨acc', e1, e2, e3⟩ := x.ex
  rw [hf] at e1
  cases e1
  have ep := Ext.put (ys := acc ++ [.ref t]) hf
  refine ⟨_, upd_same, by rw [List.length_append, List.length_append, e2]; rfl, fun i s0 hi => ?_⟩
  rcases Nat.lt_or_ge i S.length with u | u
  · rw [List.getElem?_append_left u] at hi
    obtain ⟨t', vr', l', g1, g2, g3, g4, g5⟩ := e3 i s0 hi
    exact ⟨t', vr', l', by rw [List.getElem?_append_left (by omega)]; exact g1, ep.sqT g2, g3.ext ep, g4, g5.put hf g4⟩
  · rw [List.getElem?_append_right u] at hi
    have ei : i = S.length := by
      have := (List.getElem?_eq_some_iff.mp hi).1
      have : ([st]).length = 1 := rfl
      omega
    subst ei
    rw [Nat.sub_self] at hi
    have es : st = s0 := Option.some.inj hi
    subst es
    exact ⟨t, vr, l, by rw [List.getElem?_append_right (by omega), e2, Nat.sub_self]; rfl, ep.sqT h1, h2.ext ep, h3, h4.put hf h3⟩
def StOk (i : Nat) (st : OSt) : Prop := st.1.length = i ∧ st.2.length ≤ 1000 ∧ ∀ p ∈ st.2, p.length ≤ 1000
theorem StOk.succ {n i : Nat} {st s' : OSt} (h : StOk i st) (hs : s' ∈ succO n st) : StOk (i + 1) s' := by
  obtain ⟨c, _, rfl⟩ := List.mem_map.mp hs
  refine ⟨by rw [List.length_append, h.1]; rfl, by show (strk c st.2).length ≤ 1000; unfold strk; rw [List.length_map]; exact h.2.1, fun p hp => ?_⟩
  obtain ⟨q, hq, rfl⟩ := List.mem_map.mp hp
  have := cut1_len c q
  have := h.2.2 q hq
  omega
theorem StOk.step {n i : Nat} {S : List OSt} (h : ∀ st ∈ S, StOk i st) : ∀ st ∈ stepO n S, StOk (i + 1) st := fun s' hs => by
  obtain ⟨st, h1, h2⟩ := List.mem_flatMap.mp hs
  exact (h st h1).succ h2
theorem rgI_at {n k : Nat} (h : k < n) : (rgI n)[k]? = some (k : Int) := by
  unfold rgI
  rw [List.getElem?_map, List.getElem?_range h]
  rfl
/-- the state's successors by the first k columns -/
def partO (n k : Nat) (st : OSt) : List OSt := (((rgI n).take k).filter fun c => decide (c ∉ st.1) && decide (Nest c st.2)).map fun c => (st.1 ++ [c], strk c st.2)
theorem part_all (n : Nat) (st : OSt) : partO n n st = succO n st := by
  unfold partO succO
  rw [List.take_of_length_le (by rw [rgI_len]; exact Nat.le_refl n)]
theorem part_step {n k : Nat} {st : OSt} (h : k < n) : partO n (k + 1) st = partO n k st ++ if (k : Int) ∉ st.1 ∧ Nest (k : Int) st.2 then [(st.1 ++ [(k : Int)], strk (k : Int) st.2)] else [] := by
  unfold partO
  rw [take_filter (rgI_at h), List.map_append]
  congr 1
  by_cases e : (k : Int) ∉ st.1 ∧ Nest (k : Int) st.2
  · rw [if_pos e, if_pos (by rw [decide_eq_true e.1, decide_eq_true e.2]; rfl)]
    rfl
  · rw [if_neg e, if_neg (by rw [Bool.and_eq_true, decide_eq_true_eq, decide_eq_true_eq]; exact e)]
    rfl
theorem part_len (n k : Nat) (st : OSt) : (partO n k st).length ≤ n := by
  unfold partO
  rw [List.length_map]
  have := List.length_filter_le (fun c => decide (c ∉ st.1) && decide (Nest c st.2)) ((rgI n).take k)
  have := List.length_take (i := k) (l := rgI n)
  rw [rgI_len] at this
  omega
def spLOrd (K : PySem.W.Frag) : Sp := fun vs H Q _ => ∃ (n : Nat) (a : Addr) (ps : List (List Int)), vs = [.int n, .ref a] ∧ 1 ≤ n ∧ n ≤ 5 ∧ LstP K H a ps ∧ ps.length ≤ 1000 ∧ (∀ p ∈ ps, p.length ≤ 1000) ∧ ∀ d H', H d = none → Same H H' → LstP K H' d (ords n ps (rgI n)) → Q (.ref d) H'
theorem ok_law_orders (T : Txt K mg) : FnOk P w K mg base CX0 3 T.f_law_orders T.d_law_orders ["columns", "some"] (spLOrd K) := by
  refine T.F_law_orders.ok sc_law_orders (fun vs H Q E h => ?_) (fun cdv A outer s H vs Q E hr h => ?_)
  · obtain ⟨_, _, _, rfl, _⟩ := h
    rfl
  · obtain ⟨n, a, ps, rfl, n1, n5, hps, hl, hp, q⟩ := h
    refine ⟨_, (pss_cons (ps_set (i := 2) sc_law_orders.nd rfl (.inl rfl) (pe_lst (pa_cons (pe_tup (pa_cons (pe_tup pa_nil) (pa_cons (pv 1) pa_nil))) pa_nil)))
      (pss_cons (ps_for PassesOwn.never rfl (pi_range1 (by rfl) T.z_range (pa_cons (pv 0) pa_nil)) (pg_name (i := 3) sc_law_orders.nd rfl (.inl rfl)) (pss_cons (ps_set (i := 4) sc_law_orders.nd rfl (.inl rfl) (pe_lst pa_nil))
      (pss_cons (ps_for PassesOwn.never rfl (pi_listK K (pv 2)) (pg_tupK K (n := 2) rfl (pgs_cons (pg_name (i := 5) sc_law_orders.nd rfl (.inl rfl)) (pgs_cons (pg_name (i := 6) sc_law_orders.nd rfl (.inl rfl)) pgs_nil))) (pss_one (ps_for PassesOwn.never rfl (pi_range1 (by rfl) T.z_range (pa_cons (pv 0) pa_nil)) (pg_name (i := 7) sc_law_orders.nd rfl (.inl rfl)) (pss_one (ps_if (PW.pt (pw_and (pt_cmpR (op_notinT (K := K) (room65 hr)) (pv 7) (pv 5) (by rfl)) (pw_and1 (pt_val (pe_call (ok_law_is_nest T) hr (by rfl) T.g_law_is_nest T.F_law_is_nest.kp T.b_law_is_nest .nil pass0 (pa_cons (pv 7) (pa_cons (pv 6) pa_nil))))))) (pss_one (ps_expr (pe_bm PySem.F.plainAttrs_list PySem.F.slot_list_append PySem.F.type_list_append mt_append (pv 4) (pa_cons (pe_tup (pa_cons (pe_op (op_catK K) (pv 5) (pe_tup (pa_cons (pv 7) pa_nil))) (pa_cons (pe_call (ok_law_struck T) (hr.mono (by decide)) (by rfl) T.g_law_struck T.F_law_struck.kp T.b_law_struck .nil pass0 (pa_cons (pv 7) (pa_cons (pv 6) pa_nil))) pa_nil))) pa_nil)))) pss_nil)))))
      (pss_one (ps_set (i := 2) sc_law_orders.nd rfl (.inl rfl) (pv 4))))))
      (pss_one (ps_ret (pe_lc (own := [("row", 5), ("left", 6)]) rfl sc_law_orders.nd (pi_listK K (pv 2)) (blkOk_by (N := N_law_orders) (sc := defScope s_law_orders) (by decide +kernel)) (fun _ _ _ _ _ => (pg_tupK K (n := 2) rfl (pgs_cons (pg_name (i := 5) sc_law_orders.nd rfl (.inl rfl)) (pgs_cons (pg_name (i := 6) sc_law_orders.nd rfl (.inl rfl)) pgs_nil)))) (fun _ _ _ _ _ => pts_nil) (fun _ _ _ _ _ => (pv 5))))))), ?_⟩
    refine ⟨by show 0 ≤ sizeLine; decide, fun p0 n0 => ?_⟩
    have s1 : Same H (upd H p0 (.tup [])) := same_new n0
    have h0 : (upd H p0 (.tup [])) p0 = some (.tup []) := upd_same
    generalize upd H p0 (.tup []) = H1 at s1 h0 ⊢
    refine ⟨_, rfl, by show 2 ≤ sizeLine; decide, fun p1 np1 => ?_⟩
    have s2 : Same H1 (upd H1 p1 (.tup [.ref p0, .ref a])) := same_new np1
    have h1 : (upd H1 p1 (.tup [.ref p0, .ref a])) p1 = some (.tup [.ref p0, .ref a]) := upd_same
    generalize upd H1 p1 (.tup [.ref p0, .ref a]) = H2 at s2 h1 ⊢
    refine ⟨by show 1 ≤ sizeLine; decide, fun f nf => ?_⟩
    have s3 : Same H2 (upd H2 f (.lst [.ref p1])) := same_new nf
    have h2 : (upd H2 f (.lst [.ref p1])) f = some (.lst [.ref p1]) := upd_same
    generalize upd H2 f (.lst [.ref p1]) = H3 at s3 h2 ⊢
    have s13 := (s1.trans s2).trans s3
    have af : a ≠ f := fun e => by
      obtain ⟨xs, hx, _⟩ := hps
      have := (s1.trans s2) _ _ hx
      rw [e, nf] at this
      cases this
    have fnd0 : FoundAt K H3 f [([], ps)] := ⟨_, h2, rfl, fun i st hi => by
      cases i with
      | succ i => simp at hi
      | zero =>
        have hi : ([], ps) = st := by simpa using hi
        subst hi
        exact ⟨p1, .ref p0, a, rfl, SqT.of (s3 _ _ h1), dh_ct (c := []) (SqT.of ((s2.trans s3) _ _ h0)), af, hps.same s13⟩⟩
    dsimp only [tNext, tSeq, tAsg, gName, List.set_cons_succ, List.set_cons_zero]
    refine ⟨_, rfl, (n : Int), rfl, by omega, by omega, for_range (lo := 0) (n := ((n : Nat) : Int).toNat) (fun i σ H' => ∃ (f : Addr) (S : List OSt) (y3 y4 y5 y6 y7 : Option V), σ = [some (.int n), some (.ref a), some (.ref f), y3, y4, y5, y6, y7] ∧ Same H H' ∧ H f = none ∧ FoundAt K H' f S ∧ iterO n (n - i) S = iterO n n [([], ps)] ∧ S.length ≤ 5 ^ i ∧ ∀ st ∈ S, StOk i st)
      ⟨f, _, none, none, none, none, none, rfl, s13, (s1.trans s2).free nf, fnd0, rfl, Nat.le_refl _, fun st hst => ?_⟩ ?_ ?_⟩
    · rw [List.mem_singleton.mp hst]
      exact ⟨rfl, hl, hp⟩
    · rintro i σ H' hi ⟨f, S, y3, y4, y5, y6, y7, rfl, sH, hf0, fnd, hit, hSl, hSo⟩
      rw [Int.toNat_natCast] at hi
      dsimp only [tNext, tSeq, tAsg, gName, List.set_cons_succ, List.set_cons_zero]
      refine ⟨Nat.zero_le _, fun lt nlt => ?_⟩
      have s4 : Same H' (upd H' lt (.lst [])) := same_new nlt
      have hlt : (upd H' lt (.lst [])) lt = some (.lst []) := upd_same
      generalize upd H' lt (.lst []) = H4 at s4 hlt ⊢
      obtain ⟨acc, hf, hal, hen⟩ := fnd.ex
      have flt : f ≠ lt := fun e => by
        rw [e, nlt] at hf
        cases hf
      have S5 : S.length ≤ 3125 := Nat.le_trans hSl (Nat.le_trans (Nat.pow_le_pow_right (by decide) (show i ≤ 5 by omega)) (by decide))
      refine ⟨_, rfl, f, rfl, ⟨_, SqL.of (s4 _ _ hf)⟩, for_list (K := K) (a := f) (xs := acc) (fun j σ H5 => ∃ y5 y6 y7 : Option V, σ = [some (.int n), some (.ref a), some (.ref f), some (.int (0 + (i : Nat))), some (.ref lt), y5, y6, y7] ∧ Same H' H5 ∧ FoundAt K H5 lt ((S.take j).flatMap (succO n)))
        ⟨_, _, _, rfl, s4, ⟨[], hlt, rfl, fun i st hi => by simp at hi⟩⟩ (fun j σ H5 _ ⟨_, _, _, _, s', _⟩ => SqL.of (s' _ _ hf)) ?_ ?_⟩
      · rintro j x σ H5 hxj ⟨y5, y6, y7, rfl, s5, fl⟩
        have hj : j < S.length := by
          have := (List.getElem?_eq_some_iff.mp hxj).1
          omega
        have hst := List.getElem?_eq_getElem hj
        have hstm := List.getElem_mem hj
        generalize S[j] = st at hst hstm
        obtain ⟨t, vr, l, g1, g2, g3, g4, g5⟩ := hen j st hst
        rw [hxj] at g1
        cases g1
        obtain ⟨k1, k2, k3⟩ := hSo st hstm
        have hsub : ∀ k, k ≤ n → ((S.take j).flatMap (succO n) ++ partO n k st).length ≤ 50000 := fun k hk => by
          rw [List.length_append]
          have z := step_len (n := n) (S.take j)
          unfold stepO at z
          have := List.length_take (i := j) (l := S)
          have := part_len n k st
          have : (S.take j).length * n ≤ 3125 * 5 := Nat.mul_le_mul (by omega) n5
          omega
        have hl5 := g5.same s5
        have lnlt : l ≠ lt := fun e => by
          obtain ⟨xs, hx, _⟩ := g5
          rw [e, nlt] at hx
          cases hx
        refine ⟨t, _, rfl, (Ext.of s5).sqT g2, rfl, _, _, rfl, _, _, rfl, rfl, ?_⟩
        refine ⟨_, rfl, (n : Int), rfl, by omega, by omega, for_range (lo := 0) (n := ((n : Nat) : Int).toNat) (fun k σ H6 => ∃ y7 : Option V, σ = [some (.int n), some (.ref a), some (.ref f), some (.int (0 + (i : Nat))), some (.ref lt), some vr, some (.ref l), y7] ∧ Same H' H6 ∧ FoundAt K H6 lt ((S.take j).flatMap (succO n) ++ partO n k st))
          ⟨y7, rfl, s5, by rw [show partO n 0 st = [] from rfl, List.append_nil]; exact fl⟩ ?_ ?_⟩
        · rintro k σ H6 hk ⟨y7, rfl, s6, fl6⟩
          rw [Int.toNat_natCast] at hk
          have e0 : (0 : Int) + (k : Int) = (k : Int) := by omega
          dsimp only [tNext, tSeq, tAsg, gName, List.set_cons_succ, List.set_cons_zero]
          rw [e0]
          have hvr := g3.ext (.of s6)
          have hll := g5.same s6
          have ps1 := part_step (st := st) hk
          refine ⟨_, rfl, _, rfl, .int k, st.1.map PyData.int, .int k, dp_ct hvr, shaped_int k, shaped_ct st.1, ?_⟩
          rw [any_mem]
          refine ⟨_, rfl, ?_⟩
          by_cases h1 : (k : Int) ∈ st.1
          · rw [decide_eq_true h1]
            refine iteF ?_
            refine iteF ?_
            rw [if_neg (fun z => z.1 h1), List.append_nil] at ps1
            refine ⟨_, rfl, s6, ?_⟩
            rw [ps1]
            exact fl6
          · rw [decide_eq_false h1]
            refine iteT ?_
            refine ⟨_, rfl, _, rfl, (k : Int), l, st.2, rfl, hll, k2, k3, fun H7 s7 => ⟨_, rfl, ?_⟩⟩
            have s67 := s6.trans s7
            by_cases h2 : Nest (k : Int) st.2
            · rw [decide_eq_true h2]
              refine iteT ?_
              rw [if_pos ⟨h1, h2⟩] at ps1
              have fl7 := fl6.same s7
              obtain ⟨lacc, hlc, hlal, _⟩ := fl7.ex
              refine ⟨_, rfl, .inl ⟨rfl, _, SqL.of hlc⟩, _, rfl, _, rfl, by show 1 ≤ sizeLine; decide, fun p np => ?_⟩
              refine cat_ct (K := K) (c := st.1) (j := (k : Int)) (hvr.ext (.of (s7.trans (same_new np)))) (by omega) upd_same fun v H8 s8 hv => ?_
              have s78 := (same_new np).trans s8
              have s68 := s67.trans s78
              refine ⟨_, rfl, _, rfl, (k : Int), l, st.2, rfl, g5.same s68, k2, k3, fun d H9 nd s9 hd => ?_⟩
              refine ⟨by show 2 ≤ sizeLine; decide, fun t2 nt2 => ?_⟩
              have s10 : Same H9 (upd H9 t2 (.tup [v, .ref d])) := same_new nt2
              have ht2 : (upd H9 t2 (.tup [v, .ref d])) t2 = some (.tup [v, .ref d]) := upd_same
              generalize upd H9 t2 (.tup [v, .ref d]) = H10 at s10 ht2 ⊢
              have s710 := (s78.trans s9).trans s10
              have dlt : d ≠ lt := fun e => by
                have := s78 _ _ hlc
                rw [← e, nd] at this
                cases this
              have hlc10 := s710 _ _ hlc
              refine ⟨lt, _, _, rfl, rfl, hlc10, sz_small (by have := hsub k (by omega); omega), ?_⟩
              refine ⟨_, rfl, Same.put nlt (s67.trans s710), ?_⟩
              rw [ps1, ← List.append_assoc]
              exact (fl7.same s710).put hlc10 (SqT.of ht2) ((hv.ext (.of s9)).ext (.of s10)) dlt (hd.same s10)
            · rw [decide_eq_false h2]
              refine iteF ?_
              rw [if_neg (fun z => h2 z.2), List.append_nil] at ps1
              refine ⟨_, rfl, s67, ?_⟩
              rw [ps1]
              exact fl6.same s7
        · rintro σ H6 ⟨y7, rfl, s6, fl6⟩
          rw [Int.toNat_natCast, part_all] at fl6
          refine ⟨_, _, _, rfl, s6, ?_⟩
          rw [List.take_add_one, hst, List.flatMap_append]
          show FoundAt K H6 lt (_ ++ [st].flatMap (succO n))
          rw [List.flatMap_cons, List.flatMap_nil, List.append_nil]
          exact fl6
      · rintro σ H5 ⟨y5, y6, y7, rfl, s5, fl⟩
        rw [hal, List.take_length] at fl
        dsimp only [tNext, tSeq, tAsg, gName, List.set_cons_succ, List.set_cons_zero]
        refine ⟨_, rfl, lt, stepO n S, _, _, _, _, _, rfl, sH.trans s5, sH.free nlt, fl, ?_, ?_, StOk.step hSo⟩
        · rw [← hit, show n - i = (n - (i + 1)) + 1 by omega]
          rfl
        · have z := step_len (n := n) S
          rw [Nat.pow_succ]
          exact Nat.le_trans z (Nat.mul_le_mul hSl n5)
    · rintro σ H' ⟨f, S, y3, y4, y5, y6, y7, rfl, sH, hf0, fnd, hit, hSl, hSo⟩
      rw [Int.toNat_natCast, Nat.sub_self] at hit
      rw [Int.toNat_natCast] at hSl
      have S5 : S.length ≤ 3125 := Nat.le_trans hSl (Nat.le_trans (Nat.pow_le_pow_right (by decide) n5) (by decide))
      obtain ⟨acc, hf, hal, hen⟩ := fnd.ex
      have eS : S.map (·.1) = ords n ps (rgI n) := by
        rw [← orders_eq, ← hit]
        rfl
      dsimp only [tNext, tSeq, tAsg, gName, List.set_cons_succ, List.set_cons_zero]
      refine ⟨_, rfl, f, rfl, ⟨_, SqL.of hf⟩, fun D nD => lc_list (K := K) (xs := acc) (fun j H5 => Got K H' D ((S.take j).map fun st => ctD st.1) H5) (.zero nD) (fun j H5 _ g => SqL.of (g.same _ _ hf)) ?_ ?_⟩
      · rintro j x H5 hxj g
        have hj : j < S.length := by
          have := (List.getElem?_eq_some_iff.mp hxj).1
          omega
        have hst := List.getElem?_eq_getElem hj
        generalize S[j] = st at hst
        obtain ⟨t, vr, l, g1, g2, g3, g4, g5⟩ := hen j st hst
        rw [hxj] at g1
        cases g1
        have e5 := Ext.of g.same
        refine ⟨t, _, rfl, e5.sqT g2, rfl, _, _, rfl, _, _, rfl, rfl, rfl, ?_⟩
        dsimp only [tYes]
        rw [if_pos rfl]
        refine ⟨_, rfl, ?_⟩
        obtain ⟨acc2, a1, a2, a3⟩ := g.put nD (Same.refl H5) (g3.ext e5) (by rw [List.length_map]; have := List.length_take (i := j) (l := S); omega)
        refine ⟨acc2, a1, a2, ?_⟩
        rw [List.take_add_one, hst, List.map_append]
        exact a3
      · rintro H5 ⟨s5, acc2, hD, hac⟩
        rw [hal, List.take_length] at hac
        refine q D H5 (sH.free nD) (sH.trans s5) ⟨acc2, hD, ?_⟩
        rw [← eS, List.map_map]
        exact hac

end
end Fm
namespace Fm
open PySem PySem.Spec PyProof.Rows L2
section
variable {P : Program} {w : World} {K : PySem.W.Frag} {mg : Str → Option Value} {base : Heap}

/-! ### _law_is_right -/
theorem rgI_asc (n : Nat) : (rgI n).Pairwise (· < ·) := by
  unfold rgI
  exact List.pairwise_map.mpr (List.pairwise_lt_range.imp fun {a b} h => by omega)
theorem ords_sorted : ∀ (m : Nat) (ps : List (List Int)) (left : List Int), left.Pairwise (· < ·) → (ords m ps left).Pairwise (· < ·)
  | 0, _, _, _ => List.pairwise_singleton _ _
  | m + 1, ps, left, h => by
    show (left.flatMap _).Pairwise _
    refine List.pairwise_flatMap.mpr ⟨fun c hc => ?_, h.imp fun {c d} hcd x hx y hy => ?_⟩
    · by_cases e : Nest c ps
      · rw [if_pos e]
        exact List.pairwise_map.mpr ((ords_sorted m _ _ (h.sublist List.filter_sublist)).imp fun {a b} hab => List.cons_lt_cons_iff.mpr (.inr ⟨rfl, hab⟩))
      · rw [if_neg e]
        exact List.Pairwise.nil
    · by_cases e1 : Nest c ps
      · rw [if_pos e1] at hx
        by_cases e2 : Nest d ps
        · rw [if_pos e2] at hy
          obtain ⟨_, _, rfl⟩ := List.mem_map.mp hx
          obtain ⟨_, _, rfl⟩ := List.mem_map.mp hy
          exact List.cons_lt_cons_iff.mpr (.inl hcd)
        · rw [if_neg e2] at hy
          cases hy
      · rw [if_neg e1] at hx
        cases hx
/-- the columns that can be struck, by the law's own look -/
theorem part_len12 {n : Nat} {ps : List (List Int)} (lo : LsOk n ps) : (partL n ps).length ≤ 12 := by
  have := List.length_filter_le (fun p : List Int => decide (p.length < n)) ps
  have := lo.len
  unfold partL
  omega
theorem refs_of {H : Hp} : ∀ {xs : List V} {ps : List (List Int)}, DhAll K H xs (ps.map ctD) → ∃ M : List (Addr × List Int), xs = M.map (fun m => V.ref m.1) ∧ M.map (·.2) = ps ∧ ∀ m ∈ M, SqT K H m.1 (m.2.map V.int)
  | _, [], .nil => ⟨[], rfl, rfl, fun m hm => by cases hm⟩
  | _, p :: ps, .cons h t => by
    obtain ⟨M, h1, h2, h3⟩ := refs_of (ps := ps) t
    obtain ⟨a, rfl, s⟩ := ct_inv h
    refine ⟨(a, p) :: M, by rw [List.map_cons, h1], by rw [List.map_cons, h2], fun m hm => ?_⟩
    rcases List.mem_cons.mp hm with u | u
    · rw [u]
      exact s
    · exact h3 m u
def spRight (K : PySem.W.Frag) : Sp := fun vs H Q _ => ∃ (n : Nat) (v : V) (ps : List (List Int)), vs = [.int n, v] ∧ LsOk n ps ∧ Dh K H v (patsD ps) ∧ ∀ d H', H d = none → Same H H' → LstP K H' d (ords n (partL n ps) (rgI n)) → Q (.ref d) H'
theorem ok_law_is_right (T : Txt K mg) : FnOk P w K mg base CX0 11 T.f_law_is_right T.d_law_is_right ["columns", "patterns"] (spRight K) := by
  refine T.F_law_is_right.ok sc_law_is_right (fun vs H Q E h => ?_) (fun cdv A outer s H vs Q E hr h => ?_)
  · obtain ⟨_, _, _, rfl, _⟩ := h
    rfl
  · obtain ⟨n, v, ps, rfl, lo, hv, q⟩ := h
    have l12 := part_len12 lo
    have pok := lo.ok.filter (f := fun p => decide (p.length < n))
    have n5 := lo.n5
    refine ⟨_, (pss_cons (ps_set (i := 2) sc_law_is_right.nd rfl (.inr rfl) (pe_call (ok_law_parts T) (hr.mono (by decide)) (by rfl) T.g_law_parts T.F_law_parts.kp T.b_law_parts .nil pass0 (pa_cons (pv 0) (pa_cons (pv 1) pa_nil))))
      (pss_cons (ps_set (i := 3) sc_law_is_right.nd rfl (.inl rfl) (pe_call (ok_law_orders T) (hr.mono (by decide)) (by rfl) T.g_law_orders T.F_law_orders.kp T.b_law_orders .nil pass0 (pa_cons (pv 0) (pa_cons (pv 2) pa_nil))))
      (pss_cons (ps_set (i := 4) sc_law_is_right.nd rfl (.inl rfl) (pe_call (ok_nests T) (hr.mono (by decide)) (by rfl) T.g_nests T.F_nests.kp T.b_nests .nil pass0 (pa_cons (pv 0) (pa_cons (pv 1) pa_nil))))
      (pss_cons (ps_if (PW.pt (pw_or (pt_not (pt_val (pe_callB (call_isiK' K) (by rfl) T.z_isinstance (by decide +kernel) (pa_cons (pv 4) (pa_cons (pe_bltn (v := .ty "tuple") (by rfl) T.z_tuple (by decide +kernel) rfl) pa_nil))))) (pw_or1 (pt_cmpR (op_neK K hr.units) (pv 4) (pe_callTy (call_tupleK K) (by rfl) T.z_tuple (by decide +kernel) (pa_cons (pe_lc (own := [("c", 6)]) rfl sc_law_is_right.nd (pi_range1 (by rfl) T.z_range (pa_cons (pv 0) pa_nil)) (blkOk_by (N := N_law_is_right) (sc := defScope s_law_is_right) (by decide +kernel)) (fun _ _ _ _ _ => (pg_name (i := 6) sc_law_is_right.nd rfl (.inl rfl))) (fun _ _ _ _ _ => (pts_one (pt_val (pe_call (ok_law_is_nest T) (hr.mono (by decide)) (by rfl) T.g_law_is_nest T.F_law_is_nest.kp T.b_law_is_nest .nil pass0 (pa_cons (pv 6) (pa_cons (pv 2) pa_nil)))))) (fun _ _ _ _ _ => (pv 6))) pa_nil)) (nomark _))))) (pss_one (ps_ret pe_non)) pss_nil)
      (pss_cons (ps_set (i := 5) sc_law_is_right.nd rfl (.inl rfl) pe_non)
      (pss_cons (ps_if (pt_cmpR (op_neK K hr.units) (pv 3) (pe_lst pa_nil) (nomark _)) (pss_one (ps_set (i := 5) sc_law_is_right.nd rfl (.inl rfl) (pe_callB (call_minT (K := K) rfl hr.units) (by rfl) T.z_min (by decide +kernel) (pa_cons (pv 3) pa_nil)))) pss_nil)
      (pss_cons (ps_if (PW.pt (pw_or (pt_cmpR (op_neK K hr.units) (pe_call (ok_order T) hr (by rfl) T.g_order T.F_order.kp T.b_order .nil pass0 (pa_cons (pv 0) (pa_cons (pv 1) pa_nil))) (pv 5) (nomark _)) (pw_or1 (pt_cmpR op_ne (pe_call (ok_many_orders T) hr (by rfl) T.g_many_orders T.F_many_orders.kp T.b_many_orders .nil pass0 (pa_cons (pv 0) (pa_cons (pv 1) pa_nil))) (pe_callB (call_lenK K) (by rfl) T.z_len PySem.boot_len (pa_cons (pv 3) pa_nil)) (nomark _))))) (pss_one (ps_ret pe_non)) pss_nil)
      (pss_one (ps_ret (pv 3)))))))))), ?_⟩
    refine ⟨_, rfl, _, rfl, n, _, ps, rfl, hv, by have := lo.len; omega, fun dp H1 ndp s1 hdp => ?_⟩
    dsimp only [tNext, tSeq, tAsg, gName, List.set_cons_succ, List.set_cons_zero]
    refine ⟨_, rfl, _, rfl, n, dp, partL n ps, rfl, lo.n1, lo.n5, hdp, by omega, (fun p hp => (pok.2 p hp).1), fun dr H2 ndr s2 hdr => ?_⟩
    have s12 := s1.trans s2
    refine ⟨_, rfl, _, rfl, n, _, ps, rfl, lo, hv.ext (.of s12), fun u H3 s3 hu => ?_⟩
    have s13 := s12.trans s3
    obtain ⟨ua, rfl, hua⟩ := ct_inv hu
    dsimp only [tNext, tSeq, tAsg, gName, List.set_cons_succ, List.set_cons_zero]
    refine ⟨_, rfl, _, _, _, _, _, rfl, .ty _, tyx_tup hua, kit_ty (show kitB "tuple" "tuple" = some true by decide +kernel), _, rfl, iteF ?_⟩
    have hdp3 := hdp.same (s2.trans s3)
    refine ⟨_, rfl, _, rfl, (n : Int), rfl, by omega, by omega, fun D nD => lc_range (lo := 0) (n := ((n : Nat) : Int).toNat) (fun j H' => Same H3 H' ∧ H' D = some (.lst ((((rgI n).take j).filter fun c => decide (Nest c (partL n ps))).map V.int))) ⟨same_new nD, upd_same⟩ ?_ ?_⟩
    · rintro j H4 hj ⟨s4, hD⟩
      rw [Int.toNat_natCast] at hj
      have e0 : (0 : Int) + (j : Int) = (j : Int) := by omega
      have hf := take_filter (f := fun c => decide (Nest c (partL n ps))) (rgI_at hj)
      rw [e0]
      refine ⟨rfl, ?_⟩
      refine ⟨_, rfl, _, rfl, (j : Int), dp, partL n ps, rfl, hdp3.same s4, by omega, (fun p hp => (pok.2 p hp).1), fun H5 s5 => ⟨_, rfl, ?_⟩⟩
      have hD2 := s5 _ _ hD
      by_cases e : Nest (j : Int) (partL n ps)
      · rw [decide_eq_true e]
        dsimp only
        rw [if_pos rfl]
        refine ⟨_, rfl, _, hD2, sz_small (by rw [List.length_map]; have := List.length_filter_le (fun c => decide (Nest c (partL n ps))) ((rgI n).take j); have := List.length_take (i := j) (l := rgI n); rw [rgI_len] at this; omega), Same.put nD (s4.trans s5), ?_⟩
        rw [hf, if_pos (decide_eq_true e), List.map_append]
        exact upd_same
      · rw [decide_eq_false e]
        dsimp only
        rw [if_neg (by decide)]
        refine ⟨s4.trans s5, ?_⟩
        rw [hf, if_neg (by rw [decide_eq_false e]; decide), List.append_nil]
        exact hD2
    · rintro H4 ⟨s4, hD⟩
      rw [Int.toNat_natCast, List.take_of_length_le (by rw [rgI_len]; exact Nat.le_refl n)] at hD
      refine ⟨D, _, rfl, .inl ⟨SqL.of hD, fun t nt => ?_⟩⟩
      have s5 := s4.trans (same_new (o := HO.tup (((rgI n).filter fun c => decide (Nest c (partL n ps))).map V.int)) nt)
      have htd : Dh K (upd H4 t (.tup (((rgI n).filter fun c => decide (Nest c (partL n ps))).map V.int))) (.ref t) (ctD ((rgI n).filter fun c => decide (Nest c (partL n ps)))) := dh_ct (SqT.of upd_same)
      generalize upd H4 t (.tup (((rgI n).filter fun c => decide (Nest c (partL n ps))).map V.int)) = H5 at s5 htd ⊢
      refine ⟨_, _, dp_ct (hu.ext (.of s5)), dp_ct htd, shaped_ct _, shaped_ct _, ?_⟩
      rw [eqv_ct, decide_eq_true rfl]
      refine ⟨_, rfl, iteF ?_⟩
      have s25 := s3.trans s5
      have hdr5 := hdr.same s25
      have s15 := s12.trans s25
      have hv5 := hv.ext (.of s15)
      have eo := ords_sorted n (partL n ps) (rgI n) (rgI_asc n)
      clear htd hD s4 hua hu s13 s3 hdp3 hdp s5
      generalize hR : ords n (partL n ps) (rgI n) = R at hdr5 eo q
      obtain ⟨xs, hx1, hx2⟩ := hdr5
      dsimp only [tNext, tSeq, tAsg, gName, List.set_cons_succ, List.set_cons_zero]
      refine ⟨_, rfl, Nat.zero_le _, fun z nz => ?_⟩
      have s6 : Same H5 (upd H5 z (.lst [])) := same_new nz
      have hz : (upd H5 z (.lst [])) z = some (.lst []) := upd_same
      generalize upd H5 z (.lst []) = H6 at s6 hz ⊢
      refine ⟨_, _, dp_cts (SqL.of (s6 _ _ hx1)) (hx2.ext (.of s6)), dp_cts (cs := []) (SqL.of hz) .nil, shaped_cts _, shaped_cts _, ?_⟩
      rw [eqv_cts]
      refine ⟨_, rfl, ?_⟩
      cases R with
      | nil =>
        rw [decide_eq_true rfl]
        refine iteF ?_
        dsimp only [tNext, tSeq, tAsg, gName, List.set_cons_succ, List.set_cons_zero]
        refine ⟨_, rfl, _, rfl, n, _, ps, rfl, lo, hv5.ext (.of s6), fun u7 H7 s7 ho => ?_⟩
        rw [hR] at ho
        have ho : u7 = .non := ho
        subst ho
        refine ⟨_, rfl, .none, .none, .non, .non, rfl, rfl, ?_⟩
        rw [show PyData.eqv .none .none = true from rfl]
        refine ⟨_, rfl, iteF ?_⟩
        have s67 := (s6).trans s7
        refine ⟨_, rfl, _, rfl, n, _, ps, rfl, lo, hv5.ext (.of s67), fun H8 s8 => ?_⟩
        have s68 := s67.trans s8
        refine ⟨_, rfl, dr, _, rfl, .inl (SqL.of (s68 _ _ hx1)), rfl, _, rfl, ?_⟩
        have hxl := hx2.length
        rw [List.length_map] at hxl
        rw [hR, hxl, show decide (V.int (([] : List (List Int)).length : Int) = V.int (([] : List (List Int)).length : Int)) = true from decide_eq_true rfl]
        refine iteF ?_
        exact ⟨_, rfl, q dr H8 (s1.free ndr) (s15.trans s68) ⟨xs, s68 _ _ hx1, hx2.ext (.of s68)⟩⟩
      | cons r R =>
        rw [decide_eq_false (by intro h; cases h)]
        refine iteT ?_
        dsimp only [tNext, tSeq, tAsg, gName, List.set_cons_succ, List.set_cons_zero]
        obtain ⟨M, hM1, hM2, hM3⟩ := refs_of hx2
        cases M with
        | nil => cases hM2
        | cons m M =>
        rw [List.map_cons] at hM2
        injection hM2 with hm1 hm2
        subst hM1
        refine ⟨_, rfl, dr, m, M, rfl, SqL.of (s6 _ _ hx1), (fun k hk => (Ext.of s6).sqT (hM3 k hk)), (fun k hk => decide_eq_false fun lt => ?_), fun k hk ek => ?_⟩
        · have kr : k.2 ∈ R := hm2 ▸ List.mem_map_of_mem (f := fun m : Addr × List Int => m.2) hk
          have z := (List.pairwise_cons.mp eo).1 k.2 kr
          rw [hm1] at lt
          exact List.lt_asymm z lt
        have hmr : Dh K H6 (.ref k.1) (ctD r) := by
          have z := dh_ct ((Ext.of s6).sqT (hM3 k hk))
          rw [ek, hm1] at z
          exact z
        dsimp only [tNext, tSeq, tAsg, gName, List.set_cons_succ, List.set_cons_zero]
        refine ⟨_, rfl, _, rfl, n, _, ps, rfl, lo, hv5.ext (.of s6), fun u7 H7 s7 ho => ?_⟩
        rw [hR] at ho
        have ho : Dh K H7 u7 (ctD r) := ho
        refine ⟨_, rfl, ctP r, ctP r, dp_ct ho, dp_ct (hmr.ext (.of s7)), shaped_ct r, shaped_ct r, ?_⟩
        rw [eqv_ct, decide_eq_true rfl]
        refine ⟨_, rfl, iteF ?_⟩
        have s67 := (s6).trans s7
        refine ⟨_, rfl, _, rfl, n, _, ps, rfl, lo, hv5.ext (.of s67), fun H8 s8 => ?_⟩
        have s68 := s67.trans s8
        refine ⟨_, rfl, dr, _, rfl, .inl (SqL.of (s68 _ _ hx1)), rfl, _, rfl, ?_⟩
        have hxl := (hx2.length).trans (List.length_map _)
        rw [hR, hxl, show decide (V.int ((r :: R).length : Int) = V.int ((r :: R).length : Int)) = true from decide_eq_true rfl]
        refine iteF ?_
        exact ⟨_, rfl, q dr H8 (s1.free ndr) (s15.trans s68) ⟨_, s68 _ _ hx1, hx2.ext (.of s68)⟩⟩

end
end Fm
namespace Fm
open PySem PySem.Spec PyProof.Rows L2
section
variable {P : Program} {w : World} {K : PySem.W.Frag} {mg : Str → Option Value} {base : Heap}

/-! ### _law_list -/
theorem asc_rgI (n : Nat) : Asc n (-1) (rgI n) := by
  have key : ∀ (m k : Nat), k + m = n → Asc n ((k : Int) - 1) ((List.range' k m).map fun (i : Nat) => (i : Int)) := by
    intro m
    induction m with
    | zero => intro k _; exact True.intro
    | succ m ih =>
      intro k hk
      rw [List.range'_succ, List.map_cons]
      refine ⟨by omega, by omega, ?_⟩
      have z := ih (k + 1) (by omega)
      rw [show ((k + 1 : Nat) : Int) - 1 = (k : Int) by omega] at z
      exact z
  have z := key n 0 (by omega)
  unfold rgI
  rw [List.range_eq_range']
  exact z
theorem asc_nodup5 {n : Int} : ∀ {l : Int} {p : List Int}, Asc n l p → p.Nodup
  | _, [], _ => List.nodup_nil
  | l, x :: p, ⟨h1, h2, h3⟩ => List.nodup_cons.mpr ⟨fun hm => by have := (h3.mem x hm).1; omega, asc_nodup5 h3⟩
theorem lgo_of {n : Nat} : ∀ {ps : List (List Int)} {last : Option (List Int)}, ps.Pairwise (fun a b => HT.lexLt a b = true) → (∀ p ∈ ps, Asc n (-1) p) → (∀ l, last = some l → ∀ p ∈ ps, HT.lexLt l p = true) → lGo n last (ps.map ctD) = true
  | [], _, _, _, _ => rfl
  | p :: ps, last, pw, ha, hl => by
    rw [List.pairwise_cons] at pw
    rw [List.map_cons]
    have e1 : (ctD p).isPat (n : Int) = true := (ha p (List.mem_cons_self ..)).isPat
    have e2 : lGo n (some (ctD p).ints) (ps.map ctD) = true := lgo_of pw.2 (fun q hq => ha q (List.mem_cons_of_mem _ hq)) fun l e q hq => by
      rw [ints_ct] at e
      cases e
      exact pw.1 q hq
    unfold lGo
    rw [if_pos e1]
    cases last with
    | none => exact e2
    | some l =>
      dsimp only
      rw [ints_ct, if_pos (hl l rfl p (List.mem_cons_self ..)), ← ints_ct p]
      exact e2
theorem lsok_of {n : Nat} {ps : List (List Int)} (n1 : 1 ≤ n) (n5 : n ≤ 5) (pw : ps.Pairwise fun a b => HT.lexLt a b = true) (ha : ∀ p ∈ ps, Asc n (-1) p) (hw : rgI n ∈ ps) (hl : ps.length ≤ 12) : LsOk n ps := by
  refine ⟨n1, n5, ?_, hl, by omega, fun p hp => ⟨by have := (ha p hp).len (by omega); omega, asc_nodup5 (ha p hp)⟩⟩
  show (decide (1 ≤ (ps.map ctD).length ∧ (ps.map ctD).length ≤ 12) && (lGo n none (ps.map ctD) && (ps.map ctD).any fun d => decide (d.ints = rgI n))) = true
  rw [List.length_map, decide_eq_true ⟨List.length_pos_of_mem hw, hl⟩, lgo_of pw ha (fun l e => by cases e), Bool.true_and, Bool.true_and, List.any_map, List.any_eq_true]
  exact ⟨rgI n, hw, decide_eq_true (ints_ct _)⟩
structure LsS (n : Nat) (ps : List (List Int)) : Prop where
  n1 : 1 ≤ n
  n5 : n ≤ 5
  pw : ps.Pairwise fun a b => HT.lexLt a b = true
  asc : ∀ p ∈ ps, Asc n (-1) p
  whole : rgI n ∈ ps
  len : ps.length ≤ 12
theorem LsS.ok {n : Nat} {ps : List (List Int)} (x : LsS n ps) : LsOk n ps := lsok_of x.n1 x.n5 x.pw x.asc x.whole x.len
theorem dhs_refs {H : Hp} : ∀ {M : List (Addr × List Int)}, (∀ m ∈ M, SqT K H m.1 (m.2.map V.int)) → DhAll K H (M.map fun m => V.ref m.1) ((M.map (·.2)).map ctD)
  | [], _ => .nil
  | m :: M, h => .cons (dh_ct (h m (List.mem_cons_self ..))) (dhs_refs fun k hk => h k (List.mem_cons_of_mem _ hk))
def spLList (K : PySem.W.Frag) : Sp := fun vs H Q _ => ∃ (h g s : Addr) (n : Nat) (most : Int), vs = [.ref h, .int n, .int most] ∧ PotOk H h g s ∧ 1 ≤ n ∧ n ≤ 5 ∧ 0 ≤ most ∧ most ≤ 11 ∧ ∀ v ps H', KeepP h g s H H' → LsS n ps → Dh K H' v (patsD ps) → Q v H'
theorem ok_law_list (T : Txt K mg) : FnOk P w K mg base CX0 3 T.f_law_list T.d_law_list ["pot", "columns", "most"] (spLList K) := by
  refine T.F_law_list.ok sc_law_list (fun vs H Q E h => ?_) (fun cdv A outer s H vs Q E hr h => ?_)
  · obtain ⟨_, _, _, _, _, rfl, _⟩ := h
    rfl
  · obtain ⟨h, g, sm, n, most, rfl, hx, n1, n5, m0, m11, q⟩ := h
    refine ⟨_, (pss_cons (ps_set (i := 3) sc_law_list.nd rfl (.inr rfl) (pe_tupRg rfl (by rfl) T.z_tuple (prg_1 (by rfl) T.z_range (pv 1))))
      (pss_cons (ps_setLc (i := 4) (own := [("pattern", 5)]) rfl sc_law_list.nd rfl rfl (sw_true rfl rfl rfl (by decide +kernel)) (pi_listK K (pe_call (ok_law_patterns T) (hr.mono (by decide)) (by rfl) T.g_law_patterns T.F_law_patterns.kp T.b_law_patterns .nil pass0 (pa_cons (pv 1) pa_nil))) (blkOk_by (N := N_law_list) (sc := defScope s_law_list) (by decide +kernel)) (fun _ _ _ _ _ => (pg_name (i := 5) sc_law_list.nd rfl (.inl rfl))) (fun _ _ _ _ _ => (pts_one (pt_cmpR (op_neK K hr.units) (pv 5) (pv 3) (nomark _)))) (fun _ _ _ _ _ => (pv 5)))
      (pss_one (ps_ret (pe_callTy (call_tupleK K) (by rfl) T.z_tuple (by decide +kernel) (pa_cons (pe_callB (call_sortTsK (K := K) hr.units) (by rfl) T.z_sorted (by decide +kernel) (pa_cons (pe_op op_cat (pe_slice (sl_listK K) (pe_call (ok_law_mixed T) hr (by rfl) T.g_law_mixed T.F_law_mixed.kp T.b_law_mixed .nil pass0 (pa_cons (pv 0) (pa_cons (pv 4) pa_nil))) po_none (po_some (pe_call (ok_law_draw T) (hr.mono (by decide)) (by rfl) T.g_law_draw T.F_law_draw.kp T.b_law_draw .nil pass0 (pa_cons (pv 0) (pa_cons (pe_op op_add (pv 2) pe_int) pa_nil))))) (pe_lst (pa_cons (pv 3) pa_nil))) pa_nil)) pa_nil)))))), ?_⟩
    refine ⟨_, rfl, _, rfl, RgOk.of_le (by omega) (by omega) (by omega) (by omega), fun tw ntw => ?_⟩
    rw [rgV_I]
    have s1 : Same H (upd H tw (.tup ((rgI n).map V.int))) := same_new ntw
    have htw : (upd H tw (.tup ((rgI n).map V.int))) tw = some (.tup ((rgI n).map V.int)) := upd_same
    generalize upd H tw (.tup ((rgI n).map V.int)) = H1 at s1 htw ⊢
    have dtw : Dh K H1 (.ref tw) (ctD (rgI n)) := dh_ct (SqT.of htw)
    dsimp only [tNext, tSeq, tAsg, gName, List.set_cons_succ, List.set_cons_zero]
    refine ⟨_, rfl, n, rfl, n5, fun p xs qs H2 np s2 hp hxs pa => ⟨p, rfl, ⟨_, SqL.of hp⟩, fun D nD => lc_list (K := K) (xs := xs) (fun j H' => Got K H2 D (((qs.take j).filter fun z => decide (z ≠ rgI n)).map ctD) H') (.zero nD) (fun j H' _ y => SqL.of (y.same _ _ hp)) ?_ ?_⟩⟩
    · rintro j x H3 hxj y
      obtain ⟨d, hd, hxd⟩ := dhAll_at hxs hxj
      obtain ⟨z, hz, rfl⟩ := map_at hd
      have hxd2 := hxd.ext (.of y.same)
      have hf := take_filter (f := fun z => decide (z ≠ rgI n)) hz
      have hl2 : (((qs.take j).filter fun z => decide (z ≠ rgI n)).map ctD).length ≤ 10000 := by
        rw [List.length_map]
        have := List.length_filter_le (fun z : List Int => decide (z ≠ rgI n)) (qs.take j)
        have := List.length_take (i := j) (l := qs)
        have := pa.len
        have := (pow5 n5).2
        omega
      refine ⟨rfl, ?_⟩
      refine ⟨_, rfl, _, rfl, ctP z, ctP (rgI n), dp_ct hxd2, dp_ct (dtw.ext (.of (s2.trans y.same))), shaped_ct _, shaped_ct _, ?_⟩
      rw [eqv_ct]
      refine ⟨_, rfl, ?_⟩
      by_cases e : z = rgI n
      · rw [decide_eq_true e]
        dsimp only [Bool.not_true]
        rw [if_neg (by decide)]
        rw [hf, if_neg (by rw [decide_eq_false (fun h => h e)]; decide), List.append_nil]
        exact y
      · rw [decide_eq_false e]
        dsimp only [Bool.not_false]
        rw [if_pos (show (!false) = true from rfl)]
        rw [hf, if_pos (decide_eq_true e), List.map_append]
        exact ⟨_, rfl, y.put nD (Same.refl H3) hxd2 hl2⟩
    · rintro H3 ⟨s3, acc, hD, hac⟩
      rw [List.take_of_length_le (by rw [hxs.length, List.length_map]; exact Nat.le_refl _)] at hac
      have hnd : (qs.filter fun z => decide (z ≠ rgI n)).Nodup := List.Nodup.sublist List.filter_sublist pa.nd
      have hne : ∀ z ∈ qs.filter (fun z => decide (z ≠ rgI n)), Asc n (-1) z ∧ z ≠ rgI n := fun z hz => ⟨(pa.all z).mp (List.mem_filter.mp hz).1, of_decide_eq_true (List.mem_filter.mp hz).2⟩
      have hfl : (qs.filter fun z => decide (z ≠ rgI n)).length ≤ 32 := by
        have := List.length_filter_le (fun z : List Int => decide (z ≠ rgI n)) qs
        have := pa.len
        have := (pow5 n5).2
        omega
      generalize qs.filter (fun z => decide (z ≠ rgI n)) = fs at hac hnd hne hfl
      have s13 := (s1.trans s2).trans s3
      obtain ⟨M, hM1, hM2, hM3⟩ := refs_of hac
      subst hM1
      have hMl : M.length ≤ 32 := by
        rw [← List.length_map (f := fun m : Addr × List Int => m.2), hM2]
        exact hfl
      have hx3 := hx.same s13
      refine ⟨_, rfl, _, rfl, h, g, sm, D, _, rfl, hx3, SqL.of hD, by rw [List.length_map]; omega, fun d ys H4 nd k4 hd pm => ?_⟩
      obtain ⟨dh, dg, _⟩ := hx3.ne nd
      obtain ⟨M', pM, rfl⟩ := perm_map_inv pm M rfl
      have e4 := k4.ext hx3
      have hM4 : ∀ m ∈ M', SqT K H4 m.1 (m.2.map V.int) := fun m hm => e4.sqT (hM3 m (pM.mem_iff.mp hm))
      refine ⟨_, rfl, _, rfl, _, _, rfl, rfl, h, g, sm, most + 1, rfl, k4.pot, by omega, by omega, fun dd H5 d0 d1 k5 => ?_⟩
      have e5 := k5.ext k4.pot
      have hd5 := k5.rest d _ dh dg hd
      refine ⟨dd, rfl, d, _, rfl, SqL.of hd5, fun p1 np1 => ?_⟩
      have ec : ∃ k : Nat, (k : Int) ≤ dd ∧ cutV (M'.map fun m => V.ref m.1) none (some dd) = (M'.take k).map fun m => V.ref m.1 := by
        obtain ⟨k, rfl⟩ : ∃ k : Nat, dd = (k : Int) := ⟨dd.toNat, by omega⟩
        refine ⟨min k (M'.map fun m => V.ref m.1).length, by omega, ?_⟩
        unfold cutV
        rw [HT.sIx_none, HT.sIx_nat, List.drop_zero, Nat.sub_zero, List.map_take]
      obtain ⟨k, hk, ec⟩ := ec
      rw [ec]
      have s6 : Same H5 (upd H5 p1 (.lst ((M'.take k).map fun m => V.ref m.1))) := same_new np1
      have hp1 : (upd H5 p1 (.lst ((M'.take k).map fun m => V.ref m.1))) p1 = some (.lst ((M'.take k).map fun m => V.ref m.1)) := upd_same
      generalize upd H5 p1 (.lst ((M'.take k).map fun m => V.ref m.1)) = H6 at s6 hp1 ⊢
      refine ⟨_, rfl, by show 1 ≤ sizeLine; decide, fun p2 np2 => ?_⟩
      have s7 : Same H6 (upd H6 p2 (.lst [.ref tw])) := same_new np2
      have hp2 : (upd H6 p2 (.lst [.ref tw])) p2 = some (.lst [.ref tw]) := upd_same
      generalize upd H6 p2 (.lst [.ref tw]) = H7 at s7 hp2 ⊢
      have hkl : (M'.take k).length ≤ 11 := by
        have := List.length_take (i := k) (l := M')
        omega
      refine ⟨p1, p2, _, _, rfl, rfl, s7 _ _ hp1, hp2, Nat.le_of_lt (sz_small (by rw [List.length_map]; show (M'.take k).length + 1 ≤ 100000; omega)), fun p3 np3 => ?_⟩
      have eM : ((M'.take k).map fun m => V.ref m.1) ++ [V.ref tw] = ((M'.take k) ++ [(tw, rgI n)]).map fun m => V.ref m.1 := by
        rw [List.map_append]
        rfl
      rw [eM]
      have s8 : Same H7 (upd H7 p3 (.lst (((M'.take k) ++ [(tw, rgI n)]).map fun m => V.ref m.1))) := same_new np3
      have hp3 : (upd H7 p3 (.lst (((M'.take k) ++ [(tw, rgI n)]).map fun m => V.ref m.1))) p3 = some (.lst (((M'.take k) ++ [(tw, rgI n)]).map fun m => V.ref m.1)) := upd_same
      generalize upd H7 p3 (.lst (((M'.take k) ++ [(tw, rgI n)]).map fun m => V.ref m.1)) = H8 at s8 hp3 ⊢
      have s58 := (s6.trans s7).trans s8
      have hMk : ∀ m ∈ (M'.take k) ++ [(tw, rgI n)], SqT K H8 m.1 (m.2.map V.int) := fun m hm => by
        rcases List.mem_append.mp hm with u | u
        · exact (Ext.of s58).sqT (e5.sqT (hM4 m (List.mem_of_mem_take u)))
        · rw [List.mem_singleton.mp u]
          have z : SqT K H5 tw ((rgI n).map V.int) := (e5.sqT (e4.sqT (SqT.of (s3 _ _ (s2 _ _ htw)))))
          exact (Ext.of s58).sqT z
      have snds : ((M'.take k) ++ [(tw, rgI n)]).map (·.2) = (M'.take k).map (·.2) ++ [rgI n] := by
        rw [List.map_append]
        rfl
      have inf : ∀ z ∈ (M'.take k).map (·.2), z ∈ fs := fun z hz => by
        obtain ⟨m, hm, rfl⟩ := List.mem_map.mp hz
        rw [← hM2]
        exact List.mem_map_of_mem (f := fun m : Addr × List Int => m.2) (pM.mem_iff.mp (List.mem_of_mem_take hm))
      have ndk : ((M'.take k).map (·.2) ++ [rgI n]).Nodup := by
        refine List.nodup_append.mpr ⟨?_, by simp, fun y hy z hz e => ?_⟩
        · have z1 : (M'.map (·.2)).Nodup := by
            rw [(pM.map (·.2)).nodup_iff, hM2]
            exact hnd
          exact List.Nodup.sublist ((List.take_sublist k M').map _) z1
        · have ez : z = rgI n := by simpa using hz
          exact (hne y (inf y hy)).2 (e.trans ez)
      have hal : ∀ z ∈ (M'.take k).map (·.2) ++ [rgI n], Asc n (-1) z := fun z hz => by
        rcases List.mem_append.mp hz with u | u
        · exact (hne z (inf z u)).1
        · rw [List.mem_singleton.mp u]
          exact asc_rgI n
      dsimp only [tNil]
      refine sort_pats (SqL.of hp3) (dhs_refs hMk) (fun z hz => ?_) fun p4 ys4 qs4 np4 hys4 eq4 => ?_
      · rw [snds] at hz
        have := (hal z hz).len (by omega)
        omega
      · rw [snds] at eq4
        have pq := List.mergeSort_perm ((M'.take k).map (·.2) ++ [rgI n]) fun a b : List Int => decide (a ≤ b)
        rw [← eq4] at pq
        have s9 : Same H8 (upd H8 p4 (.lst ys4)) := same_new np4
        refine ⟨p4, _, rfl, .inl ⟨SqL.of upd_same, fun t nt => ?_⟩⟩
        have s10 := s9.trans (same_new (o := HO.tup ys4) nt)
        refine q (.ref t) qs4 _ (((KeepP.of hx s13).trans k4).trans (k5.same (s58.trans s10))) ⟨n1, n5, by rw [eq4]; exact sorted_pats ndk, fun z hz => hal z (pq.mem_iff.mp hz), pq.mem_iff.mpr (List.mem_append_right _ (List.mem_singleton.mpr rfl)), ?_⟩ (.tup (SqT.of upd_same) (hys4.ext (.of s10)))
        rw [pq.length_eq, List.length_append, List.length_map]
        show (M'.take k).length + 1 ≤ 12
        omega

end
end Fm
namespace Fm
open PySem PySem.Spec PyProof.Rows L2
section
variable {P : Program} {w : World} {K : PySem.W.Frag} {mg : Str → Option Value} {base : Heap}

/-! ### sorted of a tuple of ints -/
/-- the items are taken, laid as a new list, and sorted there -/
theorem sorted_tupI {prog : Program} {w : World} {A : Around} {E : Value → Shared → Prop} {s : Shared} {l : Addr} {vs : List Value} {ns : List Int} {Q : Value → Shared → Prop} (hl : IsTup s.heap l vs.toArray) (hI : IntsAre vs ns) (h64 : vs.length < 64)
    (q : ∀ (D : Addr) (h' : Heap) (out : Array Value) (e : Nat) (ns' : List Int), (∀ b o, s.heap.get? b = some o → h'.get? b = some o) → s.heap.get? D = none → h'.get? D = some (seqObj "list" out e) → IntsAre out.toList ns' → ns'.Perm ns → ns'.Pairwise (· ≤ ·) → Q (.ref D) { s with heap := h' }) :
    wpAny (model prog w) A (call (.builtin "sorted") [.ref l]) Q E s := by
  have few : vs.length ≤ sizeLine := by rw [sizeLine_eq]; omega
  obtain ⟨o, h1, h2, n, h3⟩ := hl
  refine Calls.call_function_entry kind_sorted plain_sorted entry_sorted (args_sorted1 _) ?_
  unfold Builtin.«sorted»
  refine wpAny_bind (m := checkCount "sorted" 1 1 _) (wpAny_pure ?_)
  refine wpAny_bind (wpAny_collect_seq l (.inr rfl) h1 h2 h3 (fun g kg => ?_) (by rw [List.size_toArray]; exact few))
  have old : ∀ b o, s.heap.get? b = some o → b < g.objs.size := fun b o z => Heap.lt_size (kg b o z)
  have new : (g.push (seqObj "list" vs.toArray 0)).get? g.objs.size = some (seqObj "list" vs.toArray 0) := Heap.get?_push_size _ rfl
  refine wpAny_bind (wpAny_newList ?_)
  refine wpAny_bind (wpAny_holding (wpAny_call_entry slot_list_sort ⟨_, new, rfl⟩ entry_list_sort (list_sort_tree (s := { s with heap := g.push (seqObj "list" vs.toArray 0) }) new hI h64 fun out ns' a1 a2 a3 => ⟨_, rfl, ?_⟩) (args_list_sort _)))
  obtain ⟨e, he⟩ := sortedHeap_at (out := out) new
  refine wpAny_pure ⟨_, rfl, q g.objs.size _ out e ns' (fun b o z => ?_) ?_ he a1 a2 a3⟩
  · have lt := old b o z
    rw [sortedHeap_old (Nat.ne_of_lt lt) (by rw [size_push']; exact Nat.lt_succ_of_lt lt), Heap.get?_push_ne _ _ _ (Nat.ne_of_lt lt)]
    exact kg b o z
  · cases z : s.heap.get? g.objs.size with
    | none => rfl
    | some o => exact absurd (old _ o z) (Nat.lt_irrefl _)
/-- sorted(list or tuple of ints) -/
def rSortedTI (K : PySem.W.Frag) : List V → Hp → VK → Prop := fun vs H Q => ∃ (a : Addr) (ns : List Int), vs = [V.ref a] ∧ (SqL K H a (ns.map V.int) ∨ SqT K H a (ns.map V.int)) ∧ ns.length < 64 ∧
  ∀ (ns' : List Int) (p : Addr), ns'.Perm ns → ns'.Pairwise (· ≤ ·) → H p = none → Q (.ref p) (upd H p (.lst (ns'.map V.int)))
theorem call_sortedTI {X : Cx} {K : PySem.W.Frag} (eK : X.K = K := by rfl) : CallR X (.builtin "sorted") (rSortedTI K) := by
  subst eK
  intro pins s σ H vs us Q I r h
  obtain ⟨a, ns, rfl, hs, h64, q⟩ := h
  rcases hs with hs | hs
  · exact cr_sorted pins s σ H _ us Q I r ⟨a, ns, rfl, hs, h64, q⟩
  · obtain ⟨its, rv, hl, _⟩ := I.tuple hs
    rw [Vals.ref1 r]
    have hi := rv.ints
    have hlen : ∀ {ns' : List Int}, ns'.Perm ns → (ns'.map V.int).length ≤ sizeLine := fun p => by rw [List.length_map, p.length_eq]; exact small64 h64
    refine sorted_tupI hl hi (by rw [hi.length]; exact h64) fun D g out e ns' kept hD he a1 a2 a3 => ?_
    have hn : H D = none := by
      cases z : H D with
      | none => rfl
      | some o => exact absurd hD (objOk_there (I.hok D o z))
    obtain ⟨m, hns, _⟩ := id I.loc
    have F : Fr X.base X.env.locals s.heap m := ⟨hns, I.bk, Nat.le_trans I.ok.bsz I.ok.above⟩
    exact ⟨.ref D, upd H D (.lst (ns'.map V.int)), inv_news (t' := s.toks) I (F.kept kept) hns (fun b u _ z => kept b u z) hD hn ⟨hlen a2, out.toList, e, vals_of_ints a1, he⟩, rfl, q ns' D a2 a3 hn⟩

end
end Fm
namespace Fm
open PySem PySem.Spec PyProof.Rows L2
section
variable {P : Program} {w : World} {K : PySem.W.Frag} {mg : Str → Option Value} {base : Heap}

/-! ### _law_ringless -/
/-- what a list of patterns is while columns are put in: those of w stand in it -/
structure Rg (n : Nat) (w : List Int) (ss : List (List Int)) : Prop where
  val : Val ss w
  asc : ∀ p ∈ ss, Asc n (-1) p
  sub : ∀ p ∈ ss, ∀ x ∈ p, x ∈ w
theorem asc_lt {n : Int} : ∀ {l : Int} {p : List Int}, Asc n l p → p.Pairwise (· < ·)
  | _, [], _ => List.Pairwise.nil
  | _, x :: p, ⟨_, _, h3⟩ => List.pairwise_cons.mpr ⟨fun y hy => (h3.mem y hy).1, asc_lt h3⟩
theorem asc_of_lt {n : Int} : ∀ {l : Int} {p : List Int}, p.Pairwise (· < ·) → (∀ x ∈ p, l < x ∧ x < n) → Asc n l p
  | _, [], _, _ => True.intro
  | l, x :: p, pw, h => by
    rw [List.pairwise_cons] at pw
    exact ⟨(h x (List.mem_cons_self ..)).1, (h x (List.mem_cons_self ..)).2, asc_of_lt pw.2 fun y hy => ⟨pw.1 y hy, (h y (List.mem_cons_of_mem _ hy)).2⟩⟩
/-- a sorted row without doubles is the only one -/
theorem sorted_one : ∀ {a b : List Int}, a.Pairwise (· < ·) → b.Pairwise (· < ·) → (∀ x, x ∈ a ↔ x ∈ b) → a = b := fun {a b} ha hb h => by
  have na : a.Nodup := ha.imp fun {x y} h e => by omega
  have nb : b.Nodup := hb.imp fun {x y} h e => by omega
  have pm := (List.perm_ext_iff_of_nodup na nb).mpr h
  exact pm.eq_of_pairwise (fun x y _ _ h1 h2 => by omega) ha hb
theorem put_asc {n : Nat} {c : Int} {p ns : List Int} (hp : Asc n (-1) p) (hc : 0 ≤ c ∧ c < n) (hn : c ∉ p) (pm : ns.Perm (p ++ [c])) (pw : ns.Pairwise (· ≤ ·)) : Asc n (-1) ns ∧ cut1 c ns = p ∧ ∀ x, x ∈ ns ↔ x ∈ p ∨ x = c := by
  have mem : ∀ x, x ∈ ns ↔ x ∈ p ∨ x = c := fun x => by rw [pm.mem_iff, List.mem_append, List.mem_singleton]
  have nd : ns.Nodup := pm.nodup_iff.mpr (List.nodup_append.mpr ⟨asc_nodup5 hp, by simp, fun y hy z hz e => by
    have ez : z = c := by simpa using hz
    rw [e, ez] at hy
    exact hn hy⟩)
  have lt : ns.Pairwise (· < ·) := (pw.and nd).imp fun {x y} ⟨h1, h2⟩ => by omega
  refine ⟨asc_of_lt lt fun x hx => ?_, ?_, mem⟩
  · rcases (mem x).mp hx with u | u
    · have := hp.mem x u
      omega
    · omega
  · refine sorted_one (List.Pairwise.sublist List.filter_sublist lt) (asc_lt hp) fun x => ?_
    rw [mem_cut1, mem x]
    exact ⟨fun ⟨h1, h2⟩ => h1.resolve_right h2, fun h => ⟨.inl h, fun e => hn (e ▸ h)⟩⟩
theorem cut1_self {c : Int} {p : List Int} (h : c ∉ p) : cut1 c p = p := List.filter_eq_self.mpr fun x hx => decide_eq_true fun e => h (e ▸ hx)
structure RgAt (K : PySem.W.Frag) (h g sm : Addr) (n : Nat) (w : List Int) (r so : Addr) (v : List Int) (H : Hp) : Prop where
  pot : PotOk H h g sm
  row : H r = some (.lst (w.map V.int))
  ex : ∃ M : List (Addr × List Int), M.length ≤ 8 ∧ 0 < M.length ∧ H so = some (.lst (M.map fun m => V.ref m.1)) ∧ (∀ m ∈ M, SqT K H m.1 (m.2.map V.int)) ∧ Rg n v (M.map (·.2))
/-- a chain: places of patterns that lie one within another -/
def ChOk (ps : List (List Int)) (L : List Int) : Prop := (∀ k ∈ L, 0 ≤ k ∧ k < ps.length) ∧ L.Nodup ∧ ∀ k ∈ L, ∀ k' ∈ L, sub1 (ps.getD k.toNat []) (ps.getD k'.toNat []) = true ∨ sub1 (ps.getD k'.toNat []) (ps.getD k.toNat []) = true
theorem ChOk.snoc {ps : List (List Int)} {L : List Int} {a : Int} (x : ChOk ps L) (ha : 0 ≤ a ∧ a < ps.length) (hn : a ∉ L) (hf : ∀ k ∈ L, (sub1 (ps.getD k.toNat []) (ps.getD a.toNat []) || sub1 (ps.getD a.toNat []) (ps.getD k.toNat [])) = true) : ChOk ps (L ++ [a]) := by
  refine ⟨fun k hk => ?_, List.nodup_append.mpr ⟨x.2.1, by simp, fun y hy z hz e => ?_⟩, fun k hk k' hk' => ?_⟩
  · rcases List.mem_append.mp hk with u | u
    · exact x.1 k u
    · rw [List.mem_singleton.mp u]
      exact ha
  · have ez : z = a := by simpa using hz
    rw [e, ez] at hy
    exact hn hy
  · rcases List.mem_append.mp hk with u | u
    · rcases List.mem_append.mp hk' with u' | u'
      · exact x.2.2 k u k' u'
      · rw [List.mem_singleton.mp u']
        have z := hf k u
        rw [Bool.or_eq_true] at z
        exact z
    · rw [List.mem_singleton.mp u]
      rcases List.mem_append.mp hk' with u' | u'
      · have z := hf k' u'
        rw [Bool.or_eq_true] at z
        exact z.symm
      · rw [List.mem_singleton.mp u']
        exact .inl (sub1_iff.mpr fun x hx => hx)
/-- the patterns with c put into those of the chain -/
structure RgPut (n : Nat) (c : Int) (ps : List (List Int)) (L : List Int) (ps' : List (List Int)) : Prop where
  len : ps'.length = ps.length
  at' : ∀ (i : Nat) p p', ps[i]? = some p → ps'[i]? = some p' → ((i : Int) ∈ L → Asc n (-1) p' ∧ cut1 c p' = p ∧ ∀ x, x ∈ p' ↔ x ∈ p ∨ x = c) ∧ ((i : Int) ∉ L → p' = p)
theorem RgPut.rg {n : Nat} {c : Int} {v : List Int} {ps ps' : List (List Int)} {L : List Int} (x : RgPut n c ps L ps') (ch : ChOk ps L) (r : Rg n v ps) (hc : c ∉ v) : Rg n (c :: v) ps' := by
  have back : ∀ p' ∈ ps', ∃ (i : Nat) (p : List Int), ps[i]? = some p ∧ ps'[i]? = some p' ∧ p ∈ ps ∧ ps.getD i [] = p := fun p' hp' => by
    obtain ⟨i, hi, e⟩ := List.mem_iff_getElem.mp hp'
    have hl := x.len
    have h1 := List.getElem?_eq_getElem (l := ps) (i := i) (by omega)
    exact ⟨i, _, h1, by rw [← e]; exact List.getElem?_eq_getElem hi, List.getElem_mem _, by rw [List.getD_eq_getElem?_getD, h1]; rfl⟩
  have no : ∀ p ∈ ps, c ∉ p := fun p hp h => hc (r.sub p hp c h)
  have est : strk c ps' = ps := by
    unfold strk
    refine List.ext_getElem (by rw [List.length_map]; exact x.len) fun i h1 h2 => ?_
    rw [List.length_map] at h1
    rw [List.getElem_map]
    obtain ⟨a1, a2⟩ := x.at' i _ _ (List.getElem?_eq_getElem h2) (List.getElem?_eq_getElem h1)
    by_cases hi : (i : Int) ∈ L
    · exact (a1 hi).2.1
    · rw [a2 hi]
      exact cut1_self (no _ (List.getElem_mem _))
  refine ⟨⟨fun p' hp' q' hq' cp cq => ?_, by rw [est]; exact r.val⟩, fun p' hp' => ?_, fun p' hp' y hy => ?_⟩
  · obtain ⟨i, p, i1, i2, i3, i4⟩ := back p' hp'
    obtain ⟨j, q, j1, j2, j3, j4⟩ := back q' hq'
    obtain ⟨a1, a2⟩ := x.at' i p p' i1 i2
    obtain ⟨b1, b2⟩ := x.at' j q q' j1 j2
    have hi : (i : Int) ∈ L := by
      by_cases u : (i : Int) ∈ L
      · exact u
      · rw [a2 u] at cp
        exact absurd cp (no p i3)
    have hj : (j : Int) ∈ L := by
      by_cases u : (j : Int) ∈ L
      · exact u
      · rw [b2 u] at cq
        exact absurd cq (no q j3)
    have z := ch.2.2 _ hi _ hj
    rw [Int.toNat_natCast, Int.toNat_natCast, i4, j4] at z
    have lift : ∀ {p q p' q' : List Int}, (∀ x, x ∈ p' ↔ x ∈ p ∨ x = c) → (∀ x, x ∈ q' ↔ x ∈ q ∨ x = c) → sub1 p q = true → sub1 p' q' = true := fun {p q p' q'} m1 m2 hs => sub1_iff.mpr fun y hy => by
      rcases (m1 y).mp hy with u | u
      · exact (m2 y).mpr (.inl (sub1_iff.mp hs y u))
      · exact (m2 y).mpr (.inr u)
    exact z.imp (lift (a1 hi).2.2 (b1 hj).2.2) (lift (b1 hj).2.2 (a1 hi).2.2)
  · obtain ⟨i, p, i1, i2, i3, _⟩ := back p' hp'
    obtain ⟨a1, a2⟩ := x.at' i p p' i1 i2
    by_cases u : (i : Int) ∈ L
    · exact (a1 u).1
    · rw [a2 u]
      exact r.asc p i3
  · obtain ⟨i, p, i1, i2, i3, _⟩ := back p' hp'
    obtain ⟨a1, a2⟩ := x.at' i p p' i1 i2
    by_cases u : (i : Int) ∈ L
    · rcases ((a1 u).2.2 y).mp hy with v | v
      · exact List.mem_cons_of_mem _ (r.sub p i3 y v)
      · rw [v]
        exact List.mem_cons_self ..
    · rw [a2 u] at hy
      exact List.mem_cons_of_mem _ (r.sub p i3 y hy)
def spRg (K : PySem.W.Frag) : Sp := fun vs H Q _ => ∃ (h g s : Addr) (n : Nat), vs = [.ref h, .int n, .int 8] ∧ PotOk H h g s ∧ 1 ≤ n ∧ n ≤ 5 ∧ ∀ t v1 v2 ps r H', KeepP h g s H H' → SqT K H' t [v1, v2] → Dh K H' v1 (patsD ps) → LsS n ps → Dh K H' v2 (ctD r) → r ∈ ords n (partL n ps) (rgI n) → Q (.ref t) H'
theorem ok_law_ringless (T : Txt K mg) : FnOk P w K mg base CX0 3 T.f_law_ringless T.d_law_ringless ["pot", "columns", "most"] (spRg K) := by
  refine T.F_law_ringless.ok sc_law_ringless (fun vs H Q E h => ?_) (fun cdv A outer s H vs Q E hr h => ?_)
  · obtain ⟨_, _, _, _, rfl, _⟩ := h
    rfl
  · obtain ⟨h, g, sm, n, rfl, hx, n1, n5, q⟩ := h
    refine ⟨_, (pss_cons (ps_set (i := 3) sc_law_ringless.nd rfl (.inl rfl) (pe_call (ok_law_mixed T) hr (by rfl) T.g_law_mixed T.F_law_mixed.kp T.b_law_mixed .nil pass0 (pa_cons (pv 0) (pa_cons (pe_listRg rfl (by rfl) T.z_list (prg_1 (by rfl) T.z_range (pv 1))) pa_nil))))
      (pss_cons (ps_set (i := 4) sc_law_ringless.nd rfl (.inr rfl) (pe_op op_rep (pe_lst (pa_cons (pe_tup pa_nil) pa_nil)) (pe_op op_add pe_int (pe_call (ok_law_draw T) (hr.mono (by decide)) (by rfl) T.g_law_draw T.F_law_draw.kp T.b_law_draw .nil pass0 (pa_cons (pv 0) (pa_cons (pv 2) pa_nil))))))
      (pss_cons (ps_for PassesOwn.never rfl (pi_listK K (pe_revL (pv 3))) (pg_name (i := 5) sc_law_ringless.nd rfl (.inl rfl)) (pss_cons (ps_set (i := 7) sc_law_ringless.nd rfl (.inl rfl) (pe_lst pa_nil))
      (pss_cons (ps_for PassesOwn.never rfl (pi_listK K (pe_call (ok_law_mixed T) hr (by rfl) T.g_law_mixed T.F_law_mixed.kp T.b_law_mixed .nil pass0 (pa_cons (pv 0) (pa_cons (pe_listRg rfl (by rfl) T.z_list (prg_1 (by rfl) T.z_range (pe_callB (call_lenK K) (by rfl) T.z_len PySem.boot_len (pa_cons (pv 4) pa_nil)))) pa_nil)))) (pg_name (i := 8) sc_law_ringless.nd rfl (.inr rfl)) (pss_cons (ps_setLc (i := 9) (own := [("k", 10)]) rfl sc_law_ringless.nd rfl rfl (sw_true rfl rfl rfl (by decide +kernel)) (pi_listK K (pv 7)) (blkOk_by (N := N_law_ringless) (sc := defScope s_law_ringless) (by decide +kernel)) (fun _ _ _ _ _ => (pg_name (i := 10) sc_law_ringless.nd rfl (.inl rfl))) (fun _ _ _ _ _ => pts_nil) (fun _ _ _ _ _ => (pe_or (pe_call (ok_law_inside T) (hr.mono (by decide)) (by rfl) T.g_law_inside T.F_law_inside.kp T.b_law_inside .nil pass0 (pa_cons (pe_ix (ix_listK K) (pv 4) (pv 10) (fun _ _ => rfl)) (pa_cons (pe_ix (ix_listK K) (pv 4) (pv 8) (fun _ _ => rfl)) pa_nil))) (pe_one (pe_call (ok_law_inside T) (hr.mono (by decide)) (by rfl) T.g_law_inside T.F_law_inside.kp T.b_law_inside .nil pass0 (pa_cons (pe_ix (ix_listK K) (pv 4) (pv 8) (fun _ _ => rfl)) (pa_cons (pe_ix (ix_listK K) (pv 4) (pv 10) (fun _ _ => rfl)) pa_nil)))))))
      (pss_one (ps_if (PW.pt (pw_and (pt_val (pe_callB (call_allK (K := K) rfl) (by rfl) T.z_all (by decide +kernel) (pa_cons (pv 9) pa_nil))) (pw_and1 (pt_cmpR op_gt (pe_call (ok_law_draw T) (hr.mono (by decide)) (by rfl) T.g_law_draw T.F_law_draw.kp T.b_law_draw .nil pass0 (pa_cons (pv 0) (pa_cons pe_int pa_nil))) pe_int (nomark _))))) (pss_one (ps_expr (pe_bm PySem.F.plainAttrs_list PySem.F.slot_list_append PySem.F.type_list_append mt_append (pv 7) (pa_cons (pv 8) pa_nil)))) pss_nil))))
      (pss_one (ps_for PassesOwn.never rfl (pi_listK K (pv 7)) (pg_name (i := 8) sc_law_ringless.nd rfl (.inr rfl)) (pss_one (ps_asg (pe_callTy (call_tupleK K) (by rfl) T.z_tuple (by decide +kernel) (pa_cons (pe_callB (call_sortedTI (K := K)) (by rfl) T.z_sorted (by decide +kernel) (pa_cons (pe_op (op_catK K) (pe_ix (ix_listK K) (pv 4) (pv 8) (fun _ _ => rfl)) (pe_tup (pa_cons (pv 5) pa_nil))) pa_nil)) pa_nil)) (pg_sub (pv 4) (pv 8) set_list))))))))
      (pss_cons (ps_set (i := 6) sc_law_ringless.nd rfl (.inl rfl) (pe_tupRg rfl (by rfl) T.z_tuple (prg_1 (by rfl) T.z_range (pv 1))))
      (pss_one (ps_ret (pe_tup (pa_cons (pe_callTy (call_tupleK K) (by rfl) T.z_tuple (by decide +kernel) (pa_cons (pe_callB (call_sortSU (K := K) (P := P) (w := w) rfl hr.units) (by rfl) T.z_sorted (by decide +kernel) (pa_cons (pe_callTy (call_setOfTK (K := K) (P := P) (w := w) rfl hr.units) (by rfl) T.z_set (by decide +kernel) (pa_cons (pe_op op_cat (pv 4) (pe_lst (pa_cons (pv 6) pa_nil))) pa_nil)) pa_nil)) pa_nil)) (pa_cons (pe_callTy (call_tupleK K) (by rfl) T.z_tuple (by decide +kernel) (pa_cons (pv 3) pa_nil)) pa_nil))))))))), ?_⟩
    have n0 : (0 : Int) ≤ n := by omega
    refine ⟨_, rfl, _, rfl, (n : Int), rfl, RgOk.of_le (by omega) (by omega) (by omega) (by omega), fun rl nrl => ?_⟩
    rw [rgV_I]
    have s1 : Same H (upd H rl (.lst ((rgI n).map V.int))) := same_new nrl
    have hrl : (upd H rl (.lst ((rgI n).map V.int))) rl = some (.lst ((rgI n).map V.int)) := upd_same
    generalize upd H rl (.lst ((rgI n).map V.int)) = H1 at s1 hrl ⊢
    have hx1 := hx.same s1
    refine ⟨h, g, sm, rl, _, rfl, hx1, SqL.of hrl, by rw [List.length_map, rgI_len]; omega, fun r ys H2 nr k2 hr2 pm => ?_⟩
    obtain ⟨wl, pw, rfl⟩ := perm_map_inv pm (rgI n) rfl
    have hwl : wl.length = n := by rw [pw.length_eq, rgI_len]
    have hwn : wl.Nodup := pw.nodup_iff.mpr (rgI_nodup n)
    have hwm : ∀ c ∈ wl, 0 ≤ c ∧ c < n := fun c hc => by
      have z := (asc_rgI n).mem c (pw.mem_iff.mp hc)
      omega
    obtain ⟨rh, rg, _⟩ := hx1.ne nr
    clear pm
    dsimp only [tNext, tSeq, tAsg, gName, List.set_cons_succ, List.set_cons_zero]
    refine ⟨by show 0 ≤ sizeLine; decide, fun e0 ne0 => ⟨by show 1 ≤ sizeLine; decide, fun l0 nl0 => ?_⟩⟩
    have s3 : Same H2 (upd H2 e0 (.tup [])) := same_new ne0
    have he0 : (upd H2 e0 (.tup [])) e0 = some (.tup []) := upd_same
    generalize upd H2 e0 (.tup []) = H3 at s3 he0 nl0 ⊢
    have s4 : Same H3 (upd H3 l0 (.lst [.ref e0])) := same_new nl0
    have hl0 : (upd H3 l0 (.lst [.ref e0])) l0 = some (.lst [.ref e0]) := upd_same
    generalize upd H3 l0 (.lst [.ref e0]) = H4 at s4 hl0 ⊢
    have s24 := s3.trans s4
    have k4 := k2.same s24
    obtain ⟨l0h, l0g, _⟩ := (k2.same s3).pot.ne nl0
    have he4 := s4 _ _ he0
    refine ⟨_, rfl, _, rfl, h, g, sm, 8, rfl, k4.pot, by decide, by decide, fun dd H5 d0 d1 k5 => ⟨_, _, rfl, rfl, ?_⟩⟩
    have hl5 := k5.rest l0 _ l0h l0g hl0
    have e0h : e0 ≠ h ∧ e0 ≠ g := by
      obtain ⟨a1, a2, _⟩ := k2.pot.ne ne0
      exact ⟨a1, a2⟩
    have he5 := k5.rest e0 _ e0h.1 e0h.2 he4
    have hr5 := k5.rest r _ rh rg (s24 _ _ hr2)
    refine ⟨l0, _, _, rfl, rfl, hl5, by omega, by omega, Nat.le_of_lt (sz_small (by show 1 * (1 + dd).toNat ≤ 100000; omega)), fun so nso => ?_⟩
    have erep : (List.replicate (1 + dd).toNat [V.ref e0]).flatten = (List.replicate (1 + dd).toNat ((e0, []) : Addr × List Int)).map fun m => V.ref m.1 := by
      rw [List.flatten_replicate_singleton, List.map_replicate]
    rw [erep]
    have s6 : Same H5 (upd H5 so (.lst ((List.replicate (1 + dd).toNat ((e0, []) : Addr × List Int)).map fun m => V.ref m.1))) := same_new nso
    have hso : (upd H5 so (.lst ((List.replicate (1 + dd).toNat ((e0, []) : Addr × List Int)).map fun m => V.ref m.1))) so = some (.lst ((List.replicate (1 + dd).toNat ((e0, []) : Addr × List Int)).map fun m => V.ref m.1)) := upd_same
    generalize upd H5 so (.lst ((List.replicate (1 + dd).toNat ((e0, []) : Addr × List Int)).map fun m => V.ref m.1)) = H6 at s6 hso ⊢
    obtain ⟨soh, sog, _⟩ := k5.pot.ne nso
    have sor : so ≠ r := fun e => by
      rw [e, hr5] at nso
      cases nso
    have rg0 : RgAt K h g sm n wl r so [] H6 := ⟨k5.pot.same s6, s6 _ _ hr5, _, by rw [List.length_replicate]; omega, by rw [List.length_replicate]; omega, hso, fun m hm => by
      rw [(List.mem_replicate.mp hm).2]
      exact SqT.of (s6 _ _ he5), ⟨True.intro, fun p hp => by
        obtain ⟨m, hm, rfl⟩ := List.mem_map.mp hp
        rw [(List.mem_replicate.mp hm).2]
        exact True.intro, fun p hp y hy => by
        obtain ⟨m, hm, rfl⟩ := List.mem_map.mp hp
        rw [(List.mem_replicate.mp hm).2] at hy
        cases hy⟩⟩
    have nso0 : H so = none := by
      have z : H5 so = none := nso
      cases e : H so with
      | none => rfl
      | some o =>
        have y := k5.rest so o soh sog (s24 _ _ (k2.rest so o soh sog (s1 _ _ e)))
        rw [z] at y
        cases y
    have k06 : KeepP h g sm H H6 := (((KeepP.of hx s1).trans k2).same s24).trans (k5.same s6)
    clear hso erep hl5 he5 he4 hl0 he0 s3 s4 s24 k4 k2 k5 s6 hr5 hr2 hx1 s1 hrl nrl nso l0h l0g e0h
    dsimp only [tNext, tSeq, tAsg, gName, List.set_cons_succ, List.set_cons_zero]
    refine ⟨_, rfl, r, _, rfl, SqL.of rg0.row, fun rv nrv => ?_⟩
    have s7 : Same H6 (upd H6 rv (.lst (wl.map V.int).reverse)) := same_new nrv
    have hrv : (upd H6 rv (.lst (wl.map V.int).reverse)) rv = some (.lst (wl.map V.int).reverse) := upd_same
    obtain ⟨rvh, rvg, _⟩ := rg0.pot.ne nrv
    have rvso : rv ≠ so := fun e => by
      obtain ⟨M, _, _, hm, _⟩ := rg0.ex
      rw [e, hm] at nrv
      cases nrv
    have nrv0 : H rv = none := by
      cases e : H rv with
      | none => rfl
      | some o =>
        have y := k06.rest rv o rvh rvg e
        rw [nrv] at y
        cases y
    have rg7 : RgAt K h g sm n wl r so [] (upd H6 rv (.lst (wl.map V.int).reverse)) := by
      obtain ⟨M, m1, m2, m3, m4, m5⟩ := rg0.ex
      exact ⟨rg0.pot.same s7, s7 _ _ rg0.row, M, m1, m2, s7 _ _ m3, fun m hm => (Ext.of s7).sqT (m4 m hm), m5⟩
    have k07 := k06.same s7
    generalize upd H6 rv (.lst (wl.map V.int).reverse) = H7 at s7 hrv rg7 k07 ⊢
    clear rg0 k06 s7 nrv
    rw [← List.map_reverse] at hrv
    refine ⟨rv, rfl, ⟨_, SqL.of hrv⟩, for_list (K := K) (a := rv) (xs := wl.reverse.map V.int) (fun i σ H' => ∃ y5 y6 y7 y8 y9 y10 : Option V, σ = [some (.ref h), some (.int n), some (.int 8), some (.ref r), some (.ref so), y5, y6, y7, y8, y9, y10] ∧ KeepP h g sm H H' ∧ H' rv = some (.lst (wl.reverse.map V.int)) ∧ RgAt K h g sm n wl r so (wl.drop (n - i)) H')
      ⟨_, _, _, _, _, _, rfl, k07, hrv, by rw [Nat.sub_zero, List.drop_eq_nil_of_le (by omega)]; exact rg7⟩ (fun i σ H' _ ⟨_, _, _, _, _, _, _, _, z, _⟩ => SqL.of z) ?_ ?_⟩
    · clear rg7 k07 hrv H7
      rintro i x σ HA hxi ⟨y5, y6, y7, y8, y9, y10, rfl, kA, hrvA, rgA⟩
      rw [List.getElem?_map] at hxi
      obtain ⟨c, hci, rfl⟩ := Option.map_eq_some_iff.mp hxi
      have hi : i < n := by
        have := (List.getElem?_eq_some_iff.mp hci).1
        rw [List.length_reverse] at this
        omega
      have hdr : wl.drop (n - (i + 1)) = c :: wl.drop (n - i) := by
        have hl : n - (i + 1) < wl.length := by omega
        rw [List.drop_eq_getElem_cons hl, show n - (i + 1) + 1 = n - i by omega]
        congr 1
        rw [List.getElem?_reverse (by omega)] at hci
        rw [show wl.length - 1 - i = n - (i + 1) by omega, List.getElem?_eq_getElem hl] at hci
        exact Option.some.inj hci
      have hcv : c ∉ wl.drop (n - i) := by
        have z : (c :: wl.drop (n - i)).Nodup := hdr ▸ List.Nodup.sublist (List.drop_sublist _ _) hwn
        exact (List.nodup_cons.mp z).1
      have hcw : c ∈ wl := by
        have z : c ∈ wl.drop (n - (i + 1)) := hdr ▸ List.mem_cons_self ..
        exact List.mem_of_mem_drop z
      obtain ⟨potA, rowA, M, m1, m2, m3, m4, m5⟩ := id rgA
      dsimp only [tNext, tSeq, tAsg, gName, List.set_cons_succ, List.set_cons_zero]
      refine ⟨Nat.zero_le _, fun ch nch => ?_⟩
      have sB : Same HA (upd HA ch (.lst [])) := same_new nch
      have hch : (upd HA ch (.lst [])) ch = some (.lst []) := upd_same
      obtain ⟨chh, chg, chs⟩ := potA.ne nch
      generalize upd HA ch (.lst []) = HB at sB hch ⊢
      have soch : so ≠ ch := fun e => by
        rw [← e, m3] at nch
        cases nch
      refine ⟨_, rfl, _, rfl, so, _, rfl, .inl (SqL.of (sB _ _ m3)), _, rfl, RgOk.of_le (by omega) (by rw [List.length_map]; omega) (by omega) (by omega), fun r2 nr2 => ?_⟩
      rw [List.length_map, rgV_I]
      have sC : Same HB (upd HB r2 (.lst ((rgI M.length).map V.int))) := same_new nr2
      have hr2 : (upd HB r2 (.lst ((rgI M.length).map V.int))) r2 = some (.lst ((rgI M.length).map V.int)) := upd_same
      generalize upd HB r2 (.lst ((rgI M.length).map V.int)) = HC at sC hr2 ⊢
      have potC := (potA.same sB).same sC
      refine ⟨h, g, sm, r2, _, rfl, potC, SqL.of hr2, by rw [List.length_map, rgI_len]; omega, fun mx ys HD nmx kD hmx pmx => ?_⟩
      obtain ⟨W, pW, rfl⟩ := perm_map_inv pmx (rgI M.length) rfl
      have hWn : W.Nodup := pW.nodup_iff.mpr (rgI_nodup _)
      have hWm : ∀ k ∈ W, 0 ≤ k ∧ k < (M.map (·.2)).length := fun k hk => by
        have z := (asc_rgI M.length).mem k (pW.mem_iff.mp hk)
        rw [List.length_map]
        omega
      obtain ⟨mxh, mxg, _⟩ := potC.ne nmx
      have hchD := kD.rest ch _ chh chg (sC _ _ hch)
      have mxch : mx ≠ ch := fun e => by
        have z := sC _ _ hch
        rw [← e, nmx] at z
        cases z
      have kAD : KeepP h g sm HA HD := (KeepP.of potA (sB.trans sC)).trans kD
      clear sC hr2 nr2 pmx kD potC nmx
      refine ⟨mx, rfl, ⟨_, SqL.of hmx⟩, for_list (K := K) (a := mx) (xs := W.map V.int) (fun t σ H' => ∃ (y8 y9 y10 : Option V) (L : List Int), σ = [some (.ref h), some (.int n), some (.int 8), some (.ref r), some (.ref so), some (.int c), y6, some (.ref ch), y8, y9, y10] ∧ KeepP h g sm HA H' ∧ H' mx = some (.lst (W.map V.int)) ∧ H' ch = some (.lst (L.map V.int)) ∧ ChOk (M.map (·.2)) L ∧ ∀ k ∈ L, k ∈ W.take t)
        ⟨_, _, _, [], rfl, kAD, hmx, hchD, ⟨fun k hk => (by cases hk), List.nodup_nil, fun k hk => (by cases hk)⟩, fun k hk => (by cases hk)⟩ (fun t σ H' _ ⟨_, _, _, _, _, _, z, _⟩ => SqL.of z) ?_ ?_⟩
      · rintro t x σ H' hxt ⟨y8, y9, y10, L, rfl, k, hmx', hch', ck, hLt⟩
        rw [List.getElem?_map] at hxt
        obtain ⟨a, hat, rfl⟩ := Option.map_eq_some_iff.mp hxt
        have ham : a ∈ W := List.mem_of_getElem? hat
        have haL : a ∉ L := fun hm => by
          have z := hLt a hm
          obtain ⟨q, hq, e⟩ := List.mem_iff_getElem.mp z
          rw [List.getElem_take] at e
          have hq1 : q < t := by
            have := List.length_take (i := t) (l := W)
            omega
          have hq2 : q < W.length := by
            have := List.length_take (i := t) (l := W)
            omega
          obtain ⟨ht, e1⟩ := List.getElem?_eq_some_iff.mp hat
          have : q = t := (List.getElem_inj (h₀ := hq2) (h₁ := ht) hWn).mp (e.trans e1.symm)
          omega
        have hso' := k.rest so _ soh sog m3
        have eA := k.ext potA
        have ent : ∀ z : Int, 0 ≤ z ∧ z < (M.map (·.2)).length → ∃ m ∈ M, atI (M.map fun m => V.ref m.1) z = some (.ref m.1) ∧ (M.map (·.2)).getD z.toNat [] = m.2 := fun z hz => by
          rw [List.length_map] at hz
          have hz2 : z.toNat < M.length := by omega
          refine ⟨M[z.toNat], List.getElem_mem _, at_of (j := z.toNat) (by omega) ?_, ?_⟩
          · rw [List.getElem?_map, List.getElem?_eq_getElem hz2]
            rfl
          · rw [List.getD_eq_getElem?_getD, List.getElem?_map, List.getElem?_eq_getElem hz2]
            rfl
        obtain ⟨ma, ma1, ma2, ma3⟩ := ent a (hWm a ham)
        have plen : ∀ m ∈ M, m.2.length ≤ 1000 := fun m hm => by
          have := (m5.asc m.2 (List.mem_map_of_mem (f := fun m : Addr × List Int => m.2) hm)).len (by omega)
          omega
        have hLl : L.length ≤ 8 := by
          have z := nodup_len L (rgI M.length) ck.2.1 fun y hy => pW.mem_iff.mp (List.mem_of_mem_take (hLt y hy))
          rw [rgI_len] at z
          omega
        dsimp only [tNext, tSeq, tAsg, gName, List.set_cons_succ, List.set_cons_zero]
        refine ⟨_, rfl, ch, rfl, ⟨_, SqL.of hch'⟩, fun D nD => lc_list (K := K) (xs := L.map V.int) (fun j H2 => Same H' H2 ∧ H2 D = some (.lst (((L.take j).map fun k => sub1 ((M.map (·.2)).getD k.toNat []) ma.2 || sub1 ma.2 ((M.map (·.2)).getD k.toNat [])).map V.bl))) ⟨same_new nD, upd_same⟩ (fun j H2 _ ⟨s', _⟩ => SqL.of (s' _ _ hch')) ?_ ?_⟩
        · rintro j x H2 hxj ⟨s2, hD2⟩
          rw [List.getElem?_map] at hxj
          obtain ⟨kk, hkk, rfl⟩ := Option.map_eq_some_iff.mp hxj
          obtain ⟨mk, mk1, mk2, mk3⟩ := ent kk (ck.1 kk (List.mem_of_getElem? hkk))
          have hso2 := s2 _ _ hso'
          have dk := dh_ct ((Ext.of s2).sqT (eA.sqT (m4 mk mk1)))
          have da := dh_ct ((Ext.of s2).sqT (eA.sqT (m4 ma ma1)))
          have hkl : (((L.take j).map fun k => sub1 ((M.map (·.2)).getD k.toNat []) ma.2 || sub1 ma.2 ((M.map (·.2)).getD k.toNat [])).map V.bl).length ≤ 1000 := by
            rw [List.length_map, List.length_map]
            have := List.length_take (i := j) (l := L)
            omega
          have hf : ((L.take (j + 1)).map fun k => sub1 ((M.map (·.2)).getD k.toNat []) ma.2 || sub1 ma.2 ((M.map (·.2)).getD k.toNat [])).map V.bl = ((L.take j).map fun k => sub1 ((M.map (·.2)).getD k.toNat []) ma.2 || sub1 ma.2 ((M.map (·.2)).getD k.toNat [])).map V.bl ++ [.bl (sub1 mk.2 ma.2 || sub1 ma.2 mk.2)] := by
            rw [List.take_add_one, hkk, List.map_append, List.map_append]
            show _ ++ [V.bl (sub1 ((M.map (·.2)).getD kk.toNat []) ma.2 || sub1 ma.2 ((M.map (·.2)).getD kk.toNat []))] = _
            rw [mk3]
          refine ⟨rfl, ?_⟩
          dsimp only [tYes]
          rw [if_pos rfl]
          refine ⟨_, rfl, _, rfl, so, _, kk, _, rfl, rfl, SqL.of hso2, mk2, _, rfl, _, rfl, so, _, a, _, rfl, rfl, SqL.of hso2, ma2, _, _, mk.2, ma.2, rfl, dk, da, plen mk mk1, fun H3 s3 => ⟨_, rfl, ?_⟩⟩
          cases e1 : sub1 mk.2 ma.2 with
          | true =>
            rw [e1, Bool.true_or] at hf
            dsimp only
            rw [if_pos rfl]
            refine ⟨_, s3 _ _ hD2, sz_small (by omega), Same.put nD (s2.trans s3), ?_⟩
            rw [hf]
            exact upd_same
          | false =>
            rw [e1, Bool.false_or] at hf
            dsimp only
            rw [if_neg (by decide)]
            have hso3 := s3 _ _ hso2
            refine ⟨_, rfl, _, rfl, so, _, a, _, rfl, rfl, SqL.of hso3, ma2, _, rfl, _, rfl, so, _, kk, _, rfl, rfl, SqL.of hso3, mk2, _, _, ma.2, mk.2, rfl, da.ext (.of s3), dk.ext (.of s3), plen ma ma1, fun H4 s4 => ?_⟩
            have s34 := s3.trans s4
            refine ⟨_, s34 _ _ hD2, sz_small (by omega), Same.put nD (s2.trans s34), ?_⟩
            rw [hf]
            exact upd_same
        · rintro H2 ⟨s2, hD2⟩
          rw [List.length_map, List.take_length] at hD2
          have hmx2 := s2 _ _ hmx'
          have hch2 := s2 _ _ hch'
          have k2 := k.same s2
          have sub' : ∀ y ∈ L, y ∈ W.take (t + 1) := fun y hy => by
            rw [List.take_add_one]
            exact List.mem_append_left _ (hLt y hy)
          refine ⟨_, rfl, D, _, rfl, SqL.of hD2, _, rfl, ?_⟩
          cases ea : (L.map fun k => sub1 ((M.map (·.2)).getD k.toNat []) ma.2 || sub1 ma.2 ((M.map (·.2)).getD k.toNat [])).all id with
          | false =>
            refine iteF ?_
            exact iteF ⟨_, _, _, L, rfl, k2, hmx2, hch2, ck, sub'⟩
          | true =>
            refine iteT ?_
            refine ⟨_, rfl, h, g, sm, 3, rfl, k2.pot, by decide, by decide, fun dr H3 dr0 dr1 k3 => ⟨_, _, rfl, rfl, _, rfl, ?_⟩⟩
            have hmx3 := k3.rest mx _ mxh mxg hmx2
            have hch3 := k3.rest ch _ chh chg hch2
            have k23 := k2.trans k3
            refine ite2 (fun _ => ?_) (fun _ => ?_)
            · refine ⟨_, rfl, .inl ⟨rfl, _, SqL.of hch3⟩, _, rfl, ch, _, _, rfl, rfl, hch3, sz_small (by rw [List.length_map]; omega), ?_⟩
              have nA : HA ch = none := nch
              refine ⟨_, _, _, L ++ [a], rfl, ⟨fun b u b1 b2 e => ?_, ?_⟩, ?_, ?_, ck.snoc (hWm a ham) haL (fun kk hkk => ?_), fun y hy => ?_⟩
              · have nb : b ≠ ch := fun z => by
                  rw [z, nA] at e
                  cases e
                rw [upd_ne nb]
                exact k23.rest b u b1 b2 e
              · obtain ⟨tt, tot, gs, ss, e1, e2, e3, rr⟩ := k23.pot.ex
                refine ⟨tt, tot, gs, ss, ?_, ?_, ?_, rr⟩
                · rw [upd_ne chh.symm]
                  exact e1
                · rw [upd_ne chg.symm]
                  exact e2
                · rw [upd_ne chs.symm]
                  exact e3
              · rw [upd_ne mxch]
                exact hmx3
              · rw [upd_same, List.map_append]
                rfl
              · rw [List.all_map, List.all_eq_true] at ea
                have z := ea kk hkk
                rw [ma3]
                exact z
              · rw [List.take_add_one, hat]
                rcases List.mem_append.mp hy with u | u
                · exact List.mem_append_left _ (hLt y u)
                · exact List.mem_append_right _ u
            · exact ⟨_, _, _, L, rfl, k23, hmx3, hch3, ck, sub'⟩
      · rintro σ H' ⟨y8, y9, y10, L, rfl, k, hmx', hch', ck, _⟩
        have hso' := k.rest so _ soh sog m3
        have eA := k.ext potA
        refine ⟨_, rfl, ch, rfl, ⟨_, SqL.of hch'⟩, for_list (K := K) (a := ch) (xs := L.map V.int) (fun t σ H'' => ∃ (y8 : Option V) (M' : List (Addr × List Int)), σ = [some (.ref h), some (.int n), some (.int 8), some (.ref r), some (.ref so), some (.int c), y6, some (.ref ch), y8, y9, y10] ∧ (∀ b o, b ≠ h → b ≠ g → b ≠ so → HA b = some o → H'' b = some o) ∧ PotOk H'' h g sm ∧ H'' ch = some (.lst (L.map V.int)) ∧ H'' so = some (.lst (M'.map fun m => V.ref m.1)) ∧ (∀ m ∈ M', SqT K H'' m.1 (m.2.map V.int)) ∧ RgPut n c (M.map (·.2)) (L.take t) (M'.map (·.2)))
          ⟨_, M, rfl, fun b o b1 b2 _ z => k.rest b o b1 b2 z, k.pot, hch', hso', fun m hm => eA.sqT (m4 m hm), ⟨rfl, fun q p p' h1 h2 => ⟨fun z => (by cases z), fun _ => by
            rw [h1] at h2
            exact (Option.some.inj h2).symm⟩⟩⟩ (fun t σ H'' _ ⟨_, _, _, _, _, z, _⟩ => SqL.of z) ?_ ?_⟩
        · rintro t x σ H2 hxt ⟨y8, M', rfl, kr, kp, hch2, hso2, hS2, rp⟩
          rw [List.getElem?_map] at hxt
          obtain ⟨a, hat, rfl⟩ := Option.map_eq_some_iff.mp hxt
          have ham : a ∈ L := List.mem_of_getElem? hat
          obtain ⟨a0, a1⟩ := ck.1 a ham
          obtain ⟨q, rfl⟩ : ∃ q : Nat, a = (q : Int) := ⟨a.toNat, by omega⟩
          have hl1 := rp.len
          rw [List.length_map, List.length_map] at hl1
          rw [List.length_map] at a1
          have hq1 : q < M.length := by omega
          have hq2 : q < M'.length := by omega
          have hnt : ((q : Nat) : Int) ∉ L.take t := fun z => by
            obtain ⟨u, hu, e⟩ := List.mem_iff_getElem.mp z
            rw [List.getElem_take] at e
            have hu1 : u < t := by
              have := List.length_take (i := t) (l := L)
              omega
            have hu2 : u < L.length := by
              have := List.length_take (i := t) (l := L)
              omega
            obtain ⟨ht, e1⟩ := List.getElem?_eq_some_iff.mp hat
            have : u = t := (List.getElem_inj (h₀ := hu2) (h₁ := ht) ck.2.1).mp (e.trans e1.symm)
            omega
          have g1 : (M.map (·.2))[q]? = some M[q].2 := by rw [List.getElem?_map, List.getElem?_eq_getElem hq1]; rfl
          have g2 : (M'.map (·.2))[q]? = some M'[q].2 := by rw [List.getElem?_map, List.getElem?_eq_getElem hq2]; rfl
          have epq := (rp.at' q _ _ g1 g2).2 hnt
          have hpm : M[q].2 ∈ M.map (·.2) := List.mem_of_getElem? g1
          have hpa := m5.asc _ hpm
          have hpc : c ∉ M[q].2 := fun z => hcv (m5.sub _ hpm c z)
          have hdq := dh_ct (hS2 _ (List.getElem_mem hq2))
          rw [epq] at hdq
          have hpl := hpa.len (by omega)
          dsimp only [tNext, tSeq, tAsg, gName, List.set_cons_succ, List.set_cons_zero]
          refine ⟨_, rfl, _, rfl, so, _, (q : Int), _, rfl, rfl, SqL.of hso2, atI_nat (j := q) (by rw [List.getElem?_map, List.getElem?_eq_getElem hq2]; rfl), _, rfl, by show 1 ≤ sizeLine; decide, fun p1 np1 => ?_⟩
          refine cat_ct (K := K) (c := M[q].2) (j := c) (hdq.ext (.of (same_new np1))) (by omega) upd_same fun v H3 s3 hv => ?_
          have s23 := (same_new np1).trans s3
          obtain ⟨b, rfl, hb⟩ := ct_inv hv
          refine ⟨b, M[q].2 ++ [c], rfl, .inr hb, by rw [List.length_append]; show M[q].2.length + 1 < 64; omega, fun ns p2 pns pwn np2 => ⟨p2, _, rfl, .inl ⟨SqL.of upd_same, fun tt ntt => ?_⟩⟩⟩
          have s25 := (s23.trans (same_new np2)).trans (same_new (o := HO.tup (ns.map V.int)) ntt)
          have htt : (upd (upd H3 p2 (.lst (ns.map V.int))) tt (.tup (ns.map V.int))) tt = some (.tup (ns.map V.int)) := upd_same
          generalize upd (upd H3 p2 (.lst (ns.map V.int))) tt (.tup (ns.map V.int)) = H5 at s25 htt ⊢
          have hso5 := s25 _ _ hso2
          have hch5 := s25 _ _ hch2
          have kp5 := kp.same s25
          refine ⟨_, rfl, _, rfl, so, _, (q : Int), q, rfl, rfl, hso5, ixN_at (by rw [List.length_map]; exact hq2), ?_⟩
          have eset : (M'.map fun m => V.ref m.1).set q (.ref tt) = (M'.set q (tt, ns)).map fun m => V.ref m.1 := by
            rw [List.map_set]
          rw [eset]
          obtain ⟨w1, w2, w3⟩ := put_asc (n := n) hpa (hwm c hcw) hpc pns pwn
          have ep := Ext.put (ys := (M'.set q (tt, ns)).map fun m => V.ref m.1) hso5
          refine ⟨_, M'.set q (tt, ns), rfl, fun b2 o b3 b4 b5 z => ?_, ?_, ?_, upd_same, fun m hm => ?_, ?_⟩
          · rw [upd_ne b5]
            exact s25 _ _ (kr b2 o b3 b4 b5 z)
          · obtain ⟨ti, tot, gs, ss, e1, e2, e3, rr⟩ := kp5.ex
            have sos : so ≠ sm := by
              obtain ⟨_, _, _, ss', _, _, e3', r1, r2, _⟩ := potA.ex
              intro z
              rw [← z, m3] at e3'
              have y := HO.lst.inj (Option.some.inj e3')
              cases M with
              | nil => simp at m2
              | cons m M =>
                cases ss' with
                | nil => simp at r2
                | cons u ss' =>
                  rw [List.map_cons, List.map_cons] at y
                  injection y with y1 _
                  cases y1
            refine ⟨ti, tot, gs, ss, ?_, ?_, ?_, rr⟩
            · rw [upd_ne soh.symm]
              exact e1
            · rw [upd_ne sog.symm]
              exact e2
            · rw [upd_ne sos.symm]
              exact e3
          · rw [upd_ne soch.symm]
            exact hch5
          · rcases List.mem_or_eq_of_mem_set hm with u | u
            · exact ep.sqT ((Ext.of s25).sqT (hS2 m u))
            · rw [u]
              exact ep.sqT (SqT.of htt)
          · refine ⟨by rw [List.length_map, List.length_set, List.length_map]; exact hl1, fun i' p p' h1 h2 => ?_⟩
            rw [List.take_add_one, hat]
            rw [List.getElem?_map] at h2
            by_cases ei : i' = q
            · subst ei
              rw [List.getElem?_set_self hq2] at h2
              have h2 : ns = p' := Option.some.inj h2
              subst h2
              rw [g1] at h1
              have h1 : M[i'].2 = p := Option.some.inj h1
              subst h1
              exact ⟨fun _ => ⟨w1, w2, w3⟩, fun z => absurd (List.mem_append_right _ (by simp)) z⟩
            · rw [List.getElem?_set_ne (fun z => ei z.symm), ← List.getElem?_map] at h2
              obtain ⟨r1, r2⟩ := rp.at' i' p p' h1 h2
              have nq : ∀ z : ((i' : Nat) : Int) ∈ L.take t ++ (some ((q : Nat) : Int)).toList, ((i' : Nat) : Int) ∈ L.take t := fun z => by
                rcases List.mem_append.mp z with u | u
                · exact u
                · have : ((i' : Nat) : Int) = (q : Int) := by simpa using u
                  omega
              exact ⟨fun z => r1 (nq z), fun z => r2 fun y => z (List.mem_append_left _ y)⟩
        · rintro σ H2 ⟨y8, M', rfl, kr, kp, hch2, hso2, hS2, rp⟩
          rw [List.length_map, List.take_length] at rp
          have rvA := hrvA
          refine ⟨_, _, _, _, _, _, rfl, ⟨fun b o b1 b2 z => ?_, kp⟩, kr rv _ rvh rvg rvso hrvA, ⟨kp, kr r _ rh rg sor.symm rowA, M', ?_, ?_, hso2, hS2, ?_⟩⟩
          · have nb : b ≠ so := fun y => by
              rw [y, nso0] at z
              cases z
            exact kr b o b1 b2 nb (kA.rest b o b1 b2 z)
          · have := rp.len
            rw [List.length_map, List.length_map] at this
            omega
          · have := rp.len
            rw [List.length_map, List.length_map] at this
            omega
          · rw [hdr]
            exact rp.rg ck m5 hcv
    · rintro σ H' ⟨y5, y6, y7, y8, y9, y10, rfl, kA, hrvA, rgA⟩
      rw [List.length_map, List.length_reverse, hwl, Nat.sub_self, List.drop_zero] at rgA
      obtain ⟨potA, rowA, M, m1, m2, m3, m4, m5⟩ := rgA
      dsimp only [tNext, tSeq, tAsg, gName, List.set_cons_succ, List.set_cons_zero]
      refine ⟨_, rfl, _, rfl, RgOk.of_le (by omega) (by omega) (by omega) (by omega), fun tw ntw => ?_⟩
      rw [rgV_I]
      have s1 : Same H' (upd H' tw (.tup ((rgI n).map V.int))) := same_new ntw
      have htw : (upd H' tw (.tup ((rgI n).map V.int))) tw = some (.tup ((rgI n).map V.int)) := upd_same
      generalize upd H' tw (.tup ((rgI n).map V.int)) = H1 at s1 htw ⊢
      refine ⟨_, rfl, _, rfl, by show 1 ≤ sizeLine; decide, fun p2 np2 => ?_⟩
      have s2 : Same H1 (upd H1 p2 (.lst [.ref tw])) := same_new np2
      have hp2 : (upd H1 p2 (.lst [.ref tw])) p2 = some (.lst [.ref tw]) := upd_same
      generalize upd H1 p2 (.lst [.ref tw]) = H2 at s2 hp2 ⊢
      refine ⟨so, p2, _, _, rfl, rfl, (s1.trans s2) _ _ m3, hp2, Nat.le_of_lt (sz_small (by rw [List.length_map]; show M.length + 1 ≤ 100000; omega)), fun p3 np3 => ?_⟩
      have eM : (M.map fun m => V.ref m.1) ++ [V.ref tw] = (M ++ [(tw, rgI n)]).map fun m => V.ref m.1 := by
        rw [List.map_append]
        rfl
      rw [eM]
      have s3 : Same H2 (upd H2 p3 (.lst ((M ++ [(tw, rgI n)]).map fun m => V.ref m.1))) := same_new np3
      have hp3 : (upd H2 p3 (.lst ((M ++ [(tw, rgI n)]).map fun m => V.ref m.1))) p3 = some (.lst ((M ++ [(tw, rgI n)]).map fun m => V.ref m.1)) := upd_same
      generalize upd H2 p3 (.lst ((M ++ [(tw, rgI n)]).map fun m => V.ref m.1)) = H3 at s3 hp3 ⊢
      have s13 := (s1.trans s2).trans s3
      have hM3 : ∀ m ∈ M ++ [(tw, rgI n)], SqT K H3 m.1 (m.2.map V.int) := fun m hm => by
        rcases List.mem_append.mp hm with u | u
        · exact (Ext.of s13).sqT (m4 m u)
        · rw [List.mem_singleton.mp u]
          exact SqT.of ((s2.trans s3) _ _ htw)
      dsimp only [tNil]
      refine ⟨p3, M ++ [(tw, rgI n)], rfl, SqL.of hp3, hM3, by rw [List.length_append]; show M.length + 1 < 64; omega, fun sa L nsa hL1 hL2 => ?_⟩
      have s4 := same_new (H := H3) (o := SetTO P w sa L) nsa
      refine ⟨sa, L, rfl, upd_same, (fun p hp => (Ext.of s4).sqT (hM3 p (hL1 p hp))), fun L' p4 pL _ pwL np4 => ?_⟩
      have s5 := s4.trans (same_new (o := HO.lst (L'.map fun m => V.ref m.1)) np4)
      refine ⟨p4, _, rfl, .inl ⟨SqL.of upd_same, fun t1 nt1 => ?_⟩⟩
      have s6 := s5.trans (same_new (o := HO.tup (L'.map fun m => V.ref m.1)) nt1)
      have ht1 : (upd (upd (upd H3 sa (SetTO P w sa L)) p4 (.lst (L'.map fun m => V.ref m.1))) t1 (.tup (L'.map fun m => V.ref m.1))) t1 = some (.tup (L'.map fun m => V.ref m.1)) := upd_same
      generalize upd (upd (upd H3 sa (SetTO P w sa L)) p4 (.lst (L'.map fun m => V.ref m.1))) t1 (.tup (L'.map fun m => V.ref m.1)) = H6 at s6 ht1 ⊢
      have s16 := s13.trans s6
      refine ⟨_, rfl, r, _, rfl, .inl ⟨SqL.of (s16 _ _ rowA), fun t2 nt2 => ?_⟩⟩
      have s7 : Same H6 (upd H6 t2 (.tup (wl.map V.int))) := same_new nt2
      have ht2 : (upd H6 t2 (.tup (wl.map V.int))) t2 = some (.tup (wl.map V.int)) := upd_same
      generalize upd H6 t2 (.tup (wl.map V.int)) = H7 at s7 ht2 ⊢
      refine ⟨by show 2 ≤ sizeLine; decide, fun t3 nt3 => ?_⟩
      have s8 : Same H7 (upd H7 t3 (.tup [.ref t1, .ref t2])) := same_new nt3
      have s18 := s16.trans (s7.trans s8)
      have inM : ∀ z ∈ L'.map (·.2), z ∈ M.map (·.2) ∨ z = rgI n := fun z hz => by
        obtain ⟨m, hm, rfl⟩ := List.mem_map.mp hz
        rcases List.mem_append.mp (hL1 m (pL.mem_iff.mp hm)) with u | u
        · exact .inl (List.mem_map_of_mem (f := fun m : Addr × List Int => m.2) u)
        · rw [List.mem_singleton.mp u]
          exact .inr rfl
      have pw2 : (L'.map (·.2)).Pairwise fun a b => HT.lexLt a b = true := List.pairwise_map.mpr pwL
      have ndL : (L'.map (·.2)).Nodup := pw2.imp fun {a b} h e => by
        rw [e, lexLt_dec, decide_eq_false (List.lt_irrefl _)] at h
        cases h
      refine q t3 (.ref t1) (.ref t2) (L'.map (·.2)) wl _ (kA.same s18) (SqT.of upd_same) (.tup (SqT.of ((s7.trans s8) _ _ ht1)) (dhs_refs fun m hm => (Ext.of (s6.trans (s7.trans s8))).sqT (hM3 m (hL1 m (pL.mem_iff.mp hm))))) ⟨n1, n5, pw2, fun z hz => ?_, ?_, ?_⟩ (dh_ct (SqT.of (s8 _ _ ht2))) ?_
      · rcases inM z hz with u | u
        · exact m5.asc z u
        · rw [u]
          exact asc_rgI n
      · have z := hL2 (tw, rgI n) (List.mem_append_right _ (List.mem_singleton.mpr rfl))
        exact (pL.map (·.2)).mem_iff.mpr z
      · have z := nodup_len (L'.map (·.2)) (M.map (·.2) ++ [rgI n]) ndL fun y hy => by
          rcases inM y hy with u | u
          · exact List.mem_append_left _ u
          · rw [u]
            exact List.mem_append_right _ (List.mem_singleton.mpr rfl)
        rw [List.length_append, List.length_map (as := M)] at z
        have : ([rgI n] : List (List Int)).length = 1 := rfl
        omega
      · refine (mem_ords (rgI_len n) (rgI_nodup n)).mpr ⟨pw, m5.val.sub fun z hz => ?_⟩
        obtain ⟨h1, h2⟩ := List.mem_filter.mp hz
        have h2 := of_decide_eq_true h2
        rcases inM z h1 with u | u
        · exact u
        · rw [u, rgI_len] at h2
          omega

end
end Fm
namespace Fm
open PySem PySem.Spec PyProof.Rows L2
section
variable {P : Program} {w : World} {K : PySem.W.Frag} {mg : Str → Option Value} {base : Heap}

/-! ### _law_renamed -/
def iv (wl : List Int) (c : Int) : Int := (wl.idxOf c : Nat)
def ren (wl : List Int) (p : List Int) : List Int := (p.map (iv wl)).mergeSort fun a b => decide (a ≤ b)
/-- a row of all columns -/
structure RowOk (n : Nat) (wl : List Int) : Prop where
  pm : wl.Perm (rgI n)
theorem RowOk.len {n : Nat} {wl : List Int} (x : RowOk n wl) : wl.length = n := by rw [x.pm.length_eq, rgI_len]
theorem RowOk.nd {n : Nat} {wl : List Int} (x : RowOk n wl) : wl.Nodup := x.pm.nodup_iff.mpr (rgI_nodup n)
theorem mem_rgI {n : Nat} {c : Int} : c ∈ rgI n ↔ 0 ≤ c ∧ c < n := by
  constructor
  · intro h
    have := (asc_rgI n).mem c h
    omega
  · intro ⟨h1, h2⟩
    obtain ⟨k, rfl⟩ : ∃ k : Nat, c = (k : Int) := ⟨c.toNat, by omega⟩
    exact List.mem_of_getElem? (rgI_at (show k < n by omega))
theorem RowOk.mem {n : Nat} {wl : List Int} (x : RowOk n wl) {c : Int} : c ∈ wl ↔ 0 ≤ c ∧ c < n := x.pm.mem_iff.trans mem_rgI
theorem iv_lt {n : Nat} {wl : List Int} (x : RowOk n wl) {c : Int} (h : c ∈ wl) : wl.idxOf c < wl.length := List.idxOf_lt_length_iff.mpr h
theorem iv_rg {n : Nat} {wl : List Int} (x : RowOk n wl) {c : Int} (h : c ∈ wl) : 0 ≤ iv wl c ∧ iv wl c < n := by
  have := iv_lt x h
  have := x.len
  unfold iv
  omega
theorem iv_at {n : Nat} {wl : List Int} (x : RowOk n wl) {c : Int} (h : c ∈ wl) : wl.getD (iv wl c).toNat 0 = c := by
  have hl := iv_lt x h
  show wl.getD ((wl.idxOf c : Nat) : Int).toNat 0 = c
  rw [Int.toNat_natCast, List.getD_eq_getElem?_getD, List.getElem?_eq_getElem hl, List.getElem_idxOf hl]
  rfl
theorem at_iv {n : Nat} {wl : List Int} (x : RowOk n wl) {j : Int} (h : 0 ≤ j ∧ j < n) : wl.getD j.toNat 0 ∈ wl ∧ iv wl (wl.getD j.toNat 0) = j := by
  have hl : j.toNat < wl.length := by have := x.len; omega
  have e : wl.getD j.toNat 0 = wl[j.toNat] := by
    rw [List.getD_eq_getElem?_getD, List.getElem?_eq_getElem hl]
    rfl
  rw [e]
  refine ⟨List.getElem_mem _, ?_⟩
  have h1 := iv_lt x (List.getElem_mem hl)
  have e2 := (List.getElem_inj (h₀ := h1) (h₁ := hl) x.nd).mp (List.getElem_idxOf h1)
  unfold iv
  rw [e2]
  omega
theorem perm_sort {ns l : List Int} (pm : ns.Perm l) (pw : ns.Pairwise (· ≤ ·)) : ns = l.mergeSort fun a b => decide (a ≤ b) := by
  have h1 := List.pairwise_mergeSort (le := fun a b : Int => decide (a ≤ b)) (fun a b c x y => decide_eq_true (by have := of_decide_eq_true x; have := of_decide_eq_true y; omega)) (fun a b => by
    rcases Int.le_total a b with x | x <;> simp [x]) l
  have h2 : (l.mergeSort fun a b => decide (a ≤ b)).Pairwise (· ≤ ·) := h1.imp fun {a b} h => of_decide_eq_true h
  exact (pm.trans (List.mergeSort_perm l _).symm).eq_of_pairwise (fun x y _ _ a b => by omega) pw h2
theorem mem_ren {wl p : List Int} {j : Int} : j ∈ ren wl p ↔ ∃ c ∈ p, iv wl c = j := by
  unfold ren
  rw [(List.mergeSort_perm _ _).mem_iff, List.mem_map]
theorem iv_inj {n : Nat} {wl : List Int} (x : RowOk n wl) {a b : Int} (ha : a ∈ wl) (hb : b ∈ wl) (e : iv wl a = iv wl b) : a = b := by
  rw [← iv_at x ha, ← iv_at x hb, e]
theorem ren_asc {n : Nat} {wl p : List Int} (x : RowOk n wl) (hp : Asc n (-1) p) : Asc n (-1) (ren wl p) := by
  have inw : ∀ c ∈ p, c ∈ wl := fun c hc => x.mem.mpr (by have := hp.mem c hc; omega)
  have nd : (p.map (iv wl)).Nodup := by
    refine List.pairwise_map.mpr (List.Pairwise.imp_of_mem (fun {a b} ha hb h e => h (iv_inj x (inw a ha) (inw b hb) e)) (asc_nodup5 hp))
  have pm := List.mergeSort_perm (p.map (iv wl)) fun a b => decide (a ≤ b)
  have h1 := List.pairwise_mergeSort (le := fun a b : Int => decide (a ≤ b)) (fun a b c x y => decide_eq_true (by have := of_decide_eq_true x; have := of_decide_eq_true y; omega)) (fun a b => by
    rcases Int.le_total a b with x | x <;> simp [x]) (p.map (iv wl))
  have nd2 := pm.nodup_iff.mpr nd
  refine asc_of_lt ((h1.and nd2).imp fun {a b} ⟨h, e⟩ => by have := of_decide_eq_true h; omega) fun j hj => ?_
  obtain ⟨c, hc, rfl⟩ := mem_ren.mp hj
  have := iv_rg x (inw c hc)
  omega
theorem ren_inj {n : Nat} {wl p q : List Int} (x : RowOk n wl) (hp : Asc n (-1) p) (hq : Asc n (-1) q) (e : ren wl p = ren wl q) : p = q := by
  have inw : ∀ {p : List Int}, Asc n (-1) p → ∀ c ∈ p, c ∈ wl := fun {p} hp c hc => x.mem.mpr (by have := hp.mem c hc; omega)
  refine sorted_one (asc_lt hp) (asc_lt hq) fun c => ⟨fun h => ?_, fun h => ?_⟩
  · have z : iv wl c ∈ ren wl q := e ▸ mem_ren.mpr ⟨c, h, rfl⟩
    obtain ⟨d, hd, ed⟩ := mem_ren.mp z
    rw [← iv_inj x (inw hq d hd) (inw hp c h) ed]
    exact hd
  · have z : iv wl c ∈ ren wl p := e ▸ mem_ren.mpr ⟨c, h, rfl⟩
    obtain ⟨d, hd, ed⟩ := mem_ren.mp z
    rw [← iv_inj x (inw hp d hd) (inw hq c h) ed]
    exact hd
theorem asc_full {n : Nat} {k : List Int} (h : Asc n (-1) k) (hl : n ≤ k.length) : k = rgI n := by
  have h1 : sub1 k (rgI n) = true := sub1_iff.mpr fun c hc => mem_rgI.mpr (by have := h.mem c hc; omega)
  have h2 := sub1_back (asc_nodup5 h) (by rw [rgI_len]; exact hl) h1
  exact sorted_one (asc_lt h) (asc_lt (asc_rgI n)) fun c => ⟨fun z => sub1_iff.mp h1 c z, fun z => sub1_iff.mp h2 c z⟩
theorem ren_len {wl p : List Int} : (ren wl p).length = p.length := by
  unfold ren
  rw [List.length_mergeSort, List.length_map]
/-- one list is the other's, renamed -/
structure Mir (n : Nat) (wl : List Int) (X Y : List (List Int)) : Prop where
  fw : ∀ p ∈ X, ∃ q ∈ Y, (∀ j : Int, 0 ≤ j ∧ j < n → (j ∈ q ↔ wl.getD j.toNat 0 ∈ p)) ∧ (∀ j ∈ q, 0 ≤ j ∧ j < n) ∧ ∀ c ∈ p, c ∈ wl
  bw : ∀ q ∈ Y, ∃ p ∈ X, (∀ j : Int, 0 ≤ j ∧ j < n → (j ∈ q ↔ wl.getD j.toNat 0 ∈ p)) ∧ (∀ j ∈ q, 0 ≤ j ∧ j < n) ∧ ∀ c ∈ p, c ∈ wl
theorem mir_sub {n : Nat} {wl p q p' q' : List Int} (x : RowOk n wl) (a : ∀ j : Int, 0 ≤ j ∧ j < n → (j ∈ q ↔ wl.getD j.toNat 0 ∈ p)) (b : ∀ j : Int, 0 ≤ j ∧ j < n → (j ∈ q' ↔ wl.getD j.toNat 0 ∈ p')) (a2 : ∀ j ∈ q, 0 ≤ j ∧ j < n) (a3 : ∀ c ∈ p, c ∈ wl) : sub1 q q' = true ↔ sub1 p p' = true := by
  rw [sub1_iff, sub1_iff]
  constructor
  · intro h c hc
    have hw := a3 c hc
    have hr := iv_rg x hw
    have e := iv_at x hw
    have z := h _ ((a _ hr).mpr (by rw [e]; exact hc))
    rw [← e]
    exact (b _ hr).mp z
  · intro h j hj
    have hr := a2 j hj
    exact (b j hr).mpr (h _ ((a j hr).mp hj))
theorem Mir.nest {n : Nat} {wl : List Int} {X Y : List (List Int)} (x : RowOk n wl) (m : Mir n wl X Y) {j : Int} (hj : 0 ≤ j ∧ j < n) : Nest j Y ↔ Nest (wl.getD j.toNat 0) X := by
  constructor
  · intro h p hp p' hp' cp cp'
    obtain ⟨q, hq, a1, a2, a3⟩ := m.fw p hp
    obtain ⟨q', hq', b1, b2, b3⟩ := m.fw p' hp'
    exact (h q hq q' hq' ((a1 j hj).mpr cp) ((b1 j hj).mpr cp')).imp (mir_sub x a1 b1 a2 a3).mp (mir_sub x b1 a1 b2 b3).mp
  · intro h q hq q' hq' cq cq'
    obtain ⟨p, hp, a1, a2, a3⟩ := m.bw q hq
    obtain ⟨p', hp', b1, b2, b3⟩ := m.bw q' hq'
    exact (h p hp p' hp' ((a1 j hj).mp cq) ((b1 j hj).mp cq')).imp (mir_sub x a1 b1 a2 a3).mpr (mir_sub x b1 a1 b2 b3).mpr
theorem Mir.strk {n : Nat} {wl : List Int} {X Y : List (List Int)} (x : RowOk n wl) (m : Mir n wl X Y) {j : Int} (hj : 0 ≤ j ∧ j < n) : Mir n wl (Fm.strk (wl.getD j.toNat 0) X) (Fm.strk j Y) := by
  have cutR : ∀ {p q : List Int}, ((∀ j : Int, 0 ≤ j ∧ j < n → (j ∈ q ↔ wl.getD j.toNat 0 ∈ p)) ∧ (∀ j ∈ q, 0 ≤ j ∧ j < n) ∧ ∀ c ∈ p, c ∈ wl) → ((∀ i : Int, 0 ≤ i ∧ i < n → (i ∈ cut1 j q ↔ wl.getD i.toNat 0 ∈ cut1 (wl.getD j.toNat 0) p)) ∧ (∀ i ∈ cut1 j q, 0 ≤ i ∧ i < n) ∧ ∀ c ∈ cut1 (wl.getD j.toNat 0) p, c ∈ wl) := fun {p q} ⟨a1, a2, a3⟩ => by
    refine ⟨fun i hi => ?_, fun i hi => a2 i (mem_cut1.mp hi).1, fun c hc => a3 c (mem_cut1.mp hc).1⟩
    rw [mem_cut1, mem_cut1, a1 i hi]
    refine and_congr_right fun _ => not_congr ⟨fun e => by rw [e], fun e => ?_⟩
    rw [← (at_iv x hi).2, e, (at_iv x hj).2]
  refine ⟨fun p hp => ?_, fun q hq => ?_⟩
  · obtain ⟨p0, h0, rfl⟩ := List.mem_map.mp hp
    obtain ⟨q, hq, a⟩ := m.fw p0 h0
    exact ⟨_, List.mem_map_of_mem hq, cutR a⟩
  · obtain ⟨q0, h0, rfl⟩ := List.mem_map.mp hq
    obtain ⟨p, hp, a⟩ := m.bw q0 h0
    exact ⟨_, List.mem_map_of_mem hp, cutR a⟩
theorem Mir.val {n : Nat} {wl : List Int} (x : RowOk n wl) : ∀ {r : List Int} {X Y : List (List Int)}, Mir n wl X Y → (∀ j ∈ r, 0 ≤ j ∧ j < n) → (Val Y r ↔ Val X (r.map fun j => wl.getD j.toNat 0))
  | [], _, _, _, _ => Iff.rfl
  | j :: r, X, Y, m, h => by
    have hj := h j (List.mem_cons_self ..)
    rw [List.map_cons]
    exact and_congr (m.nest x hj) ((m.strk x hj).val x fun i hi => h i (List.mem_cons_of_mem _ hi))
/-- the list whose column k is wl[k] of this one -/
theorem mir_of {n : Nat} {wl : List Int} {ps qs : List (List Int)} (x : RowOk n wl) (ha : ∀ p ∈ ps, Asc n (-1) p) (hq : ∀ q, q ∈ qs ↔ ∃ p ∈ ps, q = ren wl p) : Mir n wl (partL n ps) (partL n qs) := by
  have key : ∀ p ∈ ps, (∀ j : Int, 0 ≤ j ∧ j < n → (j ∈ ren wl p ↔ wl.getD j.toNat 0 ∈ p)) ∧ (∀ j ∈ ren wl p, 0 ≤ j ∧ j < n) ∧ ∀ c ∈ p, c ∈ wl := fun p hp => by
    have inw : ∀ c ∈ p, c ∈ wl := fun c hc => x.mem.mpr (by have := (ha p hp).mem c hc; omega)
    refine ⟨fun j hj => ⟨fun h => ?_, fun h => mem_ren.mpr ⟨_, h, (at_iv x hj).2⟩⟩, fun j hj => ?_, inw⟩
    · obtain ⟨c, hc, rfl⟩ := mem_ren.mp h
      rw [iv_at x (inw c hc)]
      exact hc
    · obtain ⟨c, hc, rfl⟩ := mem_ren.mp hj
      exact iv_rg x (inw c hc)
  refine ⟨fun p hp => ?_, fun q hq' => ?_⟩
  · obtain ⟨h1, h2⟩ := List.mem_filter.mp hp
    exact ⟨ren wl p, List.mem_filter.mpr ⟨(hq _).mpr ⟨p, h1, rfl⟩, by rw [ren_len]; exact h2⟩, key p h1⟩
  · obtain ⟨h1, h2⟩ := List.mem_filter.mp hq'
    obtain ⟨p, hp, rfl⟩ := (hq q).mp h1
    rw [ren_len] at h2
    exact ⟨p, List.mem_filter.mpr ⟨hp, h2⟩, key p hp⟩
def spRen (K : PySem.W.Frag) : Sp := fun vs H Q _ => ∃ (v : V) (r : Addr) (n : Nat) (ps : List (List Int)) (wl : List Int), vs = [v, .ref r] ∧ LsS n ps ∧ Dh K H v (patsD ps) ∧ RowOk n wl ∧ H r = some (.lst (wl.map V.int)) ∧ ∀ u qs H', Same H H' → Dh K H' u (patsD qs) → LsS n qs → (∀ q, q ∈ qs ↔ ∃ p ∈ ps, q = ren wl p) → Q u H'
theorem ok_law_renamed (T : Txt K mg) : FnOk P w K mg base CX0 1 T.f_law_renamed T.d_law_renamed ["patterns", "row"] (spRen K) := by
  refine T.F_law_renamed.ok sc_law_renamed (fun vs H Q E h => ?_) (fun cdv A outer s H vs Q E hr h => ?_)
  · obtain ⟨_, _, _, _, _, rfl, _⟩ := h
    rfl
  · obtain ⟨v, r, n, ps, wl, rfl, ls, hv, x, hrow, q⟩ := h
    refine ⟨_, (pss_one (ps_ret (pe_callTy (call_tupleK K) (by rfl) T.z_tuple (by decide +kernel) (pa_cons (pe_callB (call_sortTsK (K := K) hr.units) (by rfl) T.z_sorted (by decide +kernel) (pa_cons (pe_lc (own := [("pattern", 2)]) rfl sc_law_renamed.nd (pi_tupK K (pv 0)) (blkOk_by (N := N_law_renamed) (sc := defScope s_law_renamed) (by decide +kernel)) (fun _ _ _ _ _ => (pg_name (i := 2) sc_law_renamed.nd rfl (.inl rfl))) (fun _ _ _ _ _ => pts_nil) (fun _ _ _ _ _ => (pe_callTy (call_tupleK K) (by rfl) T.z_tuple (by decide +kernel) (pa_cons (pe_callB (call_sortedTI (K := K)) (by rfl) T.z_sorted (by decide +kernel) (pa_cons (pe_lc (own := [("c", 3)]) rfl sc_law_renamed.nd (pi_tupK K (pv 2)) (blkOk_by (N := N_law_renamed) (sc := { kind := .function, names := [(".0", .local), ("pattern", .local), ("tuple", .globalImplicit), ("sorted", .globalImplicit), ("row", .cell)], isGenerator := false, isCoroutine := false }) (by decide +kernel)) (fun _ _ _ _ _ => (pg_name (i := 3) sc_law_renamed.nd rfl (.inl rfl))) (fun _ _ _ _ _ => pts_nil) (fun _ _ _ _ _ => (pe_bmK (K := K) PySem.F.plainAttrs_list PySem.F.slot_list_index PySem.F.type_list_index (mt_indexK (K := K) (by exact (room65 hr : _))) (pv 1) (pa_cons (pv 3) pa_nil)))) pa_nil)) pa_nil)))) pa_nil)) pa_nil)))), ?_⟩
    obtain ⟨a, xs, rfl, ha, hx⟩ := hv.tup_inv
    have n5 := ls.n5
    have hxl : xs.length = ps.length := by rw [hx.length, List.length_map]
    refine ⟨_, rfl, a, rfl, ⟨_, ha⟩, fun D nD => lc_tup (K := K) (xs := xs) (fun j H' => Got K H D ((ps.take j).map fun p => ctD (ren wl p)) H') (.zero nD) (fun j H' _ y => (Ext.of y.same).sqT ha) ?_ ?_⟩
    · rintro j xv H1 hxj y
      obtain ⟨d, hd, hxd⟩ := dhAll_at hx hxj
      obtain ⟨p, hp1, rfl⟩ := map_at hd
      have hpm := List.mem_of_getElem? hp1
      obtain ⟨b, rfl, hb⟩ := ct_inv (hxd.ext (.of y.same))
      have hpl := (ls.asc p hpm).len (by omega)
      have inw : ∀ c ∈ p, c ∈ wl := fun c hc => x.mem.mpr (by have := (ls.asc p hpm).mem c hc; omega)
      have hrow1 := y.same _ _ hrow
      refine ⟨rfl, ?_⟩
      dsimp only [tYes]
      rw [if_pos rfl]
      refine ⟨_, rfl, b, rfl, ⟨_, hb⟩, fun D2 nD2 => lc_tup (K := K) (xs := p.map V.int) (fun k H' => Same H1 H' ∧ H' D2 = some (.lst (((p.take k).map (iv wl)).map V.int))) ⟨same_new nD2, upd_same⟩ (fun k H' _ ⟨s', _⟩ => (Ext.of s').sqT hb) ?_ ?_⟩
      · rintro k xk H2 hxk ⟨s2, hD2⟩
        rw [List.getElem?_map] at hxk
        obtain ⟨c, hc, rfl⟩ := Option.map_eq_some_iff.mp hxk
        have hcw := inw c (List.mem_of_getElem? hc)
        have hl := iv_lt x hcw
        have hrow2 := s2 _ _ hrow1
        refine ⟨rfl, ?_⟩
        dsimp only [tYes]
        rw [if_pos rfl]
        refine ⟨_, rfl, .inl ⟨rfl, _, SqL.of hrow2⟩, _, rfl, r, .int c, .int c, wl.map PyData.int, wl.idxOf c, .int c, rfl, rfl, .lst (SqL.of hrow2) (dp_ints wl), .int c, shaped_of (n := 1) (lay_ct wl) (by decide), shaped_int c, ?_, ?_, ?_, ?_⟩
        · rw [List.getElem?_map, List.getElem?_eq_getElem hl, List.getElem_idxOf hl]
          rfl
        · rw [PyData.eqv]
          simp
        · intro m z' hm hz
          rw [List.getElem?_map] at hz
          obtain ⟨z, hz1, rfl⟩ := Option.map_eq_some_iff.mp hz
          obtain ⟨hm2, e1⟩ := List.getElem?_eq_some_iff.mp hz1
          rw [PyData.eqv]
          have ne : z ≠ c := fun e => by
            have := (List.getElem_inj (h₀ := hm2) (h₁ := hl) x.nd).mp (by rw [e1, e, List.getElem_idxOf hl])
            omega
          simp [ne]
        · refine ⟨_, hD2, sz_small (by rw [List.length_map, List.length_map]; have := List.length_take (i := k) (l := p); omega), Same.put nD2 s2, ?_⟩
          rw [List.take_add_one, hc, List.map_append, List.map_append]
          exact upd_same
      · rintro H2 ⟨s2, hD2⟩
        rw [List.length_map, List.take_length] at hD2
        dsimp only [tNil]
        refine ⟨D2, p.map (iv wl), rfl, .inl (SqL.of hD2), by rw [List.length_map]; omega, fun ns p2 pns pwn np2 => ⟨p2, _, rfl, .inl ⟨SqL.of upd_same, fun tt ntt => ?_⟩⟩⟩
        have en : ns = ren wl p := perm_sort pns pwn
        subst en
        have s3 := (s2.trans (same_new (o := HO.lst ((ren wl p).map V.int)) np2)).trans (same_new (o := HO.tup ((ren wl p).map V.int)) ntt)
        obtain ⟨acc, h1, h2, h3⟩ := y.put (v := .ref tt) (d := ctD (ren wl p)) nD s3 (dh_ct (SqT.of upd_same)) (by rw [List.length_map]; have := List.length_take (i := j) (l := ps); have := ls.len; omega)
        refine ⟨acc, h1, h2, ?_⟩
        rw [List.take_add_one, hp1, List.map_append]
        exact h3
    · rintro H1 ⟨s1, acc, hD, hac⟩
      rw [hxl, List.take_length] at hac
      have hac2 : DhAll K H1 acc ((ps.map (ren wl)).map ctD) := by
        rw [List.map_map]
        exact hac
      dsimp only [tNil]
      have nd0 : ps.Nodup := ls.pw.imp fun {a b} h e => by
        rw [e, lexLt_dec, decide_eq_false (List.lt_irrefl _)] at h
        cases h
      have nd : (ps.map (ren wl)).Nodup := List.pairwise_map.mpr (List.Pairwise.imp_of_mem (fun {a b} ha hb h e => h (ren_inj x (ls.asc a ha) (ls.asc b hb) e)) nd0)
      have hasc : ∀ z ∈ ps.map (ren wl), Asc n (-1) z := fun z hz => by
        obtain ⟨p, hp, rfl⟩ := List.mem_map.mp hz
        exact ren_asc x (ls.asc p hp)
      refine sort_pats (SqL.of hD) hac2 (fun z hz => ?_) fun p4 ys4 qs4 np4 hys4 eq4 => ?_
      · have := (hasc z hz).len (by omega)
        omega
      · have pq := List.mergeSort_perm (ps.map (ren wl)) fun a b : List Int => decide (a ≤ b)
        rw [← eq4] at pq
        have s9 : Same H1 (upd H1 p4 (.lst ys4)) := same_new np4
        refine ⟨p4, _, rfl, .inl ⟨SqL.of upd_same, fun t nt => ?_⟩⟩
        have s10 := s9.trans (same_new (o := HO.tup ys4) nt)
        refine q (.ref t) qs4 _ (s1.trans s10) (.tup (SqT.of upd_same) (hys4.ext (.of s10))) ⟨ls.n1, n5, by rw [eq4]; exact sorted_pats nd, fun z hz => hasc z (pq.mem_iff.mp hz), ?_, by rw [pq.length_eq, List.length_map]; exact ls.len⟩ fun z => ?_
        · refine pq.mem_iff.mpr (List.mem_map.mpr ⟨rgI n, ls.whole, ?_⟩)
          exact asc_full (ren_asc x (asc_rgI n)) (by rw [ren_len, rgI_len]; exact Nat.le_refl n)
        · rw [pq.mem_iff, List.mem_map]
          exact ⟨fun ⟨p, h1, h2⟩ => ⟨p, h1, h2.symm⟩, fun ⟨p, h1, h2⟩ => ⟨p, h1, h2.symm⟩⟩

end
end Fm
namespace Fm
open PySem PySem.Spec PyProof.Rows L2
section
variable {P : Program} {w : World} {K : PySem.W.Frag} {mg : Str → Option Value} {base : Heap}

/-! ### the law -/
theorem LstP.keep {H H' : Hp} {h g sm d : Addr} {ps : List (List Int)} (x : PotOk H h g sm) (k : KeepP h g sm H H') (n1 : d ≠ h) (n2 : d ≠ g) : LstP K H d ps → LstP K H' d ps := fun ⟨xs, h1, h2⟩ => ⟨xs, k.rest _ _ n1 n2 h1, h2.ext (k.ext x)⟩
theorem OrdV.ext {H H' : Hp} {v : V} (e : Ext H H') : ∀ {o : Option (List Int)}, OrdV K H v o → OrdV K H' v o
  | none, h => h
  | some _, h => Dh.ext e h
theorem if_skipP {Fa : V → V → Hp → Prop} {σf : V → V → L2.St} {t rest : TS} {tc : TT} {D : Ends} {σ : L2.St} {H : Hp} (hr : ∀ u v H', Fa u v H' → rest D (σf u v) H') (f : (∀ u v H', Fa u v H' → rest D (σf u v) H') → tSeq (tIfS tc t tNext) rest D σ H) : tSeq (tIfS tc t tNext) rest D σ H := f hr
theorem iter_len {n : Nat} (n5 : n ≤ 5) : ∀ (m : Nat) (S : List OSt), (iterO n m S).length ≤ S.length * 5 ^ m
  | 0, S => by rw [Nat.pow_zero, Nat.mul_one]; exact Nat.le_refl _
  | m + 1, S => by
    have h1 := iter_len n5 m (stepO n S)
    have h2 := step_len (n := n) S
    have h3 : (stepO n S).length * 5 ^ m ≤ S.length * 5 * 5 ^ m := Nat.mul_le_mul_right _ (Nat.le_trans h2 (Nat.mul_le_mul_left _ n5))
    rw [Nat.pow_succ, Nat.mul_comm (5 ^ m) 5, ← Nat.mul_assoc]
    exact Nat.le_trans h1 h3
theorem ords_few {n : Nat} (n5 : n ≤ 5) (ps : List (List Int)) : (ords n ps (rgI n)).length ≤ 3125 := by
  have h := iter_len n5 n [([], ps)]
  rw [← orders_eq, List.length_map]
  refine Nat.le_trans h ?_
  show 1 * 5 ^ n ≤ 3125
  rw [Nat.one_mul]
  exact Nat.le_trans (Nat.pow_le_pow_right (by decide) n5) (by decide)
theorem any_ctm {R : List (List Int)} {r : List Int} (h : r ∈ R) : ((R.map ctP).any fun z => PyData.eqv z (ctP r)) = true := by
  rw [List.any_map, List.any_eq_true]
  exact ⟨r, h, (eqv_ct r r).trans (decide_eq_true rfl)⟩
theorem known_in {σ : L2.St} {G : Hp} {Q : Bool → Hp → Prop} {v : V} {dr : Addr} {R : List (List Int)} {kn : Option (List Int)} (h5 : σ[5]? = some (some v)) (h6 : σ[6]? = some (some (.ref dr))) (hv : OrdV K G v kn) (hr : ∀ r, kn = some r → r ∈ R) (hd : LstP K G dr R) (q : Q false G) :
    tAnd (tTest (tOp (fun x y H Q => y = V.non ∧ Q (V.bl !decide (x = V.non)) H) (tVar 5) (tC V.non))) (tTest (tOp (rNotInD K) (tVar 5) (tVar 6))) σ G Q := by
  cases kn with
  | none =>
    have hv : v = .non := hv
    subst hv
    refine ⟨_, h5, rfl, _, rfl, ?_⟩
    rw [decide_eq_true rfl]
    exact iteF q
  | some r =>
    obtain ⟨b, rfl, hb⟩ := ct_inv (show Dh K G v (ctD r) from hv)
    obtain ⟨xs, x1, x2⟩ := hd
    refine ⟨_, h5, rfl, _, rfl, ?_⟩
    rw [decide_eq_false (by intro z; cases z)]
    refine iteT ?_
    refine ⟨_, h5, _, h6, ctP r, R.map ctP, dp_ct (dh_ct hb), dp_cts (SqL.of x1) x2, shaped_ct r, shaped_cts R, ?_⟩
    rw [any_ctm (hr r rfl)]
    exact ⟨_, rfl, q⟩
abbrev s14 (a h : Addr) (y2 y3 y4 y5 y6 y7 y8 y9 y10 y11 y12 y13 : Option V) : L2.St := [some (.ref a), some (.ref h), y2, y3, y4, y5, y6, y7, y8, y9, y10, y11, y12, y13]
/-- renaming back makes of the other's orders these -/
theorem ren_orders {n : Nat} {wl : List Int} {ps qs : List (List Int)} (x : RowOk n wl) (ha : ∀ p ∈ ps, Asc n (-1) p) (hq : ∀ q, q ∈ qs ↔ ∃ p ∈ ps, q = ren wl p) :
    ((ords n (partL n qs) (rgI n)).map fun r => r.map fun j => wl.getD j.toNat 0).Perm (ords n (partL n ps) (rgI n)) := by
  have mi := mir_of x ha hq
  have nd : ∀ qs : List (List Int), (ords n (partL n qs) (rgI n)).Nodup := fun qs => (ords_sorted n (partL n qs) (rgI n) (rgI_asc n)).imp fun {a b} (h : a < b) (e : a = b) => List.lt_irrefl _ (e ▸ h)
  have val : ∀ r ∈ ords n (partL n qs) (rgI n), ∀ j ∈ r, 0 ≤ j ∧ j < (n : Int) := fun r hr j hj => mem_rgI.mp (((mem_ords (rgI_len n) (rgI_nodup n)).mp hr).1.mem_iff.mp hj)
  have back : ∀ {r : List Int}, (∀ j ∈ r, 0 ≤ j ∧ j < (n : Int)) → (r.map fun j => wl.getD j.toNat 0).map (iv wl) = r := fun {r} h => by
    rw [List.map_map]
    have e : ∀ j ∈ r, (iv wl ∘ fun j => wl.getD j.toNat 0) j = id j := fun j hj => (at_iv x (h j hj)).2
    rw [List.map_congr_left e, List.map_id]
  refine (List.perm_ext_iff_of_nodup (List.pairwise_map.mpr (List.Pairwise.imp_of_mem (fun {a b} ha hb h e => h (by rw [← back (val a ha), ← back (val b hb), e])) (nd qs))) (nd ps)).mpr fun r => ?_
  · rw [List.mem_map, mem_ords (rgI_len n) (rgI_nodup n)]
    constructor
    · rintro ⟨r0, h0, rfl⟩
      obtain ⟨p1, p2⟩ := (mem_ords (rgI_len n) (rgI_nodup n)).mp h0
      refine ⟨?_, (mi.val x (val r0 h0)).mp p2⟩
      have nd2 : (r0.map fun j => wl.getD j.toNat 0).Nodup := List.pairwise_map.mpr (List.Pairwise.imp_of_mem (fun {a b} ha hb h e => h (by rw [← (at_iv x (val r0 h0 a ha)).2, ← (at_iv x (val r0 h0 b hb)).2, e])) (p1.nodup_iff.mpr (rgI_nodup n)))
      refine (List.perm_ext_iff_of_nodup nd2 (rgI_nodup n)).mpr fun c => ?_
      rw [List.mem_map, mem_rgI]
      constructor
      · rintro ⟨j, hj, rfl⟩
        exact x.mem.mp (at_iv x (val r0 h0 j hj)).1
      · intro hc
        have hw := x.mem.mpr hc
        exact ⟨iv wl c, p1.mem_iff.mpr (mem_rgI.mpr (iv_rg x hw)), iv_at x hw⟩
    · rintro ⟨h1, h2⟩
      have inw : ∀ c ∈ r, c ∈ wl := fun c hc => x.mem.mpr (mem_rgI.mp (h1.mem_iff.mp hc))
      have fwd : (r.map (iv wl)).map (fun j => wl.getD j.toNat 0) = r := by
        rw [List.map_map]
        have e : ∀ c ∈ r, ((fun j : Int => wl.getD j.toNat 0) ∘ iv wl) c = id c := fun c hc => iv_at x (inw c hc)
        rw [List.map_congr_left e, List.map_id]
      have hv : ∀ j ∈ r.map (iv wl), 0 ≤ j ∧ j < (n : Int) := fun j hj => by
        obtain ⟨c, hc, rfl⟩ := List.mem_map.mp hj
        exact iv_rg x (inw c hc)
      refine ⟨r.map (iv wl), (mem_ords (rgI_len n) (rgI_nodup n)).mpr ⟨?_, (mi.val x hv).mpr (by rw [fwd]; exact h2)⟩, fwd⟩
      have nd2 : (r.map (iv wl)).Nodup := List.pairwise_map.mpr (List.Pairwise.imp_of_mem (fun {a b} ha hb h e => h (iv_inj x (inw a ha) (inw b hb) e)) (h1.nodup_iff.mpr (rgI_nodup n)))
      refine (List.perm_ext_iff_of_nodup nd2 (rgI_nodup n)).mpr fun j => ?_
      rw [List.mem_map, mem_rgI]
      constructor
      · rintro ⟨c, hc, rfl⟩
        exact iv_rg x (inw c hc)
      · intro hj
        exact ⟨wl.getD j.toNat 0, h1.mem_iff.mpr (mem_rgI.mpr (x.mem.mp (at_iv x hj).1)), (at_iv x hj).2⟩
def spLaw (K : PySem.W.Frag) : Sp := fun vs H Q _ => ∃ (a : Addr) (ns : List Int), vs = [.ref a] ∧ SqL K H a (ns.map V.int) ∧ ns.length ≤ 63 ∧ ∀ H', Q (.bl true) H'
theorem ok_law (T : Txt K mg) {f : Addr} {fd : FuncData} (F : Fun K "law" "law" s_law f fd) : FnOk P w K mg base CX0 12 f fd ["script"] (spLaw K) := by
  refine F.ok sc_law (fun vs H Q E h => ?_) (fun cdv A outer s H vs Q E hr h => ?_)
  · obtain ⟨_, _, rfl, _⟩ := h
    rfl
  · obtain ⟨a, ns, rfl, hS, hl, q⟩ := h
    refine ⟨_, (pss_cons (ps_set (i := 1) sc_law.nd rfl (.inr rfl) (pe_call (ok_law_pot T) (hr.mono (by decide)) (by rfl) T.g_law_pot T.F_law_pot.kp T.b_law_pot .nil pass0 (pa_cons (pv 0) pa_nil)))
      (pss_cons (ps_for PassesOwn.never rfl (pi_range1 (by rfl) T.z_range (pa_cons pe_int pa_nil)) (pg_name (i := 2) sc_law.nd rfl (.inl rfl)) (pss_cons (ps_set (i := 3) sc_law.nd rfl (.inr rfl) (pe_op op_add pe_int (pe_call (ok_law_draw T) (hr.mono (by decide)) (by rfl) T.g_law_draw T.F_law_draw.kp T.b_law_draw .nil pass0 (pa_cons (pv 1) (pa_cons pe_int pa_nil)))))
      (pss_cons (ps_set (i := 4) sc_law.nd rfl (.inl rfl) (pe_call (ok_law_list T) (hr.mono (by decide)) (by rfl) T.g_law_list T.F_law_list.kp T.b_law_list .nil pass0 (pa_cons (pv 1) (pa_cons (pv 3) (pa_cons (pe_ix (ix_listK K) (pe_lst (pa_cons pe_int (pa_cons pe_int (pa_cons pe_int pa_nil)))) (pe_call (ok_law_draw T) (hr.mono (by decide)) (by rfl) T.g_law_draw T.F_law_draw.kp T.b_law_draw .nil pass0 (pa_cons (pv 1) (pa_cons pe_int pa_nil))) (fun _ _ => rfl)) pa_nil)))))
      (pss_cons (ps_set (i := 5) sc_law.nd rfl (.inl rfl) pe_non)
      (pss_cons (ps_if (pt_cmpR op_eq (pe_call (ok_law_draw T) (hr.mono (by decide)) (by rfl) T.g_law_draw T.F_law_draw.kp T.b_law_draw .nil pass0 (pa_cons (pv 1) (pa_cons pe_int pa_nil))) pe_int (nomark _)) (pss_one (ps_asg (pe_call (ok_law_ringless T) (hr.mono (by decide)) (by rfl) T.g_law_ringless T.F_law_ringless.kp T.b_law_ringless .nil pass0 (pa_cons (pv 1) (pa_cons (pv 3) (pa_cons pe_int pa_nil)))) (pg_tupK K (n := 2) rfl (pgs_cons (pg_name (i := 4) sc_law.nd rfl (.inl rfl)) (pgs_cons (pg_name (i := 5) sc_law.nd rfl (.inl rfl)) pgs_nil))))) pss_nil)
      (pss_cons (ps_set (i := 6) sc_law.nd rfl (.inl rfl) (pe_call (ok_law_is_right T) hr (by rfl) T.g_law_is_right T.F_law_is_right.kp T.b_law_is_right .nil pass0 (pa_cons (pv 3) (pa_cons (pv 4) pa_nil))))
      (pss_cons (ps_if (PW.pt (pw_or (pt_cmpR op_isN (pv 6) pe_non (nomark _)) (pw_or1 (PW.pt (pw_and (pt_cmpR op_notN (pv 5) pe_non (nomark _)) (pw_and1 (pt_cmpR (op_notinLK (K := K) (room65 hr)) (pv 5) (pv 6) (by rfl)))))))) (pss_one (ps_ret pe_bl)) pss_nil)
      (pss_cons (ps_set (i := 7) sc_law.nd rfl (.inr rfl) (pe_call (ok_law_mixed T) (hr.mono (by decide)) (by rfl) T.g_law_mixed T.F_law_mixed.kp T.b_law_mixed .nil pass0 (pa_cons (pv 1) (pa_cons (pe_listRg rfl (by rfl) T.z_list (prg_1 (by rfl) T.z_range (pv 3))) pa_nil))))
      (pss_cons (ps_set (i := 8) sc_law.nd rfl (.inl rfl) (pe_call (ok_law_is_right T) hr (by rfl) T.g_law_is_right T.F_law_is_right.kp T.b_law_is_right .nil pass0 (pa_cons (pv 3) (pa_cons (pe_call (ok_law_renamed T) (hr.mono (by decide)) (by rfl) T.g_law_renamed T.F_law_renamed.kp T.b_law_renamed .nil pass0 (pa_cons (pv 4) (pa_cons (pv 7) pa_nil))) pa_nil))))
      (pss_cons (ps_if (PW.pt (pw_or (pt_cmpR op_isN (pv 8) pe_non (nomark _)) (pw_or1 (pt_cmpR (op_neK K hr.units) (pe_callB (call_sortTsK (K := K) hr.units) (by rfl) T.z_sorted (by decide +kernel) (pa_cons (pe_lc (own := [("one", 12)]) rfl sc_law.nd (pi_listK K (pv 8)) (blkOk_by (N := N_law) (sc := defScope s_law) (by decide +kernel)) (fun _ _ _ _ _ => (pg_name (i := 12) sc_law.nd rfl (.inl rfl))) (fun _ _ _ _ _ => pts_nil) (fun _ _ _ _ _ => (pe_callTy (call_tupleK K) (by rfl) T.z_tuple (by decide +kernel) (pa_cons (pe_lc (own := [("c", 13)]) rfl sc_law.nd (pi_tupK K (pv 12)) (blkOk_by (N := N_law) (sc := { kind := .function, names := [(".0", .local), ("one", .local), ("tuple", .globalImplicit), ("row", .cell)], isGenerator := false, isCoroutine := false }) (by decide +kernel)) (fun _ _ _ _ _ => (pg_name (i := 13) sc_law.nd rfl (.inl rfl))) (fun _ _ _ _ _ => pts_nil) (fun _ _ _ _ _ => (pe_ix (ix_listK K) (pv 7) (pv 13) (fun _ _ => rfl)))) pa_nil)))) pa_nil)) (pe_callB (call_sortTsK (K := K) hr.units) (by rfl) T.z_sorted (by decide +kernel) (pa_cons (pv 6) pa_nil)) (nomark _))))) (pss_one (ps_ret pe_bl)) pss_nil)
      (pss_cons (ps_setLc (i := 9) (own := [("pattern", 11)]) rfl sc_law.nd rfl rfl (sw_true rfl rfl rfl (by decide +kernel)) (pi_tupK K (pv 4)) (blkOk_by (N := N_law) (sc := defScope s_law) (by decide +kernel)) (fun _ _ _ _ _ => (pg_name (i := 11) sc_law.nd rfl (.inl rfl))) (fun _ _ _ _ _ => (pts_one (PW.pt (pw_or (pt_cmpR op_eq (pe_callB (call_lenK K) (by rfl) T.z_len PySem.boot_len (pa_cons (pv 11) pa_nil)) (pv 3) (nomark _)) (pw_or1 (pt_cmpR op_gt (pe_call (ok_law_draw T) (hr.mono (by decide)) (by rfl) T.g_law_draw T.F_law_draw.kp T.b_law_draw .nil pass0 (pa_cons (pv 1) (pa_cons pe_int pa_nil))) pe_int (nomark _))))))) (fun _ _ _ _ _ => (pv 11)))
      (pss_cons (ps_set (i := 10) sc_law.nd rfl (.inr rfl) (pe_call (ok_law_is_right T) hr (by rfl) T.g_law_is_right T.F_law_is_right.kp T.b_law_is_right .nil pass0 (pa_cons (pv 3) (pa_cons (pe_callTy (call_tupleK K) (by rfl) T.z_tuple (by decide +kernel) (pa_cons (pv 9) pa_nil)) pa_nil))))
      (pss_one (ps_if (PW.pt (pw_or (pt_cmpR op_isN (pv 10) pe_non (nomark _)) (pw_or1 (pt_not (pt_val (pe_callB (call_allK (K := K) rfl) (by rfl) T.z_all (by decide +kernel) (pa_cons (pe_lc (own := [("one", 12)]) rfl sc_law.nd (pi_listK K (pv 6)) (blkOk_by (N := N_law) (sc := defScope s_law) (by decide +kernel)) (fun _ _ _ _ _ => (pg_name (i := 12) sc_law.nd rfl (.inl rfl))) (fun _ _ _ _ _ => pts_nil) (fun _ _ _ _ _ => (pe_cmpR (op_inLK (K := K) (room65 hr)) (pv 12) (pv 10) (by rfl)))) pa_nil))))))) (pss_one (ps_ret pe_bl)) pss_nil))))))))))))))
      (pss_one (ps_ret pe_bl)))), ?_⟩
    refine ⟨_, rfl, a, ns, rfl, hS, by omega, fun h g sm H1 nh ng s1 hx => ?_⟩
    dsimp only [gName]
    refine ⟨2, rfl, by decide, by decide, for_range (lo := 0) (n := 2) (fun i σ H' => ∃ y2 y3 y4 y5 y6 y7 y8 y9 y10 y11 y12 y13 : Option V, σ = s14 a h y2 y3 y4 y5 y6 y7 y8 y9 y10 y11 y12 y13 ∧ PotOk H' h g sm)
      ⟨_, _, _, _, _, _, _, _, _, _, _, _, rfl, hx⟩ ?_ ?_⟩
    rotate_left
    · rintro σ H' ⟨y2, y3, y4, y5, y6, y7, y8, y9, y10, y11, y12, y13, rfl, hx⟩
      exact q H'
    · clear hx hS nh ng s1 H1
      rintro i σ H' hi ⟨y2, y3, y4, y5, y6, y7, y8, y9, y10, y11, y12, y13, rfl, hx⟩
      refine ⟨_, rfl, h, g, sm, 5, rfl, hx, by decide, by decide, fun d H1 d0 d1 k1 => ⟨_, _, rfl, rfl, ?_⟩⟩
      obtain ⟨n, en⟩ : ∃ n : Nat, 1 + d = (n : Int) := ⟨(1 + d).toNat, by omega⟩
      have n1 : 1 ≤ n := by omega
      have n5 : n ≤ 5 := by omega
      clear d0
      dsimp only [tNext, tSeq, tAsg, gName, List.set_cons_succ, List.set_cons_zero]
      rw [en]
      clear en d1
      refine ⟨_, rfl, _, rfl, by show 3 ≤ sizeLine; decide, fun l3 nl3 => ?_⟩
      have s2 : Same H1 (upd H1 l3 (.lst [.int 4, .int 6, .int 11])) := same_new nl3
      have hl3 : (upd H1 l3 (.lst [.int 4, .int 6, .int 11])) l3 = some (.lst [.int 4, .int 6, .int 11]) := upd_same
      obtain ⟨l3h, l3g, _⟩ := k1.pot.ne nl3
      generalize upd H1 l3 (.lst [.int 4, .int 6, .int 11]) = H2 at s2 hl3 ⊢
      refine ⟨_, rfl, h, g, sm, 3, rfl, k1.pot.same s2, by decide, by decide, fun dd H3 d0 d1 k3 => ?_⟩
      have im : ∃ m : Int, atI [V.int 4, V.int 6, V.int 11] dd = some (.int m) ∧ 0 ≤ m ∧ m ≤ 11 := by
        have : dd = 0 ∨ dd = 1 ∨ dd = 2 := by omega
        rcases this with rfl | rfl | rfl
        · exact ⟨4, rfl, by decide, by decide⟩
        · exact ⟨6, rfl, by decide, by decide⟩
        · exact ⟨11, rfl, by decide, by decide⟩
      obtain ⟨m, hm, m0, m11⟩ := im
      refine ⟨l3, _, dd, _, rfl, rfl, SqL.of (k3.rest l3 _ l3h l3g hl3), hm, ?_⟩
      refine ⟨h, g, sm, n, m, rfl, k3.pot, n1, n5, m0, m11, fun vp ps H4 k4 ls hvp => ?_⟩
      have pot4 := k4.pot
      clear k1 s2 hl3 l3h l3g k3 hm m0 m11 hx k4
      dsimp only [tNext]
      refine if_skipP (Fa := fun u v G => PotOk G h g sm ∧ ∃ ps kn, LsS n ps ∧ Dh K G u (patsD ps) ∧ OrdV K G v kn ∧ ∀ r, kn = some r → r ∈ ords n (partL n ps) (rgI n)) (σf := fun u v => s14 a h (some (.int (0 + (i : Nat)))) (some (.int n)) (some u) (some v) y6 y7 y8 y9 y10 y11 y12 y13) (fun u v G hG => ?rest) fun go => ?test
      case test =>
        refine ⟨_, rfl, h, g, sm, 2, rfl, pot4, by decide, by decide, fun d G d0 d1 k => ⟨rfl, _, rfl, ?_⟩⟩
        refine ite2 (fun _ => ?_) (fun _ => ?_)
        · refine ⟨_, rfl, _, rfl, h, g, sm, n, rfl, k.pot, n1, n5, fun t v1 v2 ps2 r G2 k2 ht hv1 ls2 hv2 hr2 => ?_⟩
          refine ⟨t, _, rfl, ht, rfl, _, _, rfl, _, _, rfl, rfl, ?_⟩
          exact go v1 v2 G2 ⟨k2.pot, ps2, some r, ls2, hv1, hv2, fun r' e => by cases e; exact hr2⟩
        · exact go vp .non G ⟨k.pot, ps, none, ls, hvp.ext (k.ext pot4), rfl, fun r e => by cases e⟩
      case rest =>
        clear pot4 hvp ls
        obtain ⟨pot, ps, kn, ls, hu, hv, hkn⟩ := hG
        dsimp only [tNext, tSeq, tAsg, gName, List.set_cons_succ, List.set_cons_zero]
        refine ⟨_, rfl, _, rfl, n, u, ps, rfl, ls.ok, hu, fun dr G1 ndr s1 hdr => ?_⟩
        obtain ⟨drh, drg, _⟩ := pot.ne ndr
        have pot1 := pot.same s1
        have hu1 := hu.ext (.of s1)
        have hv1 := hv.ext (Ext.of s1)
        clear hu hv pot
        have hRs := ords_sorted n (partL n ps) (rgI n) (rgI_asc n)
        have hRl : ∀ r ∈ ords n (partL n ps) (rgI n), r.length = n := fun r hr => by
          rw [((mem_ords (rgI_len n) (rgI_nodup n)).mp hr).1.length_eq, rgI_len]
        refine ⟨_, rfl, rfl, _, rfl, ?_⟩
        rw [decide_eq_false (by intro z; cases z)]
        refine iteF ?_
        refine known_in (R := ords n (partL n ps) (rgI n)) rfl rfl hv1 hkn hdr ?_
        refine iteF ?_
        clear hv1 hkn
        have n0 : (0 : Int) ≤ n := by omega
        dsimp only [tNext, tSeq, tAsg, gName, List.set_cons_succ, List.set_cons_zero]
        refine ⟨_, rfl, _, rfl, (n : Int), rfl, RgOk.of_le (by omega) (by omega) (by omega) (by omega), fun rl nrl => ?_⟩
        rw [rgV_I]
        have s2 : Same G1 (upd G1 rl (.lst ((rgI n).map V.int))) := same_new nrl
        have hrl : (upd G1 rl (.lst ((rgI n).map V.int))) rl = some (.lst ((rgI n).map V.int)) := upd_same
        generalize upd G1 rl (.lst ((rgI n).map V.int)) = G2 at s2 hrl ⊢
        refine ⟨h, g, sm, rl, _, rfl, pot1.same s2, SqL.of hrl, by rw [List.length_map, rgI_len]; omega, fun r ys G3 nr k3 hr3 pm => ?_⟩
        obtain ⟨wl, pw, rfl⟩ := perm_map_inv pm (rgI n) rfl
        have x : RowOk n wl := ⟨pw⟩
        have pot3 := k3.pot
        have hu3 := (hu1.ext (.of s2)).ext (k3.ext (pot1.same s2))
        have hdr3 := (hdr.same s2).keep (pot1.same s2) k3 drh drg
        obtain ⟨rh, rg, _⟩ := (pot1.same s2).ne nr
        clear hu1 hdr pot1 s2 hrl nrl k3 nr pm
        refine ⟨_, rfl, _, rfl, _, rfl, u, r, n, ps, wl, rfl, ls, hu3, x, hr3, fun u2 qs G4 s4 hu2 ls2 hq => ⟨n, u2, qs, rfl, ls2.ok, hu2, fun dq G5 ndq s5 hdq => ?_⟩⟩
        have s35 := s4.trans s5
        have pot5 := pot3.same s35
        have hu5 := hu3.ext (.of s35)
        have hdr5 := hdr3.same s35
        have hr5 := s35 _ _ hr3
        have ro := ren_orders x ls.asc hq
        have hQl : ∀ r ∈ ords n (partL n qs) (rgI n), r.length = n ∧ ∀ j ∈ r, 0 ≤ j ∧ j < (n : Int) := fun r hr => by
          have z := ((mem_ords (rgI_len n) (rgI_nodup n)).mp hr).1
          exact ⟨by rw [z.length_eq, rgI_len], fun j hj => mem_rgI.mp (z.mem_iff.mp hj)⟩
        clear hu2 s4 s5 s35 pot3 hu3 hdr3 hr3 ndq
        have hRf := ords_few n5 (partL n ps)
        have hQf := ords_few n5 (partL n qs)
        generalize hR : ords n (partL n ps) (rgI n) = R at hdr5 hRs hRl ro hRf
        generalize ords n (partL n qs) (rgI n) = R2 at hdq hQl ro hQf
        refine ⟨_, rfl, rfl, _, rfl, ?_⟩
        rw [decide_eq_false (by intro z; cases z)]
        refine iteF ?_
        obtain ⟨xs2, x21, x22⟩ := hdq
        have hx2l : xs2.length = R2.length := by rw [x22.length, List.length_map]
        refine ⟨_, rfl, dq, rfl, ⟨_, SqL.of x21⟩, fun D nD => lc_list (K := K) (xs := xs2) (fun j H' => Got K G5 D ((R2.take j).map fun r => ctD (r.map fun j => wl.getD j.toNat 0)) H') (.zero nD) (fun j H' _ y => SqL.of (y.same _ _ x21)) ?_ ?_⟩
        · rintro j xv G6 hxj y
          obtain ⟨dd, hd, hxd⟩ := dhAll_at x22 hxj
          obtain ⟨r0, hr0, rfl⟩ := map_at hd
          obtain ⟨z1, z2⟩ := hQl r0 (List.mem_of_getElem? hr0)
          have hR2j := (List.getElem?_eq_some_iff.mp hr0).1
          obtain ⟨b, rfl, hb⟩ := ct_inv (hxd.ext (.of y.same))
          have hr6 := y.same _ _ hr5
          refine ⟨rfl, ?_⟩
          dsimp only [tYes]
          rw [if_pos rfl]
          refine ⟨_, rfl, b, rfl, ⟨_, hb⟩, fun D2 nD2 => lc_tup (K := K) (xs := r0.map V.int) (fun k H' => Same G6 H' ∧ H' D2 = some (.lst (((r0.take k).map fun j => wl.getD j.toNat 0).map V.int))) ⟨same_new nD2, upd_same⟩ (fun k H' _ ⟨s', _⟩ => (Ext.of s').sqT hb) ?_ ?_⟩
          · rintro k xk G7 hxk ⟨s7, hD2⟩
            rw [List.getElem?_map] at hxk
            obtain ⟨c, hc, rfl⟩ := Option.map_eq_some_iff.mp hxk
            have hcr := z2 c (List.mem_of_getElem? hc)
            have hcl : c.toNat < wl.length := by have := x.len; omega
            refine ⟨rfl, ?_⟩
            dsimp only [tYes]
            rw [if_pos rfl]
            refine ⟨_, rfl, _, rfl, r, _, c, .int (wl.getD c.toNat 0), rfl, rfl, SqL.of (s7 _ _ hr6), at_of (j := c.toNat) (by omega) (by
              rw [List.getElem?_map, List.getElem?_eq_getElem hcl, List.getD_eq_getElem?_getD, List.getElem?_eq_getElem hcl]
              rfl), ?_⟩
            refine ⟨_, hD2, sz_small (by rw [List.length_map, List.length_map]; have := List.length_take (i := k) (l := r0); omega), Same.put nD2 s7, ?_⟩
            rw [List.take_add_one, hc, List.map_append, List.map_append]
            exact upd_same
          · rintro G7 ⟨s7, hD2⟩
            rw [List.length_map, List.take_length] at hD2
            refine ⟨D2, _, rfl, .inl ⟨SqL.of hD2, fun tt ntt => ?_⟩⟩
            have s8 := s7.trans (same_new (o := HO.tup ((r0.map fun j => wl.getD j.toNat 0).map V.int)) ntt)
            obtain ⟨acc, h1, h2, h3⟩ := y.put (v := .ref tt) (d := ctD (r0.map fun j => wl.getD j.toNat 0)) nD s8 (dh_ct (SqT.of upd_same)) (by rw [List.length_map]; have := List.length_take (i := j) (l := R2); omega)
            refine ⟨acc, h1, h2, ?_⟩
            rw [List.take_add_one, hr0, List.map_append]
            exact h3
        · rintro G6 ⟨s6, acc, hD, hac⟩
          rw [hx2l, List.take_length] at hac
          have hac2 : DhAll K G6 acc ((R2.map fun r => r.map fun j => wl.getD j.toNat 0).map ctD) := by
            rw [List.map_map]
            exact hac
          dsimp only [tNil]
          refine sort_pats (SqL.of hD) hac2 (fun z hz => ?_) fun p4 ys4 qs4 np4 hys4 eq4 => ?_
          · have := hRl z (ro.mem_iff.mp hz)
            omega
          have s7 : Same G6 (upd G6 p4 (.lst ys4)) := same_new np4
          have hp4 : (upd G6 p4 (.lst ys4)) p4 = some (.lst ys4) := upd_same
          have hys5 := hys4.ext (.of s7)
          generalize upd G6 p4 (.lst ys4) = G7 at s7 hp4 hys5 ⊢
          have s57 := s6.trans s7
          have hdr7 := hdr5.same s57
          obtain ⟨xr, xr1, xr2⟩ := id hdr7
          refine ⟨_, rfl, ?_⟩
          dsimp only [tNil]
          refine sort_pats (SqL.of xr1) xr2 (fun z hz => ?_) fun p5 ys5 qs5 np5 hys6 eq5 => ?_
          · have := hRl z hz
            omega
          have s8 : Same G7 (upd G7 p5 (.lst ys5)) := same_new np5
          have hp5 : (upd G7 p5 (.lst ys5)) p5 = some (.lst ys5) := upd_same
          have hys7 := hys6.ext (.of s8)
          generalize upd G7 p5 (.lst ys5) = G8 at s8 hp5 hys7 ⊢
          have e45 : qs4 = qs5 := by
            have m1 := List.mergeSort_perm (R2.map fun r => r.map fun j => wl.getD j.toNat 0) fun a b : List Int => decide (a ≤ b)
            have m2 := List.mergeSort_perm R fun a b : List Int => decide (a ≤ b)
            rw [← eq4] at m1
            rw [← eq5] at m2
            have so : ∀ l : List (List Int), (l.mergeSort fun a b => decide (a ≤ b)).Pairwise fun a b => a ≤ b := fun l => (List.pairwise_mergeSort (le := fun a b : List Int => decide (a ≤ b)) (fun a b c x y => decide_eq_true (List.le_trans (of_decide_eq_true x) (of_decide_eq_true y))) (fun a b => by
              rcases List.le_total a b with x | x <;> simp [x]) l).imp fun {a b} h => of_decide_eq_true h
            exact ((m1.trans ro).trans m2.symm).eq_of_pairwise (fun a b _ _ h1 h2 => List.le_antisymm h1 h2) (by rw [eq4]; exact so _) (by rw [eq5]; exact so _)
          subst e45
          refine ⟨_, _, dp_cts (SqL.of (s8 _ _ hp4)) (hys5.ext (.of s8)), dp_cts (SqL.of hp5) hys7, shaped_cts _, shaped_cts _, ?_⟩
          rw [eqv_cts, decide_eq_true rfl]
          refine ⟨_, rfl, iteF ?_⟩
          have s58 := s57.trans s8
          have pot8 := pot5.same s58
          have hu8 := hu5.ext (.of s58)
          have hdr8 := hdr5.same s58
          clear hys7 hp5 s8 hdr7 xr1 xr2 s57 hys5 hp4 s7 hac2 hac hD s6 x22 x21 hdr5 hu5 hr5 pot5
          obtain ⟨ua, xu, rfl, hua, hxu⟩ := hu8.tup_inv
          have hxul : xu.length = ps.length := by rw [hxu.length, List.length_map]
          dsimp only [tNext, tSeq, tAsg, gName, List.set_cons_succ, List.set_cons_zero]
          refine ⟨_, rfl, ua, rfl, ⟨_, hua⟩, fun D9 nD9 => lc_tup (K := K) (xs := xu) (fun j H' => KeepP h g sm G8 H' ∧ ∃ acc F, H' D9 = some (.lst acc) ∧ DhAll K H' acc (F.map ctD) ∧ F.Sublist (ps.take j) ∧ (rgI n ∈ ps.take j → rgI n ∈ F))
            ⟨.of pot8 (same_new nD9), [], [], upd_same, .nil, List.nil_sublist _, fun hm => by rw [List.take_zero] at hm; cases hm⟩ (fun j H' _ ⟨k, _⟩ => (k.ext pot8).sqT hua) ?_ ?_⟩
          · rintro j xv G9 hxj ⟨k9, acc9, F, hD9, hF, hsl, hwh⟩
            obtain ⟨dd, hd, hxd⟩ := dhAll_at hxu hxj
            obtain ⟨p, hp1, rfl⟩ := map_at hd
            obtain ⟨D9h, D9g, D9s⟩ := pot8.ne nD9
            have hFl : F.length ≤ 12 := by
              have := hsl.length_le
              have := List.length_take (i := j) (l := ps)
              have := ls.len
              omega
            have hxd9 := hxd.ext (k9.ext pot8)
            obtain ⟨b, rfl, hb⟩ := ct_inv hxd9
            have add : ∀ G10, KeepP h g sm G9 G10 → ∃ acc, G10 D9 = some (.lst acc) ∧ acc.length < sizeLine ∧ (KeepP h g sm G8 (upd G10 D9 (.lst (acc ++ [.ref b]))) ∧ ∃ (acc2 : List V) (F2 : List (List Int)), (upd G10 D9 (.lst (acc ++ [.ref b]))) D9 = some (.lst acc2) ∧ DhAll K (upd G10 D9 (.lst (acc ++ [.ref b]))) acc2 (F2.map ctD) ∧ F2.Sublist (ps.take (j + 1)) ∧ (rgI n ∈ ps.take (j + 1) → rgI n ∈ F2)) := fun G10 k10 => by
              have hD10 := k10.rest D9 _ D9h D9g hD9
              have ep := Ext.put (ys := acc9 ++ [.ref b]) hD10
              have k810 := k9.trans k10
              have hacl := hF.length
              rw [List.length_map] at hacl
              refine ⟨acc9, hD10, sz_small (by omega), ⟨fun b2 o b3 b4 z => ?_, ?_⟩, acc9 ++ [.ref b], F ++ [p], upd_same, ?_, ?_, fun _ => ?_⟩
              · have nb : b2 ≠ D9 := fun y => by
                  rw [y, nD9] at z
                  cases z
                rw [upd_ne nb]
                exact k810.rest b2 o b3 b4 z
              · obtain ⟨ti, tot, gs, ss, e1, e2, e3, rr⟩ := k810.pot.ex
                refine ⟨ti, tot, gs, ss, ?_, ?_, ?_, rr⟩
                · rw [upd_ne D9h.symm]
                  exact e1
                · rw [upd_ne D9g.symm]
                  exact e2
                · rw [upd_ne D9s.symm]
                  exact e3
              · rw [List.map_append]
                exact ((hF.ext (k10.ext k9.pot)).snoc (dh_ct ((k10.ext k9.pot).sqT hb))).ext ep
              · rw [List.take_add_one, hp1]
                exact hsl.append (List.Sublist.refl _)
              · rename_i hm
                rw [List.take_add_one, hp1] at hm
                rcases List.mem_append.mp hm with u | u
                · exact List.mem_append_left _ (hwh u)
                · exact List.mem_append_right _ u
            refine ⟨rfl, ?_⟩
            refine ⟨_, rfl, b, _, rfl, .inr hb, _, rfl, rfl, _, rfl, ?_⟩
            rw [List.length_map]
            by_cases e : p.length = n
            · rw [show decide (V.int (p.length : Int) = V.int (n : Int)) = true from decide_eq_true (by rw [e])]
              refine iteT ?_
              dsimp only
              rw [if_pos rfl]
              exact ⟨_, rfl, add G9 (.of k9.pot (Same.refl G9))⟩
            · rw [show decide (V.int (p.length : Int) = V.int (n : Int)) = false from decide_eq_false fun z => e (by injection z with z; omega)]
              refine iteF ?_
              refine ⟨_, rfl, h, g, sm, 3, rfl, k9.pot, by decide, by decide, fun d9 G10 d0 d1 k10 => ⟨_, _, rfl, rfl, _, rfl, ?_⟩⟩
              refine ite2 (fun _ => ?_) (fun _ => ?_)
              · exact ⟨_, rfl, add G10 k10⟩
              · refine ⟨k9.trans k10, acc9, F, k10.rest D9 _ D9h D9g hD9, hF.ext (k10.ext k9.pot), ?_, fun hm => ?_⟩
                · rw [List.take_add_one]
                  exact hsl.trans (List.sublist_append_left _ _)
                · rw [List.take_add_one, hp1] at hm
                  rcases List.mem_append.mp hm with u | u
                  · exact hwh u
                  · have ep : rgI n = p := by simpa using u
                    rw [← ep, rgI_len] at e
                    exact absurd rfl e
          · rintro G9 ⟨k9, acc9, F, hD9, hF, hsl, hwh⟩
            rw [hxul, List.take_length] at hsl hwh
            have lsF : LsS n F := ⟨n1, n5, ls.pw.sublist hsl, fun p hp => ls.asc p (hsl.subset hp), hwh ls.whole, Nat.le_trans hsl.length_le ls.len⟩
            have hdr9 := hdr8.keep pot8 k9 drh drg
            refine ⟨_, rfl, _, rfl, D9, _, rfl, .inl ⟨SqL.of hD9, fun t9 nt9 => ?_⟩⟩
            have s10 : Same G9 (upd G9 t9 (.tup acc9)) := same_new nt9
            have ht9 : (upd G9 t9 (.tup acc9)) t9 = some (.tup acc9) := upd_same
            generalize upd G9 t9 (.tup acc9) = G10 at s10 ht9 ⊢
            refine ⟨n, .ref t9, F, rfl, lsF.ok, .tup (SqT.of ht9) (hF.ext (.of s10)), fun df G11 ndf s11 hdf => ?_⟩
            have s911 := s10.trans s11
            obtain ⟨xr, xr1, xr2⟩ := hdr9.same s911
            have hxrl : xr.length = R.length := by rw [xr2.length, List.length_map]
            obtain ⟨xf, xf1, xf2⟩ := hdf
            have potF := k9.pot.same s911
            have inF : ∀ r ∈ R, r ∈ ords n (partL n F) (rgI n) := fun r hr => by
              rw [← hR] at hr
              obtain ⟨p1, p2⟩ := (mem_ords (rgI_len n) (rgI_nodup n)).mp hr
              refine (mem_ords (rgI_len n) (rgI_nodup n)).mpr ⟨p1, p2.sub fun z hz => ?_⟩
              obtain ⟨z1, z2⟩ := List.mem_filter.mp hz
              exact List.mem_filter.mpr ⟨hsl.subset z1, z2⟩
            refine ⟨_, rfl, rfl, _, rfl, ?_⟩
            rw [decide_eq_false (by intro z; cases z)]
            refine iteF ?_
            refine ⟨_, rfl, dr, rfl, ⟨_, SqL.of xr1⟩, fun D12 nD12 => lc_list (K := K) (xs := xr) (fun j H' => Same G11 H' ∧ H' D12 = some (.lst ((List.replicate j true).map V.bl))) ⟨same_new nD12, upd_same⟩ (fun j H' _ ⟨s', _⟩ => SqL.of (s' _ _ xr1)) ?_ ?_⟩
            · rintro j xv G12 hxj ⟨s12, hD12⟩
              obtain ⟨dd, hd, hxd⟩ := dhAll_at xr2 hxj
              obtain ⟨r0, hr0, rfl⟩ := map_at hd
              have hjl := (List.getElem?_eq_some_iff.mp hr0).1
              refine ⟨rfl, ?_⟩
              dsimp only [tYes]
              rw [if_pos rfl]
              refine ⟨_, rfl, _, rfl, ctP r0, (ords n (partL n F) (rgI n)).map ctP, dp_ct (hxd.ext (.of s12)), dp_cts (SqL.of (s12 _ _ xf1)) (xf2.ext (.of s12)), shaped_ct _, shaped_cts _, ?_⟩
              rw [any_ctm (inF r0 (List.mem_of_getElem? hr0))]
              refine ⟨_, hD12, sz_small (by rw [List.length_map, List.length_replicate]; omega), Same.put nD12 s12, ?_⟩
              rw [upd_same, List.replicate_succ', List.map_append]
              rfl
            · rintro G12 ⟨s12, hD12⟩
              refine ⟨D12, _, rfl, SqL.of hD12, _, rfl, ?_⟩
              have ea : (List.replicate xr.length true).all id = true := List.all_eq_true.mpr fun z hz => by
                rw [(List.mem_replicate.mp hz).2]
                rfl
              rw [ea]
              refine iteF ?_
              exact ⟨_, _, _, _, _, _, _, _, _, _, _, _, rfl, potF.same s12⟩

end
end Fm
namespace Fm
open PySem PySem.Spec PyProof.Rows L2
section
variable {P : Program} {w : World} {K : PySem.W.Frag} {mg : Str → Option Value} {base : Heap}

/-! ### isinstance and except among the classes of the text -/
theorem kit_own {K : PySem.W.Frag} {D C : Addr} {b : Bool} (hne : D ≠ C) (hdct : PySem.W.hasDictIn K C = true) (ht : PySem.W.typeIn K (.ref C) = some (.type "type")) (h : PySem.W.subIn K (.ref D) (.ref C) = some b) : PySem.W.kitOne K (.ref D) (.ref C) = some b := by
  obtain ⟨cd, hc, _⟩ := PySem.W.any_some hdct
  unfold PySem.W.kitOne
  rw [if_neg fun e => hne (Value.ref.inj (beq_iff_eq.mp e))]
  have e2 : ((PySem.W.clsIn K C).isSome && PySem.W.typeIn K (.ref C) == some (.type "type")) = true := by rw [hc, ht] <;> rfl
  show (if ((PySem.W.clsIn K C).isSome && PySem.W.typeIn K (.ref C) == some (.type "type")) = true then PySem.W.subIn K (.ref D) (.ref C) else none) = some b
  rw [if_pos e2]
  exact h
theorem kit_typ {K : PySem.W.Frag} {C : Addr} {T : String} {b : Bool} (hm : PySem.W.kitMeta T = true) (h : PySem.W.subIn K (.ref C) (.type T) = some b) : PySem.W.kitOne K (.ref C) (.type T) = some b := by
  unfold PySem.W.kitOne
  rw [if_neg fun e => by cases (beq_iff_eq.mp e)]
  show (if PySem.W.kitMeta T = true then PySem.W.subIn K (.ref C) (.type T) else none) = some b
  rw [if_pos hm]
  exact h
theorem oexC_mk {K : PySem.W.Frag} {C N : Addr} {nm q : Str} {bs bm sub : List Value} {sn : List Str} {ab : Bool} {col : Option Bool} {dd : Option Addr} {k0 k1 k2 k3 k5 : Option Value} (l : K.lookup C = some (excClassObj nm q C N bs bm true sn sub ab col dd k0 k1 k2 k3 k5 "ValueError.__new__"))
    (r : PySem.HandSPX.refsVE bm = true) (sa : PySem.W.findIn K (.ref C) "__setattr__" = some (some (.builtin "object.__setattr__"))) (ex : PySem.W.subIn K (.ref C) (.type "BaseException") = some true) (ty : PySem.W.typeIn K (.ref C) = some (.type "type")) (kC : PySem.W.keepIn K (.ref C) = true) : OexC K C :=
  ⟨⟨nm, q, N, bs, bm, sn, sub, ab, col, dd, k0, k1, k2, k3, k5, l, r⟩, sa, ex, ty, kC⟩
theorem sqK_mk {K : PySem.W.Frag} {a : Addr} {o : Obj} {xs : List V} (l : K.lookup a = some o) (h : ∃ its n, o.cls = .type "tuple" ∧ o.data = .seq its n ∧ its.size ≤ sizeLine ∧ Vals xs its.toList) (H : Hp) : SqT K H a xs := by
  obtain ⟨its, n, h1, h2, h3, h4⟩ := h
  exact .inr ⟨o, its, n, l, h1, h2, h3, h4⟩
theorem kit_base {K : PySem.W.Frag} {C : Addr} {T : String} {b : Bool} (hdct : PySem.W.hasDictIn K C = true) (ht : PySem.W.typeIn K (.ref C) = some (.type "type")) (h : PySem.W.subIn K (.type T) (.ref C) = some b) : PySem.W.kitOne K (.type T) (.ref C) = some b := by
  obtain ⟨cd, hc, _⟩ := PySem.W.any_some hdct
  unfold PySem.W.kitOne
  rw [if_neg fun e => by cases (beq_iff_eq.mp e)]
  have e2 : ((PySem.W.clsIn K C).isSome && PySem.W.typeIn K (.ref C) == some (.type "type")) = true := by rw [hc, ht] <;> rfl
  show (if ((PySem.W.clsIn K C).isSome && PySem.W.typeIn K (.ref C) == some (.type "type")) = true then PySem.W.subIn K (.type T) (.ref C) else none) = some b
  rw [if_pos e2]
  exact h

/-! ### what the top has left, the head -/
theorem all_mk {l : PySem.W.OpenLaw} {w : World} {K : PySem.W.Frag} {h : Heap} {mg : Str → Option Value} {fa f1 f2 f3 f4 f5 f6 f7 f8 f9 f10 f11 f12 f13 f14 f15 f16 f17 f18 f19 f20 f21 f22 f23 f24 f25 f26 f27 f28 f29 f30 c_NoNumber c_NoList c_MaskError : Addr} (X : K.In h) (G : h.Ns mainGlobals mg) (hfa : mg "law" = some (.ref fa))
    {od1 an1 od2 an2 od3 an3 od4 an4 od5 an5 od6 an6 od7 an7 od8 an8 od9 an9 od10 an10 od11 an11 od12 an12 od13 an13 od14 an14 od15 an15 od16 an16 od17 an17 od18 an18 od19 an19 od20 an20 od21 an21 od22 an22 od23 an23 od24 an24 od25 an25 od26 an26 od27 an27 od28 an28 od29 an29 od30 an30 : Option Addr} {sl1 sl2 sl3 sl4 sl5 sl6 sl7 sl8 sl9 sl10 sl11 sl12 sl13 sl14 sl15 sl16 sl17 sl18 sl19 sl20 sl21 sl22 sl23 sl24 sl25 sl26 sl27 sl28 sl29 sl30 : Array (Option Value)} {oc1 kV1 dc1 pm1 cd1 ct1 oc2 kV2 dc2 pm2 cd2 ct2 oc3 kV3 dc3 pm3 cd3 ct3 oc4 kV4 dc4 pm4 cd4 ct4 oc5 kV5 dc5 pm5 cd5 ct5 oc6 kV6 dc6 pm6 cd6 ct6 oc7 kV7 dc7 pm7 cd7 ct7 oc8 kV8 dc8 pm8 cd8 ct8 oc9 kV9 dc9 pm9 cd9 ct9 oc10 kV10 dc10 pm10 cd10 ct10 oc11 kV11 dc11 pm11 cd11 ct11 oc12 kV12 dc12 pm12 cd12 ct12 oc13 kV13 dc13 pm13 cd13 ct13 oc14 kV14 dc14 pm14 cd14 ct14 oc15 kV15 dc15 pm15 cd15 ct15 oc16 kV16 dc16 pm16 cd16 ct16 oc17 kV17 dc17 pm17 cd17 ct17 oc18 kV18 dc18 pm18 cd18 ct18 oc19 kV19 dc19 pm19 cd19 ct19 oc20 kV20 dc20 pm20 cd20 ct20 oc21 kV21 dc21 pm21 cd21 ct21 oc22 kV22 dc22 pm22 cd22 ct22 oc23 kV23 dc23 pm23 cd23 ct23 oc24 kV24 dc24 pm24 cd24 ct24 oc25 kV25 dc25 pm25 cd25 ct25 oc26 kV26 dc26 pm26 cd26 ct26 oc27 kV27 dc27 pm27 cd27 ct27 oc28 kV28 dc28 pm28 cd28 ct28 oc29 kV29 dc29 pm29 cd29 ct29 oc30 kV30 dc30 pm30 cd30 ct30 m_MaskError : Value} {t1 t2 : _}
    (n_NoNumber : PySem.W.nsIn K mainGlobals "NoNumber" = some (some (.ref c_NoNumber)))
    (n_NoList : PySem.W.nsIn K mainGlobals "NoList" = some (some (.ref c_NoList)))
    (n_MaskError : PySem.W.nsIn K mainGlobals "MaskError" = some (some (.ref c_MaskError)))
    (a1 : PySem.W.nsIn K mainGlobals "is_whole" = some (some (.ref f1))) (l1 : K.lookup f1 = some ⟨oc1, od1, .func (PySem.W.fnOf "is_whole" "is_whole" (defArgs s_is_whole) (defBody s_is_whole) (defScope s_is_whole) .none kV1 dc1 pm1 an1 cd1 ct1), sl1⟩) (c1 : PySem.W.codeIn K cd1 "is_whole" = true) (k1 : PySem.W.keepIn K (.ref f1) = true)
    (a2 : PySem.W.nsIn K mainGlobals "is_pattern" = some (some (.ref f2))) (l2 : K.lookup f2 = some ⟨oc2, od2, .func (PySem.W.fnOf "is_pattern" "is_pattern" (defArgs s_is_pattern) (defBody s_is_pattern) (defScope s_is_pattern) .none kV2 dc2 pm2 an2 cd2 ct2), sl2⟩) (c2 : PySem.W.codeIn K cd2 "is_pattern" = true) (k2 : PySem.W.keepIn K (.ref f2) = true)
    (a3 : PySem.W.nsIn K mainGlobals "all_columns" = some (some (.ref f3))) (l3 : K.lookup f3 = some ⟨oc3, od3, .func (PySem.W.fnOf "all_columns" "all_columns" (defArgs s_all_columns) (defBody s_all_columns) (defScope s_all_columns) .none kV3 dc3 pm3 an3 cd3 ct3), sl3⟩) (c3 : PySem.W.codeIn K cd3 "all_columns" = true) (k3 : PySem.W.keepIn K (.ref f3) = true)
    (a4 : PySem.W.nsIn K mainGlobals "less" = some (some (.ref f4))) (l4 : K.lookup f4 = some ⟨oc4, od4, .func (PySem.W.fnOf "less" "less" (defArgs s_less) (defBody s_less) (defScope s_less) .none kV4 dc4 pm4 an4 cd4 ct4), sl4⟩) (c4 : PySem.W.codeIn K cd4 "less" = true) (k4 : PySem.W.keepIn K (.ref f4) = true)
    (a5 : PySem.W.nsIn K mainGlobals "is_list" = some (some (.ref f5))) (l5 : K.lookup f5 = some ⟨oc5, od5, .func (PySem.W.fnOf "is_list" "is_list" (defArgs s_is_list) (defBody s_is_list) (defScope s_is_list) .none kV5 dc5 pm5 an5 cd5 ct5), sl5⟩) (c5 : PySem.W.codeIn K cd5 "is_list" = true) (k5 : PySem.W.keepIn K (.ref f5) = true)
    (a6 : PySem.W.nsIn K mainGlobals "parts_of" = some (some (.ref f6))) (l6 : K.lookup f6 = some ⟨oc6, od6, .func (PySem.W.fnOf "parts_of" "parts_of" (defArgs s_parts_of) (defBody s_parts_of) (defScope s_parts_of) .none kV6 dc6 pm6 an6 cd6 ct6), sl6⟩) (c6 : PySem.W.codeIn K cd6 "parts_of" = true) (k6 : PySem.W.keepIn K (.ref f6) = true)
    (a7 : PySem.W.nsIn K mainGlobals "within" = some (some (.ref f7))) (l7 : K.lookup f7 = some ⟨oc7, od7, .func (PySem.W.fnOf "within" "within" (defArgs s_within) (defBody s_within) (defScope s_within) .none kV7 dc7 pm7 an7 cd7 ct7), sl7⟩) (c7 : PySem.W.codeIn K cd7 "within" = true) (k7 : PySem.W.keepIn K (.ref f7) = true)
    (a8 : PySem.W.nsIn K mainGlobals "is_nest" = some (some (.ref f8))) (l8 : K.lookup f8 = some ⟨oc8, od8, .func (PySem.W.fnOf "is_nest" "is_nest" (defArgs s_is_nest) (defBody s_is_nest) (defScope s_is_nest) .none kV8 dc8 pm8 an8 cd8 ct8), sl8⟩) (c8 : PySem.W.codeIn K cd8 "is_nest" = true) (k8 : PySem.W.keepIn K (.ref f8) = true)
    (a9 : PySem.W.nsIn K mainGlobals "struck" = some (some (.ref f9))) (l9 : K.lookup f9 = some ⟨oc9, od9, .func (PySem.W.fnOf "struck" "struck" (defArgs s_struck) (defBody s_struck) (defScope s_struck) .none kV9 dc9 pm9 an9 cd9 ct9), sl9⟩) (c9 : PySem.W.codeIn K cd9 "struck" = true) (k9 : PySem.W.keepIn K (.ref f9) = true)
    (a10 : PySem.W.nsIn K mainGlobals "order_of" = some (some (.ref f10))) (l10 : K.lookup f10 = some ⟨oc10, od10, .func (PySem.W.fnOf "order_of" "order_of" (defArgs s_order_of) (defBody s_order_of) (defScope s_order_of) .none kV10 dc10 pm10 an10 cd10 ct10), sl10⟩) (c10 : PySem.W.codeIn K cd10 "order_of" = true) (k10 : PySem.W.keepIn K (.ref f10) = true)
    (a11 : PySem.W.nsIn K mainGlobals "count_orders" = some (some (.ref f11))) (l11 : K.lookup f11 = some ⟨oc11, od11, .func (PySem.W.fnOf "count_orders" "count_orders" (defArgs s_count_orders) (defBody s_count_orders) (defScope s_count_orders) .none kV11 dc11 pm11 an11 cd11 ct11), sl11⟩) (c11 : PySem.W.codeIn K cd11 "count_orders" = true) (k11 : PySem.W.keepIn K (.ref f11) = true)
    (a12 : PySem.W.nsIn K mainGlobals "nests" = some (some (.ref f12))) (l12 : K.lookup f12 = some ⟨oc12, od12, .func (PySem.W.fnOf "nests" "nests" (defArgs s_nests) (defBody s_nests) (defScope s_nests) .none kV12 dc12 pm12 an12 cd12 ct12), sl12⟩) (c12 : PySem.W.codeIn K cd12 "nests" = true) (k12 : PySem.W.keepIn K (.ref f12) = true)
    (a13 : PySem.W.nsIn K mainGlobals "order" = some (some (.ref f13))) (l13 : K.lookup f13 = some ⟨oc13, od13, .func (PySem.W.fnOf "order" "order" (defArgs s_order) (defBody s_order) (defScope s_order) .none kV13 dc13 pm13 an13 cd13 ct13), sl13⟩) (c13 : PySem.W.codeIn K cd13 "order" = true) (k13 : PySem.W.keepIn K (.ref f13) = true)
    (a14 : PySem.W.nsIn K mainGlobals "many_orders" = some (some (.ref f14))) (l14 : K.lookup f14 = some ⟨oc14, od14, .func (PySem.W.fnOf "many_orders" "many_orders" (defArgs s_many_orders) (defBody s_many_orders) (defScope s_many_orders) .none kV14 dc14 pm14 an14 cd14 ct14), sl14⟩) (c14 : PySem.W.codeIn K cd14 "many_orders" = true) (k14 : PySem.W.keepIn K (.ref f14) = true)
    (a15 : PySem.W.nsIn K mainGlobals "_law_pot" = some (some (.ref f15))) (l15 : K.lookup f15 = some ⟨oc15, od15, .func (PySem.W.fnOf "_law_pot" "_law_pot" (defArgs s_law_pot) (defBody s_law_pot) (defScope s_law_pot) .none kV15 dc15 pm15 an15 cd15 ct15), sl15⟩) (c15 : PySem.W.codeIn K cd15 "_law_pot" = true) (k15 : PySem.W.keepIn K (.ref f15) = true)
    (a16 : PySem.W.nsIn K mainGlobals "_law_draw" = some (some (.ref f16))) (l16 : K.lookup f16 = some ⟨oc16, od16, .func (PySem.W.fnOf "_law_draw" "_law_draw" (defArgs s_law_draw) (defBody s_law_draw) (defScope s_law_draw) .none kV16 dc16 pm16 an16 cd16 ct16), sl16⟩) (c16 : PySem.W.codeIn K cd16 "_law_draw" = true) (k16 : PySem.W.keepIn K (.ref f16) = true)
    (a17 : PySem.W.nsIn K mainGlobals "_law_mixed" = some (some (.ref f17))) (l17 : K.lookup f17 = some ⟨oc17, od17, .func (PySem.W.fnOf "_law_mixed" "_law_mixed" (defArgs s_law_mixed) (defBody s_law_mixed) (defScope s_law_mixed) .none kV17 dc17 pm17 an17 cd17 ct17), sl17⟩) (c17 : PySem.W.codeIn K cd17 "_law_mixed" = true) (k17 : PySem.W.keepIn K (.ref f17) = true)
    (a18 : PySem.W.nsIn K mainGlobals "_law_patterns" = some (some (.ref f18))) (l18 : K.lookup f18 = some ⟨oc18, od18, .func (PySem.W.fnOf "_law_patterns" "_law_patterns" (defArgs s_law_patterns) (defBody s_law_patterns) (defScope s_law_patterns) .none kV18 dc18 pm18 an18 cd18 ct18), sl18⟩) (c18 : PySem.W.codeIn K cd18 "_law_patterns" = true) (k18 : PySem.W.keepIn K (.ref f18) = true)
    (a19 : PySem.W.nsIn K mainGlobals "_law_list" = some (some (.ref f19))) (l19 : K.lookup f19 = some ⟨oc19, od19, .func (PySem.W.fnOf "_law_list" "_law_list" (defArgs s_law_list) (defBody s_law_list) (defScope s_law_list) .none kV19 dc19 pm19 an19 cd19 ct19), sl19⟩) (c19 : PySem.W.codeIn K cd19 "_law_list" = true) (k19 : PySem.W.keepIn K (.ref f19) = true)
    (a20 : PySem.W.nsIn K mainGlobals "_law_parts" = some (some (.ref f20))) (l20 : K.lookup f20 = some ⟨oc20, od20, .func (PySem.W.fnOf "_law_parts" "_law_parts" (defArgs s_law_parts) (defBody s_law_parts) (defScope s_law_parts) .none kV20 dc20 pm20 an20 cd20 ct20), sl20⟩) (c20 : PySem.W.codeIn K cd20 "_law_parts" = true) (k20 : PySem.W.keepIn K (.ref f20) = true)
    (a21 : PySem.W.nsIn K mainGlobals "_law_inside" = some (some (.ref f21))) (l21 : K.lookup f21 = some ⟨oc21, od21, .func (PySem.W.fnOf "_law_inside" "_law_inside" (defArgs s_law_inside) (defBody s_law_inside) (defScope s_law_inside) .none kV21 dc21 pm21 an21 cd21 ct21), sl21⟩) (c21 : PySem.W.codeIn K cd21 "_law_inside" = true) (k21 : PySem.W.keepIn K (.ref f21) = true)
    (a22 : PySem.W.nsIn K mainGlobals "_law_is_nest" = some (some (.ref f22))) (l22 : K.lookup f22 = some ⟨oc22, od22, .func (PySem.W.fnOf "_law_is_nest" "_law_is_nest" (defArgs s_law_is_nest) (defBody s_law_is_nest) (defScope s_law_is_nest) .none kV22 dc22 pm22 an22 cd22 ct22), sl22⟩) (c22 : PySem.W.codeIn K cd22 "_law_is_nest" = true) (k22 : PySem.W.keepIn K (.ref f22) = true)
    (a23 : PySem.W.nsIn K mainGlobals "_law_struck" = some (some (.ref f23))) (l23 : K.lookup f23 = some ⟨oc23, od23, .func (PySem.W.fnOf "_law_struck" "_law_struck" (defArgs s_law_struck) (defBody s_law_struck) (defScope s_law_struck) .none kV23 dc23 pm23 an23 cd23 ct23), sl23⟩) (c23 : PySem.W.codeIn K cd23 "_law_struck" = true) (k23 : PySem.W.keepIn K (.ref f23) = true)
    (a24 : PySem.W.nsIn K mainGlobals "_law_orders" = some (some (.ref f24))) (l24 : K.lookup f24 = some ⟨oc24, od24, .func (PySem.W.fnOf "_law_orders" "_law_orders" (defArgs s_law_orders) (defBody s_law_orders) (defScope s_law_orders) .none kV24 dc24 pm24 an24 cd24 ct24), sl24⟩) (c24 : PySem.W.codeIn K cd24 "_law_orders" = true) (k24 : PySem.W.keepIn K (.ref f24) = true)
    (a25 : PySem.W.nsIn K mainGlobals "_law_ringless" = some (some (.ref f25))) (l25 : K.lookup f25 = some ⟨oc25, od25, .func (PySem.W.fnOf "_law_ringless" "_law_ringless" (defArgs s_law_ringless) (defBody s_law_ringless) (defScope s_law_ringless) .none kV25 dc25 pm25 an25 cd25 ct25), sl25⟩) (c25 : PySem.W.codeIn K cd25 "_law_ringless" = true) (k25 : PySem.W.keepIn K (.ref f25) = true)
    (a26 : PySem.W.nsIn K mainGlobals "_law_renamed" = some (some (.ref f26))) (l26 : K.lookup f26 = some ⟨oc26, od26, .func (PySem.W.fnOf "_law_renamed" "_law_renamed" (defArgs s_law_renamed) (defBody s_law_renamed) (defScope s_law_renamed) .none kV26 dc26 pm26 an26 cd26 ct26), sl26⟩) (c26 : PySem.W.codeIn K cd26 "_law_renamed" = true) (k26 : PySem.W.keepIn K (.ref f26) = true)
    (a27 : PySem.W.nsIn K mainGlobals "_law_is_right" = some (some (.ref f27))) (l27 : K.lookup f27 = some ⟨oc27, od27, .func (PySem.W.fnOf "_law_is_right" "_law_is_right" (defArgs s_law_is_right) (defBody s_law_is_right) (defScope s_law_is_right) .none kV27 dc27 pm27 an27 cd27 ct27), sl27⟩) (c27 : PySem.W.codeIn K cd27 "_law_is_right" = true) (k27 : PySem.W.keepIn K (.ref f27) = true)
    (a28 : PySem.W.nsIn K mainGlobals "law" = some (some (.ref f28))) (l28 : K.lookup f28 = some ⟨oc28, od28, .func (PySem.W.fnOf "law" "law" (defArgs s_law) (defBody s_law) (defScope s_law) .none kV28 dc28 pm28 an28 cd28 ct28), sl28⟩) (c28 : PySem.W.codeIn K cd28 "law" = true) (k28 : PySem.W.keepIn K (.ref f28) = true)
    (a29 : PySem.W.findIn K (.ref c_NoNumber) "__init__" = some (some (.ref f29))) (l29 : K.lookup f29 = some ⟨oc29, od29, .func (PySem.W.fnOf "__init__" "NoNumber.__init__" (defArgs s_NoNumber_init) (defBody s_NoNumber_init) (defScope s_NoNumber_init) .none kV29 dc29 pm29 an29 cd29 ct29), sl29⟩) (c29 : PySem.W.codeIn K cd29 "NoNumber.__init__" = true) (k29 : PySem.W.keepIn K (.ref f29) = true)
    (a30 : PySem.W.findIn K (.ref c_NoList) "__init__" = some (some (.ref f30))) (l30 : K.lookup f30 = some ⟨oc30, od30, .func (PySem.W.fnOf "__init__" "NoList.__init__" (defArgs s_NoList_init) (defBody s_NoList_init) (defScope s_NoList_init) .none kV30 dc30 pm30 an30 cd30 ct30), sl30⟩) (c30 : PySem.W.codeIn K cd30 "NoList.__init__" = true) (k30 : PySem.W.keepIn K (.ref f30) = true)
    (y_MaskError : PySem.W.typeIn K (.ref c_MaskError) = some m_MaskError)
    (U_MaskError : UpC K c_MaskError m_MaskError)
    (o_NoNumber : OexC K c_NoNumber)
    (t_NoNumber : PySem.W.typeIn K (.ref f29) = some (.type "function"))
    (e_NoNumber : ExcC K c_NoNumber)
    (x_NoNumber : PySem.W.exmOne K (.ref c_NoNumber) (.ref c_MaskError) = some true)
    (o_NoList : OexC K c_NoList)
    (t_NoList : PySem.W.typeIn K (.ref f30) = some (.type "function"))
    (e_NoList : ExcC K c_NoList)
    (x_NoList : PySem.W.exmOne K (.ref c_NoList) (.ref c_MaskError) = some true)
    (q_NoNumber_NoNumber : PySem.W.kitOne K (.ref c_NoNumber) (.ref c_NoNumber) = some true)
    (q_NoNumber_NoList : PySem.W.kitOne K (.ref c_NoNumber) (.ref c_NoList) = some false)
    (q_NoList_NoNumber : PySem.W.kitOne K (.ref c_NoList) (.ref c_NoNumber) = some false)
    (q_NoList_NoList : PySem.W.kitOne K (.ref c_NoList) (.ref c_NoList) = some true)
    (u1 : PySem.W.nsIn K mainGlobals "MOST_COLUMNS" = some (some (.int 5 t1)))
    (u2 : PySem.W.nsIn K mainGlobals "MOST_PATTERNS" = some (some (.int 12 t2)))
    (z1 : PySem.W.nsIn K mainGlobals "len" = some none)
    (z2 : PySem.W.nsIn K mainGlobals "isinstance" = some none)
    (z3 : PySem.W.nsIn K mainGlobals "range" = some none)
    (z4 : PySem.W.nsIn K mainGlobals "zip" = some none)
    (z5 : PySem.W.nsIn K mainGlobals "tuple" = some none)
    (z6 : PySem.W.nsIn K mainGlobals "list" = some none)
    (z7 : PySem.W.nsIn K mainGlobals "int" = some none)
    (z8 : PySem.W.nsIn K mainGlobals "bool" = some none)
    (z9 : PySem.W.nsIn K mainGlobals "abs" = some none)
    (z10 : PySem.W.nsIn K mainGlobals "sorted" = some none)
    (z11 : PySem.W.nsIn K mainGlobals "set" = some none)
    (z12 : PySem.W.nsIn K mainGlobals "min" = some none)
    (z13 : PySem.W.nsIn K mainGlobals "sum" = some none)
    (z14 : PySem.W.nsIn K mainGlobals "all" = some none)
    : ∃ fd : FuncData, (∀ (s : Shared) (v : Value), BindsTo s fd ⟨[v], []⟩ [("script", v)]) ∧ ∀ base : Heap, K.In base → base.Ns mainGlobals mg → FnOk l.prog w K mg base CX0 12 fa fd ["script"] (spLaw K) := by
  have e := hfa.symm.trans (PySem.W.mg_of X G a28)
  cases e
  have F1 := fun_mk (st := s_is_whole) l1 c1 k1
  have b1 := F1.binds (ps := ["thing"]) fun _ _ _ _ _ _ us hl => match us, hl with | [_], _ => rfl
  have F2 := fun_mk (st := s_is_pattern) l2 c2 k2
  have b2 := F2.binds (ps := ["columns", "thing"]) fun _ _ _ _ _ _ us hl => match us, hl with | [_, _], _ => rfl
  have F3 := fun_mk (st := s_all_columns) l3 c3 k3
  have b3 := F3.binds (ps := ["columns"]) fun _ _ _ _ _ _ us hl => match us, hl with | [_], _ => rfl
  have F4 := fun_mk (st := s_less) l4 c4 k4
  have b4 := F4.binds (ps := ["pattern", "column"]) fun _ _ _ _ _ _ us hl => match us, hl with | [_, _], _ => rfl
  have F5 := fun_mk (st := s_is_list) l5 c5 k5
  have b5 := F5.binds (ps := ["columns", "thing"]) fun _ _ _ _ _ _ us hl => match us, hl with | [_, _], _ => rfl
  have F6 := fun_mk (st := s_parts_of) l6 c6 k6
  have b6 := F6.binds (ps := ["columns", "listed"]) fun _ _ _ _ _ _ us hl => match us, hl with | [_, _], _ => rfl
  have F7 := fun_mk (st := s_within) l7 c7 k7
  have b7 := F7.binds (ps := ["inner", "outer"]) fun _ _ _ _ _ _ us hl => match us, hl with | [_, _], _ => rfl
  have F8 := fun_mk (st := s_is_nest) l8 c8 k8
  have b8 := F8.binds (ps := ["parts", "column"]) fun _ _ _ _ _ _ us hl => match us, hl with | [_, _], _ => rfl
  have F9 := fun_mk (st := s_struck) l9 c9 k9
  have b9 := F9.binds (ps := ["parts", "column"]) fun _ _ _ _ _ _ us hl => match us, hl with | [_, _], _ => rfl
  have F10 := fun_mk (st := s_order_of) l10 c10 k10
  have b10 := F10.binds (ps := ["parts", "left"]) fun _ _ _ _ _ _ us hl => match us, hl with | [_, _], _ => rfl
  have F11 := fun_mk (st := s_count_orders) l11 c11 k11
  have b11 := F11.binds (ps := ["parts", "left"]) fun _ _ _ _ _ _ us hl => match us, hl with | [_, _], _ => rfl
  have F12 := fun_mk (st := s_nests) l12 c12 k12
  have b12 := F12.binds (ps := ["columns", "listed"]) fun _ _ _ _ _ _ us hl => match us, hl with | [_, _], _ => rfl
  have F13 := fun_mk (st := s_order) l13 c13 k13
  have b13 := F13.binds (ps := ["columns", "listed"]) fun _ _ _ _ _ _ us hl => match us, hl with | [_, _], _ => rfl
  have F14 := fun_mk (st := s_many_orders) l14 c14 k14
  have b14 := F14.binds (ps := ["columns", "listed"]) fun _ _ _ _ _ _ us hl => match us, hl with | [_, _], _ => rfl
  have F15 := fun_mk (st := s_law_pot) l15 c15 k15
  have b15 := F15.binds (ps := ["script"]) fun _ _ _ _ _ _ us hl => match us, hl with | [_], _ => rfl
  have F16 := fun_mk (st := s_law_draw) l16 c16 k16
  have b16 := F16.binds (ps := ["pot", "many"]) fun _ _ _ _ _ _ us hl => match us, hl with | [_, _], _ => rfl
  have F17 := fun_mk (st := s_law_mixed) l17 c17 k17
  have b17 := F17.binds (ps := ["pot", "items"]) fun _ _ _ _ _ _ us hl => match us, hl with | [_, _], _ => rfl
  have F18 := fun_mk (st := s_law_patterns) l18 c18 k18
  have b18 := F18.binds (ps := ["columns"]) fun _ _ _ _ _ _ us hl => match us, hl with | [_], _ => rfl
  have F19 := fun_mk (st := s_law_list) l19 c19 k19
  have b19 := F19.binds (ps := ["pot", "columns", "most"]) fun _ _ _ _ _ _ us hl => match us, hl with | [_, _, _], _ => rfl
  have F20 := fun_mk (st := s_law_parts) l20 c20 k20
  have b20 := F20.binds (ps := ["columns", "patterns"]) fun _ _ _ _ _ _ us hl => match us, hl with | [_, _], _ => rfl
  have F21 := fun_mk (st := s_law_inside) l21 c21 k21
  have b21 := F21.binds (ps := ["one", "other"]) fun _ _ _ _ _ _ us hl => match us, hl with | [_, _], _ => rfl
  have F22 := fun_mk (st := s_law_is_nest) l22 c22 k22
  have b22 := F22.binds (ps := ["c", "some"]) fun _ _ _ _ _ _ us hl => match us, hl with | [_, _], _ => rfl
  have F23 := fun_mk (st := s_law_struck) l23 c23 k23
  have b23 := F23.binds (ps := ["c", "some"]) fun _ _ _ _ _ _ us hl => match us, hl with | [_, _], _ => rfl
  have F24 := fun_mk (st := s_law_orders) l24 c24 k24
  have b24 := F24.binds (ps := ["columns", "some"]) fun _ _ _ _ _ _ us hl => match us, hl with | [_, _], _ => rfl
  have F25 := fun_mk (st := s_law_ringless) l25 c25 k25
  have b25 := F25.binds (ps := ["pot", "columns", "most"]) fun _ _ _ _ _ _ us hl => match us, hl with | [_, _, _], _ => rfl
  have F26 := fun_mk (st := s_law_renamed) l26 c26 k26
  have b26 := F26.binds (ps := ["patterns", "row"]) fun _ _ _ _ _ _ us hl => match us, hl with | [_, _], _ => rfl
  have F27 := fun_mk (st := s_law_is_right) l27 c27 k27
  have b27 := F27.binds (ps := ["columns", "patterns"]) fun _ _ _ _ _ _ us hl => match us, hl with | [_, _], _ => rfl
  have F28 := fun_mk (st := s_law) l28 c28 k28
  have F29 := fun_mk (st := s_NoNumber_init) l29 c29 k29
  have b29 := F29.binds (ps := ["self"]) fun _ _ _ _ _ _ us hl => match us, hl with | [_], _ => rfl
  have F30 := fun_mk (st := s_NoList_init) l30 c30 k30
  have b30 := F30.binds (ps := ["self"]) fun _ _ _ _ _ _ us hl => match us, hl with | [_], _ => rfl
  let T : Txt K mg := { f_is_whole := f1, d_is_whole := _, F_is_whole := F1, b_is_whole := b1, g_is_whole := PySem.W.mg_of X G a1, f_is_pattern := f2, d_is_pattern := _, F_is_pattern := F2, b_is_pattern := b2, g_is_pattern := PySem.W.mg_of X G a2, f_all_columns := f3, d_all_columns := _, F_all_columns := F3, b_all_columns := b3, g_all_columns := PySem.W.mg_of X G a3, f_less := f4, d_less := _, F_less := F4, b_less := b4, g_less := PySem.W.mg_of X G a4, f_is_list := f5, d_is_list := _, F_is_list := F5, b_is_list := b5, g_is_list := PySem.W.mg_of X G a5, f_parts_of := f6, d_parts_of := _, F_parts_of := F6, b_parts_of := b6, g_parts_of := PySem.W.mg_of X G a6, f_within := f7, d_within := _, F_within := F7, b_within := b7, g_within := PySem.W.mg_of X G a7, f_is_nest := f8, d_is_nest := _, F_is_nest := F8, b_is_nest := b8, g_is_nest := PySem.W.mg_of X G a8, f_struck := f9, d_struck := _, F_struck := F9, b_struck := b9, g_struck := PySem.W.mg_of X G a9, f_order_of := f10, d_order_of := _, F_order_of := F10, b_order_of := b10, g_order_of := PySem.W.mg_of X G a10, f_count_orders := f11, d_count_orders := _, F_count_orders := F11, b_count_orders := b11, g_count_orders := PySem.W.mg_of X G a11, f_nests := f12, d_nests := _, F_nests := F12, b_nests := b12, g_nests := PySem.W.mg_of X G a12, f_order := f13, d_order := _, F_order := F13, b_order := b13, g_order := PySem.W.mg_of X G a13, f_many_orders := f14, d_many_orders := _, F_many_orders := F14, b_many_orders := b14, g_many_orders := PySem.W.mg_of X G a14, f_law_pot := f15, d_law_pot := _, F_law_pot := F15, b_law_pot := b15, g_law_pot := PySem.W.mg_of X G a15, f_law_draw := f16, d_law_draw := _, F_law_draw := F16, b_law_draw := b16, g_law_draw := PySem.W.mg_of X G a16, f_law_mixed := f17, d_law_mixed := _, F_law_mixed := F17, b_law_mixed := b17, g_law_mixed := PySem.W.mg_of X G a17, f_law_patterns := f18, d_law_patterns := _, F_law_patterns := F18, b_law_patterns := b18, g_law_patterns := PySem.W.mg_of X G a18, f_law_list := f19, d_law_list := _, F_law_list := F19, b_law_list := b19, g_law_list := PySem.W.mg_of X G a19, f_law_parts := f20, d_law_parts := _, F_law_parts := F20, b_law_parts := b20, g_law_parts := PySem.W.mg_of X G a20, f_law_inside := f21, d_law_inside := _, F_law_inside := F21, b_law_inside := b21, g_law_inside := PySem.W.mg_of X G a21, f_law_is_nest := f22, d_law_is_nest := _, F_law_is_nest := F22, b_law_is_nest := b22, g_law_is_nest := PySem.W.mg_of X G a22, f_law_struck := f23, d_law_struck := _, F_law_struck := F23, b_law_struck := b23, g_law_struck := PySem.W.mg_of X G a23, f_law_orders := f24, d_law_orders := _, F_law_orders := F24, b_law_orders := b24, g_law_orders := PySem.W.mg_of X G a24, f_law_ringless := f25, d_law_ringless := _, F_law_ringless := F25, b_law_ringless := b25, g_law_ringless := PySem.W.mg_of X G a25, f_law_renamed := f26, d_law_renamed := _, F_law_renamed := F26, b_law_renamed := b26, g_law_renamed := PySem.W.mg_of X G a26, f_law_is_right := f27, d_law_is_right := _, F_law_is_right := F27, b_law_is_right := b27, g_law_is_right := PySem.W.mg_of X G a27, f_NoNumber_init := f29, d_NoNumber_init := _, F_NoNumber_init := F29, b_NoNumber_init := b29, f_NoList_init := f30, d_NoList_init := _, F_NoList_init := F30, b_NoList_init := b30, c_NoNumber := c_NoNumber, g_NoNumber := PySem.W.mg_of X G n_NoNumber, c_NoList := c_NoList, g_NoList := PySem.W.mg_of X G n_NoList, c_MaskError := c_MaskError, g_MaskError := PySem.W.mg_of X G n_MaskError, m_MaskError := m_MaskError, U_MaskError := U_MaskError, o_NoNumber := o_NoNumber, t_NoNumber := t_NoNumber, e_NoNumber := e_NoNumber, x_NoNumber := x_NoNumber, i_NoNumber := a29, o_NoList := o_NoList, t_NoList := t_NoList, e_NoList := e_NoList, x_NoList := x_NoList, i_NoList := a30, q_NoNumber_NoNumber := q_NoNumber_NoNumber, q_NoNumber_NoList := q_NoNumber_NoList, q_NoList_NoNumber := q_NoList_NoNumber, q_NoList_NoList := q_NoList_NoList, u_MOST_COLUMNS := _, k_MOST_COLUMNS := ⟨PySem.W.mg_of X G u1, ⟨_, rfl⟩⟩, u_MOST_PATTERNS := _, k_MOST_PATTERNS := ⟨PySem.W.mg_of X G u2, ⟨_, rfl⟩⟩, z_len := PySem.W.mg_none_of X G z1, z_isinstance := PySem.W.mg_none_of X G z2, z_range := PySem.W.mg_none_of X G z3, z_zip := PySem.W.mg_none_of X G z4, z_tuple := PySem.W.mg_none_of X G z5, z_list := PySem.W.mg_none_of X G z6, z_int := PySem.W.mg_none_of X G z7, z_bool := PySem.W.mg_none_of X G z8, z_abs := PySem.W.mg_none_of X G z9, z_sorted := PySem.W.mg_none_of X G z10, z_set := PySem.W.mg_none_of X G z11, z_min := PySem.W.mg_none_of X G z12, z_sum := PySem.W.mg_none_of X G z13, z_all := PySem.W.mg_none_of X G z14 }
  exact ⟨PySem.W.fnOf "law" "law" (defArgs s_law) (defBody s_law) (defScope s_law) .none kV28 dc28 pm28 an28 cd28 ct28, fun s v => .of_eq rfl, fun base _ _ => ok_law T F28⟩

end
end Fm
open PySem PySem.W PyProof.Rows
set_option maxHeartbeats 0 in
theorem PySem.Challenge.cw_fairmasks_k23_whole_nest_columns_and_ord_holds : PySem.Challenge.rw_fairmasks_k23_whole_nest_columns_and_ord.Holds := by
  w_on; o_law; k_head; (case hw => w_witness2)
  k_fill
  refine L2.walk_of (l := PySem.Challenge.rw_fairmasks_k23_whole_nest_columns_and_ord) (n := 63) (k := 12) (x := "script") (CX := fun _ => L2.CX0) (sp := fun w => Fm.spLaw _) rfl (by decide) rfl ⟨rfl, by decide, by decide⟩ (fun w h Y => PySem.W.kIn_of Y) ?F (fun _ _ a ns hl _ hS => ⟨a, ns, rfl, hS, hl, fun _ => rfl⟩) (fun _ _ _ _ _ h => h)
  case F =>
    intro w mg fa h KX G hmg
    refine' Fm.all_mk KX G hmg ?n_NoNumber ?n_NoList ?n_MaskError ?a1 ?l1 ?c1 ?k1 ?a2 ?l2 ?c2 ?k2 ?a3 ?l3 ?c3 ?k3 ?a4 ?l4 ?c4 ?k4 ?a5 ?l5 ?c5 ?k5 ?a6 ?l6 ?c6 ?k6 ?a7 ?l7 ?c7 ?k7 ?a8 ?l8 ?c8 ?k8 ?a9 ?l9 ?c9 ?k9 ?a10 ?l10 ?c10 ?k10 ?a11 ?l11 ?c11 ?k11 ?a12 ?l12 ?c12 ?k12 ?a13 ?l13 ?c13 ?k13 ?a14 ?l14 ?c14 ?k14 ?a15 ?l15 ?c15 ?k15 ?a16 ?l16 ?c16 ?k16 ?a17 ?l17 ?c17 ?k17 ?a18 ?l18 ?c18 ?k18 ?a19 ?l19 ?c19 ?k19 ?a20 ?l20 ?c20 ?k20 ?a21 ?l21 ?c21 ?k21 ?a22 ?l22 ?c22 ?k22 ?a23 ?l23 ?c23 ?k23 ?a24 ?l24 ?c24 ?k24 ?a25 ?l25 ?c25 ?k25 ?a26 ?l26 ?c26 ?k26 ?a27 ?l27 ?c27 ?k27 ?a28 ?l28 ?c28 ?k28 ?a29 ?l29 ?c29 ?k29 ?a30 ?l30 ?c30 ?k30 ?y_MaskError ?U_MaskError ?o_NoNumber ?t_NoNumber ?e_NoNumber ?x_NoNumber ?o_NoList ?t_NoList ?e_NoList ?x_NoList ?q_NoNumber_NoNumber ?q_NoNumber_NoList ?q_NoList_NoNumber ?q_NoList_NoList ?u1 ?u2 ?z1 ?z2 ?z3 ?z4 ?z5 ?z6 ?z7 ?z8 ?z9 ?z10 ?z11 ?z12 ?z13 ?z14
    case n_NoNumber => k_is
    case n_NoList => k_is
    case n_MaskError => k_is
    case a1 => k_is
    case l1 => k_is
    case c1 => k_is
    case k1 => k_is
    case a2 => k_is
    case l2 => k_is
    case c2 => k_is
    case k2 => k_is
    case a3 => k_is
    case l3 => k_is
    case c3 => k_is
    case k3 => k_is
    case a4 => k_is
    case l4 => k_is
    case c4 => k_is
    case k4 => k_is
    case a5 => k_is
    case l5 => k_is
    case c5 => k_is
    case k5 => k_is
    case a6 => k_is
    case l6 => k_is
    case c6 => k_is
    case k6 => k_is
    case a7 => k_is
    case l7 => k_is
    case c7 => k_is
    case k7 => k_is
    case a8 => k_is
    case l8 => k_is
    case c8 => k_is
    case k8 => k_is
    case a9 => k_is
    case l9 => k_is
    case c9 => k_is
    case k9 => k_is
    case a10 => k_is
    case l10 => k_is
    case c10 => k_is
    case k10 => k_is
    case a11 => k_is
    case l11 => k_is
    case c11 => k_is
    case k11 => k_is
    case a12 => k_is
    case l12 => k_is
    case c12 => k_is
    case k12 => k_is
    case a13 => k_is
    case l13 => k_is
    case c13 => k_is
    case k13 => k_is
    case a14 => k_is
    case l14 => k_is
    case c14 => k_is
    case k14 => k_is
    case a15 => k_is
    case l15 => k_is
    case c15 => k_is
    case k15 => k_is
    case a16 => k_is
    case l16 => k_is
    case c16 => k_is
    case k16 => k_is
    case a17 => k_is
    case l17 => k_is
    case c17 => k_is
    case k17 => k_is
    case a18 => k_is
    case l18 => k_is
    case c18 => k_is
    case k18 => k_is
    case a19 => k_is
    case l19 => k_is
    case c19 => k_is
    case k19 => k_is
    case a20 => k_is
    case l20 => k_is
    case c20 => k_is
    case k20 => k_is
    case a21 => k_is
    case l21 => k_is
    case c21 => k_is
    case k21 => k_is
    case a22 => k_is
    case l22 => k_is
    case c22 => k_is
    case k22 => k_is
    case a23 => k_is
    case l23 => k_is
    case c23 => k_is
    case k23 => k_is
    case a24 => k_is
    case l24 => k_is
    case c24 => k_is
    case k24 => k_is
    case a25 => k_is
    case l25 => k_is
    case c25 => k_is
    case k25 => k_is
    case a26 => k_is
    case l26 => k_is
    case c26 => k_is
    case k26 => k_is
    case a27 => k_is
    case l27 => k_is
    case c27 => k_is
    case k27 => k_is
    case a28 => k_is
    case l28 => k_is
    case c28 => k_is
    case k28 => k_is
    case a29 => k_is
    case l29 => k_is
    case c29 => k_is
    case k29 => k_is
    case a30 => k_is
    case l30 => k_is
    case c30 => k_is
    case k30 => k_is
    case y_MaskError => k_is
    case U_MaskError => refine' ⟨?g_U_MaskError_z1, ?g_U_MaskError_z2, ?g_U_MaskError_z3⟩ <;> k_is
    case o_NoNumber => refine' Fm.oexC_mk ?g_o_NoNumber_z1 ?g_o_NoNumber_z2 ?g_o_NoNumber_z3 ?g_o_NoNumber_z4 ?g_o_NoNumber_z5 ?g_o_NoNumber_z6; (case g_o_NoNumber_z1 => k_is); (case g_o_NoNumber_z2 => decide +kernel); (case g_o_NoNumber_z3 => k_is); (case g_o_NoNumber_z4 => k_is); (case g_o_NoNumber_z5 => k_is); (case g_o_NoNumber_z6 => k_is)
    case t_NoNumber => k_is
    case e_NoNumber => refine' ⟨?g_e_NoNumber_z1, ?g_e_NoNumber_z2, ?g_e_NoNumber_z3, ?g_e_NoNumber_z4, ?g_e_NoNumber_z5, ?g_e_NoNumber_z6, ?g_e_NoNumber_z7, ?g_e_NoNumber_z8⟩ <;> k_is
    case x_NoNumber => refine' PySem.W.exm_ref ?g_x_NoNumber_z1 ?g_x_NoNumber_z2 ?g_x_NoNumber_z3 ?g_x_NoNumber_z4 <;> k_is
    case o_NoList => refine' Fm.oexC_mk ?g_o_NoList_z1 ?g_o_NoList_z2 ?g_o_NoList_z3 ?g_o_NoList_z4 ?g_o_NoList_z5 ?g_o_NoList_z6; (case g_o_NoList_z1 => k_is); (case g_o_NoList_z2 => decide +kernel); (case g_o_NoList_z3 => k_is); (case g_o_NoList_z4 => k_is); (case g_o_NoList_z5 => k_is); (case g_o_NoList_z6 => k_is)
    case t_NoList => k_is
    case e_NoList => refine' ⟨?g_e_NoList_z1, ?g_e_NoList_z2, ?g_e_NoList_z3, ?g_e_NoList_z4, ?g_e_NoList_z5, ?g_e_NoList_z6, ?g_e_NoList_z7, ?g_e_NoList_z8⟩ <;> k_is
    case x_NoList => refine' PySem.W.exm_ref ?g_x_NoList_z1 ?g_x_NoList_z2 ?g_x_NoList_z3 ?g_x_NoList_z4 <;> k_is
    case q_NoNumber_NoNumber => exact if_pos (beq_self_eq_true _)
    case q_NoNumber_NoList => refine' Fm.kit_own ?g_q_NoNumber_NoList_z1 ?g_q_NoNumber_NoList_z2 ?g_q_NoNumber_NoList_z3 ?g_q_NoNumber_NoList_z4; (case g_q_NoNumber_NoList_z1 => decide); (case g_q_NoNumber_NoList_z2 => k_is); (case g_q_NoNumber_NoList_z3 => k_is); (case g_q_NoNumber_NoList_z4 => k_is)
    case q_NoList_NoNumber => refine' Fm.kit_own ?g_q_NoList_NoNumber_z1 ?g_q_NoList_NoNumber_z2 ?g_q_NoList_NoNumber_z3 ?g_q_NoList_NoNumber_z4; (case g_q_NoList_NoNumber_z1 => decide); (case g_q_NoList_NoNumber_z2 => k_is); (case g_q_NoList_NoNumber_z3 => k_is); (case g_q_NoList_NoNumber_z4 => k_is)
    case q_NoList_NoList => exact if_pos (beq_self_eq_true _)
    case u1 => k_is
    case u2 => k_is
    case z1 => k_is
    case z2 => k_is
    case z3 => k_is
    case z4 => k_is
    case z5 => k_is
    case z6 => k_is
    case z7 => k_is
    case z8 => k_is
    case z9 => k_is
    case z10 => k_is
    case z11 => k_is
    case z12 => k_is
    case z13 => k_is
    case z14 => k_is
