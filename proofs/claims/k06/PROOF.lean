import PyProof.Rows.All
import Wide.All
import OpenK.AllK
import Wide.FinOn
import HandS.ForMost
import HandS.IsInst
import HandS.TupAny
import HandS.SetKeys
import HandS.DictComp
import HandS.Zip
import HandS.TupLe
import HandS.More
import HandS.Conv
import HandS.Codes
import KE.GoesNew
import KE.KDictZip
import HandS.Zip0
import KE.SortCalls
import KE.SortData
import HandS.Exc
import HandS.ExcInit
import HandS.ExcIs
import HandS.ClsMeth
import HandS.ForExc
import HandS.Deep
import HandS.TupMul
import HandS.Gcd
import HandS.WordsExc
import HandS.OwnEq
import HandS.TupSets
import HandS.Wide
import HandS.ExcField
import PyProof.InstNe
import KE.GoesSet
import KE.KDictKeyed
import KE.KDictDisplayH
import KE.KDictCopyH
import KE.KDictSum
import KE.KeyNested
import KE.KEqNest
import KE.LtData
import KE.KDictOf
import HandS.SetBool
import PySem.Challenge.RW_fairmasks_k06_whole_fair_habits_by_share
set_option Elab.async false
set_option maxRecDepth 100000
set_option maxHeartbeats 4000000
/-! Plain things of the fairmasks laws: data that a value stands for, heaps that go on, the drawing hand. -/
namespace Fm
open PySem PySem.Spec PyProof.Rows L2

/-- a thing that is judged: lists, dicts, instances are told by their type alone -/
inductive Dt where
  | non | bl (b : Bool) | int (i : Int) | str (s : Str) | tup (ds : List Dt) | oth (t : Value)

/-- only lists may have changed, and they are lists still -/
def Ext (H H' : Hp) : Prop := ∀ b o, H b = some o → H' b = some o ∨ ((∃ xs, o = .lst xs) ∧ ∃ ys, H' b = some (.lst ys))
theorem Ext.refl (H : Hp) : Ext H H := fun _ _ e => .inl e
theorem Ext.of {H H' : Hp} (s : Same H H') : Ext H H' := fun b o e => .inl (s b o e)
theorem Ext.trans {H H1 H2 : Hp} (a : Ext H H1) (b : Ext H1 H2) : Ext H H2 := fun c o e => by
  rcases a c o e with e1 | ⟨⟨xs, rfl⟩, ys, e1⟩
  · exact b c o e1
  · rcases b c _ e1 with e2 | ⟨_, zs, e2⟩
    · exact .inr ⟨⟨xs, rfl⟩, ys, e2⟩
    · exact .inr ⟨⟨xs, rfl⟩, zs, e2⟩
theorem Ext.tup {H H' : Hp} (e : Ext H H') {a : Addr} {xs : List V} (h : H a = some (.tup xs)) : H' a = some (.tup xs) := by
  rcases e a _ h with e1 | ⟨⟨ys, q⟩, _⟩
  · exact e1
  · cases q
theorem Ext.frz {H H' : Hp} (e : Ext H H') {a : Addr} {o : Obj} {u : HO} (h : H a = some (.frz o u)) : H' a = some (.frz o u) := by
  rcases e a _ h with e1 | ⟨⟨ys, q⟩, _⟩
  · exact e1
  · cases q
theorem Ext.sqT {K : PySem.W.Frag} {H H' : Hp} (e : Ext H H') {a : Addr} {xs : List V} (h : SqT K H a xs) : SqT K H' a xs := by
  rcases h with (h | ⟨o, h⟩) | h
  · exact .inl (.inl (e.tup h))
  · exact .inl (.inr ⟨o, e.frz h⟩)
  · exact .inr h
theorem same_new {H : Hp} {p : Addr} {o : HO} (h : H p = none) : Same H (upd H p o) := fun b x e => by
  rw [upd_ne (ne_of_none e h)]
  exact e
theorem Ext.new {H : Hp} {p : Addr} {o : HO} (h : H p = none) : Ext H (upd H p o) := .of (same_new h)
theorem TyX.ext {K : PySem.W.Frag} {H H' : Hp} {v : V} {t : Value} (e : Ext H H') (h : TyX K H v t) : TyX K H' v t := by
  have go : ∀ {a : Addr} {o : HO}, H a = some o → (∀ xs, o ≠ .lst xs) → H' a = some o := fun {a o} q n => by
    rcases e a _ q with e1 | ⟨⟨ys, z⟩, _⟩
    · exact e1
    · exact absurd z (n ys)
  cases h with
  | base b =>
    cases b with
    | non => exact .base .non
    | bl x => exact .base (.bl x)
    | int i => exact .base (.int i)
    | str x => exact .base (.str x)
    | flt x => exact .base (.flt x)
    | @lst a xs q =>
      rcases e a _ q with e1 | ⟨_, ys, e1⟩
      · exact .base (.lst e1)
      · exact .base (.lst e1)
    | frz q => exact .base (.frz (e.frz q))
    | tup q => exact .base (.tup (e.tup q))
    | dK q => exact .base (.dK (go q fun _ z => nomatch z))
    | dT q => exact .base (.dT (go q fun _ z => nomatch z))
    | ins q cl ha hn htk hm => exact .base (.ins (go q fun _ z => nomatch z) cl ha hn htk hm)
  | byt b => exact .byt b
  | set q => exact .set (go q fun _ z => nomatch z)
  | kList q c => exact .kList q c
  | kTuple q c => exact .kTuple q c
  | kDict q c => exact .kDict q c
  | fTuple q => exact .fTuple (e.frz q)
  | fDict q => exact .fDict (e.frz q)

mutual
inductive Dh (K : PySem.W.Frag) (H : Hp) : V → Dt → Prop
  | non : Dh K H .non .non
  | bl (b : Bool) : Dh K H (.bl b) (.bl b)
  | int (i : Int) : Dh K H (.int i) (.int i)
  | str (x : Str) : Dh K H (.str x) (.str x)
  | tup {a : Addr} {xs : List V} {ds : List Dt} : SqT K H a xs → DhAll K H xs ds → Dh K H (.ref a) (.tup ds)
  | oth {v : V} {t : Value} : TyX K H v t → PySem.W.kitOne K t (.type "int") = some false → PySem.W.kitOne K t (.type "tuple") = some false → Dh K H v (.oth t)
inductive DhAll (K : PySem.W.Frag) (H : Hp) : List V → List Dt → Prop
  | nil : DhAll K H [] []
  | cons {v : V} {vs : List V} {d : Dt} {ds : List Dt} : Dh K H v d → DhAll K H vs ds → DhAll K H (v :: vs) (d :: ds)
end
section
variable {K : PySem.W.Frag} {H H' : Hp}
mutual
theorem Dh.ext (e : Ext H H') : ∀ {v : V} {d : Dt}, Dh K H v d → Dh K H' v d
  | _, _, .non => .non
  | _, _, .bl b => .bl b
  | _, _, .int i => .int i
  | _, _, .str x => .str x
  | _, _, .tup s h => .tup (e.sqT s) (DhAll.ext e h)
  | _, _, .oth t k1 k2 => .oth (TyX.ext e t) k1 k2
theorem DhAll.ext (e : Ext H H') : ∀ {vs : List V} {ds : List Dt}, DhAll K H vs ds → DhAll K H' vs ds
  | _, _, .nil => .nil
  | _, _, .cons h t => .cons (Dh.ext e h) (DhAll.ext e t)
end
theorem DhAll.length : ∀ {vs : List V} {ds : List Dt}, DhAll K H vs ds → vs.length = ds.length
  | _, _, .nil => rfl
  | _, _, .cons _ t => congrArg (· + 1) (DhAll.length t)
theorem DhAll.get : ∀ {vs : List V} {ds : List Dt} {i : Nat} {v : V}, DhAll K H vs ds → vs[i]? = some v → ∃ d, ds[i]? = some d ∧ Dh K H v d
  | _, _, _, _, .nil, e => by simp at e
  | _, _, 0, _, .cons h _, e => by simp at e; subst e; exact ⟨_, rfl, h⟩
  | _, _, i + 1, v, .cons _ t, e => by
    obtain ⟨d, h1, h2⟩ := DhAll.get (i := i) (v := v) t (by simpa using e)
    exact ⟨d, by simpa using h1, h2⟩
theorem DhAll.at : ∀ {vs : List V} {ds : List Dt} {i : Nat} {d : Dt}, DhAll K H vs ds → ds[i]? = some d → ∃ v, vs[i]? = some v ∧ Dh K H v d
  | _, _, _, _, .nil, e => by simp at e
  | _, _, 0, _, .cons h _, e => by simp at e; subst e; exact ⟨_, rfl, h⟩
  | _, _, i + 1, d, .cons _ t, e => by
    obtain ⟨v, h1, h2⟩ := DhAll.at (i := i) (d := d) t (by simpa using e)
    exact ⟨v, by simpa using h1, h2⟩
theorem DhAll.snoc : ∀ {vs : List V} {ds : List Dt} {v : V} {d : Dt}, DhAll K H vs ds → Dh K H v d → DhAll K H (vs ++ [v]) (ds ++ [d])
  | _, _, _, _, .nil, h => .cons h .nil
  | _, _, _, _, .cons q t, h => .cons q (DhAll.snoc t h)
theorem DhAll.append : ∀ {vs ws : List V} {ds es : List Dt}, DhAll K H vs ds → DhAll K H ws es → DhAll K H (vs ++ ws) (ds ++ es)
  | _, _, _, _, .nil, h => h
  | _, _, _, _, .cons q t, h => .cons q (DhAll.append t h)

/-! ### what isinstance tells -/
def Dt.isInt : Dt → Bool
  | .int _ => true
  | .bl _ => true
  | _ => false
def Dt.isW : Dt → Bool
  | .int _ => true
  | _ => false
def Dt.isTup : Dt → Bool
  | .tup _ => true
  | _ => false
theorem tyx_tup {a : Addr} {xs : List V} (h : SqT K H a xs) : TyX K H (.ref a) (.type "tuple") := by
  rcases h with (h | ⟨o, h⟩) | ⟨o, its, n, h1, h2, _⟩
  · exact .base (.tup h)
  · exact .fTuple h
  · exact .kTuple h1 h2
theorem Dh.kinds {v : V} {d : Dt} (h : Dh K H v d) : ∃ t, TyX K H v t ∧ PySem.W.kitOne K t (.type "int") = some d.isInt ∧ PySem.W.kitOne K t (.type "tuple") = some d.isTup ∧ (d.isInt = true → PySem.W.kitOne K t (.type "bool") = some (!d.isW)) := by
  cases h with
  | non => exact ⟨_, .base .non, kit_ty (by decide +kernel), kit_ty (by decide +kernel), fun z => nomatch z⟩
  | bl b => exact ⟨_, .base (.bl b), kit_ty (show kitB "bool" "int" = some true by decide +kernel), kit_ty (show kitB "bool" "tuple" = some false by decide +kernel), fun _ => kit_ty (show kitB "bool" "bool" = some true by decide +kernel)⟩
  | int i => exact ⟨_, .base (.int i), kit_ty (show kitB "int" "int" = some true by decide +kernel), kit_ty (show kitB "int" "tuple" = some false by decide +kernel), fun _ => kit_ty (show kitB "int" "bool" = some false by decide +kernel)⟩
  | str x => exact ⟨_, .base (.str x), kit_ty (show kitB "str" "int" = some false by decide +kernel), kit_ty (show kitB "str" "tuple" = some false by decide +kernel), fun z => nomatch z⟩
  | tup s _ => exact ⟨_, tyx_tup s, kit_ty (show kitB "tuple" "int" = some false by decide +kernel), kit_ty (show kitB "tuple" "tuple" = some true by decide +kernel), fun z => nomatch z⟩
  | oth t k1 k2 => exact ⟨_, t, k1, k2, fun z => nomatch z⟩
end

/-! ### promises of defs over data -/
/-- plain: some data come in, one comes out, nothing is changed -/
def spD (K : PySem.W.Frag) (f : List Dt → Option Dt) : Sp := fun vs H Q _ => ∃ ds r, DhAll K H vs ds ∧ f ds = some r ∧ ∀ v H', Same H H' → Dh K H' v r → Q v H'
/-- .. a new list of data comes out -/
def spL (K : PySem.W.Frag) (f : List Dt → Option (List Dt)) : Sp := fun vs H Q _ => ∃ ds rs, DhAll K H vs ds ∧ f ds = some rs ∧ ∀ p xs H', H p = none → Same H H' → H' p = some (.lst xs) → DhAll K H' xs rs → Q (.ref p) H'
theorem Dh.bl_inv {K : PySem.W.Frag} {H : Hp} {v : V} {b : Bool} (h : Dh K H v (.bl b)) : v = .bl b := by cases h; rfl
theorem Dh.int_inv {K : PySem.W.Frag} {H : Hp} {v : V} {i : Int} (h : Dh K H v (.int i)) : v = .int i := by cases h; rfl
theorem Dh.non_inv {K : PySem.W.Frag} {H : Hp} {v : V} (h : Dh K H v .non) : v = .non := by cases h; rfl
theorem Dh.tup_inv {K : PySem.W.Frag} {H : Hp} {v : V} {ds : List Dt} (h : Dh K H v (.tup ds)) : ∃ a xs, v = .ref a ∧ SqT K H a xs ∧ DhAll K H xs ds := by
  cases h with
  | tup s t => exact ⟨_, _, rfl, s, t⟩
/-- the call of such a def -/
theorem spD_of {K : PySem.W.Frag} {f : List Dt → Option Dt} {vs : List V} {H : Hp} {Q : VK} {ds : List Dt} {r : Dt} (h : DhAll K H vs ds) (e : f ds = some r) (q : ∀ v H', Same H H' → Dh K H' v r → Q v H') : spD K f vs H Q E0 := ⟨ds, r, h, e, q⟩
theorem spD_bl {K : PySem.W.Frag} {f : List Dt → Option Dt} {vs : List V} {H : Hp} {Q : VK} {ds : List Dt} {b : Bool} (h : DhAll K H vs ds) (e : f ds = some (.bl b)) (q : ∀ H', Same H H' → Q (.bl b) H') : spD K f vs H Q E0 :=
  ⟨ds, _, h, e, fun v H' s d => by rw [d.bl_inv]; exact q H' s⟩
theorem spD_int {K : PySem.W.Frag} {f : List Dt → Option Dt} {vs : List V} {H : Hp} {Q : VK} {ds : List Dt} {b : Int} (h : DhAll K H vs ds) (e : f ds = some (.int b)) (q : ∀ H', Same H H' → Q (.int b) H') : spD K f vs H Q E0 :=
  ⟨ds, _, h, e, fun v H' s d => by rw [d.int_inv]; exact q H' s⟩
end Fm
namespace Fm
open PySem PySem.Spec PyProof.Rows L2
/-! ### zip of a list and a tuple that both stay as they are -/
/-- a list (true), a tuple (false) that is read -/
def SqA (L : Bool) (K : PySem.W.Frag) (H : Hp) (a : Addr) (xs : List V) : Prop := match L with
  | true => SqL K H a xs
  | false => SqT K H a xs
theorem Ext.sqTs {K : PySem.W.Frag} {H H' : Hp} {a : Addr} {xs : List V} {L : Bool} (e : Same H H') (h : SqA L K H a xs) : SqA L K H' a xs := match L, h with
  | true, h => e.seq h
  | false, h => (Ext.of e).sqT h
theorem SqA.any {K : PySem.W.Frag} {H : Hp} {a : Addr} {xs : List V} {L : Bool} (h : SqA L K H a xs) : SqL K H a xs ∨ SqT K H a xs := match L, h with
  | true, h => .inl h
  | false, h => .inr h
/-- pairs of the items of a list or tuple and of a tuple that stay as they are -/
def ItM (L : Bool) (K : PySem.W.Frag) (a b : Addr) (xs ys : List V) : It where
  go := fun i H => SqA L K H a xs ∧ SqT K H b ys ∧ i < xs.length ∧ i < ys.length
  yld := fun i H v H' => ∃ T x y, v = .ref T ∧ H T = none ∧ H' = upd H T (.tup [x, y]) ∧ xs[i]? = some x ∧ ys[i]? = some y
  stop := fun i H => SqA L K H a xs ∧ SqT K H b ys ∧ i = min xs.length ys.length
theorem vals_at {xs : List V} {us : List Value} {i : Nat} {u : Value} (r : Vals xs us) (h : us[i]? = some u) : ∃ x, xs[i]? = some x ∧ RelV x u := by
  obtain ⟨hl, e⟩ := List.getElem?_eq_some_iff.mp h
  have hx : i < xs.length := by rw [r.length]; exact hl
  obtain ⟨u', e1, e2⟩ := r.get (List.getElem?_eq_getElem hx)
  rw [h] at e1
  cases e1
  exact ⟨_, List.getElem?_eq_getElem hx, e2⟩
theorem turn_m {P : Program} {w : World} {K : PySem.W.Frag} {elts : List Expr} {kk : Nat} {tp : Pos} {a b z TI TO i1 i2 : Addr} {xs ys : List V} (S : ZipSep2 z TI TO i1 i2 [i1, a] [i2, b]) (n1 : a ≠ i1) (n2 : b ≠ i2) :
    Turn P w K (.Tuple elts kk tp) (ItM true K a b xs ys) [z, TI, TO, i1, i2] z
      (fun i h => IsZip h z TI TO .none ∧ IsTupOf2 h TI (.ref i1) (.ref i2) ∧ (∃ u v, IsTupOf2 h TO u v) ∧ h.IsListIter i1 a i ∧ h.IsTupleIter i2 b i) where
  mem := List.mem_cons_self ..
  obj := by
    rintro i h ⟨q1, q2, ⟨u, v, q3⟩, ⟨o4, q4, _, d4⟩, ⟨o5, q5, _, d5⟩⟩ c hc
    rcases (show c = z ∨ c = TI ∨ c = TO ∨ c = i1 ∨ c = i2 by simpa using hc) with e | e | e | e | e <;> subst e
    · exact ⟨_, q1, fun _ y => nomatch y⟩
    · exact ⟨_, q2, fun _ y => nomatch y⟩
    · exact ⟨_, q3, fun _ y => nomatch y⟩
    · exact ⟨o4, q4, fun _ y => by rw [d4] at y; cases y⟩
    · exact ⟨o5, q5, fun _ y => by rw [d5] at y; cases y⟩
  keep := by
    rintro i h h' ⟨q1, q2, ⟨u, v, q3⟩, q4, q5⟩ k
    exact ⟨k _ (by simp) _ q1, k _ (by simp) _ q2, ⟨u, v, k _ (by simp) _ q3⟩, q4.at fun o e => k _ (by simp) o e, q5.at fun o e => k _ (by simp) o e⟩
  item := by
    intro X hP hw hK hc i pins s σ H E I hf st hg
    subst hP hw hK
    obtain ⟨hx, hy, lx, ly⟩ := hg
    obtain ⟨us, rx, px, _⟩ := I.list hx
    obtain ⟨ws, ry, py, _⟩ := I.tuple hy
    have hd : X.A.in1.handled = none := I.ok.hd hc
    have W := GoesN.zip2 (elts := elts) (x1 := kk) (pos := tp) S (Draws.list (prog := X.prog) (w := X.w) hd i1 a n1 us.toArray) (Draws.tuple (prog := X.prog) (w := X.w) hd i2 b n2 ws.toArray)
    have hlt : i < min us.toArray.size ws.toArray.size := by
      rw [List.size_toArray, List.size_toArray, ← rx.length, ← ry.length]
      omega
    obtain ⟨q1, q2, q3, q4, q5⟩ := st
    refine W.goes i s (fun v s2 => ∃ x H', Inv X pins σ H' s2 ∧ RelV x v ∧ (ItM true X.K a b xs ys).yld i H x H' ∧ (IsZip s2.heap z TI TO .none ∧ IsTupOf2 s2.heap TI (.ref i1) (.ref i2) ∧ (∃ u v, IsTupOf2 s2.heap TO u v) ∧ s2.heap.IsListIter i1 a (i + 1) ∧ s2.heap.IsTupleIter i2 b (i + 1)) ∧ ∀ c ∈ [z, TI, TO, i1, i2], H' c = none) E hlt
      ⟨q1, q2, q3, ⟨q4, px.isList⟩, q5, py⟩ fun v h' tk hY st' hk _ => ?_
    obtain ⟨T, u, v', rfl, hT, hu, hv, hTt⟩ := hY
    obtain ⟨g1, g2, g3, ⟨g4, _⟩, g5, _⟩ := st'
    obtain ⟨x, ex, rxu⟩ := vals_at rx (show us[i]? = some u by simpa using hu)
    obtain ⟨y, ey, ryu⟩ := vals_at ry (show ws[i]? = some v' by simpa using hv)
    have new : ObjOk X.prog X.w (upd H T (.tup [x, y])) h' T (.tup [x, y]) := ⟨by show 2 ≤ sizeLine; decide, [u, v'], .cons rxu (.cons ryu .nil), hTt⟩
    refine ⟨.ref T, _, I.turnedNew (t' := tk) (ch := [z, TI, TO, i1, i2]) (fun c o hn e => hk c o (fun m => hn ?_) e) hf hT new, rfl, ⟨T, x, y, rfl, I.hok.fresh hT, rfl, ex, ey⟩, ⟨g1, g2, g3, g4, g5⟩, fun c hm => ?_⟩
    · simp only [List.mem_cons, List.not_mem_nil, or_false] at m ⊢
      rcases m with m | m | m | m <;> simp [m]
    · obtain ⟨o, e⟩ : ∃ o, s.heap.get? c = some o := by
        rcases (show c = z ∨ c = TI ∨ c = TO ∨ c = i1 ∨ c = i2 by simpa using hm) with e | e | e | e | e <;> subst e
        · exact ⟨_, q1⟩
        · exact ⟨_, q2⟩
        · obtain ⟨_, _, q⟩ := q3
          exact ⟨_, q⟩
        · obtain ⟨o, q, _⟩ := q4
          exact ⟨o, q⟩
        · obtain ⟨o, q, _⟩ := q5
          exact ⟨o, q⟩
      rw [upd_ne (Nat.ne_of_lt (Nat.lt_of_lt_of_le (Heap.lt_size e) hT))]
      exact (hf c hm).1
  done := by
    intro X hP hw hK hc i pins s σ H E I hf st hg
    subst hP hw hK
    obtain ⟨hx, hy, hi⟩ := hg
    obtain ⟨us, rx, px, _⟩ := I.list hx
    obtain ⟨ws, ry, py, _⟩ := I.tuple hy
    have hd : X.A.in1.handled = none := I.ok.hd hc
    have W := GoesN.zip2 (elts := elts) (x1 := kk) (pos := tp) S (Draws.list (prog := X.prog) (w := X.w) hd i1 a n1 us.toArray) (Draws.tuple (prog := X.prog) (w := X.w) hd i2 b n2 ws.toArray)
    have hn : i = min us.toArray.size ws.toArray.size := by
      rw [List.size_toArray, List.size_toArray, ← rx.length, ← ry.length]
      exact hi
    subst hn
    obtain ⟨q1, q2, q3, q4, q5⟩ := st
    refine W.stops s (fun s1 => Inv X pins σ H s1) E ⟨q1, q2, q3, ⟨q4, px.isList⟩, q5, py⟩ fun h' tk hk _ => ?_
    refine I.turnedL (t' := tk) (ch := [z, TI, TO, i1, i2]) (fun c o hn e => hk c o (fun m => hn ?_) e) hf
    simp only [List.mem_cons, List.not_mem_nil, or_false] at m ⊢
    rcases m with m | m | m | m <;> simp [m]
  self := fun _ _ _ _ _ st q => wpAny_pyIter_zip st.1 q
theorem turn_t {P : Program} {w : World} {K : PySem.W.Frag} {elts : List Expr} {kk : Nat} {tp : Pos} {a b z TI TO i1 i2 : Addr} {xs ys : List V} (S : ZipSep2 z TI TO i1 i2 [i1, a] [i2, b]) (n1 : a ≠ i1) (n2 : b ≠ i2) :
    Turn P w K (.Tuple elts kk tp) (ItM false K a b xs ys) [z, TI, TO, i1, i2] z
      (fun i h => IsZip h z TI TO .none ∧ IsTupOf2 h TI (.ref i1) (.ref i2) ∧ (∃ u v, IsTupOf2 h TO u v) ∧ h.IsTupleIter i1 a i ∧ h.IsTupleIter i2 b i) where
  mem := List.mem_cons_self ..
  obj := by
    rintro i h ⟨q1, q2, ⟨u, v, q3⟩, ⟨o4, q4, _, d4⟩, ⟨o5, q5, _, d5⟩⟩ c hc
    rcases (show c = z ∨ c = TI ∨ c = TO ∨ c = i1 ∨ c = i2 by simpa using hc) with e | e | e | e | e <;> subst e
    · exact ⟨_, q1, fun _ y => nomatch y⟩
    · exact ⟨_, q2, fun _ y => nomatch y⟩
    · exact ⟨_, q3, fun _ y => nomatch y⟩
    · exact ⟨o4, q4, fun _ y => by rw [d4] at y; cases y⟩
    · exact ⟨o5, q5, fun _ y => by rw [d5] at y; cases y⟩
  keep := by
    rintro i h h' ⟨q1, q2, ⟨u, v, q3⟩, q4, q5⟩ k
    exact ⟨k _ (by simp) _ q1, k _ (by simp) _ q2, ⟨u, v, k _ (by simp) _ q3⟩, q4.at fun o e => k _ (by simp) o e, q5.at fun o e => k _ (by simp) o e⟩
  item := by
    intro X hP hw hK hc i pins s σ H E I hf st hg
    subst hP hw hK
    obtain ⟨hx, hy, lx, ly⟩ := hg
    obtain ⟨us, rx, px, _⟩ := I.tuple hx
    obtain ⟨ws, ry, py, _⟩ := I.tuple hy
    have hd : X.A.in1.handled = none := I.ok.hd hc
    have W := GoesN.zip2 (elts := elts) (x1 := kk) (pos := tp) S (Draws.tuple (prog := X.prog) (w := X.w) hd i1 a n1 us.toArray) (Draws.tuple (prog := X.prog) (w := X.w) hd i2 b n2 ws.toArray)
    have hlt : i < min us.toArray.size ws.toArray.size := by
      rw [List.size_toArray, List.size_toArray, ← rx.length, ← ry.length]
      omega
    obtain ⟨q1, q2, q3, q4, q5⟩ := st
    refine W.goes i s (fun v s2 => ∃ x H', Inv X pins σ H' s2 ∧ RelV x v ∧ (ItM false X.K a b xs ys).yld i H x H' ∧ (IsZip s2.heap z TI TO .none ∧ IsTupOf2 s2.heap TI (.ref i1) (.ref i2) ∧ (∃ u v, IsTupOf2 s2.heap TO u v) ∧ s2.heap.IsTupleIter i1 a (i + 1) ∧ s2.heap.IsTupleIter i2 b (i + 1)) ∧ ∀ c ∈ [z, TI, TO, i1, i2], H' c = none) E hlt
      ⟨q1, q2, q3, ⟨q4, px⟩, q5, py⟩ fun v h' tk hY st' hk _ => ?_
    obtain ⟨T, u, v', rfl, hT, hu, hv, hTt⟩ := hY
    obtain ⟨g1, g2, g3, ⟨g4, _⟩, g5, _⟩ := st'
    obtain ⟨x, ex, rxu⟩ := vals_at rx (show us[i]? = some u by simpa using hu)
    obtain ⟨y, ey, ryu⟩ := vals_at ry (show ws[i]? = some v' by simpa using hv)
    have new : ObjOk X.prog X.w (upd H T (.tup [x, y])) h' T (.tup [x, y]) := ⟨by show 2 ≤ sizeLine; decide, [u, v'], .cons rxu (.cons ryu .nil), hTt⟩
    refine ⟨.ref T, _, I.turnedNew (t' := tk) (ch := [z, TI, TO, i1, i2]) (fun c o hn e => hk c o (fun m => hn ?_) e) hf hT new, rfl, ⟨T, x, y, rfl, I.hok.fresh hT, rfl, ex, ey⟩, ⟨g1, g2, g3, g4, g5⟩, fun c hm => ?_⟩
    · simp only [List.mem_cons, List.not_mem_nil, or_false] at m ⊢
      rcases m with m | m | m | m <;> simp [m]
    · obtain ⟨o, e⟩ : ∃ o, s.heap.get? c = some o := by
        rcases (show c = z ∨ c = TI ∨ c = TO ∨ c = i1 ∨ c = i2 by simpa using hm) with e | e | e | e | e <;> subst e
        · exact ⟨_, q1⟩
        · exact ⟨_, q2⟩
        · obtain ⟨_, _, q⟩ := q3
          exact ⟨_, q⟩
        · obtain ⟨o, q, _⟩ := q4
          exact ⟨o, q⟩
        · obtain ⟨o, q, _⟩ := q5
          exact ⟨o, q⟩
      rw [upd_ne (Nat.ne_of_lt (Nat.lt_of_lt_of_le (Heap.lt_size e) hT))]
      exact (hf c hm).1
  done := by
    intro X hP hw hK hc i pins s σ H E I hf st hg
    subst hP hw hK
    obtain ⟨hx, hy, hi⟩ := hg
    obtain ⟨us, rx, px, _⟩ := I.tuple hx
    obtain ⟨ws, ry, py, _⟩ := I.tuple hy
    have hd : X.A.in1.handled = none := I.ok.hd hc
    have W := GoesN.zip2 (elts := elts) (x1 := kk) (pos := tp) S (Draws.tuple (prog := X.prog) (w := X.w) hd i1 a n1 us.toArray) (Draws.tuple (prog := X.prog) (w := X.w) hd i2 b n2 ws.toArray)
    have hn : i = min us.toArray.size ws.toArray.size := by
      rw [List.size_toArray, List.size_toArray, ← rx.length, ← ry.length]
      exact hi
    subst hn
    obtain ⟨q1, q2, q3, q4, q5⟩ := st
    refine W.stops s (fun s1 => Inv X pins σ H s1) E ⟨q1, q2, q3, ⟨q4, px⟩, q5, py⟩ fun h' tk hk _ => ?_
    refine I.turnedL (t' := tk) (ch := [z, TI, TO, i1, i2]) (fun c o hn e => hk c o (fun m => hn ?_) e) hf
    simp only [List.mem_cons, List.not_mem_nil, or_false] at m ⊢
    rcases m with m | m | m | m <;> simp [m]
  self := fun _ _ _ _ _ st q => wpAny_pyIter_zip st.1 q
/-- zip(list or tuple, tuple) as what a for walks -/
def iZipM (K : PySem.W.Frag) (ta : TA) : TI := fun σ H R => ta σ H fun vs H1 => ∃ (L : Bool) (a b : Addr) (xs ys : List V), vs = [.ref a, .ref b] ∧ SqA L K H1 a xs ∧ SqT K H1 b ys ∧ R (ItM L K a b xs ys) H1
theorem pi_zipM {X : Cx} {e e2 : Expr} {ta : TA} {p pos tp : Pos} {elts : List Expr} {kk : Nat} (hg : Gl X "zip") (hm : X.mg "zip" = none) (ha : PA X [e, e2] ta)
    (h1 : starEach [e, e2] X.env = (false, eval e X.env) :: starEach [e2] X.env := by rfl) (h2 : (backTo pos (starEach [e2] X.env)).any (·.1) = false := by rfl) :
    PI X (.Tuple elts kk tp) (.Call (.Name "zip" p) [e, e2] [] pos) (iZipM X.K ta) := by
  constructor
  intro pins s σ H R I h
  refine Call_ (ld_blt I hg hm PyProof.Rows.boot_zip (PyProof.Rows.callWith_type1 (thn (ha.run pos pins s σ H _ I h) fun us s1 q => ?_) h1 h2))
  obtain ⟨vs, H1, I1, r1, L, a, b, xs, ys, rfl, hx, hy, q⟩ := q
  match us, r1 with
  | [_, _], .cons ra (.cons rb .nil) =>
    cases ra
    cases rb
    cases L with
    | true =>
      have hx : SqL X.K H1 a xs := hx
      obtain ⟨us, rx, px, _⟩ := I1.list hx
      obtain ⟨ws, ry, py, _⟩ := I1.tuple hy
      have la : a < s1.heap.objs.size := px.lt
      have lb : b < s1.heap.objs.size := by
        obtain ⟨o, e, _⟩ := py
        exact Heap.lt_size e
      refine zip_begins2 (begins_list a us.toArray) (begins_tuple b ws.toArray) px.isList py fun h' k1 k2 k3 k4 k5 k6 k7 => wpAny_pyIter_zip k1 ?_
      have I2 : Inv X pins σ H1 { s1 with heap := h' } := I1.kept (t' := s1.toks) k7
      refine ⟨_, [s1.heap.objs.size + 4, s1.heap.objs.size + 2, s1.heap.objs.size + 3, s1.heap.objs.size, s1.heap.objs.size + 1], _, _, H1, rfl, I2,
        turn_m (zip_sep2 (N := s1.heap.objs.size) (fp1 := [a]) (fp2 := [b]) (by simpa using la) (by simpa using lb)) (Nat.ne_of_lt la) (Nat.ne_of_lt (Nat.lt_succ_of_lt lb)), ⟨k1, k2, ⟨_, _, k3⟩, ⟨_, k4, rfl, rfl⟩, ⟨_, k5, rfl, rfl⟩⟩, fun c hc => ?_, q⟩
      have hle : s1.heap.objs.size ≤ c := by
        simp only [List.mem_cons, List.not_mem_nil, or_false] at hc
        rcases hc with e | e | e | e | e <;> (rw [e]; first | exact Nat.le_refl _ | exact Nat.le_add_right _ _)
      exact I1.fpOk hle (I1.hok.fresh hle)
    | false =>
      have hx : SqT X.K H1 a xs := hx
      obtain ⟨us, rx, px, _⟩ := I1.tuple hx
      obtain ⟨ws, ry, py, _⟩ := I1.tuple hy
      have la : a < s1.heap.objs.size := by
        obtain ⟨o, e, _⟩ := px
        exact Heap.lt_size e
      have lb : b < s1.heap.objs.size := by
        obtain ⟨o, e, _⟩ := py
        exact Heap.lt_size e
      refine zip_begins2 (begins_tuple a us.toArray) (begins_tuple b ws.toArray) px py fun h' k1 k2 k3 k4 k5 k6 k7 => wpAny_pyIter_zip k1 ?_
      have I2 : Inv X pins σ H1 { s1 with heap := h' } := I1.kept (t' := s1.toks) k7
      refine ⟨_, [s1.heap.objs.size + 4, s1.heap.objs.size + 2, s1.heap.objs.size + 3, s1.heap.objs.size, s1.heap.objs.size + 1], _, _, H1, rfl, I2,
        turn_t (zip_sep2 (N := s1.heap.objs.size) (fp1 := [a]) (fp2 := [b]) (by simpa using la) (by simpa using lb)) (Nat.ne_of_lt la) (Nat.ne_of_lt (Nat.lt_succ_of_lt lb)), ⟨k1, k2, ⟨_, _, k3⟩, ⟨_, k4, rfl, rfl⟩, ⟨_, k5, rfl, rfl⟩⟩, fun c hc => ?_, q⟩
      have hle : s1.heap.objs.size ≤ c := by
        simp only [List.mem_cons, List.not_mem_nil, or_false] at hc
        rcases hc with e | e | e | e | e <;> (rw [e]; first | exact Nat.le_refl _ | exact Nat.le_add_right _ _)
      exact I1.fpOk hle (I1.hok.fresh hle)
/-- a loop over such pairs -/
theorem for_zipM {L : Bool} {K : PySem.W.Frag} {a b : Addr} {xs ys : List V} {g : TG} {tb : TS} {D : Ends} {σ : L2.St} {H : Hp} (Pv : Nat → L2.St → Hp → Prop) (h0 : Pv 0 σ H) (hq : ∀ i σ H, Pv i σ H → SqA L K H a xs ∧ SqT K H b ys)
    (hs : ∀ (i : Nat) (x y : V) (T : Addr) (σ : L2.St) (H : Hp), xs[i]? = some x → ys[i]? = some y → Pv i σ H → H T = none → g (.ref T) σ (upd H T (.tup [x, y])) fun σ2 H2 => tb { D with nx := Pv (i + 1), ct := Pv (i + 1), bk := D.nx } σ2 H2)
    (hd : ∀ σ H, Pv (min xs.length ys.length) σ H → D.nx σ H) :
    ∃ W : Nat → Nat → L2.St → Hp → Prop, (∃ m, W 0 m σ H) ∧ ∀ i m σ H, W i m σ H →
      ((ItM L K a b xs ys).stop i H ∧ D.nx σ H) ∨ ((ItM L K a b xs ys).go i H ∧ ∃ N : L2.St → Hp → Prop, (∀ σ' H', N σ' H' → ∃ m', m' < m ∧ W (i + 1) m' σ' H') ∧ ∀ v H', (ItM L K a b xs ys).yld i H v H' → g v σ H' fun σ2 H2 => tb { D with nx := N, ct := N, bk := D.nx } σ2 H2) := by
  refine ⟨fun i m σ H => i + m = min xs.length ys.length ∧ Pv i σ H, ⟨_, Nat.zero_add _, h0⟩, ?_⟩
  rintro i m σ H ⟨em, p⟩
  obtain ⟨qx, qy⟩ := hq i σ H p
  cases m with
  | zero =>
    have ei : i = min xs.length ys.length := em
    refine .inl ⟨⟨qx, qy, ei⟩, hd σ H ?_⟩
    rw [← ei]
    exact p
  | succ m =>
    refine .inr ⟨⟨qx, qy, by omega, by omega⟩, Pv (i + 1), fun σ' H' p' => ⟨m, Nat.lt_succ_self m, by omega, p'⟩, fun v H' y => ?_⟩
    obtain ⟨T, x, y', rfl, hT, rfl, f1, f2⟩ := y
    exact hs i x y' T σ H f1 f2 p hT
end Fm
namespace Fm
open PySem PySem.Spec PyProof.Rows L2
/-- a comprehension over a list, within it over range(n): Pv by both turns and the heap -/
theorem lc2_lr {K : PySem.W.Frag} {a : Addr} {xs : List V} {n : Nat} {i0 j0 : Nat} {ta : TA} {te : TE} {vs vs1 : List Nat} {σ : L2.St} {H1 : Hp} {D : Addr} {Qd : Hp → Prop} (Pv : Nat → Nat → Hp → Prop) (hn : n < 2 ^ 62)
    (hw : ∀ x, wipe ((wipe σ vs).set i0 (some x)) vs = wipe σ vs) (hw1 : ∀ x y, wipe ((wipe ((wipe σ vs).set i0 (some x)) vs1).set j0 (some y)) vs1 = wipe ((wipe σ vs).set i0 (some x)) vs1) (h0 : Pv 0 0 (upd H1 D (.lst []))) (hl : ∀ i j H, Pv i j H → SqL K H a xs)
    (hr : ∀ i x H, xs[i]? = some x → Pv i 0 H → ∀ R : List V → Hp → Prop, R [.int n] H → ta ((wipe σ vs).set i0 (some x)) H R)
    (hs : ∀ (i j : Nat) x H, xs[i]? = some x → j < n → Pv i j H → te ((wipe ((wipe σ vs).set i0 (some x)) vs1).set j0 (some (.int (j : Int)))) H fun y H7 => ∃ acc, H7 D = some (.lst acc) ∧ acc.length < sizeLine ∧ Pv i (j + 1) (upd H7 D (.lst (acc ++ [y]))))
    (hj : ∀ i H, i < xs.length → Pv i n H → Pv (i + 1) 0 H) (hd : ∀ H, Pv xs.length 0 H → Qd H) :
    ∃ W : Nat → Nat → Hp → Prop, (∃ m, W 0 m (upd H1 D (.lst []))) ∧ ∀ i m H, W i m H →
      ((Itl K a).stop i H ∧ Qd H) ∨ ((Itl K a).go i H ∧ ∃ Nx : Hp → Prop, (∀ H', Nx H' → ∃ m', m' < m ∧ W (i + 1) m' H') ∧ ∀ x H', (Itl K a).yld i H x H' → gName i0 x (wipe σ vs) H' fun σ2 H2 => wipe σ2 vs = wipe σ vs ∧ tYes σ2 H2 fun b H3 =>
        if b = true then (iRng1 ta) σ2 H3 fun J1 H4 => ∃ W1 : Nat → Nat → Hp → Prop, (∃ m, W1 0 m H4) ∧ ∀ j k H, W1 j k H →
          (J1.stop j H ∧ Nx H) ∨ (J1.go j H ∧ ∃ Nx1 : Hp → Prop, (∀ H', Nx1 H' → ∃ k', k' < k ∧ W1 (j + 1) k' H') ∧ ∀ x H', J1.yld j H x H' → gName j0 x (wipe σ2 vs1) H' fun σ3 H5 => wipe σ3 vs1 = wipe σ2 vs1 ∧ tYes σ3 H5 fun b H6 =>
            if b = true then te σ3 H6 fun y H7 => ∃ acc, H7 D = some (.lst acc) ∧ acc.length < sizeLine ∧ Nx1 (upd H7 D (.lst (acc ++ [y]))) else Nx1 H6)
        else Nx H3) := by
  refine ⟨fun i m H => i + m = xs.length ∧ Pv i 0 H, ⟨xs.length, Nat.zero_add _, h0⟩, fun i m H h => ?_⟩
  obtain ⟨em, p⟩ := h
  have q := hl i 0 H p
  cases m with
  | zero =>
    have ei : i = xs.length := em
    subst ei
    exact .inl ⟨⟨xs, q, Nat.le_refl _⟩, hd H p⟩
  | succ m =>
    have hlt : i < xs.length := by omega
    refine .inr ⟨⟨xs, xs[i], q, List.getElem?_eq_getElem hlt⟩, Pv (i + 1) 0, fun H' p' => ⟨m, Nat.lt_succ_self m, by omega, p'⟩, fun x H' y => ?_⟩
    obtain ⟨rfl, y⟩ := y
    have hx := y xs q
    refine ⟨hw x, ?_⟩
    dsimp only [tYes]
    rw [if_pos rfl]
    refine hr i x _ hx p _ ⟨(n : Int), rfl, by omega, by omega, ?_⟩
    refine ⟨fun j k H => j + k = n ∧ Pv i j H, ⟨n, Nat.zero_add _, p⟩, fun j k H h => ?_⟩
    obtain ⟨ek, pj⟩ := h
    cases k with
    | zero =>
      have ej : j = n := ek
      subst ej
      exact .inl ⟨by show ((j : Nat) : Int).toNat ≤ j; omega, hj i H hlt pj⟩
    | succ k =>
      have hjn : j < n := by omega
      refine .inr ⟨by show j < ((n : Nat) : Int).toNat; omega, Pv i (j + 1), fun H' p' => ⟨k, Nat.lt_succ_self k, by omega, p'⟩, fun y H' e => ?_⟩
      obtain ⟨rfl, rfl⟩ := e
      have e0 : (0 : Int) + (j : Int) = (j : Int) := Int.zero_add _
      rw [e0]
      refine ⟨hw1 x _, ?_⟩
      rw [if_pos rfl]
      exact hs i j x _ hx hjn pj
end Fm
namespace Fm
open PySem PySem.Spec PyProof.Rows L2
/-! ### rules whose reading is to name the written part by itself (within a comprehension's block) -/
section
variable {X : Cx} (K : PySem.W.Frag)
theorem op_catK (e : X.K = K := by rfl) : OpR X (binaryOp .Add) (rCatA K) := e ▸ op_catA
theorem op_eqK (hu : X.A.units + 64 < cLine) (e : X.K = K := by rfl) : OpR X (compareOp .Eq) (rEqD K) := e ▸ op_eqD hu
theorem op_neK (hu : X.A.units + 64 < cLine) (e : X.K = K := by rfl) : OpR X (compareOp .NotEq) (rNeD K) := e ▸ op_neD hu
theorem ix_tupK (e : X.K = K := by rfl) : IxR X (rIxT K) := e ▸ ix_tup
theorem ix_listK (e : X.K = K := by rfl) : IxR X (rIxL K) := e ▸ ix_list
theorem call_isiK' (e : X.K = K := by rfl) : CallR X (.builtin "isinstance") (rIsi K) := e ▸ call_isi
theorem pg_tupK {es : List Expr} {k : Nat} {t : TGs} {n : Nat} {pos : Pos} (hc : X.calm = true) (h : PGs X es t) (e : X.K = K := by rfl) (hn : (assignEach es X.env).length = n := by rfl) (hst : (assignEach es X.env).findIdx? (·.1) = none := by rfl) :
    PG X (.Tuple es k pos) (gTup K n t) := e ▸ pg_tup hc h hn hst
theorem pi_tupK {tg l : Expr} {tl : TE} (hl : PE X l tl) (e : X.K = K := by rfl) : PI X tg l (iTup K tl) := e ▸ pi_tup hl
theorem pi_listK {tg l : Expr} {tl : TE} (hl : PE X l tl) (e : X.K = K := by rfl) : PI X tg l (iList K tl) := e ▸ pi_list hl
theorem sl_tupK (e : X.K = K := by rfl) : SlR X (rSlA K) := e ▸ sl_tupA
theorem sl_listK (e : X.K = K := by rfl) : SlR X (rSlL K) := e ▸ sl_list
/-- len of a list or tuple; tuple(list or tuple) -/
def rLenK (K : PySem.W.Frag) : List V → Hp → VK → Prop := fun xs H Q => ∃ p ys, xs = [.ref p] ∧ (SqL K H p ys ∨ SqT K H p ys) ∧ Q (.int ys.length) H
theorem call_lenK (e : X.K = K := by rfl) : CallR X (.builtin "len") (rLenK K) := e ▸ call_len_seq
def rTupK (K : PySem.W.Frag) : List V → Hp → VK → Prop := fun xs H Q => ∃ p ys, xs = [.ref p] ∧ ((SqL K H p ys ∧ ∀ l, H l = none → Q (.ref l) (upd H l (.tup ys))) ∨ (SqT K H p ys ∧ Q (.ref p) H))
theorem call_tupleK (e : X.K = K := by rfl) : CallR X (.type "tuple") (rTupK K) := e ▸ call_tuple_of
end
end Fm
namespace Fm
open PySem PySem.Spec PyProof.Rows L2
/-! ### dict(zip(t, u)) of two tuples: the pair that zip gave out before is still held -/
section
variable {prog : Program} {w : World} {A : Around} {E : Value → Shared → Prop} {s : Shared}
theorem zh_item {z TI TO T i1 i2 l1 l2 : Addr} {f : Bool} {oT : Obj} {k1 k2 : Nat} {xs ys : Array Value} {x y : Value} {Q : Value → Shared → Prop} (D : ZipApart z TI TO i1 i2 l1 l2) (hz : IsZipHeld s.heap z TI TO T f) (hT : s.heap.get? T = some oT) (hTI : IsPair s.heap TI (.ref i1) (.ref i2))
    (g1 : s.heap.IsTupleIter i1 l1 k1) (g2 : s.heap.IsTupleIter i2 l2 k2) (t1 : s.heap.IsTuple l1 xs) (t2 : s.heap.IsTuple l2 ys) (hx : xs[k1]? = some x) (hy : ys[k2]? = some y)
    (q : ∀ h', IsZipHeld h' z TI TO T true → h'.IsTupleIter i1 l1 (k1 + 1) → h'.IsTupleIter i2 l2 (k2 + 1) → IsPair h' s.heap.objs.size x y → (∀ c o, c ≠ z → c ≠ i1 → c ≠ i2 → s.heap.get? c = some o → h'.get? c = some o) → Q (.ref s.heap.objs.size) { s with heap := h' }) :
    wpAny (model prog w) A (Builtin.«zip.__next__» ⟨[.ref z], []⟩) (fun fin s' => ∃ v, fin = .done (.ret v) ∧ Q v s') E s := by
  show wpAny _ _ (field (.ref z) 2 >>= _) _ _ _; refine wpAny_bind (wpAny_field hz rfl (x := .bool false) rfl ?_)
  show wpAny _ _ (field (.ref z) 3 >>= _) _ _ _; refine wpAny_bind (wpAny_field hz rfl (x := .ref TI) rfl (wpAny_bind (wpAny_seqItems hTI rfl ?_)))
  show wpAny _ _ (Builtin.SmallTypes.ownedTupleIsFree (.ref z) >>= _) _ _ _; refine wpAny_bind (wpAny_tupleHeld_zip hz hT fun ha za sa => ?_)
  simp only [Bool.false_eq_true, if_false]; refine wpAny_bind ?_; rw [← Array.forIn_toList]; simp only [List.forIn_cons, List.forIn_nil]
  refine wpAny_bind (wpAny_bind (wpAny_holding ?_)); show wpAny _ _ (Builtin.SmallTypes.nextOf (.ref i1) >>= _) _ _ _
  refine wpAny_bind (RZ.nextOf_tuple_item (s := { s with heap := ha }) (g1.at fun o e => sa.extBut _ _ D.i1z e) (t1.at fun o e => sa.extBut _ _ D.l1z e) hx fun hb gb sb => wpAny_pure (wpAny_pure ?_))
  refine wpAny_bind (wpAny_bind (wpAny_holding ?_)); show wpAny _ _ (Builtin.SmallTypes.nextOf (.ref i2) >>= _) _ _ _
  refine wpAny_bind (RZ.nextOf_tuple_item (s := { s with heap := hb }) (g2.at fun o e => sb.extBut _ _ D.i12.symm (sa.extBut _ _ D.i2z e)) (t2.at fun o e => sb.extBut _ _ D.l2i1 (sa.extBut _ _ D.l2z e)) hy fun hc gc sc => wpAny_pure (wpAny_pure (wpAny_pure ?_)))
  show wpAny _ _ (newTuple [x, y] >>= _) _ _ _; refine wpAny_bind (wpAny_newTuple (wpAny_pure ⟨_, rfl, ?_⟩))
  have ez : hc.objs.size = s.heap.objs.size := by rw [sc.1, sb.1, sa.1]
  have kk : ∀ c o, c ≠ z → c ≠ i1 → c ≠ i2 → s.heap.get? c = some o → hc.get? c = some o := fun c o c1 c2 c3 e => sc.extBut _ _ c3 (sb.extBut _ _ c2 (sa.extBut _ _ c1 e))
  have hp : IsPair (hc.push { cls := .type "tuple", data := .seq #[x, y] }) hc.objs.size x y := Heap.get?_push_size _ rfl
  show Q (.ref hc.objs.size) _
  rw [ez] at hp ⊢
  exact q _ (Heap.get?_push_of_some _ (sc.extBut _ _ D.i2z.symm (sb.extBut _ _ D.i1z.symm za))) (gb.at fun o e => Heap.get?_push_of_some _ (sc.extBut _ _ D.i12 e)) (gc.at fun o e => Heap.get?_push_of_some _ e) hp fun c o c1 c2 c3 e => Heap.get?_push_of_some _ (kk c o c1 c2 c3 e)
theorem zh_end {z TI TO T i1 i2 l1 l2 : Addr} {f : Bool} {oT : Obj} {k1 k2 : Nat} {xs ys : Array Value} {Q : Fin → Shared → Prop} (hh : A.handled = none) (D : ZipApart z TI TO i1 i2 l1 l2) (hz : IsZipHeld s.heap z TI TO T f) (hT : s.heap.get? T = some oT) (hTI : IsPair s.heap TI (.ref i1) (.ref i2))
    (g1 : s.heap.IsTupleIter i1 l1 k1) (g2 : s.heap.IsTupleIter i2 l2 k2) (t1 : s.heap.IsTuple l1 xs) (t2 : s.heap.IsTuple l2 ys) (hend : xs[k1]? = none ∨ ys[k2]? = none)
    (q : ∀ h' e, (∀ c o, c ≠ z → c ≠ i1 → c ≠ i2 → s.heap.get? c = some o → h'.get? c = some o) → (∃ o, h'.get? e = some o ∧ o.cls = .type "StopIteration") → E (.ref e) { s with heap := h' }) :
    wpAny (model prog w) A (Builtin.«zip.__next__» ⟨[.ref z], []⟩) Q E s := by
  show wpAny _ _ (field (.ref z) 2 >>= _) _ _ _; refine wpAny_bind (wpAny_field hz rfl (x := .bool false) rfl ?_)
  show wpAny _ _ (field (.ref z) 3 >>= _) _ _ _; refine wpAny_bind (wpAny_field hz rfl (x := .ref TI) rfl (wpAny_bind (wpAny_seqItems hTI rfl ?_)))
  show wpAny _ _ (Builtin.SmallTypes.ownedTupleIsFree (.ref z) >>= _) _ _ _; refine wpAny_bind (wpAny_tupleHeld_zip hz hT fun ha za sa => ?_)
  simp only [Bool.false_eq_true, if_false]; refine wpAny_bind ?_; rw [← Array.forIn_toList]; simp only [List.forIn_cons, List.forIn_nil]
  refine wpAny_bind (wpAny_bind (wpAny_holding ?_)); show wpAny _ _ (Builtin.SmallTypes.nextOf (.ref i1) >>= _) _ _ _
  cases hx : xs[k1]? with
  | none => exact wpAny_bind (RZ.nextOf_tuple_end (s := { s with heap := ha }) hh (g1.at fun o e => sa.extBut _ _ D.i1z e) (t1.at fun o e => sa.extBut _ _ D.l1z e) hx fun hb e sb he => q hb e (fun c o c1 c2 _ x => sb _ _ c2 (sa.extBut _ _ c1 x)) he)
  | some x =>
    have hy : ys[k2]? = none := by
      rcases hend with n | n
      · rw [hx] at n; cases n
      · exact n
    refine wpAny_bind (RZ.nextOf_tuple_item (s := { s with heap := ha }) (g1.at fun o e => sa.extBut _ _ D.i1z e) (t1.at fun o e => sa.extBut _ _ D.l1z e) hx fun hb gb sb => wpAny_pure (wpAny_pure ?_))
    refine wpAny_bind (wpAny_bind (wpAny_holding ?_)); show wpAny _ _ (Builtin.SmallTypes.nextOf (.ref i2) >>= _) _ _ _
    exact wpAny_bind (RZ.nextOf_tuple_end (s := { s with heap := hb }) hh (g2.at fun o e => sb.extBut _ _ D.i12.symm (sa.extBut _ _ D.i2z e)) (t2.at fun o e => sb.extBut _ _ D.l2i1 (sa.extBut _ _ D.l2z e)) hy fun hc e sc he => q hc e (fun c o c1 c2 c3 x => sc _ _ c3 (sb.extBut _ _ c2 (sa.extBut _ _ c1 x))) he)
theorem zh_next {z TI TO T i1 i2 l1 l2 : Addr} {f : Bool} {oT : Obj} {k1 k2 : Nat} {xs ys : Array Value} {x y : Value} {Q : Option Value → Shared → Prop} (D : ZipApart z TI TO i1 i2 l1 l2) (hz : IsZipHeld s.heap z TI TO T f) (hT : s.heap.get? T = some oT) (hTI : IsPair s.heap TI (.ref i1) (.ref i2))
    (g1 : s.heap.IsTupleIter i1 l1 k1) (g2 : s.heap.IsTupleIter i2 l2 k2) (t1 : s.heap.IsTuple l1 xs) (t2 : s.heap.IsTuple l2 ys) (hx : xs[k1]? = some x) (hy : ys[k2]? = some y)
    (q : ∀ h', IsZipHeld h' z TI TO T true → h'.IsTupleIter i1 l1 (k1 + 1) → h'.IsTupleIter i2 l2 (k2 + 1) → IsPair h' s.heap.objs.size x y → (∀ c o, c ≠ z → c ≠ i1 → c ≠ i2 → s.heap.get? c = some o → h'.get? c = some o) → Q (some (.ref s.heap.objs.size)) { s with heap := h' }) :
    wpAny (model prog w) A (pyNext (.ref z)) Q E s := by
  have ty : s.TypeIs (.ref z) "zip" := ⟨_, hz, rfl⟩
  unfold pyNext
  exact wpAny_bind (wpAny_attempt (wpAny_callSpecial?_slot (name := Str.ofString "__next__") ty F.slot_zip_next (wpAny_call_entry F.slot_zip_next ty F.entry_zip_next (zh_item D hz hT hTI g1 g2 t1 t2 hx hy fun h' a1 a2 a3 a4 a5 => wpAny_pure (q h' a1 a2 a3 a4 a5)) (F.args_zip_next_1 _))))
theorem zh_stop {z TI TO T i1 i2 l1 l2 : Addr} {f : Bool} {oT : Obj} {k1 k2 : Nat} {xs ys : Array Value} {Q : Option Value → Shared → Prop} (hh : A.handled = none) (D : ZipApart z TI TO i1 i2 l1 l2) (hz : IsZipHeld s.heap z TI TO T f) (hT : s.heap.get? T = some oT) (hTI : IsPair s.heap TI (.ref i1) (.ref i2))
    (g1 : s.heap.IsTupleIter i1 l1 k1) (g2 : s.heap.IsTupleIter i2 l2 k2) (t1 : s.heap.IsTuple l1 xs) (t2 : s.heap.IsTuple l2 ys) (hend : xs[k1]? = none ∨ ys[k2]? = none)
    (q : ∀ h', (∀ c o, c ≠ z → c ≠ i1 → c ≠ i2 → s.heap.get? c = some o → h'.get? c = some o) → Q none { s with heap := h' }) : wpAny (model prog w) A (pyNext (.ref z)) Q E s := by
  have ty : s.TypeIs (.ref z) "zip" := ⟨_, hz, rfl⟩
  unfold pyNext
  refine wpAny_bind (wpAny_attempt (wpAny_callSpecial?_slot (name := Str.ofString "__next__") ty F.slot_zip_next (wpAny_call_entry F.slot_zip_next ty F.entry_zip_next (zh_end hh D hz hT hTI g1 g2 t1 t2 hend fun h' e k he => ?_) (F.args_zip_next_1 _))))
  obtain ⟨o, ho, hc⟩ := he
  exact wpAny_bind (wpAny_isInstance (T := "StopIteration") (b := true) ⟨o, ho, hc⟩ isSubtype_stop (wpAny_pure (q _ k)))
end
section
variable {prog : Program} {w : World}
theorem zipArg (z TI TO i1 i2 l1 l2 : Addr) (D : ZipApart z TI TO i1 i2 l1 l2) (xs ys : Array Value) : PairArg prog w "zip" z [z, TI, TO, i1, i2, l1, l2] [z, TO, i1, i2] (min xs.size ys.size) (fun i k v => xs[i]? = some k ∧ ys[i]? = some v)
    (fun h => IsZip h z TI TO .none ∧ IsPair h TI (.ref i1) (.ref i2) ∧ (∃ a b, IsPair h TO a b) ∧ h.IsTupleIter i1 l1 0 ∧ h.IsTupleIter i2 l2 0 ∧ h.IsTuple l1 xs ∧ h.IsTuple l2 ys) where
  type := fun s ok => ⟨_, ok.1, rfl⟩
  notDict := by decide
  keep := fun h h' ⟨a1, a2, ⟨u, v, a3⟩, a4, a5, a6, a7⟩ k => ⟨k _ _ a1, k _ _ a2, ⟨u, v, k _ _ a3⟩, a4.at fun o e => k _ o e, a5.at fun o e => k _ o e, a6.at fun o e => k _ o e, a7.at fun o e => k _ o e⟩
  there := fun h ⟨a1, a2, ⟨_, _, a3⟩, ⟨_, a4, _⟩, ⟨_, a5, _⟩, ⟨_, a6, _⟩, ⟨_, a7, _⟩⟩ b hb => by
    rcases (show b = z ∨ b = TI ∨ b = TO ∨ b = i1 ∨ b = i2 ∨ b = l1 ∨ b = l2 by simpa using hb) with e | e | e | e | e | e | e <;> rw [e]
    · exact ⟨_, a1⟩
    · exact ⟨_, a2⟩
    · exact ⟨_, a3⟩
    · exact ⟨_, a4⟩
    · exact ⟨_, a5⟩
    · exact ⟨_, a6⟩
    · exact ⟨_, a7⟩
  sub := fun b hb => by
    rcases (show b = z ∨ b = TO ∨ b = i1 ∨ b = i2 by simpa using hb) with e | e | e | e <;> simp [e]
  noKeys := fun A s Q E hA ok q => getAttrOr_miss_zip ok.1 rfl rfl rfl zip_no_keys (by decide +kernel) hA q
  iter := fun A s d Q E hA ⟨a1, a2, ⟨u0, v0, a3⟩, a4, a5, a6, a7⟩ hd hdf q => by
    have df : d ≠ z ∧ d ≠ TI ∧ d ≠ TO ∧ d ≠ i1 ∧ d ≠ i2 ∧ d ≠ l1 ∧ d ≠ l2 := by simpa [not_or] using hdf
    obtain ⟨d1, d2, d3, d4, d5, d6, d7⟩ := df
    refine wpAny_pyIter_zip a1 (q z [z, TO, i1, i2] (fun i h => IsPair h TI (.ref i1) (.ref i2) ∧ h.IsTupleIter i1 l1 i ∧ h.IsTupleIter i2 l2 i ∧ h.IsTuple l1 xs ∧ h.IsTuple l2 ys ∧
      ((IsZip h z TI TO .none ∧ ∃ a b, IsPair h TO a b) ∨ ∃ T f oT, IsZipHeld h z TI TO T f ∧ h.get? T = some oT ∧ T ≠ z ∧ T ≠ i1 ∧ T ≠ i2 ∧ T ≠ d)) s.heap s.toks ?_ ⟨a2, a4, a5, a6, a7, .inl ⟨a1, u0, v0, a3⟩⟩ (fun _ _ e => e) fun b hb => .inl hb)
    have out : ∀ {c : Addr}, c ∉ [z, TO, i1, i2] → c ≠ z ∧ c ≠ TO ∧ c ≠ i1 ∧ c ≠ i2 := fun {c} hc => by simpa [not_or] using hc
    constructor
    · intro m
      rcases (show d = z ∨ d = TO ∨ d = i1 ∨ d = i2 by simpa using m) with e | e | e | e
      · exact d1 e
      · exact d3 e
      · exact d4 e
      · exact d5 e
    · rintro i ha hb ⟨b2, b4, b5, b6, b7, st⟩ k
      refine ⟨k _ _ d2.symm b2, b4.at fun o e => k _ o d4.symm e, b5.at fun o e => k _ o d5.symm e, b6.at fun o e => k _ o d6.symm e, b7.at fun o e => k _ o d7.symm e, ?_⟩
      rcases st with ⟨b1, u, v, b3⟩ | ⟨T, f, oT, b1, bT, r1, r2, r3, r4⟩
      · exact .inl ⟨k _ _ d1.symm b1, u, v, k _ _ d3.symm b3⟩
      · exact .inr ⟨T, f, oT, k _ _ d1.symm b1, k _ _ r4 bT, r1, r2, r3, r4⟩
    · rintro i s1 Q1 E1 hi ⟨b2, b4, b5, b6, b7, st⟩ hds hQ
      have ex := Array.getElem?_eq_getElem (Nat.lt_of_lt_of_le hi (Nat.min_le_left xs.size ys.size))
      have ey := Array.getElem?_eq_getElem (Nat.lt_of_lt_of_le hi (Nat.min_le_right xs.size ys.size))
      have lt : ∀ {c o}, s1.heap.get? c = some o → s1.heap.objs.size ≠ c := fun e => Nat.ne_of_gt (Heap.lt_size e)
      have n1 : s1.heap.objs.size ≠ i1 := let ⟨_, e, _⟩ := b4; lt e
      have n2 : s1.heap.objs.size ≠ i2 := let ⟨_, e, _⟩ := b5; lt e
      rcases st with ⟨b1, u, v, b3⟩ | ⟨T, f, oT, b1, bT, r1, r2, r3, r4⟩
      · refine RZ.pyNext_zipT_item D b1 b2 b3 b4 b5 b6 b7 ex ey fun h' c1 c2 c3 c4 c5 c6 k => ?_
        exact hQ s1.heap.objs.size _ _ h' s1.toks ⟨ex, ey⟩ (.inl ⟨_, c5, rfl, _, rfl⟩) ⟨k _ _ D.TIz D.TITO D.TIi1 D.TIi2 b2, c3, c4, b6.at fun o e => k _ o D.l1z D.l1TO D.l1i1 D.l1i2 e, b7.at fun o e => k _ o D.l2z D.l2TO D.l2i1 D.l2i2 e,
          .inr ⟨s1.heap.objs.size, false, _, c1, c5, lt b1, n1, n2, Nat.ne_of_gt hds⟩⟩ fun c o hc e => k c o (out hc).1 (out hc).2.1 (out hc).2.2.1 (out hc).2.2.2 e
      · refine zh_next D b1 bT b2 b4 b5 b6 b7 ex ey fun h' c1 c3 c4 c5 k => ?_
        exact hQ s1.heap.objs.size _ _ h' s1.toks ⟨ex, ey⟩ (.inl ⟨_, c5, rfl, _, rfl⟩) ⟨k _ _ D.TIz D.TIi1 D.TIi2 b2, c3, c4, b6.at fun o e => k _ o D.l1z D.l1i1 D.l1i2 e, b7.at fun o e => k _ o D.l2z D.l2i1 D.l2i2 e,
          .inr ⟨T, true, oT, c1, k _ _ r1 r2 r3 bT, r1, r2, r3, r4⟩⟩ fun c o hc e => k c o (out hc).1 (out hc).2.2.1 (out hc).2.2.2 e
    · rintro s1 Q1 E1 ⟨b2, b4, b5, b6, b7, st⟩ hQ
      have hend : xs[min xs.size ys.size]? = none ∨ ys[min xs.size ys.size]? = none := by
        rcases Nat.le_total xs.size ys.size with h | h
        · exact .inl (Array.getElem?_eq_none (by omega))
        · exact .inr (Array.getElem?_eq_none (by omega))
      rcases st with ⟨b1, u, v, b3⟩ | ⟨T, f, oT, b1, bT, r1, r2, r3, r4⟩
      · exact RZ.pyNext_zipT_end hA D b1 b2 b3 b4 b5 b6 b7 hend fun h' k => hQ h' s1.toks fun c o hc e => k c o (out hc).1 (out hc).2.1 (out hc).2.2.1 (out hc).2.2.2 e
      · exact zh_stop hA D b1 bT b2 b4 b5 b6 b7 hend fun h' k => hQ h' s1.toks fun c o hc e => k c o (out hc).1 (out hc).2.2.1 (out hc).2.2.2 e
end
end Fm
namespace Fm
open PySem PySem.Spec PyProof.Rows L2
def tDZ (K : PySem.W.Frag) (ta : TA) : TE := fun σ H Q => ta σ H fun vs H1 => ∃ (a b : Addr) (kvs : List (Key × V)), vs = [.ref a, .ref b] ∧ SqT K H1 a (kvs.map fun p => kV p.1) ∧ SqT K H1 b (kvs.map fun p => p.2) ∧ ∀ p, H1 p = none → Q (.ref p) (upd H1 p (.dK (mergeK [] kvs)))
theorem kv_zip : ∀ {kvs : List (Key × V)} {us : List Value}, Vals (kvs.map fun p => p.2) us → KV kvs ((kvs.map fun p => p.1).zip us)
  | [], _, .nil => .nil
  | _ :: _, _, .cons r t => .cons ⟨rfl, r⟩ (kv_zip t)
theorem pe_dictZip {X : Cx} {e e2 : Expr} {ta : TA} {p p2 pos pos2 : Pos} (hgD : Gl X "dict") (hmD : X.mg "dict" = none) (hgZ : Gl X "zip") (hmZ : X.mg "zip" = none) (hcalm : X.calm = true) (ha : PA X [e, e2] ta)
    (h1 : starEach [e, e2] X.env = (false, eval e X.env) :: starEach [e2] X.env := by rfl) (h2 : (backTo pos2 (starEach [e2] X.env)).any (·.1) = false := by rfl)
    (h3 : starEach [.Call (.Name "zip" p2) [e, e2] [] pos2] X.env = (false, eval (.Call (.Name "zip" p2) [e, e2] [] pos2) X.env) :: starEach [] X.env := by rfl) :
    PE X (.Call (.Name "dict" p) [.Call (.Name "zip" p2) [e, e2] [] pos2] [] pos) (tDZ X.K ta) := by
  constructor
  intro pins s σ H Q I h
  refine Call_ (ld_blt I hgD hmD (show bootBuiltins "dict" = some (.type "dict") by decide +kernel) (PyProof.Rows.callWith_type1 (args_cons ?_ h3) h3 rfl))
  refine Call_ (ld_blt I hgZ hmZ PyProof.Rows.boot_zip (PyProof.Rows.callWith_type1 (thn (ha.run pos2 pins s σ H _ I h) fun us s1 q => ?_) h1 h2))
  obtain ⟨vs, H1, I1, r1, a, b, kvs, rfl, hx, hy, q⟩ := q
  match us, r1 with
  | [_, _], .cons ra (.cons rb .nil) =>
    cases ra
    cases rb
    obtain ⟨us, rx, px, lx⟩ := I1.tuple hx
    obtain ⟨ws, ry, py, ly⟩ := I1.tuple hy
    have la : a < s1.heap.objs.size := by
      obtain ⟨o, e, _⟩ := px
      exact Heap.lt_size e
    have lb : b < s1.heap.objs.size := by
      obtain ⟨o, e, _⟩ := py
      exact Heap.lt_size e
    refine RZ.call_zipT px py fun h' k1 k2 k3 k4 k5 k6 k7 => args_nil ?_
    have eu : us.length = kvs.length := by rw [← rx.length, List.length_map]
    have ew : ws.length = kvs.length := by rw [← ry.length, List.length_map]
    rw [List.length_map] at lx
    have px' : s1.heap.IsTuple a us.toArray := px
    have py' : s1.heap.IsTuple b ws.toArray := py
    refine PySem.call_dict_pairs (knd := mixKind X.prog X.w) (kvs := (kvs.map fun p => p.1).zip ws) (s := { s1 with heap := h' }) (zipArg _ _ _ _ _ a b (PySem.W.ktu_apart s1.heap.objs.size a b la lb) us.toArray ws.toArray) (I1.ok.hd hcalm) ⟨k1, k2, ⟨_, _, k3⟩, k4, k5, px'.at fun o e => k7 _ o e, py'.at fun o e => k7 _ o e⟩ ⟨?_, fun i key v ⟨e1, e2⟩ => ?_⟩ ?_ fun h2 tk hd k => ?_
    · rw [List.length_zip, List.length_map, List.size_toArray, List.size_toArray, eu, ew]
    · have e1' : us[i]? = some key := by simpa using e1
      have e2' : ws[i]? = some v := by simpa using e2
      obtain ⟨x, ex, rxu⟩ := vals_at rx e1'
      rw [List.getElem?_map] at ex
      cases ek : kvs[i]? with
      | none =>
        rw [ek] at ex
        cases ex
      | some kv =>
        rw [ek] at ex
        cases ex
        refine ⟨kv.1, ?_, kV_is rxu⟩
        rw [List.getElem?_zip_eq_some]
        exact ⟨by rw [List.getElem?_map, ek]; rfl, e2'⟩
    · rw [List.size_toArray, List.size_toArray, eu, ew, Nat.min_self]
      exact lx
    · have hlen : (mergeK [] kvs).length ≤ sizeLine := by
        refine Nat.le_trans (length_mergeK kvs []) ?_
        rw [List.length_nil, Nat.zero_add]
        exact lx
      have big : (h'.objs.size == sysModules) = false := beq_eq_false_iff_ne.mpr (Nat.ne_of_gt (Nat.lt_of_lt_of_le I1.big (by rw [k6]; exact Nat.le_add_right _ _)))
      have kk : ∀ c o, s1.heap.get? c = some o → h2.get? c = some o := fun c o e => by
        have hc := Heap.lt_size e
        refine k c o (fun m => ?_) (k7 c o e)
        simp only [List.mem_cons, List.not_mem_nil, or_false] at m
        rcases m with m | m | m | m <;> (rw [m] at hc; first | exact absurd hc (Nat.lt_irrefl _) | exact absurd hc (Nat.not_lt.mpr (Nat.le_add_right _ _)))
      have J := I1.laid (t' := tk) (h' := h2) (a := h'.objs.size) (o := .dK (mergeK [] kvs)) kk (by rw [k6]; exact Nat.le_add_right _ _) ⟨hlen, big, _, KV.merge (kv_zip ry) .nil, hd⟩
      exact ⟨.ref h'.objs.size, _, J, rfl, q _ (I1.hok.fresh (by rw [k6]; exact Nat.le_add_right _ _))⟩
end Fm
/-! sorted of lists of tuples of any lengths, the empty one among them. -/
namespace FmSort
open PySem PySem.W PySem.SeqAt PyProof.Rows
def nonE : PyData → Bool
  | .tuple (_ :: _) => true
  | _ => false
section
variable {prog : Program} {w : World} {A : Around} {E : Value → Shared → Prop} {s : Shared} {vs : List Value} {ds : List PyData}
theorem call_tuple_lt {Q : Value → Shared → Prop} {l b : Addr} {items items2 : Array Value} {e r : Nat → Bool} (hl : s.heap.IsTuple l items) (hb : s.heap.IsTuple b items2)
    (he : ∀ j (h1 : j < items.size) (h2 : j < items2.size), EqAt A.in1 s items[j] items2[j] (e j)) (hr : ∀ j (h1 : j < items.size) (h2 : j < items2.size), e j = false → RcLt A.in1 s items[j] items2[j] (r j))
    (h : Q (.bool (firstLt e r (decide (items.size < items2.size)) (List.range (min items.size items2.size)))) s) : wpAny (model prog w) A (call (.builtin "tuple.__lt__") [.ref l, .ref b]) Q E s := by
  obtain ⟨⟨c1, u1, m1, p1⟩, g1, k1, n1, z1⟩ := id hl
  obtain ⟨⟨c2, u2, m2, p2⟩, g2, k2, n2, z2⟩ := id hb
  simp only at k1 z1 k2 z2
  subst k1 z1 k2 z2
  exact call_meets F.slot_tuple_lt ⟨_, g1, rfl⟩ F.entry_tuple_lt (F.args_tuple_lt_2 _ _) (tuple_ltAt l b items items2 n1 n2 u1 u2 p1 p2 e r) ⟨g1, g2, he, hr, h⟩
/-- two tuples, both of one type: by the slot itself -/
theorem oneLt_tup {xs ys : List PyData} {a b : Value} {as bs : List Addr} {Q : Bool → Shared → Prop} (ra : Reads s.heap a (.tuple xs) as) (rb : Reads s.heap b (.tuple ys) bs) (hal : alikeAll xs ys = true)
    (hu : A.units + min (PyData.tuple xs).depth (PyData.tuple ys).depth < cLine) (hq : Q (dataLt (.tuple xs) (.tuple ys)) s) : wpAny (model prog w) A (oneLt' true a b) Q E s := by
  cases ra with
  | @tuple l o us n _ as1 a1 a2 a3 a4 =>
    cases rb with
    | @tuple l2 o2 us2 n2 _ bs1 b1 b2 b3 b4 =>
      have z1 : us.size = xs.length := by simpa using ReadsAll.length _ _ _ a4
      have z2 : us2.size = ys.length := by simpa using ReadsAll.length _ _ _ b4
      rw [dataLt_tuple, ← firstLt_toks xs ys hal, ← z1, ← z2] at hq
      rw [oneLt'_eq]
      simp only [if_true]
      refine wpAny_bind (wpAny_cRoomFor (room_here hu) ?_)
      refine wpAny_bind (wpAny_callSpecialIfBound?_slot (T := "tuple") ⟨_, a1, a2⟩ F.slot_tuple_lt (call_tuple_lt (e := pairEq xs ys) (r := fun j => dataLt (xs.getD j .none) (ys.getD j .none)) ⟨_, a1, a2, _, a3⟩ ⟨_, b1, b2, _, b3⟩ (fun j j1 j2 => ?_) (fun j j1 j2 hj => ?_) ?_))
      · have t := eqAt_alikeAll xs ys A.in1 s us.toList us2.toList _ _ a4 b4 hal (room_in hu) j (by simpa using j1) (by simpa using j2)
        simpa using t
      · have t := rcLt_alikeAll xs ys A.in1 s us.toList us2.toList _ _ a4 b4 hal (room_in hu) j (by simpa using j1) (by simpa using j2) hj
        simpa using t
      · exact wpAny_truthy_bool hq
theorem firsts_each {M : Model} : ∀ {vs : List Value} {ds : List PyData} {Q : List (Option Value) → Shared → Prop}, EachIs (fun v d => ∃ as, Reads s.heap v d as) vs ds → (∀ d ∈ ds, ∃ xs, d = .tuple xs) →
    (∀ fs : List (Option Value), fs.map Option.isSome = ds.map nonE → Q fs s) → wpAny M A (vs.mapM firstOfTuple') Q E s
  | _, _, _, .nil, _, h => by
    rw [List.mapM_nil]
    exact wpAny_pure (h [] rfl)
  | _, _, Q, .cons (as := vs) ⟨as, r⟩ t, ht, h => by
    obtain ⟨xs, rfl⟩ := ht _ (List.mem_cons_self ..)
    rw [List.mapM_cons]
    refine wpAny_bind ?_
    rw [kas_first_eq]
    cases r with
    | @tuple l o us n _ as1 a1 a2 a3 a4 =>
      refine wpAny_bind (Looks.here (show Looks M s.heap (typeOf (.ref l)) o.cls from (Looks.ld a1).andThen .now) ?_)
      rw [a2, if_neg (by first | decide | simp)]
      refine wpAny_bind (listItems_at a1 a3 (wpAny_pure ?_))
      refine wpAny_bind (firsts_each (Q := fun bs s' => wpAny M A (pure (us[0]? :: bs)) Q E s') t (fun d hd => ht d (List.mem_cons_of_mem _ hd)) fun fs e => wpAny_pure (h _ ?_))
      rw [List.map_cons, List.map_cons, e]
      congr 1
      have z : us.toList.length = xs.length := by simpa using ReadsAll.length _ _ _ a4
      cases xs with
      | nil =>
        have e0 : us.size = 0 := by simpa using z
        rw [Array.getElem?_eq_none (by omega)]
        rfl
      | cons x r =>
        have e0 : us.size = r.length + 1 := by simpa using z
        rw [Array.getElem?_eq_getElem (by omega)]
        rfl
theorem sortsAt_tups (e : EachIs (fun v d => ∃ as, Reads s.heap v d as) vs ds) (hal : AllAlike ds) (ht : ∀ d ∈ ds, ∃ xs, d = .tuple xs) (hu : ∀ d ∈ ds, A.units + d.depth < cLine) : SortsAt prog w A s (dataKind s.heap ds) vs := by
  have room : ∀ {d d' : PyData}, d ∈ ds → A.units + min d.depth d'.depth < cLine := fun {d d'} hd => Nat.lt_of_le_of_lt (Nat.add_le_add_left (Nat.min_le_left _ _) _) (hu d hd)
  by_cases hne : ∀ d ∈ ds, nonE d = true
  · refine SortsAt.data e hal (.inl fun d hd => ?_) hu
    obtain ⟨xs, rfl⟩ := ht d hd
    cases xs with
    | nil => cases hne _ hd
    | cons x r => exact ⟨x, r, rfl⟩
  · have hall : (ds.map nonE).all id = false := by
      rw [List.all_map]
      cases q : ds.all (id ∘ nonE) with
      | false => rfl
      | true => exact absurd (fun d hd => List.all_eq_true.mp q d hd) hne
    have lt : ∀ f : Bool, H.LtAt prog w A s (dataKind s.heap ds) (if f = true then oneType' else general') := by
      intro f E x y a b Q ha hb hq
      obtain ⟨d, as, hd, ra, rfl⟩ := dataKind_inv ha
      obtain ⟨d', as', hd', rb, rfl⟩ := dataKind_inv hb
      obtain ⟨xs, rfl⟩ := ht d hd
      obtain ⟨ys, rfl⟩ := ht d' hd'
      have al := hal _ hd _ hd'
      cases f with
      | true => exact oneLt_tup ra rb (by simpa [alike] using al) (room hd) hq
      | false => exact oneLt_alike (f := false) (fun z => by cases z) ra rb al (fun z => by cases z) (room hd) hq
    refine ⟨fun v hv => ?_, (if (ds.map nonE).head? = some true then general' else oneType'), ?_, fun h2 E Q hq => ?_⟩
    · obtain ⟨d, hd, as, r⟩ := e.left v hv
      exact ⟨_, dataKind_some hal hd r⟩
    · by_cases q : (ds.map nonE).head? = some true
      · rw [if_pos q]
        exact lt false
      · rw [if_neg q]
        exact lt true
    · rw [keyKind'_eq, List.mapM_toArray, map_eq_pure_bind]
      refine wpAny_bind (wpAny_bind (firsts_each e ht fun fs hfs => wpAny_pure ?_))
      have e1 : (fs.toArray.all fun x => x.isSome) = false := by
        rw [List.all_toArray]
        have z : (fs.map Option.isSome).all id = false := by rw [hfs]; exact hall
        rw [List.all_map] at z
        exact z
      rw [if_neg (by rw [e1]; exact Bool.false_ne_true)]
      have e2 : ((fs.toArray)[0]?.bind id).isSome = decide ((ds.map nonE).head? = some true) := by
        rw [← hfs]
        cases fs with
        | nil => rfl
        | cons f r =>
          show (((f :: r).toArray)[0]?.bind id).isSome = _
          rw [List.getElem?_toArray]
          show f.isSome = decide (some f.isSome = some true)
          cases f <;> rfl
      rw [e2]
      by_cases q : (ds.map nonE).head? = some true
      · rw [if_pos (decide_eq_true q)]
        rw [if_pos q] at hq
        exact wpAny_pure hq
      · rw [if_neg (fun z => q (of_decide_eq_true z))]
        rw [if_neg q] at hq
        obtain ⟨v1, v2, r, rfl⟩ : ∃ v1 v2 r, vs = v1 :: v2 :: r := by
          match vs, h2 with
          | [], h2 => simp at h2
          | [_], h2 => simp at h2
          | v1 :: v2 :: r, _ => exact ⟨v1, v2, r, rfl⟩
        rw [oneTypeOnly'_eq, List.mapM_toArray, map_eq_pure_bind]
        refine wpAny_bind (wpAny_bind (wpAny_bind (kas_mapM (r := Value.type "tuple") _ (fun v hv Q' hq => ?_) (wpAny_pure ?_))))
        · obtain ⟨d, hd, as, rd⟩ := e.left v hv
          obtain ⟨xs, rfl⟩ := ht d hd
          exact (looks_reads rd).here hq
        · have a1 : ((List.map (fun _ => Value.type "tuple") (v1 :: v2 :: r)).toArray.all fun x => x == Value.type "tuple") = true := by
            simp only [List.all_toArray, List.all_map, List.all_eq_true]
            intro _ _
            rfl
          have a2 : (List.map (fun _ => Value.type "tuple") (v1 :: v2 :: r)).toArray[0]? = some (Value.type "tuple") := by simp
          rw [a2]
          simp only [a1, if_true]
          exact wpAny_pure (wpAny_pure hq)
end
end FmSort
namespace Fm
open PySem PySem.Spec PyProof.Rows L2 PySem.W
theorem each_vals : ∀ {bs : List (V × PyData)} {us : List Value}, Vals (bs.map (·.1)) us → EachIs (fun u b => RelV b.1 u) us bs
  | [], _, r => by
    cases r
    exact .nil
  | b :: bs, _, r => by
    cases r with
    | cons h t => exact .cons h (each_vals t)
theorem vals_each : ∀ {bs : List (V × PyData)} {us : List Value}, EachIs (fun u b => RelV b.1 u) us bs → Vals (bs.map (·.1)) us
  | _, _, .nil => .nil
  | _, _, .cons h t => .cons h (vals_each t)
theorem each_and {R S : Value → V × PyData → Prop} : ∀ {bs : List (V × PyData)} {us : List Value}, EachIs R us bs → (∀ u b, b ∈ bs → R u b → S u b) → EachIs S us bs
  | _, _, .nil, _ => .nil
  | _, _, .cons h t, k => .cons (k _ _ (List.mem_cons_self ..) h) (each_and t fun u b hb => k u b (List.mem_cons_of_mem _ hb))
/-- sorted of a list of tuples: each value goes with its data -/
def rSortTs (K : PySem.W.Frag) : List V → Hp → VK → Prop := fun vs H Q => ∃ (a : Addr) (bs : List (V × PyData)), vs = [.ref a] ∧ SqL K H a (bs.map (·.1)) ∧ (∀ b ∈ bs, Dp K H b.1 b.2 ∧ (∃ zs, b.2 = .tuple zs) ∧ b.2.depth ≤ 60) ∧ AllAlike (bs.map (·.2)) ∧
  ∀ p, H p = none → Q (.ref p) (upd H p (.lst ((bs.mergeSort (dataLe false (fun b : V × PyData => b.2))).map (·.1))))
theorem cr_sortTs {X : Cx} (hu : X.A.units + 64 < cLine) : CallR X (.builtin "sorted") (rSortTs X.K) := by
  intro pins s σ H vs us Q I r h
  obtain ⟨a, bs, rfl, hs, hb, hal, q⟩ := h
  obtain ⟨its, rv, hl, hz⟩ := I.list hs
  rw [Vals.ref1 r]
  have e0 := each_vals rv
  have er : EachIs (fun (v : Value) (b : V × PyData) => ∃ as, Reads (sortingHeap (copyHeap s.heap its) (s.heap.objs.size + 1) its) v b.2 as) its bs := each_and e0 fun u b hm hr => by
    obtain ⟨as, rd⟩ := Dp.reads I b.2 b.1 u (hb b hm).1 hr
    exact ⟨as, PyProof.Rows.Reads.keeps (fun _ _ => sorting_copy_old) rd⟩
  have hL : its.length ≤ sizeLine := by
    rw [← rv.length]
    exact hz
  refine sorted_vals hl.isList (FmSort.sortsAt_tups (s := { s with heap := sortingHeap (copyHeap s.heap its) (s.heap.objs.size + 1) its }) (each_map (R := fun v d => ∃ as, Reads (sortingHeap (copyHeap s.heap its) (s.heap.objs.size + 1) its) v d as) (fun b : V × PyData => b.2) er) hal (fun d hd => ?_) fun d hd => ?_) hL ?_
  · obtain ⟨b, hm, rfl⟩ := List.mem_map.mp hd
    exact (hb b hm).2.1
  · obtain ⟨b, hm, rfl⟩ := List.mem_map.mp hd
    have := (hb b hm).2.2
    show X.A.units + 1 + 1 + b.2.depth < cLine
    omega
  · have e1 := sortVals_data (R := fun u (b : V × PyData) => RelV b.1 u) false e0 er hal
    generalize sortVals (dataKind (sortingHeap (copyHeap s.heap its) (s.heap.objs.size + 1) its) (bs.map (·.2))) false its its = out at e1 ⊢
    have v1 := vals_each e1
    obtain ⟨ep, he'⟩ := PyProof.Rows.sortedAll_at s.heap its out.toArray
    have hlen : ((bs.mergeSort (dataLe false (fun b : V × PyData => b.2))).map (·.1)).length ≤ sizeLine := by
      rw [List.length_map, List.length_mergeSort]
      rw [List.length_map] at hz
      exact hz
    exact ⟨.ref _, upd H (s.heap.objs.size + 1) (.lst ((bs.mergeSort (dataLe false (fun b : V × PyData => b.2))).map (·.1))), I.laid (t' := s.toks) (fun _ _ => PyProof.Rows.sortedAll_old) (Nat.le_succ _) ⟨hlen, out, ep, v1, he'⟩, rfl, q _ (I.hok.fresh (Nat.le_succ _))⟩
end Fm
/-! Errors of one's own whose __init__ calls that of the own class above, over ValueError. -/
namespace Fm
open PySem PySem.Spec PyProof.Rows L2 PySem.W
/-- the class above at M, its __init__ being ValueError's -/
structure UpC (K : PySem.W.Frag) (M : Addr) (mc : Value) : Prop where
  rd : PySem.W.readsIn K M mc = true
  ga : PySem.W.specialIn K (.ref M) "__getattribute__" = some (some (.builtin "type.__getattribute__"))
  ini : PySem.W.findCls K (.ref M) mc "__init__" = some (.val (.builtin "ValueError.__init__"))
section
variable {X : Cx} {e : Expr} {es : List Expr} {ta : TA} {p1 p2 p pos : Pos} {x : Str} {M C fI : Addr} {mc : Value}
/-- Up.__init__(self, ..) -/
theorem pe_upinit {pl : Sem Bool} (U : UpC X.K M mc) (hg : Gl X x) (hm : X.mg x = some (.ref M)) (ha : PA X (e :: es) ta) (hdb : (x == ("__debug__" : Str)) = false := by decide)
    (hc : eval (.Call (.Attribute (.Name x p1) "__init__" p2) (e :: es) [] pos) X.env = (do
      let ov ← eval (.Name x p1) X.env
      standAt p2.atName
      let (f, first) ← holding [ov] (getMethod ov "__init__" pl)
      callWith pos f first (backTo pos (starEach (e :: es) X.env)) (backToKw pos (keywordEach [] X.env))) := by rfl)
    (he : starEach (e :: es) X.env = (false, eval e X.env) :: starEach es X.env := by rfl) (hpl : (backTo pos (starEach es X.env)).any (·.1) = false := by rfl) :
    PE X (.Call (.Attribute (.Name x p1) "__init__" p2) (e :: es) [] pos) (tVeI X.K ta) := by
  refine ⟨fun pins s σ H Q I h => ?_⟩
  refine PySem.W.methodCall_KW (ld_glob I hg hm ?_ hdb) hc
  refine PySem.W.method_cls I.kIn U.ga (PySem.W.cls_value I.kIn U.rd U.ini (by decide +kernel) ?_)
  show wpAny _ _ (callWith pos (Value.builtin "ValueError.__init__") [] (backTo pos (starEach (e :: es) X.env)) []) _ _ _
  refine PyProof.Rows.callWith_method1 (thn (ha.run pos pins _ σ H _ (I.tok _) h) fun us s1 ⟨vs, H1, I1, r1, a, C, ws, ev, hl, T, ea, q⟩ => ?_) he hpl
  subst ev
  cases r1 with
  | @cons _ u0 _ ur ra rw' =>
    obtain rfl : u0 = Value.ref a := ra
    have hn : ur.length ≤ sizeLine := by
      rw [← Paired.length rw', sizeLine_eq]
      omega
    exact oinit_ok T I1 ea hn fun s' J => ⟨.non, H1, J, rfl, q⟩
/-- the promise of such an __init__ without a field -/
def spIni0 (K : PySem.W.Frag) (C : Addr) : Sp := fun vs H Q _ => ∃ a : Addr, vs = [.ref a] ∧ H a = some (exo a C none) ∧ Q .non H
/-- C(), C's own __init__ keeping spIni0 -/
def tMkN (C : Addr) : L2.St → Hp → XK → Prop := fun _ H Q => Q (.ref C) none H
theorem del_upd {H : Hp} {a : Addr} {o : HO} (n : H a = none) : del (upd H a o) a = H := by
  funext b
  by_cases hb : b = a
  · rw [hb, del_same, n]
  · rw [del_ne hb, upd_ne hb]
theorem mk_endN {pins : List (Addr × Obj)} {σ : L2.St} {H1 : Hp} {Q : XK} {hp hp2 h2 : Heap} {g1 g2 : Array GenState} {d1 d2 : Drawn} {t1 t2 : Nat} {os1 os2 : OsState} {a : Addr} (T : Raises X (.ref C)) (I1 : Inv X pins σ H1 ⟨hp, g1, d1, t1, os1⟩)
    (ha : hp.objs.size ≤ a) (k : ∀ b o, hp.get? b = some o → hp2.get? b = some o) (un : Un (frs X.stack) [] (upd H1 a (exo a C none)) (upd H1 a (exo a C none)) hp2 h2) (hok : HOk X.prog X.w (upd H1 a (exo a C none)) h2) (ho : os2 = os1) (hb : AllBare g2)
    (q : Q (.ref C) none H1) : MkP X pins σ Q (.ref a) ⟨h2, g2, d2, t2, os2⟩ := by
  obtain ⟨t0, hoe⟩ := exo_at hok upd_same
  have hn : H1 a = none := I1.hok.fresh ha
  obtain ⟨G, ga, gb⟩ := restrict h2 fun b => decide (b ≠ a)
  have gk : ∀ b, b ≠ a → G.get? b = h2.get? b := fun b nb => ga b (decide_eq_true nb)
  have ge : G.get? a = none := gb a (by simp)
  have na : ∀ {b : Addr} {o : Obj}, hp.get? b = some o → b ≠ a := fun {b o} z => Nat.ne_of_lt (Nat.lt_of_lt_of_le (Heap.lt_size z) ha)
  have up : ∀ {b : Addr}, b ≠ a → H1 b = none → upd H1 a (exo a C none) b = none := fun {b} nb n => by
    rw [upd_ne nb]
    exact n
  have U : Un (frs X.stack) [] H1 H1 hp G := {
    keep := fun b o z n hf hx => by
      rw [gk b (na z)]
      exact un.keep b o (k b o z) (up (na z) n) hf hx
    slot := fun b o z n hf hx => by
      rw [gk b (na z)]
      exact un.slot b o (k b o z) (up (na z) n) hf hx
    free := fun b o z n hx => n
    there := fun b o z hx => by
      rw [gk b (na z)]
      exact un.there b o (k b o z) hx
    tups := fun b xs z => z
    frzs := fun b o v z => z
    tbls := fun b ps z => ⟨#[], by rw [Array.append_empty]; exact z⟩ }
  have hok3 : HOk X.prog X.w H1 G := fun b o z => by
    have nb : b ≠ a := ne_of_none z hn
    refine (hok b o (by rw [upd_ne nb]; exact z)).stay (fun c v hc y => ?_) (fun c hc => ?_) fun c xs hc => ?_
    · have nc : c ≠ a := by
        rcases hc with hc | hc
        · rw [hc]
          exact nb
        · exact at_ne (H := upd H1 a (exo a C none)) upd_same hc exo_own
      rw [gk c nc]
      exact y
    · rw [upd_ne (at_ne (H := upd H1 a (exo a C none)) upd_same hc exo_own)] at hc
      exact hc
    · rw [upd_ne (at_ne (H := upd H1 a (exo a C none)) upd_same hc exo_tup)] at hc
      exact hc
  have J : Inv X pins σ H1 ⟨G, g2, d2, t2, os2⟩ := I1.call' (ch := []) ho U hok3 hb (fun b z => absurd z (by simp))
  refine ⟨a, _, _, ⟨G, g2, d2, t2, os2⟩, _, .ref C, none, rfl, J, fun b o z => ?_, ge, hoe, ⟨rfl, rfl⟩, rfl, rfl, hn, rfl, hb, T, q⟩
  by_cases nb : b = a
  · rw [nb, ge] at z
    cases z
  · exact (gk b nb).symm.trans z
theorem pmk_oexN {CX : CXT} {k : Nat} {fd : FuncData} (T : OexC X.K C) (iC : PySem.W.findIn X.K (.ref C) "__init__" = some (some (.ref fI))) (tI : PySem.W.typeIn X.K (.ref fI) = some (.type "function"))
    (F1 : FnOk X.prog X.w X.K X.mg X.base CX k fI fd ["self"] (spIni0 X.K C)) (hr : Room (k + 1) X.A) (hb : Binds X.K fd ["self"] []) (hx : Passes CX X (fun _ _ _ => False)) (hg : Gl X x) (hm : X.mg x = some (.ref C)) (hdb : (x == ("__debug__" : Str)) = false := by decide) :
    PMk X (.Call (.Name x p) [] [] pos) (tMkN C) := by
  intro pins s σ H Q I h
  obtain ⟨nm, q, N, bs, bm, sn, sub, ab, col, dd, k0, k1, k2, k3, k5, hC, hbm⟩ := T.cls
  refine wpAny_Call_Name_kw (ld_glob I hg hm ?_ hdb)
  refine PySem.W.callWith_K0 I.kIn T.kC ?_
  obtain ⟨hp, g, dr, tk, os⟩ := s
  show wpAny _ _ (call (.ref C) []) _ _ _
  have hsz : hp.objs.size ≤ hp.objs.size + 1 := Nat.le_succ _
  have hn : H (hp.objs.size + 1) = none := I.hok.fresh hsz
  have kk : ∀ b o, hp.get? b = some o → ((hp.push (PySem.W.kdv_tup [])).push (PySem.HandSPX.excO C hp.objs.size)).get? b = some o := fun b o e => Heap.get?_push_of_some _ (Heap.get?_push_of_some _ e)
  have hget : ((hp.push (PySem.W.kdv_tup [])).push (PySem.HandSPX.excO C hp.objs.size)).get? (hp.objs.size + 1) = some (PySem.HandSPX.excO C hp.objs.size) := by heap_get
  have I2 : Inv X pins σ (upd H (hp.objs.size + 1) (exo (hp.objs.size + 1) C none)) ⟨(hp.push (PySem.W.kdv_tup [])).push (PySem.HandSPX.excO C hp.objs.size), g, dr, tk, os⟩ :=
    I.laid (t' := tk) (a := hp.objs.size + 1) (o := exo (hp.objs.size + 1) C none) (h' := (hp.push (PySem.W.kdv_tup [])).push (PySem.HandSPX.excO C hp.objs.size)) kk hsz (exo_ok hget)
  have r2 : Vals [V.ref (hp.objs.size + 1)] [Value.ref (hp.objs.size + 1)] := .cons rfl .nil
  refine wpAny_call (PySem.HandSPX.call_own F.excBase_ValueError (fun Y => PySem.HandSPX.refsVE_contains Y bm hbm) (I.kIn _ _ hC) (PySem.W.looks_findIn I.kIn iC) (fun self => PySem.W.bind_fn I.kIn self tI) (Nat.zero_le _)
    (codeAny_mono (F1.run _ X.stack _ _ ⟨[Value.ref (hp.objs.size + 1)], []⟩ [Value.ref (hp.objs.size + 1)] _ (fun v H2 => v = .non ∧ H2 = upd H (hp.objs.size + 1) (exo (hp.objs.size + 1) C none)) (fun _ _ _ => False) (hr.make C [] []) (I2.env0.make C [] []) (hb _ [Value.ref (hp.objs.size + 1)] I2.kIn rfl) r2
      ⟨_, rfl, upd_same, rfl, rfl⟩) fun r s' hq' => ?_))
  cases r with
  | error er => exact hx pins σ _ _ er s' I2 hq'
  | ok fl =>
    cases fl with
    | ret u =>
      obtain ⟨v, H2, os2, bare2, un2, hok2, rv, ev, eH⟩ := hq'
      subst ev eH
      obtain ⟨h2, g2, d2, t2, os'⟩ := s'
      exact ⟨rv, mk_endN (raises_own T.exC T.tyC) I hsz kk un2 hok2 os2 bare2 h⟩
    | next => exact False.elim hq'
    | brk => exact False.elim hq'
    | cont => exact False.elim hq'
end
end Fm
/-! More rules: in a tuple, count of data, a tuple turned round. -/
namespace Fm
open PySem PySem.Spec PyProof.Rows L2 PySem.W
section
variable {X : Cx} {K : PySem.W.Frag}
/-- x in t, t a tuple of data -/
def rInT (K : PySem.W.Frag) : R2 := fun x y H Q => ∃ d ds, Dp K H x d ∧ Dp K H y (.tuple ds) ∧ SeqAt.shaped d = true ∧ SeqAt.shaped (.tuple ds) = true ∧ Q (.bl (ds.any fun z => PyData.eqv z d)) H
theorem op_inT (hu : X.A.units + 65 < cLine) (e : X.K = K := by rfl) : OpR X (compareOp .In) (rInT K) := by
  subst e
  intro pins s σ H x y v u Q I rx ry h
  obtain ⟨d, ds, h1, h2, s1, s2, q⟩ := h
  obtain ⟨as, r1⟩ := Dp.reads I d x v h1 rx
  obtain ⟨bs, r2⟩ := Dp.reads I (.tuple ds) y u h2 ry
  exact SeqAt.in_tuple_reads r2 r1 (SeqAt.canLay_of_shaped s2) (SeqAt.canLay_of_shaped s1) (room_in_shaped s1 hu) ⟨.bl _, H, I, rfl, q⟩
theorem op_inLK (hu : X.A.units + 65 < cLine) (e : X.K = K := by rfl) : OpR X (compareOp .In) (rInD K) := e ▸ op_inD hu
theorem op_ltTK (hu : X.A.units < cLine) (e : X.K = K := by rfl) : OpR X (compareOp .Lt) (rLtT K) := e ▸ op_ltT hu
theorem mt_indexK (hu : X.A.units + 65 < cLine) (e : X.K = K := by rfl) : MtR X "list.index" (rIndexD K) := e ▸ mt_indexD hu
/-- l.count(x) -/
def rCntD (K : PySem.W.Frag) : V → List V → Hp → VK → Prop := fun x xs H Q => ∃ (a : Addr) (y : V) (d : PyData) (ds : List PyData), x = .ref a ∧ xs = [y] ∧ Dp K H (.ref a) (.list ds) ∧ Dp K H y d ∧ SeqAt.shaped (.list ds) = true ∧ SeqAt.shaped d = true ∧
  Q (.int ((ds.countP fun z => PyData.eqv z d : Nat) : Int)) H
theorem mt_countD (hu : X.A.units + 65 < cLine) (e : X.K = K := by rfl) : MtR X "list.count" (rCntD K) := by
  subst e
  intro pins s σ H x xs v us Q I rx rxs h
  obtain ⟨a, y, d, ds, rfl, rfl, hl, hy, s1, s2, q⟩ := h
  cases rx
  obtain ⟨u, rfl, ru⟩ := rxs.one
  obtain ⟨bs, r1⟩ := Dp.reads I d y u hy ru
  have c1 : PyData.canLayAll0 ds = true := SeqAt.canLay_of_shaped s1
  have room : X.A.units + 1 + min (PyData.depthAll ds) d.depth < cLine := room_in_shaped s2 hu
  cases hl with
  | lst hs ha =>
    obtain ⟨its, rv, ⟨⟨cl, di, da, sls⟩, n, ho, hc, hdn, hdt⟩, hlen⟩ := I.list hs
    simp only at hc hdt
    subst hc hdt
    obtain ⟨as, r4⟩ := Dp.readsAll I ds _ its ha rv
    have hm : its.map (SeqAt.readOf s.heap) = ds := SeqAt.readsAll_map ds its as c1 r4
    refine call_meets PySem.F.slot_list_count ⟨_, ho, rfl⟩ PySem.F.entry_list_count (PySem.F.args_list_count_2 _ _)
      (SeqAt.list_countAt a its.toArray n di sls u (fun z => PyData.eqv (SeqAt.readOf s.heap z) d)) ⟨ho, SeqAt.items_eqAt (vs := its.toArray) (show ReadsAll s.heap its.toArray.toList ds as from r4) r1 c1 (SeqAt.canLay_of_shaped s2) room, ?_⟩
    refine ⟨.int ((ds.countP fun z => PyData.eqv z d : Nat) : Int), H, I.tok _, ⟨s.toks, ?_⟩, q⟩
    show Value.int ((its.toArray.toList.countP (fun z => PyData.eqv (SeqAt.readOf s.heap z) d) : Nat) : Int) s.toks = _
    rw [← hm, List.countP_map]
    rfl
/-! ### t[::-1] -/
theorem fm_congr {α β : Type} {f g : α → Option β} : ∀ {l : List α}, (∀ x ∈ l, f x = g x) → l.filterMap f = l.filterMap g
  | [], _ => rfl
  | x :: l, h => by
    rw [List.filterMap_cons, List.filterMap_cons, h x (List.mem_cons_self ..), fm_congr fun y hy => h y (List.mem_cons_of_mem _ hy)]
theorem vals_rev : ∀ {xs : List V} {us : List Value}, Vals xs us → Vals xs.reverse us.reverse
  | [], _, r => by
    cases r
    exact .nil
  | x :: xs, _, r => by
    cases r with
    | cons h t =>
      rw [List.reverse_cons, List.reverse_cons]
      exact (vals_rev t).append (.cons h .nil)
theorem rev_pick (l : List Value) : ((List.range l.length).filterMap fun (m : Nat) => l.toArray[(((l.length : Int) - 1) + (m : Int) * (-1)).toNat]?) = l.reverse := by
  have e : ∀ m, m ∈ List.range l.length → (fun (m : Nat) => l.toArray[(((l.length : Int) - 1) + (m : Int) * (-1)).toNat]?) m = l.reverse[m]? := fun m hm => by
    have hl := List.mem_range.mp hm
    show l.toArray[_]? = _
    rw [List.getElem?_toArray, List.getElem?_reverse hl]
    congr 1
    omega
  rw [fm_congr e]
  have z := List.length_reverse (as := l)
  generalize l.reverse = r at z ⊢
  rw [← z]
  clear z e
  have key : ∀ (r : List Value) (n : Nat), n ≤ r.length → (List.range n).filterMap (fun m => r[m]?) = r.take n := by
    intro r n
    induction n with
    | zero => intro _; simp
    | succ n ih =>
      intro hn
      rw [List.range_succ, List.filterMap_append, ih (by omega), List.take_add_one, List.getElem?_eq_getElem (show n < r.length by omega)]
      simp [List.getElem?_eq_getElem (show n < r.length by omega)]
  rw [key r r.length (Nat.le_refl _), List.take_length]
section
variable {prog : Program} {w : World} {A : Around} {E : Value → Shared → Prop} {s : Shared}
theorem rev_applied {sl : Addr} {t : Tok} {n : Nat} {Q : Int × Int × Nat → Shared → Prop} (hs : s.heap.IsSliceOf sl .none .none (.int (-1) t)) (h : Q ((n : Int) - 1, -1, n) s) :
    wpAny (model prog w) A (Builtin.Slice.sliceApplied (.ref sl) (pure (n : Int))) Q E s := by
  obtain ⟨os, hos, hcs, hds⟩ := id hs
  unfold Builtin.Slice.sliceApplied Builtin.Slice.sliceFields
  refine wpAny_bind (wpAny_bind (wpAny_field hos hds (x := .none) rfl (wpAny_bind (wpAny_field hos hds (x := .none) rfl (wpAny_bind (wpAny_field hos hds (x := .int (-1) t) rfl (wpAny_pure ?_)))))))
  refine wpAny_bind (slicePart_int ?_)
  show wpAny _ _ (if ((-1 : Int) == 0) = true then _ else _) _ _ s
  rw [if_neg (by decide)]
  refine wpAny_bind (slicePart_none (wpAny_bind (slicePart_none (wpAny_bind (wpAny_pure ?_)))))
  show wpAny _ _ (pure ((n : Int) - 1, (-1 : Int), Builtin.Slice.slicePlaces ((n : Int) - 1) (-1) (-1))) _ _ s
  have e : Builtin.Slice.slicePlaces ((n : Int) - 1) (-1) (-1) = n := by
    unfold Builtin.Slice.slicePlaces
    rw [if_neg (by decide)]
    show (if (n : Int) - 1 > -1 then ((n : Int) - 1 - -1 - 1) / 1 + 1 else 0).toNat = n
    rw [Int.ediv_one]
    split <;> omega
  rw [e]
  exact wpAny_pure h
theorem getItem_rev {t sl : Addr} {l : List Value} {tk : Tok} {Q : Value → Shared → Prop} (ht : IsTup s.heap t l.toArray) (hs : s.heap.IsSliceOf sl .none .none (.int (-1) tk))
    (h : Q (.ref s.heap.objs.size) { s with heap := s.heap.push { cls := .type "tuple", data := .seq l.reverse.toArray } }) (hsz : l.length ≤ sizeLine) : wpAny (model prog w) A (getItem (.ref t) (.ref sl)) Q E s := by
  have hz : sizeOk (.seq l.reverse.toArray) := by
    show l.reverse.toArray.size ≤ sizeLine
    rw [List.size_toArray, List.length_reverse]
    exact hsz
  obtain ⟨os, hos, hcs, hds⟩ := id hs
  have hTs : s.TypeIs (.ref sl) "slice" := ⟨os, hos, hcs⟩
  unfold getItem
  try with_reducible refine wpAny_holding ?_
  first | refine wpAny_bind (wpAny_pure ?_) | skip
  refine wpAny_bind (wpAny_sequenceKey ht.typeIs (by decide) ?_)
  refine wpAny_bind (wpAny_callSpecial?_slot (name := Str.ofString "__getitem__") ht.typeIs PyProof.Rows.slot_tuple_getitem
    (wpAny_call_entry PyProof.Rows.slot_tuple_getitem ht.typeIs entry_tuple_getitem ?_ (args_tuple_getitem _ _)))
  show wpAny _ _ (Builtin.Tuple.tupleItemsOf (.ref t) >>= _) _ _ s
  refine wpAny_bind (tupleItemsOf_ ht ?_)
  refine wpAny_bind (wpAny_typeOf hTs ?_)
  rw [if_pos (by decide)]
  rw [List.size_toArray]
  refine wpAny_bind (rev_applied hs ?_)
  have hno : ¬ ((((l.length : Int) - 1) == 0 && (-1 : Int) == 1 && l.length == l.toArray.size) = true) := by
    intro q
    rw [Bool.and_eq_true, Bool.and_eq_true] at q
    exact absurd q.1.2 (by decide)
  show wpAny _ _ (if (((l.length : Int) - 1) == 0 && (-1 : Int) == 1 && l.length == l.toArray.size) = true then _ else _) _ _ s
  rw [if_neg hno, rev_pick]
  first
    | exact wpAny_bind (m := Builtin.Tuple.tupleExact _) (wpAny_newObj_type (wpAny_pure ⟨_, rfl, wpAny_pure h⟩) hz)
    | exact wpAny_bind (m := Builtin.Tuple.tupleExact _) (wpAny_newObj_type (wpAny_bind (wpAny_pure (wpAny_pure ⟨_, rfl, wpAny_pure h⟩))) hz)
    | exact wpAny_bind (wpAny_bind (m := Builtin.Tuple.tupleExact _) (wpAny_newObj_type (wpAny_pure (wpAny_pure ⟨_, rfl, wpAny_pure h⟩)) hz))
    | exact wpAny_bind (wpAny_bind (m := Builtin.Tuple.tupleExact _) (wpAny_newObj_type (wpAny_pure ⟨_, rfl, wpAny_pure h⟩) hz))
end
def tRevT (K : PySem.W.Frag) (te ts : TE) : TE := fun σ H Q => te σ H fun x H1 => ts σ H1 fun y H2 => y = .int (-1) ∧ ∃ a xs, x = .ref a ∧ SqT K H2 a xs ∧ ∀ p, H2 p = none → Q (.ref p) (upd H2 p (.tup xs.reverse))
theorem pe_revT {e st : Expr} {te ts : TE} {p2 pos : Pos} (he : PE X e te) (hst : PE X st ts) (eK : X.K = K := by rfl) : PE X (.Subscript e (.Slice none none (some st) p2) pos) (tRevT K te ts) := by
  subst eK
  refine ⟨fun pins s σ H Q I h => ?_⟩
  refine Subscript_ (thn (he.run pins s σ H _ I h) fun v s1 ⟨x, H1, I1, r1, q1⟩ => ?_)
  refine wpAny_Slice ?_
  rw [evalPart_none]
  refine wpAny_pure ?_
  refine wpAny_pure ?_
  rw [evalPart_some]
  refine thn (hst.run pins s1 σ H1 _ I1 q1) fun vy s2 ⟨y, H2, I2, r2, ey, a, xs, ex, hx, q2⟩ => ?_
  subst ey ex
  obtain ⟨t, rfl⟩ := r2
  cases r1
  have I4 : Inv X pins σ H2 { s2 with heap := s2.heap.push { cls := .type "slice", data := .fields #[.none, .none, .int (-1) t] } } := I2.kept (t' := s2.toks) fun b ob q => Heap.get?_push_of_some _ q
  obtain ⟨its, r, ht, hz⟩ := I4.tuple hx
  refine tail_any (T := "tuple") (ops := [.ref a, .ref s2.heap.objs.size]) ht.typeIs PyProof.Rows.slot_tuple_getitem.lookup ?_ (by with_unfolding_all rfl)
  have hlen := r.length
  refine getItem_rev (l := its) ht (Heap.IsSliceOf.new ..) ?_ (by omega)
  refine ⟨.ref _, _, I4.laid (t' := s2.toks) (o := .tup xs.reverse) (fun b ob q => Heap.get?_push_of_some _ q) (Nat.le_refl _) ?_, rfl, q2 _ (I4.hok.fresh (Nat.le_refl _))⟩
  exact ⟨by rw [List.length_reverse]; exact hz, its.reverse, vals_rev r, IsTup.new _ _⟩
end
end Fm
/-! enumerate of a tuple. -/
namespace Fm
open PySem PySem.Spec PyProof.Rows L2
theorem enum_new_tup (l : Addr) (items : Array Value) (n : Nat) (dct : Option Addr) (sl : Array (Option Value)) :
    Meets (Builtin.«enumerate.__new__» ⟨[.type "enumerate", .ref l], []⟩) (fun _ R s => s.heap.get? l = some { cls := .type "tuple", dict := dct, data := .seq items n, slots := sl } ∧
      R (.ok (.ret (.ref (s.heap.push { cls := .type "tuple_iterator", data := .fields #[.ref l, .int 0 0] }).objs.size)))
        { s with heap := (s.heap.push { cls := .type "tuple_iterator", data := .fields #[.ref l, .int 0 0] }).push { cls := .type "enumerate", data := .fields #[.none, .bool false, .ref s.heap.objs.size, rawInt 0, .none, .none] } }) :=
  .of_wp fun prog w A R s h => by
    obtain ⟨hp, g, d, tk, os⟩ := s
    obtain ⟨hl, h⟩ := h
    have hsub := sub_enumerate
    have hL : Heap.IsTuple (Shared.heap ⟨hp, g, d, tk, os⟩) l items := ⟨_, hl, rfl, n, rfl⟩
    wp_walk using wpAny_loadPart' hl
    refine wpAny_stack_any fun st => wpAny_pure ?_
    split
    · rename_i c _ _ _ _ _
      cases (c == Value.type "enumerate")
      · wp_walk using wpAny_loadPart' hl, wpAny_pyIter_tuple hL
        exact ⟨_, rfl, h⟩
      · wp_walk using wpAny_loadPart' hl, wpAny_pyIter_tuple hL
        exact ⟨_, rfl, h⟩
    · wp_walk using wpAny_loadPart' hl, wpAny_pyIter_tuple hL
      exact ⟨_, rfl, h⟩
section
variable {prog : Program} {w : World} {A : Around} {E : Value → Shared → Prop} {s : Shared}
theorem call_enum_tup {l : Addr} {items : Array Value} {Q : Value → Shared → Prop} (hL : s.heap.IsTuple l items)
    (h : ∀ h', IsEnum h' (s.heap.objs.size + 1) s.heap.objs.size 0 .none → h'.IsTupleIter s.heap.objs.size l 0 → (∀ b o, s.heap.get? b = some o → h'.get? b = some o) → Q (.ref (s.heap.objs.size + 1)) { s with heap := h' }) :
    wpAny (model prog w) A (call (.type "enumerate") [.ref l]) Q E s := by
  obtain ⟨⟨c, dct, dt, sl⟩, hl, hc, n, hd⟩ := hL
  replace hc : c = .type "tuple" := hc
  replace hd : dt = .seq items n := hd
  subst hc hd
  refine callType_new F.called_enumerate (by decide) (F.typeCall_enumerate_1 _) (F.newCall_enumerate_1 _) (fun obj => F.args_object_init_2 obj _) F.entry_enumerate_new (enum_new_tup l items n dct sl) ⟨hl, ?_⟩
  have hz : (s.heap.push { cls := .type "tuple_iterator", data := .fields #[.ref l, .int 0 0] }).objs.size = s.heap.objs.size + 1 := Heap.size_push ..
  show _ ∧ _
  rw [hz]
  have he : IsEnum ((s.heap.push { cls := .type "tuple_iterator", data := .fields #[.ref l, .int 0 0] }).push
      { cls := .type "enumerate", data := .fields #[.none, .bool false, .ref s.heap.objs.size, rawInt 0, .none, .none] }) (s.heap.objs.size + 1) s.heap.objs.size 0 .none := by
    have t := Heap.get?_push_size (s.heap.push { cls := .type "tuple_iterator", data := .fields #[.ref l, .int 0 0] })
      (o := { cls := .type "enumerate", data := .fields #[.none, .bool false, .ref s.heap.objs.size, rawInt 0, .none, .none] }) rfl
    rw [hz] at t
    exact t
  exact ⟨⟨_, he, rfl⟩, h _ he ⟨_, Heap.get?_push_of_some _ (Heap.get?_push_size _ rfl), rfl, rfl⟩ fun b o x => Heap.get?_push_of_some _ (Heap.get?_push_of_some _ x)⟩
end
/-- the numbered items of a tuple -/
def ItE (K : PySem.W.Frag) (a : Addr) (xs : List V) : It where
  go := fun i H => SqT K H a xs ∧ i < xs.length
  yld := fun i H v H' => ∃ T x, v = .ref T ∧ H T = none ∧ H' = upd H T (.tup [.int (i : Nat), x]) ∧ xs[i]? = some x
  stop := fun i H => SqT K H a xs ∧ i = xs.length
theorem turn_e {P : Program} {w : World} {K : PySem.W.Frag} {elts : List Expr} {kk : Nat} {tp : Pos} {a e it : Addr} {xs : List V} (n1 : a ≠ it) (n2 : e ≠ it) (n3 : e ≠ a) :
    Turn P w K (.Tuple elts kk tp) (ItE K a xs) [e, it] e (fun i h => (∃ old, IsEnum h e it ((i : Nat) : Int) old) ∧ h.IsTupleIter it a i) where
  mem := List.mem_cons_self ..
  obj := by
    rintro i h ⟨⟨old, q1⟩, ⟨o, q2, _, d2⟩⟩ c hc
    rcases (show c = e ∨ c = it by simpa using hc) with z | z <;> subst z
    · exact ⟨_, q1, fun _ y => nomatch y⟩
    · exact ⟨o, q2, fun _ y => by rw [d2] at y; cases y⟩
  keep := by
    rintro i h h' ⟨⟨old, q1⟩, q2⟩ k
    exact ⟨⟨old, k _ (by simp) _ q1⟩, q2.at fun o z => k _ (by simp) o z⟩
  item := by
    intro X hP hw hK hc i pins s σ H E I hf st hg
    subst hP hw hK
    obtain ⟨hx, lx⟩ := hg
    obtain ⟨us, rx, px, _⟩ := I.tuple hx
    obtain ⟨⟨old, q1⟩, q2⟩ := st
    have hd : X.A.in1.handled = none := I.ok.hd hc
    have hel : e < s.heap.objs.size := Heap.lt_size q1
    have hil : it < s.heap.objs.size := by
      obtain ⟨_, q, _⟩ := id q2
      exact Heap.lt_size q
    refine wpAny_pyNext_enum_itemD (Draws.tuple (prog := X.prog) (w := X.w) hd it a n1 us.toArray) q1 ⟨q2, px⟩ (by rw [List.size_toArray, ← rx.length]; exact lx) n2 (by simp [n2, n3]) fun u h' tk hu ho st' hT hsz hk => ?_
    obtain ⟨x, ex, rxu⟩ := vals_at rx (show us[i]? = some u by simpa using hu)
    refine ⟨_, rfl, wpAny_letOwnedTupleGo_enum (s := { s with heap := h', toks := tk + 1 }) ho fun h'' he' sb => ?_⟩
    have hT2 := (sb.2 _ (Nat.ne_of_gt hel)).trans hT
    have new : ObjOk X.prog X.w (upd H s.heap.objs.size (.tup [.int (i : Nat), x])) h'' s.heap.objs.size (.tup [.int (i : Nat), x]) :=
      ⟨by show 2 ≤ sizeLine; decide, [.int i tk, u], .cons ⟨_, rfl⟩ (.cons rxu .nil), ⟨_, hT2, rfl, _, rfl⟩⟩
    have I1 : Inv X pins σ (upd H s.heap.objs.size (.tup [.int (i : Nat), x])) { s with heap := h'', toks := tk + 1 } :=
      I.turnedNew (t' := tk + 1) (ch := [e, it]) (fun b ob hb q => (sb.2 b (fun z => hb (by simp [z]))).trans (hk b ob (fun z => hb (by simp [z])) (fun z => hb (by simp [z])) q)) hf (Nat.le_refl _) new
    refine ⟨.ref s.heap.objs.size, _, I1, rfl, ⟨_, x, rfl, I.hok.fresh (Nat.le_refl _), rfl, ex⟩, ⟨⟨u, ?_⟩, st'.1.at fun o q => (sb.2 it (Ne.symm n2)).trans q⟩, fun b hb => ?_⟩
    · have e1 : ((i + 1 : Nat) : Int) = (i : Int) + 1 := by omega
      rw [e1]
      exact he'
    · have hb' : b < s.heap.objs.size := by
        rcases (show b = e ∨ b = it by simpa using hb) with z | z <;> subst z
        · exact hel
        · exact hil
      rw [upd_ne (Nat.ne_of_lt hb')]
      exact (hf b hb).1
  done := by
    intro X hP hw hK hc i pins s σ H E I hf st hg
    subst hP hw hK
    obtain ⟨hx, hi⟩ := hg
    obtain ⟨us, rx, px, _⟩ := I.tuple hx
    obtain ⟨⟨old, q1⟩, q2⟩ := st
    have hd : X.A.in1.handled = none := I.ok.hd hc
    have hn : i = us.toArray.size := by
      rw [List.size_toArray, ← rx.length]
      exact hi
    subst hn
    obtain ⟨f0, f1, f2, f3, f4, f5⟩ := hf it (by simp)
    exact wpAny_pyNext_enum_endD (Draws.tuple (prog := X.prog) (w := X.w) hd it a n1 us.toArray) q1 ⟨q2, px⟩ fun h' eb => ⟨rfl, I.turned (t' := s.toks) (fun b o hb q => eb b o hb q) f0 f1 f3 f4 f5⟩
  self := fun A i s Q E st q => by
    obtain ⟨⟨_, he⟩, _⟩ := st
    exact wpAny_pyIter_enum he q
def iEnumT (K : PySem.W.Frag) (ta : TA) : TI := fun σ H R => ta σ H fun vs H1 => ∃ a xs, vs = [.ref a] ∧ SqT K H1 a xs ∧ R (ItE K a xs) H1
theorem pi_enumT {X : Cx} {K : PySem.W.Frag} {e : Expr} {ta : TA} {p pos tpos : Pos} {elts : List Expr} {kk : Nat} (hg : Gl X "enumerate") (hm : X.mg "enumerate" = none) (ha : PA X [e] ta) (eK : X.K = K := by rfl) (hs : starEach [e] X.env = [(false, eval e X.env)] := by rfl) :
    PI X (.Tuple elts kk tpos) (.Call (.Name "enumerate" p) [e] [] pos) (iEnumT K ta) := by
  subst eK
  refine ⟨fun pins s σ H R I h => ?_⟩
  refine Call_ (ld_blt I hg hm boot_enumerate (PyProof.Rows.callWith_type1 (thn (ha.run pos pins s σ H _ I h) fun us s1 ⟨vs, H1, I1, r1, q1⟩ => ?_) hs rfl))
  obtain ⟨a, xs, ex, hq, q⟩ := q1
  subst ex
  cases r1 with
  | cons r rr =>
    cases rr
    cases r
    obtain ⟨its, rv, p', hz⟩ := I1.tuple hq
    have hal : a < s1.heap.objs.size := by
      obtain ⟨_, z, _⟩ := id p'
      exact Heap.lt_size z
    refine call_enum_tup p' fun h' he hit hk => wpAny_pyIter_enum he ?_
    have I2 : Inv X pins σ H1 { s1 with heap := h' } := I1.kept (t' := s1.toks) hk
    refine ⟨s1.heap.objs.size + 1, [s1.heap.objs.size + 1, s1.heap.objs.size], _, _, H1, rfl, I2, turn_e (xs := xs) (Nat.ne_of_lt hal) (Nat.succ_ne_self _) (Nat.ne_of_gt (Nat.lt_succ_of_lt hal)), ⟨⟨.none, he⟩, hit⟩, fun b hb => ?_, q⟩
    have hle : s1.heap.objs.size ≤ b := by
      rcases (show b = s1.heap.objs.size + 1 ∨ b = s1.heap.objs.size by simpa using hb) with z | z
      · rw [z]
        exact Nat.le_add_right _ _
      · rw [z]
        exact Nat.le_refl _
    exact I1.fpOk hle (I1.hok.fresh hle)
/-! ### by K -/
section
variable {X : Cx} {K : PySem.W.Frag}
theorem call_allK (hc : X.calm = true) (e : X.K = K := by rfl) : CallR X (.builtin "all") (rAll K) := e ▸ cr_all hc
theorem op_repTK (e : X.K = K := by rfl) : OpR X (binaryOp .Mult) (rRepT K) := e ▸ op_repT
theorem call_sortTsK (hu : X.A.units + 64 < PySem.cLine) (e : X.K = K := by rfl) : CallR X (.builtin "sorted") (rSortTs K) := e ▸ cr_sortTs hu
def rListOf (K : PySem.W.Frag) : List V → Hp → VK → Prop := fun xs H Q => ∃ p ys, xs = [.ref p] ∧ (SqL K H p ys ∨ SqT K H p ys) ∧ ∀ l, H l = none → Q (.ref l) (upd H l (.lst ys))
theorem call_listK (e : X.K = K := by rfl) : CallR X (.type "list") (rListOf K) := by
  subst e
  exact call_list_of
/-- isinstance(e, c), e the error that the suite holds, of a class that the reading tells -/
def rIsE2 (K : PySem.W.Frag) (cls : Value) (d : Option Addr) (a : Addr) : List V → Hp → VK → Prop := fun xs H Q => ∃ D : Addr, cls = .ref D ∧ d = none ∧ ExcC K D ∧ rIsE K D a xs H Q
theorem call_isE2 {a : Addr} {oe : Obj} {cls : Value} {d : Option Addr} {pn : List (Addr × Obj)} (hz : Zc cls d oe) (hf : ∃ vs, oe.data = .fields vs) (e : X.K = K := by rfl) : CallR (X.suite a ((a, oe) :: pn)) (.builtin "isinstance") (rIsE2 K cls d a) := by
  subst e
  intro pins s σ H xs us Q I r h
  obtain ⟨D, rfl, rfl, C, h⟩ := h
  exact call_isE C hz hf pins s σ H xs us Q I r h
end
end Fm
/-! A def that answers here and raises there. -/
namespace Fm
open PySem PySem.Spec PyProof.Rows L2
theorem FnOk.orX {P : Program} {w : World} {K : PySem.W.Frag} {mg : Str → Option Value} {base : Heap} {k : Nat} {f : Addr} {fd : FuncData} {ps : List Str} {sp sp2 : Sp} (F : FnOk P w K mg base L2.CX0 k f fd ps sp) (G : FnOk P w K mg base (L2.CX P w) k f fd ps sp2) :
    FnOk P w K mg base (L2.CX P w) k f fd ps (fun vs H Q E => sp vs H Q L2.E0 ∨ sp2 vs H Q E) := by
  refine ⟨fun vs H Q E h => ?_, fun A outer s H args us vs Q E hr he hb hv h => ?_⟩
  · rcases h with h | h
    · exact F.len _ _ _ _ h
    · exact G.len _ _ _ _ h
  · rcases h with h | h
    · refine codeAny_mono (F.run A outer s H args us vs Q L2.E0 hr he hb hv h) fun r s' q => ?_
      cases r with
      | error e => exact False.elim q
      | ok fl => cases fl <;> exact q
    · exact G.run A outer s H args us vs Q E hr he hb hv h
end Fm
namespace Fm
open PySem L2
theorem room65 {k : Nat} {A : Around} (r : Room k A) : A.units + 65 < cLine := by
  have := r.un
  omega
end Fm
namespace Fm
open PySem PySem.Spec PyProof.Rows L2
theorem for_enumT {K : PySem.W.Frag} {a : Addr} {xs : List V} {g : TG} {tb : TS} {D : Ends} {σ : L2.St} {H : Hp} (Pv : Nat → L2.St → Hp → Prop) (h0 : Pv 0 σ H) (hq : ∀ i σ H, Pv i σ H → SqT K H a xs)
    (hs : ∀ (i : Nat) (x : V) (T : Addr) (σ : L2.St) (H : Hp), xs[i]? = some x → Pv i σ H → H T = none → g (.ref T) σ (upd H T (.tup [.int (i : Nat), x])) fun σ2 H2 => tb { D with nx := Pv (i + 1), ct := Pv (i + 1), bk := D.nx } σ2 H2)
    (hd : ∀ σ H, Pv xs.length σ H → D.nx σ H) :
    ∃ W : Nat → Nat → L2.St → Hp → Prop, (∃ m, W 0 m σ H) ∧ ∀ i m σ H, W i m σ H →
      ((ItE K a xs).stop i H ∧ D.nx σ H) ∨ ((ItE K a xs).go i H ∧ ∃ N : L2.St → Hp → Prop, (∀ σ' H', N σ' H' → ∃ m', m' < m ∧ W (i + 1) m' σ' H') ∧ ∀ v H', (ItE K a xs).yld i H v H' → g v σ H' fun σ2 H2 => tb { D with nx := N, ct := N, bk := D.nx } σ2 H2) := by
  refine ⟨fun i m σ H => i + m = xs.length ∧ Pv i σ H, ⟨_, Nat.zero_add _, h0⟩, ?_⟩
  rintro i m σ H ⟨em, p⟩
  have qx := hq i σ H p
  cases m with
  | zero =>
    have ei : i = xs.length := em
    refine .inl ⟨⟨qx, ei⟩, hd σ H ?_⟩
    rw [← ei]
    exact p
  | succ m =>
    refine .inr ⟨⟨qx, by omega⟩, Pv (i + 1), fun σ' H' p' => ⟨m, Nat.lt_succ_self m, by omega, p'⟩, fun v H' y => ?_⟩
    obtain ⟨T, x, rfl, hT, rfl, f1⟩ := y
    exact hs i x T σ H f1 p hT
end Fm
namespace Fm
open PySem PySem.Spec PyProof.Rows L2
theorem pe_bmK {X : Cx} {K : PySem.W.Frag} {T id : String} {name : Str} {r : V → List V → Hp → VK → Prop} {o e : Expr} {es : List Expr} {to : TE} {t : TA} {apos cpos : Pos} (pa : PlainAttrs T) (slot : Slot T name id) (hty : typeOf (.builtin id) = pure (.type "method_descriptor")) (hm : MtR X id r) (ho : PE X o to) (ha : PA X (e :: es) t)
    (eK : X.K = K := by rfl) (hbase : attributeBase o name X.env (eval o X.env) = eval o X.env := by rfl)
    (hfew : ((backTo cpos (starEach (e :: es) X.env)).all (fun x => !x.1) && (backToKw cpos (keywordEach [] X.env)).all (fun x => x.1.isSome)
      && decide ((e :: es).length + ([] : List Keyword).length + (if ([] : List Keyword).isEmpty then 0 else 1) < 30)) = true := by rfl)
    (hline : (apos.endLine == cpos.line) = true := by rfl) (hs : starEach (e :: es) X.env = (false, eval e X.env) :: starEach es X.env := by rfl) (hplain : (backTo cpos (starEach es X.env)).any (·.1) = false := by rfl) :
    PE X (.Call (.Attribute o name apos) (e :: es) [] cpos) (tBM K T r to t) := by
  subst eK
  exact pe_bm pa slot hty hm ho ha hbase hfew hline hs hplain
end Fm
/-! == and != of instances by their own __eq__, any answer; sorted of a set of tuples of any lengths. -/
namespace Fm
open PySem PySem.Spec PyProof.Rows L2
/-- the other side of == of an own instance -/
inductive OTy (K : PySem.W.Frag) (H : Hp) : V → Value → Prop where
  | non : OTy K H .non (.type "NoneType")
  | int (i : Int) : OTy K H (.int i) (.type "int")
  | str (x : Str) : OTy K H (.str x) (.type "str")
  | tup {a : Addr} {xs : List V} (h : SqT K H a xs) : OTy K H (.ref a) (.type "tuple")
  | ins {a C dx : Addr} {fs : List (Str × V)} (h : H a = some (.ins C dx fs)) : OTy K H (.ref a) (.ref C)
section
variable {X : Cx} {n k : Nat}
theorem OTy.looks {pins : List (Addr × Obj)} {σ : L2.St} {H : Hp} {s : Shared} {y : V} {u t : Value} (I : Inv X pins σ H s) (r : RelV y u) (o : OTy X.K H y t) : PySem.W.Looks (model X.prog X.w) s.heap (typeOf u) t := by
  cases o with
  | non =>
    cases (show u = Value.none from r)
    exact .of_pure (by rfl)
  | int i =>
    obtain ⟨t, rfl⟩ := (show ∃ t, u = Value.int i t from r)
    exact .of_pure (by rfl)
  | str x =>
    obtain ⟨t, rfl⟩ := (show ∃ t, u = Value.str x t from r)
    exact .of_pure (by rfl)
  | tup h =>
    cases (show u = Value.ref _ from r)
    obtain ⟨its, rv, ⟨o, ho, hc, _⟩, _⟩ := I.tuple h
    have q : PySem.W.Looks (model X.prog X.w) s.heap (typeOf (.ref _)) o.cls := (PySem.W.Looks.ld ho).andThen .now
    rw [hc] at q
    exact q
  | ins h =>
    cases (show u = Value.ref _ from r)
    obtain ⟨mA, J, _⟩ := ins_get I.hok h
    obtain ⟨od, J, _⟩ := J.look
    exact J.type
/-- x == y, x an instance of the class at C, whose __eq__ keeps sp -/
def rEqO (K : PySem.W.Frag) (C : Addr) (sp : Sp) : R2 := fun x y H Q => ∃ a dx fs t, x = .ref a ∧ H a = some (.ins C dx fs) ∧ OTy K H y t ∧ PySem.W.notFirst K C t = true ∧ sp [.ref a, y] H (fun v H' => ∃ b, v = .bl b ∧ Q (.bl b) H') E0
def rNeO (K : PySem.W.Frag) (C : Addr) (sp : Sp) : R2 := fun x y H Q => ∃ a dx fs t, x = .ref a ∧ H a = some (.ins C dx fs) ∧ OTy K H y t ∧ PySem.W.notFirst K C t = true ∧ sp [.ref a, y] H (fun v H' => ∃ b, v = .bl b ∧ Q (.bl (!b)) H') E0
theorem own_run {f : Addr} {fd : FuncData} {ps : List Str} {sp : Sp} (F : FnOk X.prog X.w X.K X.mg X.base CX0 n f fd ps sp) (hb : Binds X.K fd ps []) {A : Around} (sb : Sub X n A) {pins : List (Addr × Obj)} {σ : L2.St} {H : Hp} {s : Shared} {a : Addr} {y : V} {u : Value} {R : Bool → Hp → Prop}
    (I : Inv X pins σ H s) (ry : RelV y u) (h : sp [.ref a, y] H (fun v H' => ∃ b, v = .bl b ∧ R b H') E0) (Q : Value → Shared → Prop) (E : Value → Shared → Prop) (q : ∀ b s' H', Inv X pins σ H' s' → R b H' → Q (.bool b) s') :
    wpAny (model X.prog X.w) A (call (.ref f) [.ref a, u]) Q E s := by
  have e0 : Env0 X.prog X.w X.K X.mg X.base A X.stack s H := by
    have e := I.env0
    exact ⟨by rw [sb.fr]; exact e.frames, e.mod, e.bs, e.bsz, e.funs, e.frf, e.hok, e.bare⟩
  have hl := F.len _ _ _ _ h
  have r2 : Vals [V.ref a, y] [Value.ref a, u] := .cons rfl (.cons ry .nil)
  refine wpAny_call (codeAny_mono (F.run A X.stack s H ⟨[.ref a, u], []⟩ [.ref a, u] [.ref a, y] _ E0 sb.room e0 (by
    have := hb s [.ref a, u] I.kIn (by simpa using hl)
    simpa using this) r2 h) fun r s' hq => ?_)
  cases r with
  | error e => exact False.elim hq
  | ok fl =>
    cases fl with
    | ret w =>
      obtain ⟨z, H', I', rz, b, ez, ex⟩ := I.after hq
      subst ez
      cases rz
      exact q b s' H' I' ex
    | next => exact False.elim hq
    | brk => exact False.elim hq
    | cont => exact False.elim hq
theorem op_eqO {f C : Addr} {fd : FuncData} {ps : List Str} {sp : Sp} {K : PySem.W.Frag} (F : FnOk X.prog X.w X.K X.mg X.base CX0 n f fd ps sp) (hs : PySem.W.findIn X.K (.ref C) "__eq__" = some (some (.ref f))) (hf : PySem.W.isFn X.K (.ref f) = true) (hb : Binds X.K fd ps []) (hr : Room n X.A)
    (eK : X.K = K := by rfl) : OpR X (compareOp .Eq) (rEqO K C sp) := by
  subst eK
  intro pins s σ H x y v u Q I rx ry hq
  obtain ⟨a, dx, fs, t, rfl, ha, ot, hn, h⟩ := hq
  cases rx
  obtain ⟨mA, J, _⟩ := ins_get I.hok ha
  obtain ⟨od, J, _⟩ := J.look
  have sb : Sub X n X.A := ⟨hr, rfl⟩
  obtain ⟨m, hF⟩ := I.fr
  show wpAny (model X.prog X.w) X.A (richCompare .Eq (.ref a) u) (EP X pins σ Q) X.xe s
  refine PySem.W.cmp_K (op := .Eq) hr.units0 hF I.ok.mod.kin J (ot.looks I ry) hn hs hf ?_
  exact own_run F hb sb I ry h _ _ fun b s' H' I' q => ⟨.bl b, H', I', rfl, q⟩
theorem ifBoundB {M : Model} {A : Around} {E : Value → Shared → Prop} {s : Shared} {K : PySem.W.Frag} {x C : Addr} {ox : Obj} {od : Option Obj} {name : Str} {id : String} {args : List Value} {Q : Option Value → Shared → Prop} (hK : K.In s.heap) (I : PySem.W.InstAt s.heap x ox C od)
    (hs : PySem.W.findIn K (.ref C) name = some (some (.builtin id))) (S : Slot "object" name id) (h : wpAny M A (call (.builtin id) (.ref x :: args)) (fun v => Q (some v)) E s) : wpAny M A (callSpecialIfBound? (.ref x) name args) Q E s := by
  simp only [callSpecialIfBound?, bindSpecialIfBound?]
  refine wpAny_holding (wpAny_bind (wpAny_bind (wpAny_bind (I.type.here ((PySem.W.looks_findIn hK hs).here ?_)))))
  simp only [S.bind]
  refine wpAny_bind (wpAny_askSetting (wpAny_ite ?_))
  have fin : wpAny M A (call (.builtin id) ([.ref x] ++ args) >>= fun v => pure (some v)) Q E s := wpAny_bind (wpAny_mono h (fun v s' h' => wpAny_pure h') fun _ _ h' => h')
  split
  · exact wpAny_bind (wpAny_pure (wpAny_pure fin))
  · exact wpAny_tryCatch (wpAny_bind (wpAny_pure (wpAny_pure fin)))
theorem op_neO {f C : Addr} {fd : FuncData} {ps : List Str} {sp : Sp} {K : PySem.W.Frag} (G : FnOk X.prog X.w X.K X.mg X.base CX0 n f fd ps sp) (hs : PySem.W.findIn X.K (.ref C) "__eq__" = some (some (.ref f))) (hf : PySem.W.isFn X.K (.ref f) = true) (hb : Binds X.K fd ps []) (hr : Room (n + 1) X.A)
    (hne : PySem.W.findIn X.K (.ref C) "__ne__" = some (some (.builtin "object.__ne__"))) (hm : PySem.W.mroIn X.K C (.type "object") = some true) (eK : X.K = K := by rfl) : OpR X (compareOp .NotEq) (rNeO K C sp) := by
  subst eK
  intro pins s σ H x y v u Q I rx ry hq
  obtain ⟨a, dx, fs, t, rfl, ha, ot, hn, h⟩ := hq
  cases rx
  obtain ⟨mA, J, _⟩ := ins_get I.hok ha
  obtain ⟨od, J, _⟩ := J.look
  have sb : Sub X (n + 1) X.A := ⟨hr, rfl⟩
  have hK := I.kIn
  have one : wpAny (model X.prog X.w) X.A (tryCompare (.ref a) "__ne__" u) (fun r s' => ∃ v, r = some v ∧ EP X pins σ Q v s') X.xe s := by
    unfold tryCompare
    refine wpAny_bind (ifBoundB hK J hne F.cmp_object.ne ?_)
    have sub : PySem.W.Looks (model X.prog X.w) s.heap (isInstance (.ref a) (.type "object")) true := J.type.andThen (PySem.W.looks_mroIn hK hm)
    refine wpAny_call (codeAny_call_builtin F.cmp_object.ne.plain F.cmpEntry_ne (PySem.W.check_slot F.cmpKind_ne F.cmpSplit_ne sub (F.cmpArgs_ne _ _) ?_))
    have hu : X.A.in1.units < cLine := sb.in1.room.units0
    unfold Builtin.«object.__ne__»
    refine wpAny_bind (m := slotArgs _ _ _) (wpAny_pure ?_)
    show wpAny _ _ (cRoomFor "comparison" [.ref a, u] >>= _) _ _ _
    refine wpAny_bind (wpAny_cRoomFor hu ?_)
    refine wpAny_bind (m := callSpecialIfBound? (.ref a) (Str.ofString "__eq__") [u]) (PySem.W.ifBound_K hK J hs hf (own_run G hb sb.in1 I ry h _ _ fun b s' H' I' q => ?_))
    refine wpAny_bind (m := truthy (.bool b)) (wpAny_truthy_bool ?_)
    exact wpAny_pure (wpAny_pure ⟨_, rfl, ⟨.bl (!b), H', I', rfl, q⟩⟩)
  show wpAny (model X.prog X.w) X.A (richCompare .NotEq (.ref a) u) (EP X pins σ Q) X.xe s
  unfold richCompare
  simp only [oneThing_ref]
  refine wpAny_holding (wpAny_bind (wpAny_cRoomFor hr.units0 ?_))
  refine wpAny_bind (J.type.here (wpAny_bind ((ot.looks I ry).here ?_)))
  split
  · rename_i q
    have e : PySem.W.subIn X.K t (.ref C) = some false := by
      rcases Bool.or_eq_true_iff.mp hn with e | e
      · rw [beq_iff_eq.mp e] at q; simp at q
      · exact beq_iff_eq.mp e
    refine wpAny_bind ((PySem.W.looks_subIn hK e).here ?_)
    simp only [Bool.false_eq_true, if_false]
    refine wpAny_bind (wpAny_mono one (fun r s' z => ?_) fun _ _ e => e)
    obtain ⟨v, rfl, hq⟩ := z
    exact wpAny_pure hq
  · refine wpAny_bind (wpAny_pure ?_)
    simp only [Bool.false_eq_true, if_false]
    refine wpAny_bind (wpAny_mono one (fun r s' z => ?_) fun _ _ e => e)
    obtain ⟨v, rfl, hq⟩ := z
    exact wpAny_pure hq
end
end Fm
/-! sorted of a set of tuples of ints of any lengths. -/
namespace Fm
open PySem PySem.Spec PyProof.Rows L2 PySem.W
theorem dataLt_tups (x y : List Int) : dataLt (.tuple (x.map .int)) (.tuple (y.map .int)) = decide (x < y) := by
  rw [dataLt_tuple]
  exact dataLt_ints x y
theorem dataLe_tups {β : Type} (x : β → List Int) : dataLe false (fun b => .tuple ((x b).map .int)) = fun p q => decide (x p ≤ x q) := by
  funext p q
  show (!dataLt (.tuple ((x q).map .int)) (.tuple ((x p).map .int))) = _
  rw [dataLt_tups]
  by_cases h : x q < x p
  · have h' : ¬ x p ≤ x q := fun r => List.not_lt.mpr r h
    simp [h, h']
  · have h' : x p ≤ x q := List.not_lt.mp h
    simp [h, h']
theorem lexLt_dec : ∀ x y : List Int, HT.lexLt x y = decide (x < y)
  | [], [] => by simp [HT.lexLt]
  | [], _ :: _ => by simp [HT.lexLt]
  | _ :: _, [] => by simp [HT.lexLt]
  | x :: xs, y :: ys => by
    rw [HT.lexLt_cons, lexLt_dec xs ys]
    by_cases h : x = y
    · simp [h, List.cons_lt_cons_iff]
    · simp [h, List.cons_lt_cons_iff]
theorem sorted_le {β : Type} (x : β → List Int) (l : List β) : (l.mergeSort (dataLe false (fun b => .tuple ((x b).map .int)))).Pairwise fun p q => x p ≤ x q := by
  rw [dataLe_tups]
  have h := List.pairwise_mergeSort (le := fun p q => decide (x p ≤ x q)) (fun a b c h1 h2 => decide_eq_true (List.le_trans (of_decide_eq_true h1) (of_decide_eq_true h2)))
    (fun a b => by
      rcases List.le_total (x a) (x b) with h | h
      · rw [decide_eq_true h]; rfl
      · rw [decide_eq_true h, Bool.or_true]) l
  exact h.imp fun h => of_decide_eq_true h
/-- distinct, so strictly -/
theorem sorted_lt {β : Type} (x : β → List Int) (l : List β) (hn : (l.map x).Nodup) : (l.mergeSort (dataLe false (fun b => .tuple ((x b).map .int)))).Pairwise fun p q => HT.lexLt (x p) (x q) = true := by
  have h1 := sorted_le x l
  have h2 : ((l.mergeSort (dataLe false (fun b => .tuple ((x b).map .int)))).map x).Nodup := ((List.mergeSort_perm l _).map x).nodup_iff.mpr hn
  have h3 := List.pairwise_map.mp h2
  refine (h1.and h3).imp fun {p q} h => ?_
  rw [lexLt_dec]
  refine decide_eq_true ?_
  rcases List.le_iff_lt_or_eq.mp h.1 with z | z
  · exact z
  · exact absurd z h.2
section
variable {P : Program} {w : World} {A : Around} {E : Value → Shared → Prop} {s : Shared}
theorem sorted_setU {a : Addr} {L : List (Addr × List Int)} {es : Array (Int × Value)} {ep : Nat} {t : SetTable} {Q : Value → Shared → Prop} (R : SetTR P w s.heap a L es ep t) (hh : A.handled = none) (hu : A.units + 64 < cLine)
    (hQ : ∀ s' p (out : Array Value) (c : Nat) (L' : List (Addr × List Int)), (∀ b o, s.heap.get? b = some o → s'.heap.get? b = some o) → s'.gens = s.gens → s'.os = s.os → s.heap.objs.size ≤ p →
      s'.heap.get? p = some (seqObj "list" out c) → out.toList = L'.map (fun q => Value.ref q.1) → L'.Perm L → L'.Pairwise (fun q r => HT.lexLt q.2 r.2 = true) → Q (.ref p) s') :
    wpAny (model P w) A (call (.builtin "sorted") [.ref a]) Q E s := by
  obtain ⟨o, ho, hex, hd⟩ := R.ob
  have hsz := R.size
  have hfew := R.few
  refine Calls.call_function_entry kind_sorted plain_sorted entry_sorted (args_sorted1 _) ?_
  unfold Builtin.«sorted»
  refine wpAny_bind (m := checkCount "sorted" 1 1 _) (wpAny_pure ?_)
  refine wpAny_bind (collect_set (A := A.in1) hh ⟨o, ho, hex.1, hd⟩ R.fits (by unfold scanBound; omega) R.tab.ris R.led fun s1 vs k1 hz g1 o1 pm => ?_)
  have hes : es.toList.map (·.2) = L.map fun q => Value.ref q.1 := by
    rw [R.rows]
    unfold L2.rowsOf
    rw [List.map_map] <;> rfl
  rw [hes] at pm
  have ord : ∀ vs : List Value, (∀ v ∈ vs, ∃ q ∈ L, v = Value.ref q.1) → ∃ L1 : List (Addr × List Int), vs = L1.map (fun q => Value.ref q.1) ∧ ∀ q ∈ L1, q ∈ L := by
    intro vs
    induction vs with
    | nil => intro _; exact ⟨[], rfl, fun q hq => (by cases hq)⟩
    | cons v vs ih =>
      intro hv
      obtain ⟨q, hq, e⟩ := hv v List.mem_cons_self
      obtain ⟨L1, e1, hs⟩ := ih fun u hu => hv u (List.mem_cons_of_mem _ hu)
      refine ⟨q :: L1, by rw [List.map_cons, e, e1], fun r hr => ?_⟩
      rcases List.mem_cons.mp hr with z | z
      · rw [z]; exact hq
      · exact hs r z
  have one : ∀ q ∈ L, ∀ r ∈ L, q.1 = r.1 → q = r := fun q hq r hr e => by
    have a1 := R.tup q hq
    have a2 := R.tup r hr
    rw [e] at a1
    have e2 : q.2 = r.2 := a1.inj a2
    exact Prod.ext e e2
  have perm_of : ∀ L1 : List (Addr × List Int), (∀ q ∈ L1, q ∈ L) → (L1.map (fun q => Value.ref q.1)).Perm (L.map fun q => Value.ref q.1) → L1.Perm L := by
    intro L1 hs pm1
    have nL : L.Nodup := nodup_of_map R.nd
    have nref : (L.map fun q => Value.ref q.1).Nodup := by
      refine List.pairwise_map.mpr (List.Pairwise.imp_of_mem (fun {q r} hq hr hne e => ?_) nL)
      injection e with e
      exact hne (one q hq r hr e)
    have n1 : L1.Nodup := nodup_of_map (pm1.nodup_iff.mpr nref)
    refine (List.perm_ext_iff_of_nodup n1 nL).mpr fun q => ⟨hs q, fun hq => ?_⟩
    have hm : Value.ref q.1 ∈ L1.map (fun q => Value.ref q.1) := pm1.mem_iff.mpr (List.mem_map.mpr ⟨q, hq, rfl⟩)
    obtain ⟨r, hr, e⟩ := List.mem_map.mp hm
    injection e with e
    rw [← one r (hs r hr) q hq e]
    exact hr
  have hvl : vs.length < 64 := by rw [pm.length_eq, List.length_map]; exact hfew
  obtain ⟨L1, e1, hs1⟩ := ord vs fun v hv => by
    obtain ⟨q, hq, e⟩ := List.mem_map.mp (pm.mem_iff.mp hv)
    exact ⟨q, hq, e.symm⟩
  have pL1 : L1.Perm L := perm_of L1 hs1 (by rw [← e1]; exact pm)
  refine wpAny_bind (wpAny_newList ?_ (by rw [sizeLine_eq]; omega))
  have hoL : (s1.heap.push (seqObj "list" vs.toArray 0)).get? s1.heap.objs.size = some (seqObj "list" vs.toArray 0) := Heap.get?_push_size _ rfl
  have keepT : ∀ q ∈ L, IsT P w (sortingHeap (s1.heap.push (seqObj "list" vs.toArray 0)) s1.heap.objs.size vs) q.2 q.1 := fun q hq => isT_keep (R.tup q hq) fun b u e => by
    have q1 := k1 b u e
    exact sortingHeap_old (Nat.ne_of_lt (Heap.lt_size q1)) (Heap.get?_push_of_some _ q1)
  have er : EachIs (fun (v : Value) (b : Addr × List Int) => ∃ as, Reads (sortingHeap (s1.heap.push (seqObj "list" vs.toArray 0)) s1.heap.objs.size vs) v (.tuple (b.2.map .int)) as) vs L1 := by
    have key : ∀ M : List (Addr × List Int), (∀ q ∈ M, q ∈ L) → EachIs (fun (v : Value) (b : Addr × List Int) => ∃ as, Reads (sortingHeap (s1.heap.push (seqObj "list" vs.toArray 0)) s1.heap.objs.size vs) v (.tuple (b.2.map .int)) as) (M.map fun q => Value.ref q.1) M := by
      intro M
      induction M with
      | nil => intro _; exact .nil
      | cons q M ih =>
        intro hM
        refine .cons ?_ (ih fun r hr => hM r (List.mem_cons_of_mem _ hr))
        obtain ⟨o, its, n, ho, hc, hd, hk⟩ := keepT q (hM q List.mem_cons_self)
        have r := ints_readAll (sortingHeap (s1.heap.push (seqObj "list" vs.toArray 0)) s1.heap.objs.size vs) (ints_of_items hk)
        exact ⟨_, .tuple ho hc hd r⟩
    have z := key L1 hs1
    rw [← e1] at z
    exact z
  have e0 : EachIs (fun (v : Value) (b : Addr × List Int) => v = Value.ref b.1) vs L1 := by
    have key : ∀ M : List (Addr × List Int), EachIs (fun (v : Value) (b : Addr × List Int) => v = Value.ref b.1) (M.map fun q => Value.ref q.1) M := by
      intro M
      induction M with
      | nil => exact .nil
      | cons q M ih => exact .cons rfl ih
    have z := key L1
    rw [← e1] at z
    exact z
  have hal : AllAlike (L1.map fun b => PyData.tuple (b.2.map .int)) := AllAlike.of fun b b' => by
    show alikeAll (b.2.map .int) (b'.2.map .int) = true
    exact alike_ints _ _
  have S := FmSort.sortsAt_tups (prog := P) (w := w) (A := A.in1.in1) (s := { s1 with heap := sortingHeap (s1.heap.push (seqObj "list" vs.toArray 0)) s1.heap.objs.size vs }) (each_map (R := fun v d => ∃ as, Reads (sortingHeap (s1.heap.push (seqObj "list" vs.toArray 0)) s1.heap.objs.size vs) v d as) (fun b : Addr × List Int => PyData.tuple (b.2.map .int)) er) hal (fun d hd => by
    obtain ⟨b, _, rfl⟩ := List.mem_map.mp hd
    exact ⟨_, rfl⟩) (fun d hd => by
    obtain ⟨b, _, rfl⟩ := List.mem_map.mp hd
    have z : (PyData.tuple (b.2.map .int)).depth = 1 := by
      show PyData.depthAll (b.2.map .int) + 1 = 1
      rw [depth_ints]
    show A.units + 1 + 1 + (PyData.tuple (b.2.map .int)).depth < cLine
    omega)
  refine wpAny_bind (wpAny_holding (wpAny_call_entry slot_list_sort ⟨_, hoL, rfl⟩ entry_list_sort (list_sort_vals (s := { s1 with heap := s1.heap.push (seqObj "list" vs.toArray 0) }) hoL S (by rw [sizeLine_eq]; omega) ⟨_, rfl, ?_⟩) (args_list_sort _)))
  have eo := sortVals_data (R := fun (v : Value) (b : Addr × List Int) => v = Value.ref b.1) false e0 er hal
  generalize sortVals (dataKind (sortingHeap (s1.heap.push (seqObj "list" vs.toArray 0)) s1.heap.objs.size vs) (L1.map fun b => PyData.tuple (b.2.map .int))) false vs vs = out at eo ⊢
  obtain ⟨c, hc⟩ := sortedHeap_at (vs := vs) (out := out.toArray) hoL
  have e' : out = (L1.mergeSort (dataLe false (fun b : Addr × List Int => PyData.tuple (b.2.map .int)))).map fun q => Value.ref q.1 := by
    have key : ∀ (us : List Value) (M : List (Addr × List Int)), EachIs (fun (v : Value) (b : Addr × List Int) => v = Value.ref b.1) us M → us = M.map fun q => Value.ref q.1 := by
      intro us M h
      induction h with
      | nil => rfl
      | cons h _ ih => rw [h, ih, List.map_cons]
    exact key _ _ eo
  refine wpAny_pure ⟨_, rfl, hQ _ s1.heap.objs.size out.toArray c _ (fun b u e => ?_) g1 o1 hz hc (by rw [List.toList_toArray]; exact e') ((List.mergeSort_perm _ _).trans pL1) (sorted_lt (fun b : Addr × List Int => b.2) L1 ((pL1.map _).nodup_iff.mpr R.nd))⟩
  have q := k1 b u e
  have hlt := Heap.lt_size q
  show (sortedHeap (s1.heap.push (seqObj "list" vs.toArray 0)) s1.heap.objs.size vs out.toArray).get? b = some u
  rw [sortedHeap_old (Nat.ne_of_lt hlt) (by rw [size_push']; exact Nat.lt_succ_of_lt hlt)]
  exact Heap.get?_push_of_some _ q
end
section
variable {X : Cx} {K : PySem.W.Frag} {P : Program} {w : World}
def rSortSU (K : PySem.W.Frag) (P : Program) (w : World) : List V → Hp → VK → Prop := fun vs H Q => ∃ (a : Addr) (L : List (Addr × List Int)), vs = [V.ref a] ∧ H a = some (SetTO P w a L) ∧ (∀ p ∈ L, SqT K H p.1 (p.2.map V.int)) ∧
  ∀ (L' : List (Addr × List Int)) (p : Addr), L'.Perm L → L'.length < 64 → L'.Pairwise (fun q r => HT.lexLt q.2 r.2 = true) → H p = none → Q (.ref p) (upd H p (.lst (L'.map fun q => V.ref q.1)))
theorem call_sortSU (hc : X.calm = true) (hu : X.A.units + 64 < cLine) (eK : X.K = K := by rfl) (eP : X.prog = P := by rfl) (ew : X.w = w := by rfl) : CallR X (.builtin "sorted") (rSortSU K P w) := by
  subst eK eP ew
  intro pins s σ H vs us Q I r h
  obtain ⟨a, L, rfl, ha, hk, q⟩ := h
  have R0 : SetT0 X.prog X.w s.heap a L := (I.hok a _ ha).1
  obtain ⟨es, ep, t, R⟩ := R0.full fun p hp => Inv.isT I (hk p hp)
  rw [Vals.ref1 r]
  refine sorted_setU R (I.ok.hd hc) hu fun s' p out c L' k g o hp hg hout pm pw => ?_
  have hfew : L'.length < 64 := by rw [pm.length_eq]; exact R.few
  have hlen : (L'.map fun q => V.ref q.1).length ≤ sizeLine := by rw [List.length_map, sizeLine_eq]; omega
  have hn : H p = none := I.hok.fresh hp
  have hv : Vals (L'.map fun q => V.ref q.1) out.toList := by rw [hout]; exact vals_of_refs L'
  have J : Inv X pins σ (upd H p (.lst (L'.map fun q => V.ref q.1))) { s with heap := s'.heap, gens := s'.gens, drawn := s'.drawn, toks := s'.toks } :=
    I.call (ch := []) (Un.laid k hp hn) (I.hok.laid k hp ⟨hlen, out.toList, c, hv, hg⟩) (by rw [g]; exact I.bare) (fun _ z => nomatch z)
  have e : s' = { s with heap := s'.heap, gens := s'.gens, drawn := s'.drawn, toks := s'.toks } := by
    cases s'
    cases s
    cases o
    rfl
  rw [e]
  exact ⟨.ref p, _, J, rfl, q L' p pm hfew pw hn⟩
theorem call_setOfTK (hc : X.calm = true) (hu : X.A.units + 64 < cLine) (eK : X.K = K := by rfl) (eP : X.prog = P := by rfl) (ew : X.w = w := by rfl) : CallR X (.type "set") (rSetOfT K P w) := by
  subst eK eP ew
  exact cr_setOfT hc hu
end
end Fm
/-! An own instance made within a try: what is raised is wished for at the slots. -/
namespace Fm
open PySem PySem.Spec PyProof.Rows L2
section
variable {X : Cx} {CX : CXT} {C f : Addr} {fd : FuncData} {ps : List Str} {sp : Sp} {ds : List Value} {dvs : List V} {k : Nat} {E : WX} {e : Expr} {es : List Expr} {t : TA} {x : Str} {p pos : Pos}
theorem run_makeS {E : XK} {pins : List (Addr × Obj)} {σ : L2.St} {H : Hp} {s : Shared} {Q : VK} {us : List Value} {vs : List V} (M : Mk X.K C f) (F : FnOk X.prog X.w X.K X.mg X.base CX k f fd ps sp) (hr : Room (k + 1) X.A) (hb : Binds X.K fd ps ds) (hd : Vals dvs ds)
    (hx : PassesAt CX X σ E) (I : Inv X pins σ H s) (r : Vals vs us)
    (h : ∀ x dx, H x = none → H dx = none → dx ≠ x → sp (.ref x :: (vs ++ dvs)) (upd (upd H dx (.own x)) x (.ins C dx [])) (fun v H2 => v = .non ∧ Q (.ref x) H2) E) :
    wpAny (model X.prog X.w) X.A (call (.ref C) us) (EP X pins σ Q) X.xe s := by
  have hq := h (s.heap.objs.size + 1) s.heap.objs.size (I.hok.fresh (Nat.le_succ _)) (I.hok.fresh (Nat.le_refl _)) (Nat.ne_of_lt (Nat.lt_succ_self _))
  have I2 := Inv.made (C := C) I
  have r2 : Vals (V.ref (s.heap.objs.size + 1) :: (vs ++ dvs)) (Value.ref (s.heap.objs.size + 1) :: (us ++ ds)) := .cons rfl (r.append hd)
  have hl : (Value.ref (s.heap.objs.size + 1) :: us ++ ds).length = ps.length := by
    have e := r2.length
    rw [F.len _ _ _ _ hq] at e
    exact e.symm
  refine wpAny_call (make_map (f := f) I.kIn M.makes M.init (beq_iff_eq.mp M.fn) (codeAny_mono (F.run _ X.stack _ _ ⟨Value.ref (s.heap.objs.size + 1) :: us, []⟩ (Value.ref (s.heap.objs.size + 1) :: (us ++ ds)) _ _ E (hr.make C us [])
    (I2.env0.make C us []) (hb _ (Value.ref (s.heap.objs.size + 1) :: us) I2.kIn hl) r2 hq) fun r s' hq' => ?_))
  cases r with
  | error e => exact hx pins _ _ e s' I2 hq'
  | ok fl =>
    cases fl with
    | ret u =>
      obtain ⟨v, H', I3, rv, ev, q3⟩ := I2.after hq'
      subst ev
      exact ⟨rv, ⟨V.ref (s.heap.objs.size + 1), H', I3, rfl, q3⟩⟩
    | next => exact False.elim hq'
    | brk => exact False.elim hq'
    | cont => exact False.elim hq'
def tMakeS (C : Addr) (sp : Sp) (E : L2.St → XK) (t : TA) : TE := fun σ H Q => t σ H fun vs H1 => ∀ x dx, H1 x = none → H1 dx = none → dx ≠ x → sp (.ref x :: vs) (upd (upd H1 dx (.own x)) x (.ins C dx [])) (fun v H2 => v = .non ∧ Q (.ref x) H2) (E σ)
theorem pe_makeS {E : L2.St → XK} (M : Mk X.K C f) (F : FnOk X.prog X.w X.K X.mg X.base CX k f fd ps sp) (hr : Room (k + 1) X.A) (hg : Gl X x) (hm : X.mg x = some (.ref C)) (hb : Binds X.K fd ps []) (hx : ∀ σ, PassesAt CX X σ (E σ))
    (ha : PA X (e :: es) t) (hdb : (x == ("__debug__" : Str)) = false := by decide) (he : starEach (e :: es) X.env = (false, eval e X.env) :: starEach es X.env := by rfl) (hpl : (backTo pos (starEach es X.env)).any (·.1) = false := by rfl) :
    PE X (.Call (.Name x p) (e :: es) [] pos) (tMakeS C sp E t) := by
  refine ⟨fun pins s σ H Q I h => ?_⟩
  refine wpAny_Call_Name_kw (ld_glob I hg hm ?_ hdb)
  refine PySem.W.callWith_K (h₀ := X.base) I.ok.mod.kin M.kp (thn (ha.run pos pins s σ H _ I h) fun us s1 ⟨vs, H1, I1, r, q⟩ => ⟨I1.kIn, ?_⟩) he hpl
  exact run_makeS (dvs := []) (ds := []) M F hr hb .nil (hx σ) I1 r fun x dx n1 n2 n3 => by
    rw [List.append_nil]
    exact q x dx n1 n2 n3
end
end Fm
/-! tuple * n from 1 on; tuple * 1 is the tuple itself. -/
namespace Fm
open PySem PySem.Spec PyProof.Rows L2
theorem tuple_mul1 (l : Addr) (items : Array Value) (n : Nat) (dd : Option Addr) (sl : Array (Option Value)) (u : Tok) :
    Meets (Builtin.«tuple.__mul__» ⟨[.ref l, .int 1 u], []⟩) (fun _ R s => s.heap.get? l = some { cls := .type "tuple", dict := dd, data := .seq items n, slots := sl } ∧ R (.ok (.ret (Value.ref l))) s) :=
  .of_wp fun prog w A R s h => by
    obtain ⟨hp, g, d, tk, os⟩ := s
    obtain ⟨hl, h⟩ := h
    have f1 := AutoSeq1.idx_int
    wp_walk using wpAny_loadPart' hl
    exact ⟨_, rfl, h⟩
def rRepU (K : PySem.W.Frag) : R2 := fun x y H Q => ∃ l k xs, x = .ref l ∧ y = .int k ∧ SqT K H l xs ∧ xs ≠ [] ∧ 1 ≤ k ∧ k ≤ 1000 ∧ xs.length ≤ 1000 ∧ (k = 1 → Q (.ref l) H) ∧ ∀ p, H p = none → Q (.ref p) (upd H p (.tup (List.replicate k.toNat xs).flatten))
theorem op_repU {X : Cx} {K : PySem.W.Frag} (eK : X.K = K := by rfl) : OpR X (binaryOp .Mult) (rRepU K) := by
  subst eK
  intro pins s σ H x y v u Q I rx ry h
  obtain ⟨l, k, xs, rfl, rfl, hT, hne, h1, h2, hz, q1, q⟩ := h
  by_cases hk : k = 1
  · subst hk
    cases rx
    obtain ⟨t, rfl⟩ := ry
    obtain ⟨its, r, ⟨⟨cls, dd, data, sl⟩, ho, hc, n, hd⟩, hs⟩ := I.tuple hT
    simp only at hc hd
    subst hc hd
    refine wpAny_binaryOp_repeat_ref (T := "tuple") (U := "int") (by decide) ⟨_, ho, rfl⟩ (fun s' => typeIs_int s' 1 t) noFill_tuple_mul F.fills_int_mul F.slot_int_rmul repeat_tuple F.slot_int_index.lookup
      (call_meets F.slot_int_rmul (typeIs_int s 1 t) F.entry_int_rmul (F.args_int_rmul_2 _ _) (int_rmul_tuple 1 t l its.toArray n dd sl)
        ⟨ho, rfl, ⟨_, ho, rfl⟩, call_meets F.slot_tuple_mul ⟨_, ho, rfl⟩ F.entry_tuple_mul (F.args_tuple_mul_2 _ _) (tuple_mul1 l its.toArray n dd sl t) ⟨ho, ?_⟩⟩)
    exact ⟨.ref l, H, I.tok _, rfl, q1 rfl⟩
  · exact op_repT pins s σ H _ _ v u Q I rx ry ⟨l, k, xs, rfl, rfl, hT, hne, by omega, h2, hz, q⟩
end Fm
/-! A set of tuples of ints: one put in; the comprehension of two clauses that makes it. -/
namespace Fm
open PySem PySem.Spec PyProof.Rows L2 PySem.W
section
variable {P : Program} {w : World} {A : Around} {E : Value → Shared → Prop} {s : Shared}
/-- add, seen from the heap -/
theorem add_raw {a x : Addr} {L : List (Addr × List Int)} {k : List Int} {es : Array (Int × Value)} {ep : Nat} {t : SetTable} {Q : Value → Shared → Prop} (R : SetTR P w s.heap a L es ep t) (hx : IsT P w s.heap k x) (hu : A.units + 2 < cLine) (few : L.length + 1 < 64)
    (q : ∀ h' L' es' ep' t' tk, Heap.SameBut a s.heap h' → SetTR P w h' a L' es' ep' t' → (k ∈ L.map (·.2) → L' = L) → (k ∉ L.map (·.2) → L'.Perm ((x, k) :: L)) → Q .none { s with heap := h', toks := tk }) :
    wpAny (model P w) A (call (.builtin "set.add") [.ref a, .ref x]) Q E s := by
  obtain ⟨o, ho, hex, hd⟩ := R.ob
  refine wpAny_call_entry F.slot_set_add (⟨o, ho, hex.1⟩ : s.TypeIs (.ref a) "set") F.entry_set_add ?_ (F.args_set_add_2 _ _)
  unfold Builtin.«set.add» Builtin.Frozenset.oneOther Builtin.Frozenset.addrOf setAdd
  simp only [List.isEmpty_nil, bind_assoc]
  refine wpAny_bind (wpAny_pure ?_)
  try dsimp only
  refine wpAny_bind (wpAny_pure ?_)
  try dsimp only
  refine wpAny_bind (wpAny_holding (wpAny_bind (wpAny_pyHash_tuple (A := A.in1) (by show A.units + 1 < cLine; omega) hx ?_)))
  have R' : SetTR P w ({ s with toks := s.toks + (k.length + 1) } : Shared).heap a L es ep t := R
  refine add_at (s := { s with toks := s.toks + (k.length + 1) }) R' hx (by show A.units + 1 < cLine; omega) few fun b h' L' es' ep' t' sb R2 c1 c2 => ?_
  show wpAny _ _ (ret Value.none) _ _ _
  exact wpAny_pure ⟨_, rfl, q h' L' es' ep' t' _ sb R2 c1 c2⟩
end
section
variable {X : Cx} {K : PySem.W.Frag} {P : Program} {w : World} {pins : List (Addr × Obj)} {σ : L2.St} {H : Hp} {s : Shared}
/-- the tuples of L are there -/
def TupsAt (K : PySem.W.Frag) (H : Hp) (L : List (Addr × List Int)) : Prop := ∀ p ∈ L, SqT K H p.1 (p.2.map V.int)
/-- L' is L with (b, k) put in -/
def PutIn (L : List (Addr × List Int)) (b : Addr) (k : List Int) (L' : List (Addr × List Int)) : Prop := (k ∈ L.map (·.2) → L' = L) ∧ (k ∉ L.map (·.2) → L'.Perm ((b, k) :: L))
theorem add_inv {A : Around} {E : Value → Shared → Prop} {D b : Addr} {k : List Int} {L : List (Addr × List Int)} {Q : Value → Shared → Prop} (I : Inv X pins σ H s) (hD : H D = some (SetTO X.prog X.w D L)) (hL : TupsAt X.K H L) (hb : SqT X.K H b (k.map V.int))
    (hu : A.units + 2 < cLine) (few : L.length + 1 < 64) (q : ∀ L' s', PutIn L b k L' → Inv X pins σ (upd H D (SetTO X.prog X.w D L')) s' → Q .none s') :
    wpAny (model X.prog X.w) A (call (.builtin "set.add") [.ref D, .ref b]) Q E s := by
  have R0 : SetT0 X.prog X.w s.heap D L := (I.hok D _ hD).1
  obtain ⟨es, ep, t, R⟩ := R0.full fun p hp => I.isT (hL p hp)
  refine add_raw R (I.isT hb) hu few fun h' L' es' ep' t' tk sb R2 c1 c2 => q L' _ ⟨c1, c2⟩ ?_
  have he : ∃ u, h'.get? D = some u := by
    obtain ⟨o, ho, _⟩ := R2.ob
    exact ⟨o, ho⟩
  exact I.write (e := D) (t' := tk) (by rw [hD]; trivial) (.inl rfl) (fun c u hc hu => (sb.2 c hc).trans hu) he (setTO_new R2.t0)
def rSAddT (K : PySem.W.Frag) (P : Program) (w : World) : V → List V → Hp → VK → Prop := fun x xs H Q => ∃ (a b : Addr) (k : List Int) (L : List (Addr × List Int)), x = V.ref a ∧ xs = [V.ref b] ∧ H a = some (SetTO P w a L) ∧ TupsAt K H L ∧ SqT K H b (k.map V.int) ∧ L.length + 1 < 64 ∧
  ∀ L', PutIn L b k L' → Q .non (upd H a (SetTO P w a L'))
theorem mt_saddT (hu : X.A.units + 64 < cLine) (eK : X.K = K := by rfl) (eP : X.prog = P := by rfl) (ew : X.w = w := by rfl) : MtR X "set.add" (rSAddT K P w) := by
  subst eK eP ew
  intro pins s σ H x xs v us Q I rx rxs h
  obtain ⟨a, b, k, L, rfl, rfl, ha, hL, hb, few, q⟩ := h
  cases rx
  rw [Vals.ref1 rxs]
  exact add_inv I ha hL hb (by show X.A.units + 2 < cLine; omega) few fun L' s' p I' => ⟨.non, _, I', rfl, q L' p⟩
def tSAddT (K : PySem.W.Frag) (P : Program) (w : World) (to : TE) (t : TA) : TE := fun σ H Q => to σ H fun x H1 => (∃ a L, x = V.ref a ∧ H1 a = some (SetTO P w a L)) ∧ t σ H1 fun xs H2 => rSAddT K P w x xs H2 Q
theorem pe_saddT {K : PySem.W.Frag} {P : Program} {w : World} {o e : Expr} {to : TE} {t : TA} {apos cpos : Pos} (hu : X.A.units + 64 < cLine) (ho : PE X o to) (ha : PA X [e] t)
    (b1 : attributeBase o "add" X.env (eval o X.env) = eval o X.env := by rfl)
    (b2 : ((backTo cpos (starEach [e] X.env)).all (fun x => !x.1) && (backToKw cpos (keywordEach [] X.env)).all (fun x => x.1.isSome) && decide (([e] : List Expr).length + ([] : List Keyword).length + (if ([] : List Keyword).isEmpty then 0 else 1) < 30)) = true := by rfl)
    (b3 : (apos.endLine == cpos.line) = true := by rfl) (b4 : starEach [e] X.env = [(false, eval e X.env)] := by rfl) (eK : X.K = K := by rfl) (eP : X.prog = P := by rfl) (ew : X.w = w := by rfl) :
    PE X (.Call (.Attribute o "add" apos) [e] [] cpos) (tSAddT K P w to t) := by
  subst eK eP ew
  refine ⟨fun pins s σ H Q I h => ?_⟩
  refine wpAny_Call_method_late b1 b2 b3 rfl (thn (ho.run pins s σ H _ I h) fun v s1 ⟨x, H1, I1, r1, ty, q1⟩ => ?_)
  obtain ⟨a, L, rfl, hka⟩ := ty
  cases r1
  have R0 : SetT0 X.prog X.w s1.heap a L := (I1.hok a _ hka).1
  obtain ⟨es, ep, t, ⟨ob, h1, h2, h3⟩, _⟩ := R0.ex
  refine ⟨"set", "set.add", F.plainAttrs_set, F.slot_set_add, F.type_set_add, ⟨ob, h1, h2.1⟩, fun c e => (by cases e; exact ⟨ob, h1, h2.2.1⟩), ?_⟩
  have hA := ha.run cpos pins s1 σ H1 _ I1 q1
  rw [b4] at hA ⊢
  refine Calls.callWith_builtin rfl (Calls.evalArgs_plain (thn hA fun us s2 ⟨vs, H2, I2, r2, q2⟩ => (mt_saddT hu) pins s2 σ H2 (.ref a) vs (.ref a) us Q I2 rfl r2 q2))
end
end Fm
/-! The comprehension of two clauses, without tests, that makes a set of tuples of ints. -/
namespace Fm
open PySem PySem.Spec PyProof.Rows L2 PySem.W
/-- {el for ta in ea for tb in eb} -/
abbrev sc2 (el ta ea tb eb : Expr) (sc : Scope) (ps : Pos) : Expr := .SetComp el [⟨ta, ea, [], 0⟩, ⟨tb, eb, [], 0⟩] sc ps
theorem turn_outer (el ta ea tb eb : Expr) (sc : Scope) (ps : Pos) (it D : Value) (ev : Env) : compTurn (sc2 el ta ea tb eb sc ps) 0 it D ev = (do
      standAt ea.pos
      match ← pyNext it with
      | none => pure (.done .next)
      | some got =>
        letOwnedTupleGo ta it got
        assign ta ev got
        let mut good := true
        for f in ([] : List Expr) do
          if good then good ← isTrue f ev (eval f ev)
        if good then
          let y ← eval eb ev
          standAt eb.pos
          let y ← foldedSetIterable eb ev y
          let _ ← runOwn (.compStart (sc2 el ta ea tb eb sc ps) 1 (← holding [y] (pyIter y)) D ev) ev
        again (.compLoop (sc2 el ta ea tb eb sc ps) 0 it D ev)) := by rfl
theorem turn_inner (el ta ea tb eb : Expr) (sc : Scope) (ps : Pos) (it D : Value) (ev : Env) : compTurn (sc2 el ta ea tb eb sc ps) 1 it D ev = (do
      standAt eb.pos
      match ← pyNext it with
      | none => pure (.done .next)
      | some got =>
        letOwnedTupleGo tb it got
        assign tb ev got
        let mut good := true
        for f in ([] : List Expr) do
          if good then good ← isTrue f ev (eval f ev)
        if good then
          (do let y ← eval el ev; standAt el.pos; let _ ← call (.builtin "set.add") [D, y])
        again (.compLoop (sc2 el ta ea tb eb sc ps) 1 it D ev)) := by rfl
section
variable {P : Program} {w : World} {A : Around} {R : Result → Shared → Prop} {s : Shared} {el ta ea tb eb : Expr} {sc : Scope} {ps : Pos} {it D : Value} {ev : Env}
theorem loop_outer (hf : ∀ y, foldedSetIterable eb ev y = pure y) (J : Nat → Shared → Prop)
    (step : ∀ m u, J m u → wpAny (model P w) A (pyNext it) (fun r u1 => match r with
      | none => R (.ok .next) u1
      | some got => wpAny (model P w) A (letOwnedTupleGo ta it got) (fun _ u2 => wpAny (model P w) A (assign ta ev got) (fun _ u3 => wpAny (model P w) A (eval eb ev) (fun y u4 => wpAny (model P w) A (pyIter y) (fun jt u5 =>
          codeAny (model P w) A (.compStart (sc2 el ta ea tb eb sc ps) 1 jt D ev) (fun r u6 => match r with
            | .ok _ => ∃ m', m' < m ∧ J m' u6
            | .error _ => False) u5) (notedBy (model P w) A ev fun x u => R (.error x) u) u4) (notedBy (model P w) A ev fun x u => R (.error x) u) u3) (notedBy (model P w) A ev fun x u => R (.error x) u) u2)
          (notedBy (model P w) A ev fun x u => R (.error x) u) u1) (notedBy (model P w) A ev fun x u => R (.error x) u) u)
    (m : Nat) (h : J m s) : codeAny (model P w) A (.compLoop (sc2 el ta ea tb eb sc ps) 0 it D ev) R s := by
  refine codeAny_loop rfl J (fun m u hJ => ?_) m h
  show wpAny _ A ((compTurn (sc2 el ta ea tb eb sc ps) 0 it D ev).onRaise (fun x => do noteFrame x ev; theTreesLotGoes x)) _ _ u
  refine wpAny_noted ?_
  rw [turn_outer]
  refine wpAny_bind (wpAny_standAt (wpAny_bind (wpAny_mono (step m u hJ) (fun r u1 h1 => ?_) fun _ _ z => z)))
  cases r with
  | none => exact wpAny_pure h1
  | some got =>
    refine wpAny_bind (wpAny_mono h1 (fun _ u2 h2 => wpAny_bind (wpAny_mono h2 (fun _ u3 h3 => ?_) fun _ _ z => z)) fun _ _ z => z)
    refine wpAny_bind (wpAny_pure ?_)
    refine wpAny_bind (wpAny_mono h3 (fun y u4 h4 => ?_) fun _ _ z => z)
    refine wpAny_bind (wpAny_standAt (wpAny_bind (wpAny_of_eq (hf y) (wpAny_bind (wpAny_holding (wpAny_mono h4 (fun jt u5 h5 => ?_) fun _ _ z => z))))))
    refine wpAny_bind (wpAny_runOwn ?_)
    rw [Around.mark_none]
    refine codeAny_mono h5 fun r u6 hres => ?_
    cases r with
    | ok f =>
      first
        | exact wpAny_pure ⟨rfl, hres⟩
        | exact wpAny_bind (wpAny_pure (wpAny_pure ⟨rfl, hres⟩))
    | error x => exact hres.elim
theorem loop_inner (J : Nat → Shared → Prop)
    (step : ∀ m u, J m u → wpAny (model P w) A (pyNext it) (fun r u1 => match r with
      | none => R (.ok .next) u1
      | some got => wpAny (model P w) A (letOwnedTupleGo tb it got) (fun _ u2 => wpAny (model P w) A (assign tb ev got) (fun _ u3 => wpAny (model P w) A (eval el ev) (fun y u4 =>
          wpAny (model P w) A (call (.builtin "set.add") [D, y]) (fun _ u5 => ∃ m', m' < m ∧ J m' u5) (notedBy (model P w) A ev fun x u => R (.error x) u) u4) (notedBy (model P w) A ev fun x u => R (.error x) u) u3)
          (notedBy (model P w) A ev fun x u => R (.error x) u) u2) (notedBy (model P w) A ev fun x u => R (.error x) u) u1) (notedBy (model P w) A ev fun x u => R (.error x) u) u)
    (m : Nat) (h : J m s) : codeAny (model P w) A (.compLoop (sc2 el ta ea tb eb sc ps) 1 it D ev) R s := by
  refine codeAny_loop rfl J (fun m u hJ => ?_) m h
  show wpAny _ A ((compTurn (sc2 el ta ea tb eb sc ps) 1 it D ev).onRaise (fun x => do noteFrame x ev; theTreesLotGoes x)) _ _ u
  refine wpAny_noted ?_
  rw [turn_inner]
  refine wpAny_bind (wpAny_standAt (wpAny_bind (wpAny_mono (step m u hJ) (fun r u1 h1 => ?_) fun _ _ z => z)))
  cases r with
  | none => exact wpAny_pure h1
  | some got =>
    refine wpAny_bind (wpAny_mono h1 (fun _ u2 h2 => wpAny_bind (wpAny_mono h2 (fun _ u3 h3 => ?_) fun _ _ z => z)) fun _ _ z => z)
    refine wpAny_bind (wpAny_pure ?_)
    exact wpAny_bind (wpAny_bind (wpAny_mono h3 (fun y u4 h4 => wpAny_bind (wpAny_standAt (wpAny_bind (wpAny_mono h4 (fun _ u5 h5 => wpAny_pure (wpAny_pure ⟨rfl, h5⟩)) fun _ _ z => z)))) fun _ _ z => z))
theorem start_inner (hz : codeAny (model P w) A (.compLoop (sc2 el ta ea tb eb sc ps) 1 it D ev) R s)
    (h : wpAny (model P w) A (pyIter it) (fun jt u => codeAny (model P w) A (.compLoop (sc2 el ta ea tb eb sc ps) 1 jt D ev) R u) (notedBy (model P w) A ev fun x u => R (.error x) u) s) :
    codeAny (model P w) A (.compStart (sc2 el ta ea tb eb sc ps) 1 it D ev) R s := by
  refine codeAny_of_tree ?_
  show wpAny _ _ ((compStart (sc2 el ta ea tb eb sc ps) 1 it D ev).onRaise (fun x => do noteFrame x ev; standAt theWindowsPlace)) _ _ s
  refine wpAny_notedAt ?_
  unfold compStart
  show wpAny _ _ (ask >>= _) _ _ s
  refine wpAny_bind (wpAny_askSetting (wpAny_ite ?_))
  split
  · first
      | exact wpAny_bind (wpAny_pure (wpAny_pure ⟨rfl, hz⟩))
      | exact wpAny_pure ⟨rfl, hz⟩
  · refine wpAny_bind (wpAny_rule ?_)
    show wpAny _ _ (standAt eb.pos >>= _) _ _ s
    exact wpAny_bind (wpAny_standAt (wpAny_bind (wpAny_mono h (fun jt u hn => wpAny_pure (And.intro rfl hn)) fun _ _ z => z)))
end
end Fm
namespace Fm
open PySem PySem.Spec PyProof.Rows L2 PySem.W
section
variable {X : Cx} {K : PySem.W.Frag} {P : Program} {w : World}
/-- the set's making: the outer source's loop by W, the inner one's by V -/
def tSc2 (K : PySem.W.Frag) (P : Program) (w : World) (wa : TI) (ga : TG) (wb : TI) (gb : TG) (te : TE) (vs vs1 : List Nat) : TE := fun σ H Q => wa σ H fun J H1 => ∀ D, H1 D = none → ∃ W : Nat → Nat → Hp → Prop, (∃ m, W 0 m (upd H1 D (SetTO P w D []))) ∧ ∀ i m H, W i m H →
  (J.stop i H ∧ Q (.ref D) H) ∨ (J.go i H ∧ ∃ Nx : Hp → Prop, (∀ H', Nx H' → ∃ m', m' < m ∧ W (i + 1) m' H') ∧ ∀ x H', J.yld i H x H' → ga x (wipe σ vs) H' fun σ2 H2 => wipe σ2 vs = wipe σ vs ∧ wb σ2 H2 fun J1 H4 => ∃ Wb : Nat → Nat → Hp → Prop, (∃ m, Wb 0 m H4) ∧ ∀ j k H, Wb j k H →
    (J1.stop j H ∧ Nx H) ∨ (J1.go j H ∧ ∃ Ny : Hp → Prop, (∀ H', Ny H' → ∃ k', k' < k ∧ Wb (j + 1) k' H') ∧ ∀ x H', J1.yld j H x H' → gb x (wipe σ2 vs1) H' fun σ3 H5 => wipe σ3 vs1 = wipe σ2 vs1 ∧ te σ3 H5 fun y H7 =>
      ∃ (b : Addr) (q : List Int) (L : List (Addr × List Int)), y = .ref b ∧ SqT K H7 b (q.map V.int) ∧ H7 D = some (SetTO P w D L) ∧ TupsAt K H7 L ∧ L.length + 1 < 64 ∧ ∀ L', PutIn L b q L' → Ny (upd H7 D (SetTO P w D L'))))
theorem sc2_all {pins : List (Addr × Obj)} {s : Shared} {σ : L2.St} {H : Hp} {Q : VK} {el ta ea tb eb : Expr} {sc : Scope} {own : List (Str × Nat)} {vs1 : List Nat} {ps qs : Pos} {wa wb : TI} {ga gb : TG} {te : TE} {use : Option (Value → Sem Unit)} {Qf : Value → Shared → Prop}
    (hc : X.calm = true) (hu : X.A.units + 64 < cLine) (hN : X.N.Nodup) (I : Inv X pins σ H s) (pa : PI X ta ea wa) (ok : BlkOk X.N X.env.scope sc own) (hv : ∀ i ∈ vs1, i ∈ own.map (·.2))
    (pga : ∀ (s : Shared) (H : Hp) (C : Addr) (cl : List (Str × Addr)) (fp : List Addr), PG (X.blk s H sc (compEnvC sc cl C X.env) fp) ta ga)
    (pe : ∀ (s : Shared) (H : Hp) (C : Addr) (cl : List (Str × Addr)) (fp : List Addr), PE (X.blk s H sc (compEnvC sc cl C X.env) fp) el te)
    (pb : ∀ (s : Shared) (H : Hp) (C : Addr) (cl : List (Str × Addr)) (fp : List Addr), PI (X.blk s H sc (compEnvC sc cl C X.env) fp) tb eb wb)
    (pgb : ∀ (s : Shared) (H : Hp) (C : Addr) (cl : List (Str × Addr)) (fp : List Addr), PG (X.blk s H sc (compEnvC sc cl C X.env) fp) tb gb)
    (fa : ∀ x, foldedSetIterable ea X.env x = pure x) (fb : ∀ ev x, foldedSetIterable eb ev x = pure x) (eK : X.K = K) (eP : X.prog = P) (ew : X.w = w)
    (h : tSc2 K P w wa ga wb gb te (own.map (·.2)) vs1 σ H Q)
    (post : ∀ D C u m H', Inv X pins σ H' u → Q (.ref D) H' → u.heap.Ns C m → FpOk X pins H' C → compPost (model X.prog X.w) X.A X.xe use Qf (.ref D) C (.ok .next) u) :
    wpAny (model X.prog X.w) X.A (comprehension (sc2 el ta ea tb eb sc ps) sc X.env qs (newSet (.type "set")) false (eval ea X.env) use) Qf X.xe s := by
  subst eK eP ew
  have hfree : ∀ y ∈ sc.names, y.2 = .free → ∃ c, X.env.cells.lookup y.1 = some c := fun y hy e => (ok.free y hy e).elim (fun z => I.ok.has _ (.inl z)) fun z => I.ok.has _ (.inr z)
  refine wpAny_comprehension_free (use := use) rfl fa (closure_ok hfree) ok.kind (fun y hy e => by rw [ok.uniq y hy, e]) (thn (pa.run pins s σ H _ I h) fun xv s1 hx => thn hx fun itv s2 h2 => ?_)
  obtain ⟨it, fp, tn, J, H2, e, I2, T, st2, f2, q⟩ := h2
  subst e
  refine wpAny_newSet_raw fun led hled => newEnv_comp ?_
  subst hled
  generalize hD : s2.heap.objs.size = D
  have hDn : H2 D = none := I2.hok.fresh (Nat.le_of_eq hD)
  obtain ⟨W, ⟨m0, w0⟩, turn⟩ := q D hDn
  generalize hob : ({ cls := .type "set", dict := none, data := .set #[] 0 (.fresh 0 0 (!X.w.params.followText "set-order")) } : Obj) = ob
  generalize hs3 : ({ s2 with heap := s2.heap.push ob } : Shared) = s3
  have h3 : s3.heap = s2.heap.push ob := by rw [← hs3]
  have gD : s3.heap.get? D = some ob := by
    rw [h3, ← hD]
    exact Heap.get?_push_size _ (by rw [← hob] <;> rfl)
  have old3 : ∀ b o, s2.heap.get? b = some o → s3.heap.get? b = some o := fun b o z => by
    rw [h3]
    exact Heap.get?_push_of_some _ z
  have I3 : Inv X pins σ (upd H2 D (SetTO X.prog X.w D [])) s3 := by
    have t0 : SetT0 X.prog X.w s3.heap D [] := (setTR_fresh (P := X.prog) (w := X.w) (by rw [gD, ← hob])).t0
    have := I2.laid (a := D) (o := SetTO X.prog X.w D []) (h' := s3.heap) (t' := s2.toks) old3 (Nat.le_of_eq hD) (setTO_new t0)
    rw [← hs3] at this ⊢
    exact this
  have lo : ∀ b ∈ fp, b < s2.heap.objs.size := fun b hb => by
    obtain ⟨o, z, _⟩ := T.obj _ _ st2 b hb
    exact Heap.lt_size z
  have f3 : ∀ b ∈ fp, FpOk X pins (upd H2 D (SetTO X.prog X.w D [])) b ∧ b < s3.heap.objs.size := fun b hb => by
    have l := lo b hb
    have ne : b ≠ D := by
      rw [← hD]
      exact Nat.ne_of_lt l
    exact ⟨⟨by rw [upd_ne ne]; exact (f2 b hb).1, (f2 b hb).2⟩, by rw [h3, Heap.size_push]; exact Nat.lt_succ_of_lt l⟩
  have st3 : tn 0 s3.heap := T.keep _ _ _ st2 fun b _ o z => old3 b o z
  have I4 := block_start I3 ok hN f3
  generalize hH3 : upd H2 D (SetTO X.prog X.w D []) = H3 at I3 I4 f3 w0
  generalize hcl : cellsFrom (s3.heap.objs.size + 1) sc.names (cloFrom X.env.cells sc.names []) = cl at I4
  have gA := pga s3 H3 s3.heap.objs.size cl fp
  have gE := pe s3 H3 s3.heap.objs.size cl fp
  have gI := pb s3 H3 s3.heap.objs.size cl fp
  have gB := pgb s3 H3 s3.heap.objs.size cl fp
  show codeAny _ _ (.compStart (sc2 el ta ea tb eb sc ps) 0 (.ref it) (.ref D) (compEnvC sc cl s3.heap.objs.size X.env)) (compPost (model X.prog X.w) X.A X.xe use Qf (.ref D) s3.heap.objs.size) { s3 with heap := pushCells (s3.heap.push { cls := .type "dict", data := .dict #[] }) sc.names }
  generalize hce : compEnvC sc cl s3.heap.objs.size X.env = ce at I4 gA gE gI gB ⊢
  have cL : ce.locals = s3.heap.objs.size := by subst hce; rfl
  generalize hs4 : ({ s3 with heap := pushCells (s3.heap.push { cls := .type "dict", data := .dict #[] }) sc.names } : Shared) = s4 at I4 ⊢
  have st4 : tn 0 s4.heap := T.keep _ _ _ st3 fun b _ o z => by rw [← hs4]; exact pushCells_keeps _ _ _ _ (Heap.get?_push_of_some _ z)
  have nfp : ∀ b ∈ fp, H3 b = none := fun b hb => (f3 b hb).1.1
  have stand : ∀ {τ : L2.St} {G : Hp} {u : Shared}, Inv (X.blk s3 H3 sc ce fp) [] τ G u → (∀ b ∈ fp, G b = none) → ∀ b ∈ fp, FpOk (X.blk s3 H3 sc ce fp) [] G b := fun I' hn b hb =>
    ⟨hn b hb, (I'.ok.exf b hb).1, I'.ok.exfs b hb, .inl hb, fun x c z => (I'.ok.exf b hb).2 x c z, fun p hp => absurd (show p ∈ ([] : List (Addr × Obj)) ++ [] from hp) (by simp)⟩
  have loop : codeAny (model X.prog X.w) X.A (.compLoop (sc2 el ta ea tb eb sc ps) 0 (.ref it) (.ref D) ce) (compPost (model X.prog X.w) X.A X.xe use Qf (.ref D) s3.heap.objs.size) s4 := by
    refine loop_outer (fb ce) (fun m u => ∃ i G, Inv (X.blk s3 H3 sc ce fp) [] (wipe σ (own.map (·.2))) G u ∧ tn i u.heap ∧ (∀ b ∈ fp, G b = none) ∧ W i m G) ?_ m0 ⟨0, H3, I4, st4, nfp, w0⟩
    rintro m u5 ⟨i, G5, I5, st5, n5, w5⟩
    rcases turn i m G5 w5 with ⟨stop, qq⟩ | ⟨go, Nx, hNx, step⟩
    · refine thnF (T.done (X.blk s3 H3 sc ce fp) rfl rfl rfl hc i [] u5 _ G5 (fun _ _ => False) I5 (stand I5 n5) st5 stop) fun r u6 ⟨hr, I6⟩ => ?_
      subst hr
      have I7 : Inv X pins σ G5 u6 := I3.call' (ch := fp) I6.os I6.base I6.hok I6.bare fun b hb => ⟨(f3 b hb).1.2.2.2.1, (f3 b hb).1.2.1, (f3 b hb).1.2.2.2.2.1, (f3 b hb).1.2.2.2.2.2⟩
      have nC : G5 ce.locals = none := I6.free
      obtain ⟨mm, hn, _⟩ := I6.loc
      have hn : u6.heap.Ns ce.locals mm := hn
      rw [cL] at hn nC
      exact post D s3.heap.objs.size u6 mm G5 I7 qq hn (I3.fpOk (Nat.le_refl _) nC)
    · refine thnF (T.item (X.blk s3 H3 sc ce fp) rfl rfl rfl hc i [] u5 _ G5 (fun _ _ => False) I5 (stand I5 n5) st5 go) fun r u6 ⟨got, hr, h6⟩ => ?_
      subst hr
      refine thnF h6 fun _ u7 ⟨x, G7, I7, r7, y7, st7, n7⟩ => ?_
      have I7' := I7.pinned (stand I7 n7) (T.obj _ _ st7)
      refine thnF (gA.run _ u7 _ G7 x got _ I7' r7 (step x G7 y7)) fun _ u8 ⟨σ8, G8, I8, hw8, q8⟩ => ?_
      have fin : ∀ {τ : L2.St} {u : Shared} {G : Hp}, Inv (X.blk s3 H3 sc ce fp) ([] ++ pinsAt fp u7.heap) τ G u → (wipe σ (own.map (·.2))).length = τ.length → (∀ (j : Nat) v, (wipe σ (own.map (·.2)))[j]? = some (some v) → τ[j]? = some (some v)) → Nx G →
          ∃ m', m' < m ∧ ∃ i G, Inv (X.blk s3 H3 sc ce fp) [] (wipe σ (own.map (·.2))) G u ∧ tn i u.heap ∧ (∀ b ∈ fp, G b = none) ∧ W i m' G := fun {τ u G} I' hl hk nx => by
        obtain ⟨m', hm, w'⟩ := hNx G nx
        have pin' : ∀ b ∈ fp, ∀ o, u7.heap.get? b = some o → u.heap.get? b = some o ∧ G b = none := fun b hb o z =>
          have zz := I'.pin (b, o) (List.mem_append_right _ (List.mem_append_right _ (mem_pinsAt hb z)))
          ⟨zz.1, zz.2.1⟩
        refine ⟨m', hm, i + 1, G, (I'.unpinned (pins := [])).weak hl hk, T.keep _ _ _ st7 fun b hb o z => (pin' b hb o z).1, fun b hb => ?_, w'⟩
        obtain ⟨o, z, _⟩ := T.obj _ _ st7 b hb
        exact (pin' b hb o z).2
      have l8 : (wipe σ (own.map (·.2))).length = σ8.length := by rw [← hw8, wipe_length]
      have k8 : ∀ (j : Nat) v, (wipe σ (own.map (·.2)))[j]? = some (some v) → (wipe σ8 vs1)[j]? = some (some v) := fun j v z => by
        rw [← hw8] at z
        obtain ⟨z1, z2⟩ := wipe_some z
        rw [wipe_out fun zz => z2 (hv j zz)]
        exact z1
      refine thnF (gI.run _ u8 σ8 G8 _ I8 q8) fun xv u10 hx => thnF hx fun itv u11 h11 => ?_
      obtain ⟨it1, fp1, tn1, J1, G11, e1, I11, T1, st11, f11, Wb, ⟨k0, v0⟩, turn1⟩ := h11
      subst e1
      have stand1 : ∀ {G : Hp}, (∀ b ∈ fp1, G b = none) → ∀ b ∈ fp1, FpOk (X.blk s3 H3 sc ce fp) ([] ++ pinsAt fp u7.heap) G b := fun hn b hb => ⟨hn b hb, (f11 b hb).2⟩
      have loop1 : codeAny (model X.prog X.w) X.A (.compLoop (sc2 el ta ea tb eb sc ps) 1 (.ref it1) (.ref D) ce)
          (fun r u => match r with
            | .ok _ => ∃ m', m' < m ∧ ∃ i G, Inv (X.blk s3 H3 sc ce fp) [] (wipe σ (own.map (·.2))) G u ∧ tn i u.heap ∧ (∀ b ∈ fp, G b = none) ∧ W i m' G
            | .error _ => False) u11 := by
        refine loop_inner (fun k u => ∃ j G, Inv (X.blk s3 H3 sc ce fp) ([] ++ pinsAt fp u7.heap) (wipe σ8 vs1) G u ∧ tn1 j u.heap ∧ (∀ b ∈ fp1, G b = none) ∧ Wb j k G) ?_ k0 ⟨0, G11, I11.weak (wipe_length _ _) (fun j v z => (wipe_some z).1), st11, fun b hb => (f11 b hb).1, v0⟩
        rintro k u12 ⟨j, G12, I12, st12, n12, w12⟩
        rcases turn1 j k G12 w12 with ⟨stop1, nx1⟩ | ⟨go1, Ny, hNy, step1⟩
        · refine thnF (T1.done (X.blk s3 H3 sc ce fp) rfl rfl rfl hc j _ u12 (wipe σ8 vs1) G12 (fun _ _ => False) I12 (stand1 n12) st12 stop1) fun r u13 ⟨hr, I13⟩ => ?_
          subst hr
          exact fin I13 (l8.trans (wipe_length σ8 vs1).symm) k8 nx1
        · refine thnF (T1.item (X.blk s3 H3 sc ce fp) rfl rfl rfl hc j _ u12 (wipe σ8 vs1) G12 (fun _ _ => False) I12 (stand1 n12) st12 go1) fun r u13 ⟨got1, hr, h13⟩ => ?_
          subst hr
          refine thnF h13 fun _ u14 ⟨x1, G14, I14, r14, y14, st14, n14⟩ => ?_
          have I14' := I14.pinned (stand1 n14) (T1.obj _ _ st14)
          refine thnF (gB.run _ u14 (wipe σ8 vs1) G14 x1 got1 _ I14' r14 (step1 x1 G14 y14)) fun _ u15 ⟨σ15, G15, I15, hw15, q15⟩ => ?_
          have fin1 : ∀ {u : Shared} {G : Hp}, Inv (X.blk s3 H3 sc ce fp) (([] ++ pinsAt fp u7.heap) ++ pinsAt fp1 u14.heap) σ15 G u → Ny G → ∃ k', k' < k ∧ ∃ j G, Inv (X.blk s3 H3 sc ce fp) ([] ++ pinsAt fp u7.heap) (wipe σ8 vs1) G u ∧ tn1 j u.heap ∧ (∀ b ∈ fp1, G b = none) ∧ Wb j k' G := fun {u G} I' nx => by
            obtain ⟨k', hk', w'⟩ := hNy G nx
            have pin' : ∀ b ∈ fp1, ∀ o, u14.heap.get? b = some o → u.heap.get? b = some o ∧ G b = none := fun b hb o z =>
              have zz := I'.pin (b, o) (List.mem_append_right _ (List.mem_append_right _ (mem_pinsAt hb z)))
              ⟨zz.1, zz.2.1⟩
            refine ⟨k', hk', j + 1, G, I'.unpinned.weak (by rw [← hw15, wipe_length]) (fun j v z => by rw [← hw15] at z; exact (wipe_some z).1), T1.keep _ _ _ st14 fun b hb o z => (pin' b hb o z).1, fun b hb => ?_, w'⟩
            obtain ⟨o, z, _⟩ := T1.obj _ _ st14 b hb
            exact (pin' b hb o z).2
          refine thnF (gE.run _ u15 σ15 G15 _ I15 q15) fun z u17 ⟨yv, G17, I17, r17, b, kk, L, ey, hb, hDL, hL, few, nx⟩ => ?_
          subst ey
          cases r17
          exact add_inv (X := X.blk s3 H3 sc ce fp) I17 hDL hL hb (by show X.A.units + 2 < cLine; omega) few fun L' u18 p I18 => fin1 I18 (nx L' p)
      exact start_inner loop1 (T1.self X.A 0 _ _ _ st11 loop1)
  exact codeAny_compStart_set loop (T.self X.A 0 _ _ _ st4 loop)
theorem pe_sc2 {el ta ea tb eb : Expr} {sc : Scope} {own : List (Str × Nat)} {vs1 : List Nat} {ps : Pos} {wa wb : TI} {ga gb : TG} {te : TE} (hc : X.calm = true) (hu : X.A.units + 64 < cLine) (hN : X.N.Nodup) (pa : PI X ta ea wa) (ok : BlkOk X.N X.env.scope sc own) (hv : ∀ i ∈ vs1, i ∈ own.map (·.2))
    (pga : ∀ (s : Shared) (H : Hp) (C : Addr) (cl : List (Str × Addr)) (fp : List Addr), PG (X.blk s H sc (compEnvC sc cl C X.env) fp) ta ga)
    (pb : ∀ (s : Shared) (H : Hp) (C : Addr) (cl : List (Str × Addr)) (fp : List Addr), PI (X.blk s H sc (compEnvC sc cl C X.env) fp) tb eb wb)
    (pgb : ∀ (s : Shared) (H : Hp) (C : Addr) (cl : List (Str × Addr)) (fp : List Addr), PG (X.blk s H sc (compEnvC sc cl C X.env) fp) tb gb)
    (pe : ∀ (s : Shared) (H : Hp) (C : Addr) (cl : List (Str × Addr)) (fp : List Addr), PE (X.blk s H sc (compEnvC sc cl C X.env) fp) el te)
    (fa : ∀ x, foldedSetIterable ea X.env x = pure x := by intro _; rfl) (fb : ∀ ev x, foldedSetIterable eb ev x = pure x := by intro _ _; rfl) (eK : X.K = K := by rfl) (eP : X.prog = P := by rfl) (ew : X.w = w := by rfl) :
    PE X (sc2 el ta ea tb eb sc ps) (tSc2 K P w wa ga wb gb te (own.map (·.2)) vs1) := by
  refine ⟨fun pins s σ H Q I h => ?_⟩
  rw [arm_eval_SetComp]
  refine sc2_all hc hu hN I pa ok hv pga pe pb pgb fa fb eK eP ew h fun D C u m H' I' q hn f => ⟨m, hn, fun g sb => ?_⟩
  obtain ⟨f0, f1, f2, f3, f4, f5⟩ := f
  exact ⟨.ref D, H', I'.turned (t' := u.toks) (fun b o hb z => (sb.2 b hb).trans z) f0 f1 f3 f4 f5, rfl, q⟩
theorem ps_setSc2 {i : Nat} {y : Str} {py : Pos} {el ta ea tb eb : Expr} {sc : Scope} {own : List (Str × Nat)} {vs1 : List Nat} {ps sp : Pos} {wa wb : TI} {ga gb : TG} {te : TE} (hc : X.calm = true) (hu : X.A.units + 64 < cLine) (hN : X.N.Nodup) (hy : X.N[i]? = some y) (hyl : X.env.scope.names.lookup y = some .local)
    (hsw : swapsWith (sc2 el ta ea tb eb sc ps) (some (.Name y py)) sp.line X.env = pure true) (pa : PI X ta ea wa) (ok : BlkOk X.N X.env.scope sc own) (hv : ∀ i ∈ vs1, i ∈ own.map (·.2))
    (pga : ∀ (s : Shared) (H : Hp) (C : Addr) (cl : List (Str × Addr)) (fp : List Addr), PG (X.blk s H sc (compEnvC sc cl C X.env) fp) ta ga)
    (pb : ∀ (s : Shared) (H : Hp) (C : Addr) (cl : List (Str × Addr)) (fp : List Addr), PI (X.blk s H sc (compEnvC sc cl C X.env) fp) tb eb wb)
    (pgb : ∀ (s : Shared) (H : Hp) (C : Addr) (cl : List (Str × Addr)) (fp : List Addr), PG (X.blk s H sc (compEnvC sc cl C X.env) fp) tb gb)
    (pe : ∀ (s : Shared) (H : Hp) (C : Addr) (cl : List (Str × Addr)) (fp : List Addr), PE (X.blk s H sc (compEnvC sc cl C X.env) fp) el te)
    (fa : ∀ x, foldedSetIterable ea X.env x = pure x := by intro _; rfl) (fb : ∀ ev x, foldedSetIterable eb ev x = pure x := by intro _ _; rfl) (eK : X.K = K := by rfl) (eP : X.prog = P := by rfl) (ew : X.w = w := by rfl) :
    PS X (.Assign [.Name y py] (sc2 el ta ea tb eb sc ps) sp) (tAsg (tSc2 K P w wa ga wb gb te (own.map (·.2)) vs1) (gName i)) := by
  refine ⟨fun pins s σ H D I h => ?_⟩
  rw [exec_Assign_Name_used _ _ _ _ hsw]
  refine wpAny_bind (wpAny_standAt (wpAny_bind ?_))
  show wpAny _ X.A (do let _ ← comprehension (sc2 el ta ea tb eb sc ps) sc X.env (firstIterPos [⟨ta, ea, [], 0⟩, ⟨tb, eb, [], 0⟩] ps) (newSet (.type "set")) false (eval ea X.env) (some (assign (.Name y py) X.env))) _ _ s
  have h : tSc2 K P w wa ga wb gb te (own.map (·.2)) vs1 σ H (fun x H1 => gName i x σ H1 D.nx) := h
  refine wpAny_bind (thn (sc2_all (Qf := fun _ u => SP X pins D .next u) hc hu hN I pa ok hv pga pe pb pgb fa fb eK eP ew h fun L C u m H' I' q hn f => ?_) fun _ u hq => wpAny_pure (wpAny_pure hq))
  show wpAny _ _ (assign (.Name y py) X.env (.ref L)) _ _ _
  refine wpAny_assign_Name (store_ok2 (v := V.ref L) I' hN hy (.inl hyl) rfl (fun s2 I2 ⟨a, sb, ha⟩ => ?_) (.inr hyl))
  obtain ⟨f0, f1, f2, f3, f4, f5⟩ := f
  have haC : C ≠ a := ha.elim (fun z => by rw [z]; exact f1) fun z e => f4 y a z e.symm
  exact ⟨m, hn.sameBut sb haC, fun g sb3 => ⟨_, H', I2.turned (t' := s2.toks) (fun b o hb z => (sb3.2 b hb).trans z) f0 f1 f3 f4 f5, q⟩⟩
end
end Fm
/-! Dicts whose keys are tuples of ints (of any make: SqT): made of a row, displayed, asked, walked, told more, sorted. -/
namespace Fm
open PySem PySem.Spec PyProof.Rows L2 PySem.W
abbrev Ent := List Int × Addr × Value
section
variable {P : Program} {w : World} {h h' : Heap} {a : Addr} {xs : List Ent}
/-- the object at a, its keys' own tuples aside -/
def DRaw (P : Program) (w : World) (h : Heap) (a : Addr) (xs : List Ent) : Prop := (a == sysModules) = false ∧ (xs.map (·.1)).Nodup ∧ ∃ o es ep, h.get? a = some o ∧ o.ExactDict ∧ o.data = .dict es ep ∧ es.toList = xs.map (entryOfKey (TK P w))
def DTO (P : Program) (w : World) (a : Addr) (F : List Ent → Prop) : HO := .ext fun h => ∃ xs, F xs ∧ DRaw P w h a xs
theorem DRaw.full (d : DRaw P w h a xs) (ht : ∀ x ∈ xs, IsT P w h x.1 x.2.1) : h.DictOfH (TK P w) a xs := by
  obtain ⟨_, nd, o, es, ep, h1, h2, h3, h4⟩ := d
  exact ⟨o, es, ep, h1, h2, h3, h4, ht, nd⟩
theorem raw_of (m : h.DictOfH (TK P w) a xs) (hs : (a == sysModules) = false) : DRaw P w h a xs := by
  obtain ⟨o, es, ep, h1, h2, h3, h4, _, nd⟩ := m
  exact ⟨hs, nd, o, es, ep, h1, h2, h3, h4⟩
theorem dto_ok {F : List Ent → Prop} {H : Hp} (hF : F xs) (d : DRaw P w h a xs) : ObjOk P w H h a (DTO P w a F) := by
  have ⟨_, _, o, es, ep, h1, _⟩ := d
  refine ⟨⟨xs, hF, d⟩, ⟨o, h1⟩, fun g1 g2 p k => ?_⟩
  have ⟨ys, hy, hs, nd, o', es', ep', k1, r⟩ := p
  exact ⟨ys, hy, hs, nd, o', es', ep', k _ k1, r⟩
/-- its keys, where they stand -/
def KeyF (L : List (Addr × List Int)) : List Ent → Prop := fun xs => xs.map (fun x => (x.2.1, x.1)) = L
/-- its keys and what they have -/
def ValF (L : List (Addr × List Int × V)) : List Ent → Prop := fun xs => Paired (fun p (x : Ent) => x.2.1 = p.1 ∧ x.1 = p.2.1 ∧ RelV p.2.2 x.2.2) L xs
theorem ValF.keys {L : List (Addr × List Int × V)} {xs : List Ent} (h : ValF L xs) : xs.map (fun x => (x.2.1, x.1)) = L.map fun p => (p.1, p.2.1) := by
  unfold ValF at h
  induction h with
  | nil => rfl
  | cons r _ ih => rw [List.map_cons, List.map_cons, ih, r.1, r.2.1]
theorem ValF.find {L : List (Addr × List Int × V)} {xs : List Ent} (h : ValF L xs) (k : List Int) : RelO ((L.find? fun p => decide (p.2.1 = k)).map (·.2.2)) ((atKey xs k).map (·.2)) := by
  unfold ValF at h
  induction h with
  | nil => exact True.intro
  | @cons p x ps qs r _ ih =>
    obtain ⟨_, r2, r3⟩ := r
    by_cases e : p.2.1 = k
    · have b : atKey (x :: qs) k = some x.2 := by simp [atKey, List.find?_cons, r2, e]
      rw [b, List.find?_cons]
      simp only [e, decide_true, Option.map_some]
      exact r3
    · have b : atKey (x :: qs) k = atKey qs k := by simp [atKey, List.find?_cons, r2, e]
      rw [b, List.find?_cons]
      simp only [e, decide_false]
      exact ih
end
section
variable {X : Cx} {K : PySem.W.Frag} {P : Program} {w : World} {pins : List (Addr × Obj)} {σ : L2.St} {H : Hp} {s : Shared}
theorem Inv.dto {F : List Ent → Prop} {a : Addr} (I : Inv X pins σ H s) (h : Rd H a (DTO X.prog X.w a F)) : ∃ xs, F xs ∧ DRaw X.prog X.w s.heap a xs := (h.ok I.hok).1
/-- tuple(l), the new tuple's object known to have no dict -/
def rTupF (K : PySem.W.Frag) : List V → Hp → VK → Prop := fun xs H Q => ∃ p ys, xs = [.ref p] ∧ SqL K H p ys ∧ ∀ l o, H l = none → o.dict = none → Q (.ref l) (upd H l (.frz o (.tup ys)))
theorem call_tupF (eK : X.K = K := by rfl) : CallR X (.type "tuple") (rTupF K) := by
  subst eK
  intro pins s σ H xs us Q I r h
  obtain ⟨p, ys, rfl, hq, q⟩ := h
  rw [Vals.ref1 r]
  obtain ⟨its, r', pl, hz⟩ := I.list hq
  have hlen := r'.length
  refine call_tuple_list pl.isList (fun h' kp => ?_) (by simp only [List.size_toArray] <;> omega)
  have I1 : Inv X pins σ H { s with heap := h' } := I.kept (t' := s.toks) kp
  refine ⟨.ref h'.objs.size, upd H h'.objs.size (.frz { cls := .type "tuple", data := .seq its.toArray } (.tup ys)), I1.laid (t' := s.toks) (fun b o e => Heap.get?_push_of_some _ e) (Nat.le_refl _) ?_, rfl, q _ _ (I1.hok.fresh (Nat.le_refl _)) rfl⟩
  exact ⟨Heap.get?_push_size _ rfl, hz, its, r', IsTup.new _ _⟩
/-- what a row of pairs holds: the pair's address, the key's, the key, the value -/
abbrev Prs := List (Addr × Addr × List Int × V)
def PrsAt (K : PySem.W.Frag) (H : Hp) (M : Prs) : Prop := ∀ m ∈ M, SqT K H m.1 [.ref m.2.1, m.2.2.2] ∧ SqT K H m.2.1 (m.2.2.1.map V.int)
theorem prs_vals (I : Inv X pins σ H s) : ∀ {M : Prs}, PrsAt X.K H M → ∃ N : List ((Addr × Addr × List Int × V) × Value), N.map (·.1) = M ∧ ∀ n ∈ N, RelV n.1.2.2.2 n.2 ∧ IsTup s.heap n.1.1 #[.ref n.1.2.1, n.2] ∧ IsT X.prog X.w s.heap n.1.2.2.1 n.1.2.1
  | [], _ => ⟨[], rfl, fun n hn => (by cases hn)⟩
  | m :: M, h => by
    obtain ⟨N, e, hN⟩ := prs_vals I (M := M) fun z hz => h z (List.mem_cons_of_mem _ hz)
    obtain ⟨h1, h2⟩ := h m List.mem_cons_self
    obtain ⟨its, rv, pt, _⟩ := I.tuple h1
    cases rv with
    | cons r1 rr =>
      cases rr with
      | cons r2 rn =>
        cases rn
        cases r1
        rename_i u
        refine ⟨(m, u) :: N, by rw [List.map_cons, e], fun n hn => ?_⟩
        rcases List.mem_cons.mp hn with z | z
        · rw [z]
          exact ⟨r2, pt, Inv.isT I h2⟩
        · exact hN n z
theorem refs_vals {α : Type} {f : α → Addr} : ∀ {M : List α} {us : List Value}, Vals (M.map fun m => V.ref (f m)) us → us = M.map fun m => Value.ref (f m)
  | [], _, .nil => rfl
  | _ :: _, _, .cons r t => by
    cases r
    rw [refs_vals t] <;> rfl
theorem nodup_ent {M : Prs} {N : List ((Addr × Addr × List Int × V) × Value)} (e : N.map (·.1) = M) : ((N.map fun n => ((n.1.2.2.1, n.1.2.1, n.2) : Ent)).map (·.1)) = M.map fun m => m.2.2.1 := by
  rw [← e, List.map_map, List.map_map]
  rfl
theorem valF_of {M : Prs} {N : List ((Addr × Addr × List Int × V) × Value)} (e : N.map (·.1) = M) (hN : ∀ n ∈ N, RelV n.1.2.2.2 n.2) : ValF (M.map (·.2)) (N.map fun n => ((n.1.2.2.1, n.1.2.1, n.2) : Ent)) := by
  subst e
  unfold ValF
  induction N with
  | nil => exact .nil
  | cons n N ih =>
    rw [List.map_cons, List.map_cons, List.map_cons]
    exact .cons ⟨rfl, rfl, hN n List.mem_cons_self⟩ (ih fun z hz => hN z (List.mem_cons_of_mem _ hz))
theorem tsAt {N : List ((Addr × Addr × List Int × V) × Value)} {j : Nat} {n : (Addr × Addr × List Int × V) × Value} (h : N[j]? = some n) : ((N[j]?).map (·.1.1)).getD 0 = n.1.1 := by rw [h] <;> rfl
theorem prs_items {h : Heap} {N : List ((Addr × Addr × List Int × V) × Value)} {its : List Value} (e : its = N.map fun n => Value.ref n.1.1) (hN : ∀ n ∈ N, IsTup h n.1.1 #[.ref n.1.2.1, n.2]) :
    PairItems h its.toArray (fun j => ((N[j]?).map (·.1.1)).getD 0) (N.map fun n => (Value.ref n.1.2.1, n.2)) := by
  refine ⟨by rw [e] <;> simp, fun j k v hj => ?_⟩
  rw [List.getElem?_map] at hj
  obtain ⟨n, hn, en⟩ := Option.map_eq_some_iff.mp hj
  cases en
  refine ⟨?_, ?_⟩
  · rw [e]
    simp [hn]
  · show PairAt h (((N[j]?).map (·.1.1)).getD 0) _ _
    rw [tsAt hn]
    exact .inl (hN n (List.mem_of_getElem? hn))
theorem prs_have {N : List ((Addr × Addr × List Int × V) × Value)} : PairsHaveH (TK P w) (N.map fun n => (Value.ref n.1.2.1, n.2)).length (PairRel (N.map fun n => (Value.ref n.1.2.1, n.2))) (N.map fun n => ((n.1.2.2.1, n.1.2.1, n.2) : Ent)) := by
  refine ⟨by simp, fun i key v hi => ?_⟩
  have hi' : (N.map fun n => (Value.ref n.1.2.1, n.2))[i]? = some (key, v) := hi
  rw [List.getElem?_map] at hi'
  obtain ⟨n, hn, en⟩ := Option.map_eq_some_iff.mp hi'
  cases en
  exact ⟨n.1.2.2.1, n.1.2.1, by rw [List.getElem?_map, hn] <;> rfl, rfl⟩
/-- dict(row) -/
def rDictT (K : PySem.W.Frag) (P : Program) (w : World) : List V → Hp → VK → Prop := fun xs H Q => ∃ (a : Addr) (o : Obj) (M : Prs), xs = [V.ref a] ∧ H a = some (.frz o (.tup (M.map fun m => V.ref m.1))) ∧ o.dict = none ∧ PrsAt K H M ∧ (M.map fun m => m.2.2.1).Nodup ∧ M.length ≤ 1000 ∧
  ∀ d, H d = none → Q (.ref d) (upd H d (DTO P w d (ValF (M.map (·.2)))))
theorem call_dictT (hc : X.calm = true) (hu : X.A.units + 64 < cLine) (eK : X.K = K := by rfl) (eP : X.prog = P := by rfl) (ew : X.w = w := by rfl) : CallR X (.type "dict") (rDictT K P w) := by
  subst eK eP ew
  intro pins s σ H xs us Q I r h
  obtain ⟨a, o, M, rfl, ha, od, hM, nd, few, q⟩ := h
  rw [Vals.ref1 r]
  obtain ⟨N, e, hN⟩ := prs_vals I hM
  obtain ⟨hget, hz, its, rv, ob, hob, hcls, n, hdat⟩ := I.hok a _ ha
  rw [hget] at hob
  cases hob
  have hi : its = N.map fun n => Value.ref n.1.1 := by
    have := refs_vals rv
    rw [this, ← e, List.map_map]
    rfl
  have ok : PlainSeq "tuple" s.heap a its.toArray ∧ PairItems s.heap its.toArray (fun j => ((N[j]?).map (·.1.1)).getD 0) (N.map fun n => (Value.ref n.1.2.1, n.2)) := ⟨⟨o, n, hget, hcls, od, hdat⟩, prs_items hi fun n hn => (hN n hn).2.1⟩
  have hlen : N.length = M.length := by rw [← e, List.length_map]
  refine call_dict_pairsH (PairArg.tuple a its.toArray _ _) (I.ok.hd hc) (show X.A.units + 1 + 1 < cLine by omega) ok prs_have (fun g hk x hx => ?_) (by rw [List.length_map, sizeLine_eq]; omega) fun g tk hd hk => ?_
  · obtain ⟨n, hn, ex⟩ := List.mem_map.mp hx
    subst ex
    obtain ⟨ob, it, m, k1, r⟩ := (hN n hn).2.2
    exact ⟨ob, it, m, hk _ _ (Nat.ne_of_lt (Heap.lt_size k1)) (by simp) k1, r⟩
  · rw [storedAllH_nil_of_nodup _ (by rw [nodup_ent e]; exact nd)] at hd
    have hn : H s.heap.objs.size = none := I.hok.fresh (Nat.le_refl _)
    exact ⟨.ref s.heap.objs.size, _, I.laid (a := s.heap.objs.size) (t' := tk) (fun b ob z => hk b ob (by simp) z) (Nat.le_refl _) (dto_ok (valF_of e fun n hn => (hN n hn).1) (raw_of hd (beq_eq_false_iff_ne.mpr (Ne.symm (Nat.ne_of_lt I.big))))), rfl, q _ hn⟩
end
end Fm
namespace Fm
open PySem PySem.Spec PyProof.Rows L2 PySem.W
section
variable {X : Cx} {K : PySem.W.Frag} {P : Program} {w : World} {pins : List (Addr × Obj)} {σ : L2.St} {H : Hp} {s : Shared}
/-! ### {k: v}, k a tuple of ints -/
def tDispT (K : PySem.W.Frag) (P : Program) (w : World) (tk tv : TE) : TE := fun σ H Q => ∀ p, H p = none → tk σ (upd H p (DTO P w p (KeyF []))) fun x H1 => tv σ H1 fun y H2 => ∃ (b : Addr) (q : List Int) (z : V), [(x, y)] = [(V.ref b, z)] ∧ H2 p = some (DTO P w p (KeyF [])) ∧
  SqT K H2 b (q.map V.int) ∧ Q (.ref p) (upd H2 p (DTO P w p (KeyF [(b, q)])))
theorem keyF_nil {xs : List Ent} (h : KeyF [] xs) : xs = [] := List.map_eq_nil_iff.mp h
theorem pe_dispT {pos : Pos} {k v : Expr} {tk tv : TE} (hu : X.A.units + 64 < cLine) (hk : PE X k tk) (hv : PE X v tv) (hshape : (evalEachOpt [some k] X.env).zip ((evalEach [v] X.env).map fun z => do let y ← z; standAt pos; pure y) = (pairTrees [some k] [v] X.env pos).map fun p => (some p.1, p.2) := by rfl)
    (hl : (pairTrees [some k] [v] X.env pos).length ≤ 15 := by decide) (h0 : pairTrees [some k] [v] X.env pos ≠ [] := by intro z; cases z) (eK : X.K = K := by rfl) (eP : X.prog = P := by rfl) (ew : X.w = w := by rfl) :
    PE X (.Dict [some k] [v] pos) (tDispT K P w tk tv) := by
  subst eK eP ew
  refine ⟨fun pins s σ H Q I h => ?_⟩
  have hn := I.hok.fresh (Nat.le_refl s.heap.objs.size)
  have hs : (s.heap.objs.size == sysModules) = false := beq_eq_false_iff_ne.mpr (Ne.symm (Nat.ne_of_lt I.big))
  have I1 : Inv X pins σ (upd H s.heap.objs.size (DTO X.prog X.w s.heap.objs.size (KeyF []))) { s with heap := s.heap.push { cls := .type "dict", data := .dict #[] } } :=
    I.laid (t' := s.toks) (fun _ _ z => Heap.get?_push_of_some _ z) (Nat.le_refl _) (dto_ok (xs := []) rfl (raw_of (Heap.DictOfH.new s.heap) hs))
  have run : PPs X pos [some k] [v] [(tk, tv)] := pps_cons hk hv pps_nil
  rw [arm_eval_Dict, hshape, dictDisplay_pairs _ h0 (by omega)]
  refine wpAny_bind (wpAny_standAt (wpAny_bind (wpAny_subDictH (knd := TK X.prog X.w) (Q := fun d u => wpAny (model X.prog X.w) X.A (pure (Value.ref d)) (fun v s' => EP X pins σ Q v s') X.xe u) (show X.A.units < cLine by omega) hl
    (thn (run.run pins _ σ _ (fun ps H2 => ∃ (b : Addr) (q : List Int) (z : V), ps = [(V.ref b, z)] ∧ H2 s.heap.objs.size = some (DTO X.prog X.w s.heap.objs.size (KeyF [])) ∧ SqT X.K H2 b (q.map V.int) ∧ Q (.ref s.heap.objs.size) (upd H2 s.heap.objs.size (DTO X.prog X.w s.heap.objs.size (KeyF [(b, q)])))) I1 ?_) fun ws s2 ⟨ps, H2, I2, rel, b, q, z, ep, hp, hb, qq⟩ => ?_))))
  · show tk _ _ _
    exact h _ hn
  · subst ep
    cases rel with
    | @cons p kv ps qs r t =>
      cases t
      obtain ⟨k1, v1⟩ := kv
      obtain ⟨r1, r2⟩ := r
      cases r1
      obtain ⟨xs, hF, hd⟩ := Inv.dto I2 (.inl hp)
      rw [keyF_nil hF] at hd
      have hk1 : IsT X.prog X.w s2.heap q b := Inv.isT I2 hb
      refine ⟨[(q, b, v1)], ⟨rfl, rfl, hk1, trivial⟩, hd.full fun z hz => (by cases hz), fun h' tk' hm hs' => wpAny_pure ?_⟩
      have he : ∃ u, h'.get? s.heap.objs.size = some u := by
        obtain ⟨o, es, ep, z, _⟩ := hm
        exact ⟨o, z⟩
      exact ⟨.ref s.heap.objs.size, _, I2.write (e := s.heap.objs.size) (t' := tk') (by rw [hp]; trivial) (.inl rfl) (fun c u hc hu => (hs'.2 c hc).trans hu) he (dto_ok (F := KeyF [(b, q)]) (xs := [(q, b, v1)]) rfl (raw_of hm hs)), rfl, qq⟩
/-! ### d.get(k, z) -/
def tDGetT (K : PySem.W.Frag) (P : Program) (w : World) (td ty tx : TE) : TE := fun σ H Q => td σ H fun x H1 => (∃ a F, x = .ref a ∧ H1 a = some (DTO P w a F)) ∧ ty σ H1 fun y H2 => tx σ H2 fun z H3 =>
  ∃ (a b : Addr) (L : List (Addr × List Int × V)) (q : List Int), x = .ref a ∧ y = .ref b ∧ H3 a = some (DTO P w a (ValF L)) ∧ (∀ p ∈ L, SqT K H3 p.1 (p.2.1.map V.int)) ∧ SqT K H3 b (q.map V.int) ∧ Q (((L.find? fun p => decide (p.2.1 = q)).map (·.2.2)).getD z) H3
theorem valF_mem {L : List (Addr × List Int × V)} {xs : List Ent} (h : ValF L xs) : ∀ x ∈ xs, ∃ p ∈ L, x.2.1 = p.1 ∧ x.1 = p.2.1 := by
  unfold ValF at h
  induction h with
  | nil => intro x hx; cases hx
  | @cons p x ps qs r _ ih =>
    intro z hz
    rcases List.mem_cons.mp hz with e | e
    · rw [e]
      exact ⟨p, List.mem_cons_self, r.1, r.2.1⟩
    · obtain ⟨p', hp', r'⟩ := ih z e
      exact ⟨p', List.mem_cons_of_mem _ hp', r'⟩
theorem pe_dgetT {o e f : Expr} {apos cpos : Pos} {td ty tx : TE} (hu : X.A.units + 64 < cLine) (ho : PE X o td) (he : PE X e ty) (hf : PE X f tx) (m : M2 X o "get" apos e f cpos) (eK : X.K = K := by rfl) (eP : X.prog = P := by rfl) (ew : X.w = w := by rfl) :
    PE X (.Call (.Attribute o "get" apos) [e, f] [] cpos) (tDGetT K P w td ty tx) := by
  subst eK eP ew
  refine ⟨fun pins s σ H Q I h => ?_⟩
  refine wpAny_Call_method m.base m.few m.line F.plainAttrs_dict F.slot_dict_get F.type_dict_get (thn (ho.run pins s σ H _ I h) fun u s1 ⟨x, H1, I1, rx, ⟨a, G, ex, hd⟩, q1⟩ => ?_)
  subst ex
  cases rx
  obtain ⟨xs, _, sysm, _, ob, es, ep, g1, g2, _⟩ := Inv.dto I1 (.inl hd)
  refine ⟨⟨ob, g1, g2.1⟩, fun c z => (by cases z; exact ⟨ob, g1, g2.2.1⟩), ?_⟩
  rw [m.trees]
  refine Calls.callWith_builtin rfl (Calls.evalArgs_plain (Calls.spliced_cons (thn (he.run pins s1 σ H1 _ I1 q1) fun iv s2 ⟨y, H2, I2, ry, q2⟩ =>
    Calls.spliced_cons (thn (hf.run pins s2 σ H2 _ I2 q2) fun fv s3 ⟨z, H3, I3, rz, a', b, L, q, ea, eb, hd3, hL, hb, q3⟩ => Calls.spliced_nil ?_))))
  cases ea
  subst eb
  cases ry
  obtain ⟨ys, hF, hraw⟩ := Inv.dto I3 (.inl hd3)
  have hkeys : ∀ x ∈ ys, IsT X.prog X.w s3.heap x.1 x.2.1 := fun x hx => by
    obtain ⟨p, hp, e1, e2⟩ := valF_mem hF x hx
    rw [e1, e2]
    exact Inv.isT I3 (hL p hp)
  have dd := hraw.full hkeys
  refine call_meetsIn F.slot_dict_get dd.typeIs F.entry_dict_get (F.args_dict_get_3 _ _ _) (meetsH_dict_get_default (TK X.prog X.w) a b hraw.1 fv) ⟨show X.A.units + 1 < cLine by omega, q, ys, Inv.isT I3 hb, dd, ?_⟩
  exact ⟨_, H3, I3.tok _, (hF.find q).getD rz, q3⟩
/-! ### for k in d -/
def ItkO (P : Program) (w : World) (d : Addr) (o : Obj) (G : List Ent → Prop) (L : List Addr) : It := ⟨fun i H => H d = some (.frz o (DTO P w d G)) ∧ i < L.length, fun i H x H' => H' = H ∧ ∃ a, L[i]? = some a ∧ x = .ref a, fun i H => H d = some (.frz o (DTO P w d G)) ∧ L.length ≤ i⟩
theorem Inv.frzO {G : List Ent → Prop} {d : Addr} {o : Obj} {L : List Addr} (I : Inv X pins σ H s) (h : H d = some (.frz o (DTO X.prog X.w d G))) (hG : ∀ xs, G xs → xs.map (·.2.1) = L) :
    (d == sysModules) = false ∧ s.heap.get? d = some o ∧ o.ExactDict ∧ ∃ (es : Array DictEntry) (ep : Nat), o.data = .dict es ep ∧ es.size = L.length ∧ ∀ (i : Nat) a, L[i]? = some a → ∃ en, es[i]? = some en ∧ en.key = .ref a := by
  obtain ⟨g0, ⟨xs, hx, sy, _, o', es, ep, g1, g2, g3, g4⟩, _⟩ := I.hok d _ h
  rw [g0] at g1
  cases g1
  have e := hG xs hx
  refine ⟨sy, g0, g2, es, ep, g3, by rw [size_of_entries g4, ← e, List.length_map], fun i a hi => ?_⟩
  rw [← e, List.getElem?_map] at hi
  obtain ⟨x, hx, rfl⟩ := Option.map_eq_some_iff.mp hi
  exact ⟨_, by rw [entry_at g4, hx] <;> rfl, rfl⟩
theorem turn_keysO {tg : Expr} {d : Addr} {o : Obj} {G : List Ent → Prop} {L : List Addr} {es : Array DictEntry} {ep : Nat} (it : Addr) (hod : o.data = .dict es ep) (hG : ∀ xs, G xs → xs.map (·.2.1) = L) : Turn P w K tg (ItkO P w d o G L) [it] it (fun i h => h.IsKeyIter it d i L.length ep) where
  mem := List.mem_singleton.mpr rfl
  obj := fun i h st b hb => by
    rw [List.mem_singleton.mp hb]
    obtain ⟨oi, e, c, dd⟩ := st
    exact ⟨oi, e, fun v z => by rw [dd] at z; cases z⟩
  keep := fun i h h' st k => st.at fun oi e => k it (List.mem_singleton.mpr rfl) oi e
  item := by
    intro X hP hw hK hc i pins s σ H E I hf st hg
    subst hP hw hK
    obtain ⟨hd, hi⟩ := hg
    obtain ⟨f0, f1, f2, f3, f4, f5⟩ := hf it (List.mem_singleton.mpr rfl)
    obtain ⟨_, g0, _, es', ep', hdt, hsz, ent⟩ := Inv.frzO I hd hG
    obtain ⟨rfl, rfl⟩ := dict_ep hod hdt
    obtain ⟨en, hen, hkey⟩ := ent i _ (List.getElem?_eq_getElem hi)
    refine next_key_item st g0 hdt hsz hen fun h' st' sb => ?_
    have I1 : Inv X pins σ H { s with heap := h' } := I.turned (t' := s.toks) (fun b ob hb e => (sb.2 b hb).trans e) f0 f1 f3 f4 f5
    obtain ⟨oi, e, c, dd⟩ := id st'
    rw [hkey]
    exact ⟨_, rfl, go_of (s := { s with heap := h' }) e c dd (by decide) ⟨.ref _, H, I1, rfl, ⟨rfl, _, List.getElem?_eq_getElem hi, rfl⟩, st', fun b hb => (hf b hb).1⟩⟩
  done := by
    intro X hP hw hK hc i pins s σ H E I hf st hg
    subst hP hw hK
    obtain ⟨hd, hi⟩ := hg
    obtain ⟨f0, f1, f2, f3, f4, f5⟩ := hf it (List.mem_singleton.mpr rfl)
    obtain ⟨_, g0, _, es', ep', hdt, hsz, _⟩ := Inv.frzO I hd hG
    obtain ⟨rfl, rfl⟩ := dict_ep hod hdt
    exact next_key_end (I.ok.hd hc) st g0 hdt hsz hi fun h' eb => ⟨rfl, I.turned (t' := s.toks) (fun b ob hb e => eb b ob hb e) f0 f1 f3 f4 f5⟩
  self := fun A i s Q E st h => wpAny_pyIter_keyiter st h
def iKeysO (P : Program) (w : World) (td : TE) : TI := fun σ H R => td σ H fun x H1 => ∃ d o G L, x = .ref d ∧ H1 d = some (.frz o (DTO P w d G)) ∧ (∀ xs, G xs → xs.map (·.2.1) = L) ∧ R (ItkO P w d o G L) H1
theorem pi_keysO {tg e : Expr} {td : TE} (he : PE X e td) (eP : X.prog = P := by rfl) (ew : X.w = w := by rfl) : PI X tg e (iKeysO P w td) := by
  subst eP ew
  refine ⟨fun pins s σ H R I h => ?_⟩
  refine thn (he.run pins s σ H _ I h) fun u s1 ⟨x, H1, I1, rx, d, o, G, L, ex, hd, hG, q⟩ => ?_
  subst ex
  cases rx
  obtain ⟨sy, g0, g1, es, ep, hdt, hsz, _⟩ := Inv.frzO I1 hd hG
  refine iter_keys sy g0 g1 hdt (pi_one (tk := s1.toks) I1 _ (turn_keysO _ hdt hG) ⟨_, Heap.get?_push_size _ rfl, rfl, ?_⟩ q)
  rw [hsz] <;> rfl
/-! ### d.update(l), l a list of pairs -/
theorem stored_keys {xs : List Ent} {k : List Int} {a : Addr} {v : Value} (q : List Int) : q ∈ (storedH xs k a v).map (·.1) ↔ q ∈ xs.map (·.1) ∨ q = k := by
  unfold storedH
  by_cases h : (atKey xs k).isSome = true
  · rw [if_pos h]
    have e : (xs.map (putAt k v)).map (·.1) = xs.map (·.1) := by
      rw [List.map_map]
      refine List.map_congr_left fun x _ => ?_
      show (putAt k v x).1 = x.1
      unfold putAt
      split <;> rfl
    rw [e]
    refine ⟨.inl, fun z => z.elim id fun z => ?_⟩
    rw [z]
    unfold atKey at h
    rw [Option.isSome_map] at h
    obtain ⟨x, hx⟩ := Option.isSome_iff_exists.mp h
    have h1 := List.mem_of_find?_eq_some hx
    have h2 := List.find?_some hx
    exact List.mem_map.mpr ⟨x, h1, by simpa using h2⟩
  · rw [if_neg h]
    simp
theorem storedAll_keys : ∀ {ps xs : List Ent} (q : List Int), q ∈ (storedAllH xs ps).map (·.1) ↔ q ∈ xs.map (·.1) ∨ q ∈ ps.map (·.1)
  | [], xs, q => by
    show q ∈ xs.map (·.1) ↔ _
    simp
  | p :: ps, xs, q => by
    have := storedAll_keys (ps := ps) (xs := storedH xs p.1 p.2.1 p.2.2) q
    show q ∈ (storedAllH (storedH xs p.1 p.2.1 p.2.2) ps).map (·.1) ↔ _
    rw [this, stored_keys, List.map_cons, List.mem_cons]
    constructor
    · rintro ((h | h) | h)
      · exact .inl h
      · exact .inr (.inl h)
      · exact .inr (.inr h)
    · rintro (h | h | h)
      · exact .inl (.inl h)
      · exact .inl (.inr h)
      · exact .inr h
def rUpdT (K : PySem.W.Frag) (P : Program) (w : World) : V → List V → Hp → VK → Prop := fun x xs H Q => ∃ (d l : Addr) (L : List (Addr × List Int)) (M : Prs), x = .ref d ∧ xs = [.ref l] ∧ H d = some (DTO P w d (KeyF L)) ∧ SqL K H l (M.map fun m => V.ref m.1) ∧ PrsAt K H M ∧ TupsAt K H L ∧ L.length + M.length ≤ 1000 ∧
  ∀ L', (∀ p ∈ L', p ∈ L ∨ p ∈ M.map fun m => (m.2.1, m.2.2.1)) → (∀ q, q ∈ L'.map (·.2) ↔ q ∈ L.map (·.2) ∨ q ∈ M.map fun m => m.2.2.1) → (L'.map (·.2)).Nodup → Q .non (upd H d (DTO P w d (KeyF L')))
theorem mt_updT (hc : X.calm = true) (hu : X.A.units + 64 < cLine) (eK : X.K = K := by rfl) (eP : X.prog = P := by rfl) (ew : X.w = w := by rfl) : MtR X "dict.update" (rUpdT K P w) := by
  subst eK eP ew
  intro pins s σ H x xs v us Q I rx rxs h
  obtain ⟨d, l, L, M, rfl, rfl, hd, hl, hM, hL, few, q⟩ := h
  cases rx
  rw [Vals.ref1 rxs]
  obtain ⟨N, e, hN⟩ := prs_vals I hM
  obtain ⟨its, rv, pl, hz⟩ := I.list hl
  have hi : its = N.map fun n => Value.ref n.1.1 := by
    have := refs_vals rv
    rw [this, ← e, List.map_map]
    rfl
  obtain ⟨ol, nl, g0, gc, gd, gdat⟩ := pl
  obtain ⟨ys, hF, hraw⟩ := Inv.dto I (.inl hd)
  have hyl : ys.length = L.length := by
    have := congrArg List.length hF
    rwa [List.length_map] at this
  have hkeys : ∀ x ∈ ys, IsT X.prog X.w s.heap x.1 x.2.1 := fun x hx => by
    have : (x.2.1, x.1) ∈ L := by
      rw [← hF]
      exact List.mem_map.mpr ⟨x, hx, rfl⟩
    exact Inv.isT I (hL _ this)
  have hlen : N.length = M.length := by rw [← e, List.length_map]
  obtain ⟨sy, nd, od, es, ep, k1, k2, k3, k4⟩ := id hraw
  have ok : PlainSeq "list" s.heap l its.toArray ∧ PairItems s.heap its.toArray (fun j => ((N[j]?).map (·.1.1)).getD 0) (N.map fun n => (Value.ref n.1.2.1, n.2)) := ⟨⟨ol, nl, g0, gc, gd, gdat⟩, prs_items hi fun n hn => (hN n hn).2.1⟩
  have off : d ∉ l :: (List.range (N.map fun n => (Value.ref n.1.2.1, n.2)).length).map fun j => ((N[j]?).map (·.1.1)).getD 0 := by
    intro z
    rcases List.mem_cons.mp z with z | z
    · rw [z, g0] at k1
      cases k1
      rw [gdat] at k3
      cases k3
    · obtain ⟨j, hj, ej⟩ := List.mem_map.mp z
      rw [List.length_map] at hj
      have hj' : N[j]? = some (N[j]'(List.mem_range.mp hj)) := List.getElem?_eq_getElem _
      rw [tsAt hj'] at ej
      obtain ⟨o2, m1, _, n2, m3⟩ := (hN _ (List.getElem_mem (List.mem_range.mp hj))).2.1
      rw [ej, k1] at m1
      cases m1
      rw [k3] at m3
      cases m3
  have stay : ∀ {g : Heap} {k : List Int} {b : Addr}, (∀ b o, b ≠ d → b ∉ ([] : List Addr) → s.heap.get? b = some o → g.get? b = some o) → IsT X.prog X.w s.heap k b → IsT X.prog X.w g k b := fun {g k b} hk x => by
    obtain ⟨ob, it, m, z1, z2, z3, r⟩ := x
    refine ⟨ob, it, m, hk _ _ (fun z => ?_) (by simp) z1, z2, z3, r⟩
    rw [z, k1] at z1
    cases z1
    rw [k3] at z3
    cases z3
  refine call_update_pairsH (PairArg.list l its.toArray _ _) (I.ok.hd hc) (show X.A.units + 1 < cLine by omega) ok off prs_have (fun g hk x hx => ?_) (hraw.full hkeys) (by rw [List.length_map, hyl, sizeLine_eq]; omega) fun g tk hd' hk => ?_
  · rcases List.mem_append.mp hx with z | z
    · exact stay hk (hkeys x z)
    · obtain ⟨n, hn, ex⟩ := List.mem_map.mp z
      subst ex
      exact stay hk (hN n hn).2.2
  · generalize hzs : storedAllH ys (N.map fun n => ((n.1.2.2.1, n.1.2.1, n.2) : Ent)) = zs at hd'
    have he : ∃ u, g.get? d = some u := by
      obtain ⟨o, _, _, z, _⟩ := hd'
      exact ⟨o, z⟩
    have I' : Inv X pins σ (upd H d (DTO X.prog X.w d (KeyF (zs.map fun x => (x.2.1, x.1))))) { s with heap := g, toks := tk } :=
      I.write (e := d) (t' := tk) (by rw [hd]; trivial) (.inl rfl) (fun c u hc hu => hk c u hc (by simp) hu) he (dto_ok rfl (raw_of hd' sy))
    have e1 : (zs.map fun x => (x.2.1, x.1)).map (·.2) = zs.map (·.1) := by rw [List.map_map] <;> rfl
    have e2 : (N.map fun n => ((n.1.2.2.1, n.1.2.1, n.2) : Ent)).map (·.1) = M.map fun m => m.2.2.1 := nodup_ent e
    have e3 : ys.map (·.1) = L.map (·.2) := by rw [← hF, List.map_map] <;> rfl
    refine ⟨.non, _, I', rfl, q _ (fun p hp => ?_) (fun k => ?_) ?_⟩
    · obtain ⟨x, hx, rfl⟩ := List.mem_map.mp hp
      rw [← hzs] at hx
      exact storedAllH_keys (P := fun k a => (a, k) ∈ L ∨ (a, k) ∈ M.map fun m => (m.2.1, m.2.2.1)) (fun x hx => .inl (by rw [← hF]; exact List.mem_map.mpr ⟨x, hx, rfl⟩)) (fun x hx => .inr (by
        obtain ⟨n, hn, ex⟩ := List.mem_map.mp hx
        subst ex
        rw [← e, List.map_map]
        exact List.mem_map.mpr ⟨n, hn, rfl⟩)) x hx
    · rw [e1, ← hzs, storedAll_keys, e2, e3]
    · rw [e1]
      exact hd'.nodup
end
end Fm
/-! sorted of a dict whose keys are tuples of ints of any lengths. -/
namespace Fm
open PySem PySem.Spec PyProof.Rows L2 PySem.W
section
variable {P : Program} {w : World} {A : Around} {E : Value → Shared → Prop} {s : Shared}
theorem refs_each {h : Heap} : ∀ M : List (Addr × List Int), (∀ q ∈ M, IsT P w h q.2 q.1) → EachIs (fun (v : Value) (b : Addr × List Int) => ∃ as, Reads h v (.tuple (b.2.map .int)) as) (M.map fun q => Value.ref q.1) M
  | [], _ => .nil
  | q :: M, h => .cons (by
      obtain ⟨o, its, n, ho, hc, hd, hk⟩ := h q List.mem_cons_self
      exact ⟨_, .tuple ho hc hd (ints_readAll _ (ints_of_items hk))⟩) (refs_each M fun r hr => h r (List.mem_cons_of_mem _ hr))
theorem refs_self : ∀ M : List (Addr × List Int), EachIs (fun (v : Value) (b : Addr × List Int) => v = Value.ref b.1) (M.map fun q => Value.ref q.1) M
  | [] => .nil
  | _ :: M => .cons rfl (refs_self M)
theorem each_refs : ∀ {us : List Value} {M : List (Addr × List Int)}, EachIs (fun (v : Value) (b : Addr × List Int) => v = Value.ref b.1) us M → us = M.map fun q => Value.ref q.1
  | _, _, .nil => rfl
  | _, _, .cons e t => by rw [e, each_refs t, List.map_cons]
theorem sorted_seen {a : Addr} {L : List (Addr × List Int)} {Q : Value → Shared → Prop} (ht : ∀ p ∈ L, IsT P w s.heap p.2 p.1) (nd : (L.map (·.2)).Nodup) (few : L.length < 64) (hu : A.units + 64 < cLine)
    (col : ∀ (E' : Value → Shared → Prop) (R : List Value → Shared → Prop), (∀ h' tk, (∀ b o, s.heap.get? b = some o → h'.get? b = some o) → R (L.map fun p => Value.ref p.1) { s with heap := h', toks := tk }) → wpAny (model P w) A.in1 (collect (.ref a)) R E' s)
    (hQ : ∀ (h1 h' : Heap) (tk : Nat) p (out : Array Value) (c : Nat) (L' : List (Addr × List Int)), (∀ b o, s.heap.get? b = some o → h1.get? b = some o) → (∀ b o, h1.get? b = some o → h'.get? b = some o) → h1.objs.size ≤ p →
      h'.get? p = some (seqObj "list" out c) → out.toList = L'.map (fun q => Value.ref q.1) → L'.Perm L → L'.Pairwise (fun q r => HT.lexLt q.2 r.2 = true) → Q (.ref p) { s with heap := h', toks := tk }) :
    wpAny (model P w) A (call (.builtin "sorted") [.ref a]) Q E s := by
  refine Calls.call_function_entry kind_sorted plain_sorted entry_sorted (args_sorted1 _) ?_
  unfold Builtin.«sorted»
  refine wpAny_bind (m := checkCount "sorted" 1 1 _) (wpAny_pure ?_)
  refine wpAny_bind (col _ _ fun h1 tk1 k1 => ?_)
  obtain ⟨vs, hvs⟩ : ∃ vs, vs = L.map fun p => Value.ref p.1 := ⟨_, rfl⟩
  rw [← hvs]
  have hvl : vs.length < 64 := by rw [hvs, List.length_map]; exact few
  refine wpAny_bind (wpAny_newList ?_ (by rw [sizeLine_eq]; omega))
  have hoL : (h1.push (seqObj "list" vs.toArray 0)).get? h1.objs.size = some (seqObj "list" vs.toArray 0) := Heap.get?_push_size _ rfl
  have up : ∀ b u, s.heap.get? b = some u → (sortingHeap (h1.push (seqObj "list" vs.toArray 0)) h1.objs.size vs).get? b = some u := fun b u z => by
    have q1 := k1 b u z
    exact sortingHeap_old (Nat.ne_of_lt (Heap.lt_size q1)) (Heap.get?_push_of_some _ q1)
  have er := refs_each (P := P) (w := w) (h := sortingHeap (h1.push (seqObj "list" vs.toArray 0)) h1.objs.size vs) L fun q hq => isT_keep (ht q hq) up
  have e0 := refs_self L
  rw [← hvs] at er e0
  have hal : AllAlike (L.map fun b => PyData.tuple (b.2.map .int)) := AllAlike.of fun b b' => by
    show alikeAll (b.2.map .int) (b'.2.map .int) = true
    exact alike_ints _ _
  have S := FmSort.sortsAt_tups (prog := P) (w := w) (A := A.in1.in1) (s := { s with heap := sortingHeap (h1.push (seqObj "list" vs.toArray 0)) h1.objs.size vs, toks := tk1 }) (each_map (R := fun v d => ∃ as, Reads (sortingHeap (h1.push (seqObj "list" vs.toArray 0)) h1.objs.size vs) v d as) (fun b : Addr × List Int => PyData.tuple (b.2.map .int)) er) hal (fun d hd => by
    obtain ⟨b, _, rfl⟩ := List.mem_map.mp hd
    exact ⟨_, rfl⟩) (fun d hd => by
    obtain ⟨b, _, rfl⟩ := List.mem_map.mp hd
    have z : (PyData.tuple (b.2.map .int)).depth = 1 := by
      show PyData.depthAll (b.2.map .int) + 1 = 1
      rw [depth_ints]
    show A.units + 1 + 1 + (PyData.tuple (b.2.map .int)).depth < cLine
    omega)
  refine wpAny_bind (wpAny_holding (wpAny_call_entry slot_list_sort ⟨_, hoL, rfl⟩ entry_list_sort (list_sort_vals (s := { s with heap := h1.push (seqObj "list" vs.toArray 0), toks := tk1 }) hoL S (by rw [sizeLine_eq]; omega) ⟨_, rfl, ?_⟩) (args_list_sort _)))
  have eo := sortVals_data (R := fun (v : Value) (b : Addr × List Int) => v = Value.ref b.1) false e0 er hal
  generalize sortVals (dataKind (sortingHeap (h1.push (seqObj "list" vs.toArray 0)) h1.objs.size vs) (L.map fun b => PyData.tuple (b.2.map .int))) false vs vs = out at eo ⊢
  obtain ⟨c, hc⟩ := sortedHeap_at (vs := vs) (out := out.toArray) hoL
  refine wpAny_pure ⟨_, rfl, hQ h1 _ tk1 h1.objs.size out.toArray c _ k1 (fun b u z => ?_) (Nat.le_refl _) hc (by rw [List.toList_toArray]; exact each_refs eo) (List.mergeSort_perm _ _) (sorted_lt (fun b : Addr × List Int => b.2) L nd)⟩
  have hlt := Heap.lt_size z
  show (sortedHeap (h1.push (seqObj "list" vs.toArray 0)) h1.objs.size vs out.toArray).get? b = some u
  rw [sortedHeap_old (Nat.ne_of_lt hlt) (by rw [size_push']; exact Nat.lt_succ_of_lt hlt)]
  exact Heap.get?_push_of_some _ z
end
section
variable {X : Cx} {K : PySem.W.Frag} {P : Program} {w : World}
def rSortDK (K : PySem.W.Frag) (P : Program) (w : World) : List V → Hp → VK → Prop := fun vs H Q => ∃ (a : Addr) (L : List (Addr × List Int)), vs = [V.ref a] ∧ H a = some (DTO P w a (KeyF L)) ∧ TupsAt K H L ∧ L.length < 64 ∧
  ∀ (L' : List (Addr × List Int)) (p : Addr), L'.Perm L → L'.Pairwise (fun q r => HT.lexLt q.2 r.2 = true) → H p = none → Q (.ref p) (upd H p (.lst (L'.map fun q => V.ref q.1)))
theorem call_sortDK (hc : X.calm = true) (hu : X.A.units + 64 < cLine) (eK : X.K = K := by rfl) (eP : X.prog = P := by rfl) (ew : X.w = w := by rfl) : CallR X (.builtin "sorted") (rSortDK K P w) := by
  subst eK eP ew
  intro pins s σ H vs us Q I r h
  obtain ⟨a, L, rfl, ha, hk, few, q⟩ := h
  rw [Vals.ref1 r]
  obtain ⟨xs, hF, hraw⟩ := Inv.dto I (.inl ha)
  have hT : ∀ p ∈ L, IsT X.prog X.w s.heap p.2 p.1 := fun p hp => Inv.isT I (hk p hp)
  have nd : (L.map (·.2)).Nodup := by
    have e : L.map (·.2) = xs.map (·.1) := by
      rw [← hF, List.map_map]
      rfl
    rw [e]
    exact hraw.2.1
  obtain ⟨sy, _, o, es, ep, k1, k2, k3, k4⟩ := id hraw
  have hxl : xs.length = L.length := by
    rw [← hF, List.length_map]
  have hes : es.size = xs.length := size_of_entries k4
  have dr : s.heap.DictRaw a es ep := ⟨o, k1, k2, k3⟩
  refine sorted_seen hT nd few hu (fun E' R hR => ?_) fun h1 h' tk p out c L' kA kB hp hg hout pm pw => ?_
  · refine kdu_collect (A := X.A.in1) (KdlSrc.rawDict (es := es) (ep := ep) sy) (I.ok.hd hc) dr (by rw [hes, hxl, sizeLine_eq]; omega) fun h' tk acc hk' hacc => ?_
    have e : acc.toList = L.map fun p => Value.ref p.1 := by
      refine List.ext_getElem? fun j => ?_
      rw [← hF, List.map_map, List.getElem?_map]
      cases hx : xs[j]? with
      | none =>
        have hj : xs.length ≤ j := List.getElem?_eq_none_iff.mp hx
        rw [List.getElem?_eq_none (by rw [Array.length_toList, hacc.1, hes]; exact hj)] <;> rfl
      | some x =>
        have hj : j < es.size := by
          rw [hes]
          exact (List.getElem?_eq_some_iff.mp hx).1
        have hj2 : j < acc.size := by rw [hacc.1]; exact hj
        have ha2 : acc[j]? = some acc[j] := Array.getElem?_eq_getElem hj2
        obtain ⟨hi, hv⟩ := hacc.2 j _ ha2
        have he := entry_at k4 j
        rw [hx, Array.getElem?_eq_getElem hi] at he
        have he' := Option.some.inj he
        rw [Array.getElem?_toList, ha2, hv, he'] <;> rfl
    rw [e]
    exact hR h' tk hk'
  · have hfew : L'.length < 64 := by rw [pm.length_eq]; exact few
    have I1 : Inv X pins σ H { s with heap := h1 } := I.kept (t' := s.toks) kA
    have hn : H p = none := I1.hok.fresh hp
    have hlen : (L'.map fun q => V.ref q.1).length ≤ sizeLine := by rw [List.length_map, sizeLine_eq]; omega
    have hv : Vals (L'.map fun q => V.ref q.1) out.toList := by rw [hout]; exact vals_of_refs L'
    exact ⟨.ref p, _, I1.laid (t' := tk) kB hp (show ObjOk X.prog X.w _ h' p (.lst (L'.map fun q => V.ref q.1)) from ⟨hlen, out.toList, c, hv, hg⟩), rfl, q L' p pm pw hn⟩
end
end Fm
namespace Fm
open PySem PySem.Spec PyProof.Rows L2 PySem.W
section
variable {X : Cx} {K : PySem.W.Frag} {P : Program} {w : World}
def tUpdT (K : PySem.W.Frag) (P : Program) (w : World) (to : TE) (t : TA) : TE := fun σ H Q => to σ H fun x H1 => (∃ a G, x = V.ref a ∧ H1 a = some (DTO P w a G)) ∧ t σ H1 fun xs H2 => rUpdT K P w x xs H2 Q
theorem pe_updT {o e : Expr} {to : TE} {t : TA} {apos cpos : Pos} (hc : X.calm = true) (hu : X.A.units + 64 < cLine) (ho : PE X o to) (ha : PA X [e] t)
    (b1 : attributeBase o "update" X.env (eval o X.env) = eval o X.env := by rfl)
    (b2 : ((backTo cpos (starEach [e] X.env)).all (fun x => !x.1) && (backToKw cpos (keywordEach [] X.env)).all (fun x => x.1.isSome) && decide (([e] : List Expr).length + ([] : List Keyword).length + (if ([] : List Keyword).isEmpty then 0 else 1) < 30)) = true := by rfl)
    (b3 : (apos.endLine == cpos.line) = true := by rfl) (b4 : starEach [e] X.env = [(false, eval e X.env)] := by rfl) (eK : X.K = K := by rfl) (eP : X.prog = P := by rfl) (ew : X.w = w := by rfl) :
    PE X (.Call (.Attribute o "update" apos) [e] [] cpos) (tUpdT K P w to t) := by
  subst eK eP ew
  refine ⟨fun pins s σ H Q I h => ?_⟩
  refine wpAny_Call_method_late b1 b2 b3 rfl (thn (ho.run pins s σ H _ I h) fun v s1 ⟨x, H1, I1, r1, ty, q1⟩ => ?_)
  obtain ⟨a, G, rfl, hka⟩ := ty
  cases r1
  obtain ⟨xs, _, _, _, ob, es, ep, g1, g2, _⟩ := Inv.dto I1 (.inl hka)
  refine ⟨"dict", "dict.update", F.plainAttrs_dict, F.slot_dict_update, F.type_dict_update, ⟨ob, g1, g2.1⟩, fun c e => (by cases e; exact ⟨ob, g1, g2.2.1⟩), ?_⟩
  have hA := ha.run cpos pins s1 σ H1 _ I1 q1
  rw [b4] at hA ⊢
  refine Calls.callWith_builtin rfl (Calls.evalArgs_plain (thn hA fun us s2 ⟨vs, H2, I2, r2, q2⟩ => (mt_updT hc hu) pins s2 σ H2 (.ref a) vs (.ref a) us Q I2 rfl r2 q2))
end
end Fm
/-! Dicts whose keys are boxes: pairs of tuples of ints, wherever these stand. -/
namespace Fm
open PySem PySem.Spec PyProof.Rows L2 PySem.W
/-- the key of a box -/
def bk (q : List Int × List Int) : NestedKey := .tup [.tup (q.1.map NestedKey.num), .tup (q.2.map NestedKey.num)]
theorem num_inj : ∀ {a b : List Int}, a.map NestedKey.num = b.map NestedKey.num → a = b
  | [], [], _ => rfl
  | x :: a, y :: b, h => by
    rw [List.map_cons, List.map_cons] at h
    injection h with h1 h2
    injection h1 with h1
    rw [h1, num_inj h2]
  | [], _ :: _, h => by cases h
  | _ :: _, [], h => by cases h
theorem bk_inj {p q : List Int × List Int} (h : bk p = bk q) : p = q := by
  unfold bk at h
  injection h with h
  injection h with h1 h2
  injection h1 with h1
  injection h2 with h2 _
  injection h2 with h2
  exact Prod.ext (num_inj h1) (num_inj h2)
abbrev NK (P : Program) (w : World) : HeapKind P w NestedKey := nestedKind P w
abbrev EntB := NestedKey × Addr × Value
abbrev BoxL := List (Addr × (List Int × List Int) × V)
section
variable {P : Program} {w : World} {h h' : Heap} {a : Addr} {xs : List EntB}
def BRaw (P : Program) (w : World) (h : Heap) (a : Addr) (xs : List EntB) : Prop := (a == sysModules) = false ∧ (xs.map (·.1)).Nodup ∧ ∃ o es ep, h.get? a = some o ∧ o.ExactDict ∧ o.data = .dict es ep ∧ es.toList = xs.map (entryOfKey (NK P w))
def ValB (L : BoxL) : List EntB → Prop := fun xs => Paired (fun p (x : EntB) => x.2.1 = p.1 ∧ x.1 = bk p.2.1 ∧ RelV p.2.2 x.2.2) L xs
def DBO (P : Program) (w : World) (a : Addr) (L : BoxL) : HO := .ext fun h => ∃ xs, ValB L xs ∧ BRaw P w h a xs
theorem BRaw.full (d : BRaw P w h a xs) (ht : ∀ x ∈ xs, (NK P w).is h x.1 x.2.1) : h.DictOfH (NK P w) a xs := by
  obtain ⟨_, nd, o, es, ep, h1, h2, h3, h4⟩ := d
  exact ⟨o, es, ep, h1, h2, h3, h4, ht, nd⟩
theorem braw_of (m : h.DictOfH (NK P w) a xs) (hs : (a == sysModules) = false) : BRaw P w h a xs := by
  obtain ⟨o, es, ep, h1, h2, h3, h4, _, nd⟩ := m
  exact ⟨hs, nd, o, es, ep, h1, h2, h3, h4⟩
theorem dbo_ok {L : BoxL} {H : Hp} (hF : ValB L xs) (d : BRaw P w h a xs) : ObjOk P w H h a (DBO P w a L) := by
  have ⟨_, _, o, es, ep, h1, _⟩ := d
  refine ⟨⟨xs, hF, d⟩, ⟨o, h1⟩, fun g1 g2 p k => ?_⟩
  have ⟨ys, hy, hs, nd, o', es', ep', k1, r⟩ := p
  exact ⟨ys, hy, hs, nd, o', es', ep', k _ k1, r⟩
/-- what the dict has for a box -/
def findB (L : BoxL) (q : List Int × List Int) : Option V := (L.find? fun p => decide (p.2.1 = q)).map (·.2.2)
theorem ValB.find {L : BoxL} {xs : List EntB} (h : ValB L xs) (q : List Int × List Int) : RelO (findB L q) ((atKey xs (bk q)).map (·.2)) := by
  unfold ValB at h
  unfold findB
  induction h with
  | nil => exact True.intro
  | @cons p x ps qs r _ ih =>
    obtain ⟨_, r2, r3⟩ := r
    by_cases e : p.2.1 = q
    · have b : atKey (x :: qs) (bk q) = some x.2 := by simp [atKey, List.find?_cons, r2, e]
      rw [b, List.find?_cons]
      simp only [e, decide_true, Option.map_some]
      exact r3
    · have e' : ¬ bk p.2.1 = bk q := fun z => e (bk_inj z)
      have b : atKey (x :: qs) (bk q) = atKey qs (bk q) := by simp [atKey, List.find?_cons, r2, e']
      rw [b, List.find?_cons]
      simp only [e, decide_false]
      exact ih
theorem valB_mem {L : BoxL} {xs : List EntB} (h : ValB L xs) : ∀ x ∈ xs, ∃ p ∈ L, x.2.1 = p.1 ∧ x.1 = bk p.2.1 := by
  unfold ValB at h
  induction h with
  | nil => intro x hx; cases hx
  | @cons p x ps qs r _ ih =>
    intro z hz
    rcases List.mem_cons.mp hz with e | e
    · rw [e]
      exact ⟨p, List.mem_cons_self, r.1, r.2.1⟩
    · obtain ⟨p', hp', r'⟩ := ih z e
      exact ⟨p', List.mem_cons_of_mem _ hp', r'⟩
theorem valB_addrs {L : BoxL} {xs : List EntB} (h : ValB L xs) : xs.map (·.2.1) = L.map (·.1) := by
  unfold ValB at h
  induction h with
  | nil => rfl
  | cons r _ ih => rw [List.map_cons, List.map_cons, ih, r.1]
end
section
variable {X : Cx} {K : PySem.W.Frag} {P : Program} {w : World} {pins : List (Addr × Obj)} {σ : L2.St} {H : Hp} {s : Shared}
/-- at b: the box q -/
def BoxAt (K : PySem.W.Frag) (H : Hp) (b : Addr) (q : List Int × List Int) : Prop := ∃ pa wa, SqT K H b [.ref pa, .ref wa] ∧ SqT K H pa (q.1.map V.int) ∧ SqT K H wa (q.2.map V.int)
theorem num_all {h : Heap} : ∀ {c : List Int} {us : List Value}, Vals (c.map V.int) us → NestedAll h (c.map NestedKey.num) us
  | [], _, .nil => .nil
  | _ :: _, _, .cons r t => by
    obtain ⟨u, rfl⟩ := r
    exact .cons (.int _ u) (num_all t)
theorem num_key {H : Hp} (I : Inv X pins σ H s) {a : Addr} {c : List Int} (h : SqT X.K H a (c.map V.int)) : NestedIs s.heap (.tup (c.map NestedKey.num)) (.ref a) := by
  obtain ⟨its, r, ⟨o, ho, hc, n, hd⟩, _⟩ := I.tuple h
  exact .tup ho hc hd (by simpa using num_all r)
theorem num_depth : ∀ c : List Int, NestedKey.depthAll (c.map NestedKey.num) = 0
  | [] => rfl
  | x :: c => by
    rw [List.map_cons]
    unfold NestedKey.depthAll
    rw [num_depth c]
    rfl
theorem Inv.boxKey (I : Inv X pins σ H s) {b : Addr} {q : List Int × List Int} (h : BoxAt X.K H b q) : (NK X.prog X.w).is s.heap (bk q) b := by
  obtain ⟨pa, wa, h1, h2, h3⟩ := h
  obtain ⟨its, r, ⟨o, ho, hc, n, hd⟩, _⟩ := I.tuple h1
  refine ⟨.tup ho hc hd ?_, ?_⟩
  · cases r with
    | cons r1 rr =>
      cases rr with
      | cons r2 rn =>
        cases rn
        cases r1
        cases r2
        exact .cons (num_key I h2) (.cons (num_key I h3) .nil)
  · show NestedKey.depth (.tup [.tup (q.1.map NestedKey.num), .tup (q.2.map NestedKey.num)]) ≤ 8
    simp [NestedKey.depth, NestedKey.depthAll, num_depth]
theorem Inv.dbo {L : BoxL} {a : Addr} (I : Inv X pins σ H s) (h : Rd H a (DBO X.prog X.w a L)) : ∃ xs, ValB L xs ∧ BRaw X.prog X.w s.heap a xs := (h.ok I.hok).1
def BoxesAt (K : PySem.W.Frag) (H : Hp) (L : BoxL) : Prop := ∀ p ∈ L, BoxAt K H p.1 p.2.1
theorem boxes_full (I : Inv X pins σ H s) {L : BoxL} {a : Addr} {xs : List EntB} (hF : ValB L xs) (d : BRaw X.prog X.w s.heap a xs) (h : BoxesAt X.K H L) : s.heap.DictOfH (NK X.prog X.w) a xs := d.full fun x hx => by
  obtain ⟨p, hp, e1, e2⟩ := valB_mem hF x hx
  rw [e1, e2]
  exact Inv.boxKey I (h p hp)
/-- {} -/
def tDNewB (P : Program) (w : World) : TE := fun _ H Q => ∀ p, H p = none → Q (.ref p) (upd H p (DBO P w p []))
theorem pe_dnewB {pos : Pos} (eP : X.prog = P := by rfl) (ew : X.w = w := by rfl) : PE X (.Dict [] [] pos) (tDNewB P w) := by
  subst eP ew
  refine ⟨fun pins s σ H Q I h => ?_⟩
  have hs : (s.heap.objs.size == sysModules) = false := beq_eq_false_iff_ne.mpr (Ne.symm (Nat.ne_of_lt I.big))
  exact wpAny_Dict_empty ⟨.ref s.heap.objs.size, _, I.laid (a := s.heap.objs.size) (o := DBO X.prog X.w s.heap.objs.size []) (t' := s.toks) (fun _ _ q => Heap.get?_push_of_some _ q) (Nat.le_refl _) (dbo_ok (xs := []) .nil (braw_of (Heap.DictOfH.new s.heap) hs)), rfl, h _ (I.hok.fresh (Nat.le_refl _))⟩
/-- b not in d -/
def rNotInB (K : PySem.W.Frag) (P : Program) (w : World) : R2 := fun x y H Q => ∃ (b a : Addr) (q : List Int × List Int) (L : BoxL), x = .ref b ∧ y = .ref a ∧ H a = some (DBO P w a L) ∧ BoxesAt K H L ∧ BoxAt K H b q ∧ Q (.bl (!(findB L q).isSome)) H
theorem op_notinB (hu : X.A.units + 64 < cLine) (eK : X.K = K := by rfl) (eP : X.prog = P := by rfl) (ew : X.w = w := by rfl) : OpR X (compareOp .NotIn) (rNotInB K P w) := by
  subst eK eP ew
  intro pins s σ H x y v u Q I rx ry h
  obtain ⟨b, a, q, L, rfl, rfl, ha, hL, hb, hq⟩ := h
  cases rx
  cases ry
  obtain ⟨xs, hF, hd⟩ := Inv.dbo I (.inl ha)
  refine wpAny_notIn_heap (knd := NK X.prog X.w) (show X.A.units + 1 + 8 < cLine by omega) (Inv.boxKey I hb) hd.1 (boxes_full I hF hd hL) ?_
  have e : (findB L q).isSome = (atKey xs (bk q)).isSome := by
    rw [(hF.find q).isSome_eq, Option.isSome_map]
  rw [e] at hq
  exact ⟨.bl (!(atKey xs (bk q)).isSome), H, I.tok _, rfl, hq⟩
/-- d[b] = v, b a new key -/
def sDPutB (K : PySem.W.Frag) (P : Program) (w : World) (td ty tv : TE) : TS := fun D σ H => tv σ H fun v H1 => td σ H1 fun x H2 => ty σ H2 fun y H3 => ∃ (a b : Addr) (q : List Int × List Int) (L : BoxL), x = .ref a ∧ y = .ref b ∧ H3 a = some (DBO P w a L) ∧ BoxesAt K H3 L ∧ BoxAt K H3 b q ∧ findB L q = none ∧ L.length ≤ 100000 ∧
  D.nx σ (upd H3 a (DBO P w a (L ++ [(b, q, v)])))
theorem ps_dputB {o i value : Expr} {pos pos' : Pos} {td ty tv : TE} (hu : X.A.units + 64 < cLine) (ho : PE X o td) (hi : PE X i ty) (hv : PE X value tv) (hs : swapsWith value (some (.Subscript o i pos')) pos.line X.env = pure false) (eK : X.K = K := by rfl) (eP : X.prog = P := by rfl) (ew : X.w = w := by rfl) :
    PS X (.Assign [.Subscript o i pos'] value pos) (sDPutB K P w td ty tv) := by
  subst eK eP ew
  refine ⟨fun pins s σ H D I h => ?_⟩
  refine wpAny_Assign_Subscript (thn (hv.run pins s σ H _ I h) fun r s1 ⟨v, H1, I1, rv, q1⟩ => thn (ho.run pins s1 σ H1 _ I1 q1) fun u s2 ⟨x, H2, I2, rx, q2⟩ => thn (hi.run pins s2 σ H2 _ I2 q2) fun iv s3 ⟨y, H3, I3, ry, a, b, q, L, ex, ey, ha, hL, hb, hn, hl, q3⟩ => ?_) hs
  subst ex ey
  cases rx
  cases ry
  obtain ⟨xs, hF, hd⟩ := Inv.dbo I3 (.inl ha)
  have hxl : xs.length = L.length := (Paired.length hF).symm
  refine wpAny_setItem_heap (knd := NK X.prog X.w) (hsz := by rw [hxl, sizeLine_eq]; omega) (show X.A.units + 1 + 8 < cLine by omega) (Inv.boxKey I3 hb) (boxes_full I3 hF hd hL) fun h' hm sb => ?_
  have he : ∃ u, h'.get? a = some u := by
    obtain ⟨o, _, _, z, _⟩ := hm
    exact ⟨o, z⟩
  have hno : ¬ (atKey xs (bk q)).isSome = true := by
    have e : (findB L q).isSome = (atKey xs (bk q)).isSome := by
      rw [(hF.find q).isSome_eq, Option.isSome_map]
    rw [← e, hn]
    exact Bool.false_ne_true
  have es : storedH xs (bk q) b r = xs ++ [(bk q, b, r)] := by
    unfold storedH
    rw [if_neg hno]
  rw [es] at hm
  exact ⟨σ, _, I3.write (e := a) (t' := s3.toks + (NK X.prog X.w).draws (bk q)) (by rw [ha]; trivial) (.inl rfl) (fun c u hc hu => (sb.2 c hc).trans hu) he (dbo_ok (Paired.snoc hF ⟨rfl, rfl, rv⟩) (braw_of hm hd.1)), q3⟩
/-- d[b] -/
def tDGetB (K : PySem.W.Frag) (P : Program) (w : World) (td ty : TE) : TE := fun σ H Q => td σ H fun x H1 => ty σ H1 fun y H2 => ∃ (a b : Addr) (q : List Int × List Int) (L : BoxL) (v : V), x = .ref a ∧ y = .ref b ∧ H2 a = some (DBO P w a L) ∧ BoxesAt K H2 L ∧ BoxAt K H2 b q ∧ findB L q = some v ∧ Q v H2
theorem pe_dgetB {o i : Expr} {pos : Pos} {td ty : TE} (hu : X.A.units + 64 < cLine) (ho : PE X o td) (hi : PE X i ty) (hs : NoSl i) (eK : X.K = K := by rfl) (eP : X.prog = P := by rfl) (ew : X.w = w := by rfl) : PE X (.Subscript o i pos) (tDGetB K P w td ty) := by
  subst eK eP ew
  refine ⟨fun pins s σ H Q I h => ?_⟩
  refine subD_of PySem.F.slot_dict_getitem.lookup hs (thn (ho.run pins s σ H _ I h) fun u s1 ⟨x, H1, I1, rx, q1⟩ => thn (hi.run pins s1 σ H1 _ I1 q1) fun iv s2 ⟨y, H2, I2, ry, a, b, q, L, v, ex, ey, ha, hL, hb, hv, q2⟩ => ?_)
  subst ex ey
  cases rx
  cases ry
  obtain ⟨xs, hF, hd⟩ := Inv.dbo I2 (.inl ha)
  have dd := boxes_full I2 hF hd hL
  have rl := hF.find q
  rw [hv] at rl
  cases hz : atKey xs (bk q) with
  | none =>
    rw [hz] at rl
    exact (show False from rl).elim
  | some p =>
    rw [hz] at rl
    exact ⟨dd.typeIs, wpAny_getItem_heap (knd := NK X.prog X.w) (show X.A.units + 1 + 8 < cLine by omega) (Inv.boxKey I2 hb) dd hz ⟨_, H2, I2.tok _, rl, q2⟩⟩
/-! ### for b in d -/
def ItkB (P : Program) (w : World) (d : Addr) (o : Obj) (L : BoxL) : It := ⟨fun i H => H d = some (.frz o (DBO P w d L)) ∧ i < L.length, fun i H x H' => H' = H ∧ ∃ p, L[i]? = some p ∧ x = .ref p.1, fun i H => H d = some (.frz o (DBO P w d L)) ∧ L.length ≤ i⟩
theorem Inv.frzB {d : Addr} {o : Obj} {L : BoxL} (I : Inv X pins σ H s) (h : H d = some (.frz o (DBO X.prog X.w d L))) :
    (d == sysModules) = false ∧ s.heap.get? d = some o ∧ o.ExactDict ∧ ∃ (es : Array DictEntry) (ep : Nat), o.data = .dict es ep ∧ es.size = L.length ∧ ∀ (i : Nat) p, L[i]? = some p → ∃ en, es[i]? = some en ∧ en.key = .ref p.1 := by
  obtain ⟨g0, ⟨xs, hx, sy, _, o', es, ep, g1, g2, g3, g4⟩, _⟩ := I.hok d _ h
  rw [g0] at g1
  cases g1
  have e := valB_addrs hx
  refine ⟨sy, g0, g2, es, ep, g3, by rw [size_of_entries g4, ← Paired.length hx], fun i p hi => ?_⟩
  have hi2 : (xs.map (·.2.1))[i]? = some p.1 := by
    rw [e, List.getElem?_map, hi] <;> rfl
  rw [List.getElem?_map] at hi2
  obtain ⟨x, hx, e2⟩ := Option.map_eq_some_iff.mp hi2
  refine ⟨_, by rw [entry_at g4, hx] <;> rfl, ?_⟩
  rw [← e2]
  rfl
theorem turn_keysB {tg : Expr} {d : Addr} {o : Obj} {L : BoxL} {es : Array DictEntry} {ep : Nat} (it : Addr) (hod : o.data = .dict es ep) : Turn P w K tg (ItkB P w d o L) [it] it (fun i h => h.IsKeyIter it d i L.length ep) where
  mem := List.mem_singleton.mpr rfl
  obj := fun i h st b hb => by
    rw [List.mem_singleton.mp hb]
    obtain ⟨oi, e, c, dd⟩ := st
    exact ⟨oi, e, fun v z => by rw [dd] at z; cases z⟩
  keep := fun i h h' st k => st.at fun oi e => k it (List.mem_singleton.mpr rfl) oi e
  item := by
    intro X hP hw hK hc i pins s σ H E I hf st hg
    subst hP hw hK
    obtain ⟨hd, hi⟩ := hg
    obtain ⟨f0, f1, f2, f3, f4, f5⟩ := hf it (List.mem_singleton.mpr rfl)
    obtain ⟨_, g0, _, es', ep', hdt, hsz, ent⟩ := Inv.frzB I hd
    obtain ⟨rfl, rfl⟩ := dict_ep hod hdt
    obtain ⟨en, hen, hkey⟩ := ent i _ (List.getElem?_eq_getElem hi)
    refine next_key_item st g0 hdt hsz hen fun h' st' sb => ?_
    have I1 : Inv X pins σ H { s with heap := h' } := I.turned (t' := s.toks) (fun b ob hb e => (sb.2 b hb).trans e) f0 f1 f3 f4 f5
    obtain ⟨oi, e, c, dd⟩ := id st'
    rw [hkey]
    exact ⟨_, rfl, go_of (s := { s with heap := h' }) e c dd (by decide) ⟨.ref _, H, I1, rfl, ⟨rfl, _, List.getElem?_eq_getElem hi, rfl⟩, st', fun b hb => (hf b hb).1⟩⟩
  done := by
    intro X hP hw hK hc i pins s σ H E I hf st hg
    subst hP hw hK
    obtain ⟨hd, hi⟩ := hg
    obtain ⟨f0, f1, f2, f3, f4, f5⟩ := hf it (List.mem_singleton.mpr rfl)
    obtain ⟨_, g0, _, es', ep', hdt, hsz, _⟩ := Inv.frzB I hd
    obtain ⟨rfl, rfl⟩ := dict_ep hod hdt
    exact next_key_end (I.ok.hd hc) st g0 hdt hsz hi fun h' eb => ⟨rfl, I.turned (t' := s.toks) (fun b ob hb e => eb b ob hb e) f0 f1 f3 f4 f5⟩
  self := fun A i s Q E st h => wpAny_pyIter_keyiter st h
def iKeysB (P : Program) (w : World) (td : TE) : TI := fun σ H R => td σ H fun x H1 => ∃ d o L, x = .ref d ∧ H1 d = some (.frz o (DBO P w d L)) ∧ R (ItkB P w d o L) H1
theorem pi_keysB {tg e : Expr} {td : TE} (he : PE X e td) (eP : X.prog = P := by rfl) (ew : X.w = w := by rfl) : PI X tg e (iKeysB P w td) := by
  subst eP ew
  refine ⟨fun pins s σ H R I h => ?_⟩
  refine thn (he.run pins s σ H _ I h) fun u s1 ⟨x, H1, I1, rx, d, o, L, ex, hd, q⟩ => ?_
  subst ex
  cases rx
  obtain ⟨sy, g0, g1, es, ep, hdt, hsz, _⟩ := Inv.frzB I1 hd
  refine iter_keys sy g0 g1 hdt (pi_one (tk := s1.toks) I1 _ (turn_keysB _ hdt) ⟨_, Heap.get?_push_size _ rfl, rfl, ?_⟩ q)
  rw [hsz] <;> rfl
end
end Fm
/-! A dict comprehension whose keys are tuples of ints (also within another comprehension); setdefault with such keys. -/
namespace Fm
open PySem PySem.Spec PyProof.Rows L2 PySem.W
/-- a block that captures nothing -/
theorem blkOk_nf {N : List Str} {sc scope : Scope} {own : List (Str × Nat)} (h1 : scope.kind = .function) (h2 : (scope.names.all fun y => decide (scope.names.lookup y.1 = some y.2)) = true) (h3 : (own.all fun p => decide (N[p.2]? = some p.1)) = true)
    (h4 : (scope.names.all fun y => !(y.2 == .free)) = true) (h5 : (scope.names.all fun y => (!(y.2 == .local || y.2 == .cell)) || ((own.map (·.1)).contains y.1 || !(N.contains y.1))) = true) : BlkOk N sc scope own where
  kind := h1
  uniq := fun y hy => of_decide_eq_true (List.all_eq_true.mp h2 y hy)
  ix := fun p hp => of_decide_eq_true (List.all_eq_true.mp h3 p hp)
  free := fun y hy e => by
    have z := List.all_eq_true.mp h4 y hy
    rw [e] at z
    cases z
  own := fun y hy e => by
    have z := List.all_eq_true.mp h5 y hy
    have e2 : (y.2 == NameKind.local || y.2 == NameKind.cell) = true := by
      rcases e with e | e <;> (rw [e]; rfl)
    rw [e2] at z
    simp only [Bool.not_true, Bool.false_or, Bool.or_eq_true] at z
    rcases z with z | z
    · exact .inl (by simpa using z)
    · exact .inr (by simpa using z)
section
variable {X : Cx} {K : PySem.W.Frag} {P : Program} {w : World}
def tDcT (K : PySem.W.Frag) (P : Program) (w : World) (wa : TI) (ga : TG) (tk tv : TE) (vs : List Nat) : TE := fun σ H Q => wa σ H fun J H1 => ∀ D, H1 D = none → ∃ W : Nat → Nat → Hp → Prop, (∃ m, W 0 m (upd H1 D (DTO P w D (ValF [])))) ∧ ∀ i m H, W i m H →
  (J.stop i H ∧ Q (.ref D) H) ∨ (J.go i H ∧ ∃ Nx : Hp → Prop, (∀ H', Nx H' → ∃ m', m' < m ∧ W (i + 1) m' H') ∧ ∀ x H', J.yld i H x H' → ga x (wipe σ vs) H' fun σ2 H2 => wipe σ2 vs = wipe σ vs ∧ tk σ2 H2 fun y H3 => tv σ2 H3 fun z H4 =>
    ∃ (b : Addr) (q : List Int) (L : List (Addr × List Int × L2.V)), y = .ref b ∧ SqT K H4 b (q.map V.int) ∧ H4 D = some (DTO P w D (ValF L)) ∧ (∀ p ∈ L, SqT K H4 p.1 (p.2.1.map V.int)) ∧ (∀ p ∈ L, p.2.1 ≠ q) ∧ L.length ≤ 1000 ∧ Nx (upd H4 D (DTO P w D (ValF (L ++ [(b, q, z)])))))
theorem dset_inv {pins : List (Addr × Obj)} {s : Shared} {σ : L2.St} {H : Hp} {A : Around} {E : Value → Shared → Prop} {D b : Addr} {q : List Int} {L : List (Addr × List Int × L2.V)} {z : L2.V} {r : Value} {Q : Unit → Shared → Prop} (I : Inv X pins σ H s) (hD : H D = some (DTO X.prog X.w D (ValF L)))
    (hL : ∀ p ∈ L, SqT X.K H p.1 (p.2.1.map V.int)) (hb : SqT X.K H b (q.map V.int)) (hne : ∀ p ∈ L, p.2.1 ≠ q) (few : L.length ≤ 1000) (rz : RelV z r) (hu : A.units < cLine) (h : ∀ s', Inv X pins σ (upd H D (DTO X.prog X.w D (ValF (L ++ [(b, q, z)])))) s' → Q () s') :
    wpAny (model X.prog X.w) A (dictSet D (.ref b) r) Q E s := by
  obtain ⟨xs, hF, hd⟩ := Inv.dto I (.inl hD)
  have hxl : xs.length = L.length := (Paired.length hF).symm
  have hk : ∀ x ∈ xs, IsT X.prog X.w s.heap x.1 x.2.1 := fun x hx => by
    obtain ⟨p, hp, e1, e2⟩ := valF_mem hF x hx
    rw [e1, e2]
    exact Inv.isT I (hL p hp)
  refine wpAny_dictSet_heap (knd := TK X.prog X.w) (hsz := by rw [hxl, sizeLine_eq]; omega) hu (Inv.isT I hb) (hd.full hk) fun h' hm sb => h _ ?_
  have he : ∃ u, h'.get? D = some u := by
    obtain ⟨o, _, _, y, _⟩ := hm
    exact ⟨o, y⟩
  have hno : ¬ (atKey xs q).isSome = true := by
    intro y
    unfold atKey at y
    rw [Option.isSome_map] at y
    obtain ⟨x, hx⟩ := Option.isSome_iff_exists.mp y
    have h1 := List.mem_of_find?_eq_some hx
    have h2 := List.find?_some hx
    obtain ⟨p, hp, _, e2⟩ := valF_mem hF x h1
    exact hne p hp (by rw [← e2]; simpa using h2)
  have es : storedH xs q b r = xs ++ [(q, b, r)] := by
    unfold storedH
    rw [if_neg hno]
  rw [es] at hm
  exact I.write (e := D) (by rw [hD]; trivial) (.inl rfl) (fun c u hc hu => (sb.2 c hc).trans hu) he (dto_ok (F := ValF (L ++ [(b, q, z)])) (Paired.snoc hF ⟨rfl, rfl, rz⟩) (raw_of hm hd.1))
theorem pe_dcT {kx vx ta ea : Expr} {sc : Scope} {own : List (Str × Nat)} {ps : Pos} {wa : TI} {ga : TG} {tk tv : TE} (hc : X.calm = true) (hu : X.A.units + 64 < cLine) (hN : X.N.Nodup) (pa : PI X ta ea wa) (ok : BlkOk X.N X.env.scope sc own)
    (pga : ∀ (s : Shared) (H : Hp) (C : Addr) (cl : List (Str × Addr)) (fp : List Addr), PG (X.blk s H sc (compEnvC sc cl C X.env) fp) ta ga)
    (pk : ∀ (s : Shared) (H : Hp) (C : Addr) (cl : List (Str × Addr)) (fp : List Addr), PE (X.blk s H sc (compEnvC sc cl C X.env) fp) kx tk)
    (pv : ∀ (s : Shared) (H : Hp) (C : Addr) (cl : List (Str × Addr)) (fp : List Addr), PE (X.blk s H sc (compEnvC sc cl C X.env) fp) vx tv)
    (fa : ∀ x, foldedSetIterable ea X.env x = pure x := by intro _; rfl) (eK : X.K = K := by rfl) (eP : X.prog = P := by rfl) (ew : X.w = w := by rfl) :
    PE X (.DictComp kx vx [⟨ta, ea, [], 0⟩] sc ps) (tDcT K P w wa ga tk tv (own.map (·.2))) := by
  subst eK eP ew
  refine ⟨fun pins s σ H Q I h => ?_⟩
  rw [arm_eval_DictComp]
  have hfree : ∀ y ∈ sc.names, y.2 = .free → ∃ c, X.env.cells.lookup y.1 = some c := fun y hy e => (ok.free y hy e).elim (fun z => I.ok.has _ (.inl z)) fun z => I.ok.has _ (.inr z)
  refine wpAny_comprehension_free (use := none) rfl fa (closure_ok hfree) ok.kind (fun y hy e => by rw [ok.uniq y hy, e]) (thn (pa.run pins s σ H _ I h) fun xv s1 hx => thn hx fun itv s2 h2 => ?_)
  obtain ⟨it, fp, tn, J, H2, e, I2, T, st2, f2, q⟩ := h2
  subst e
  refine wpAny_newObj_type (newEnv_comp ?_)
  generalize hD : s2.heap.objs.size = D
  have hDn : H2 D = none := I2.hok.fresh (Nat.le_of_eq hD)
  obtain ⟨W, ⟨m0, w0⟩, turn⟩ := q D hDn
  have hsys : (D == sysModules) = false := by
    rw [← hD]
    exact beq_eq_false_iff_ne.mpr (Ne.symm (Nat.ne_of_lt I2.big))
  generalize hs3 : ({ s2 with heap := s2.heap.push { cls := .type "dict", data := .dict #[] } } : Shared) = s3
  have h3 : s3.heap = s2.heap.push { cls := .type "dict", data := .dict #[] } := by rw [← hs3]
  have old3 : ∀ b o, s2.heap.get? b = some o → s3.heap.get? b = some o := fun b o z => by
    rw [h3]
    exact Heap.get?_push_of_some _ z
  have I3 : Inv X pins σ (upd H2 D (DTO X.prog X.w D (ValF []))) s3 := by
    have d0 : DRaw X.prog X.w s3.heap D [] := by
      rw [h3, ← hD]
      exact raw_of (Heap.DictOfH.new s2.heap) (by rw [hD]; exact hsys)
    have := I2.laid (a := D) (o := DTO X.prog X.w D (ValF [])) (h' := s3.heap) (t' := s2.toks) old3 (Nat.le_of_eq hD) (dto_ok (F := ValF []) .nil d0)
    rw [← hs3] at this ⊢
    exact this
  have lo : ∀ b ∈ fp, b < s2.heap.objs.size := fun b hb => by
    obtain ⟨o, z, _⟩ := T.obj _ _ st2 b hb
    exact Heap.lt_size z
  have f3 : ∀ b ∈ fp, FpOk X pins (upd H2 D (DTO X.prog X.w D (ValF []))) b ∧ b < s3.heap.objs.size := fun b hb => by
    have l := lo b hb
    have ne : b ≠ D := by
      rw [← hD]
      exact Nat.ne_of_lt l
    exact ⟨⟨by rw [upd_ne ne]; exact (f2 b hb).1, (f2 b hb).2⟩, by rw [h3, Heap.size_push]; exact Nat.lt_succ_of_lt l⟩
  have st3 : tn 0 s3.heap := T.keep _ _ _ st2 fun b _ o z => old3 b o z
  have I4 := block_start I3 ok hN f3
  generalize hH3 : upd H2 D (DTO X.prog X.w D (ValF [])) = H3 at I3 I4 f3 w0
  generalize hcl : cellsFrom (s3.heap.objs.size + 1) sc.names (cloFrom X.env.cells sc.names []) = cl at I4
  have gA := pga s3 H3 s3.heap.objs.size cl fp
  have gK := pk s3 H3 s3.heap.objs.size cl fp
  have gV := pv s3 H3 s3.heap.objs.size cl fp
  show codeAny _ _ (.compStart (.DictComp kx vx [⟨ta, ea, [], 0⟩] sc ps) 0 (.ref it) (.ref D) (compEnvC sc cl s3.heap.objs.size X.env)) (compPost (model X.prog X.w) X.A X.xe none _ (.ref D) s3.heap.objs.size) { s3 with heap := pushCells (s3.heap.push { cls := .type "dict", data := .dict #[] }) sc.names }
  generalize hce : compEnvC sc cl s3.heap.objs.size X.env = ce at I4 gA gK gV ⊢
  have cL : ce.locals = s3.heap.objs.size := by subst hce; rfl
  generalize hs4 : ({ s3 with heap := pushCells (s3.heap.push { cls := .type "dict", data := .dict #[] }) sc.names } : Shared) = s4 at I4 ⊢
  have st4 : tn 0 s4.heap := T.keep _ _ _ st3 fun b _ o z => by rw [← hs4]; exact pushCells_keeps _ _ _ _ (Heap.get?_push_of_some _ z)
  have nfp : ∀ b ∈ fp, H3 b = none := fun b hb => (f3 b hb).1.1
  have stand : ∀ {τ : L2.St} {G : Hp} {u : Shared}, Inv (X.blk s3 H3 sc ce fp) [] τ G u → (∀ b ∈ fp, G b = none) → ∀ b ∈ fp, FpOk (X.blk s3 H3 sc ce fp) [] G b := fun I' hn b hb =>
    ⟨hn b hb, (I'.ok.exf b hb).1, I'.ok.exfs b hb, .inl hb, fun x c z => (I'.ok.exf b hb).2 x c z, fun p hp => absurd (show p ∈ ([] : List (Addr × Obj)) ++ [] from hp) (by simp)⟩
  have loop : codeAny (model X.prog X.w) X.A (.compLoop (.DictComp kx vx [⟨ta, ea, [], 0⟩] sc ps) 0 (.ref it) (.ref D) ce) (compPost (model X.prog X.w) X.A X.xe none (fun v s' => EP X pins σ Q v s') (.ref D) s3.heap.objs.size) s4 := by
    refine compLoop_anyD (fun m u => ∃ i G, Inv (X.blk s3 H3 sc ce fp) [] (wipe σ (own.map (·.2))) G u ∧ tn i u.heap ∧ (∀ b ∈ fp, G b = none) ∧ W i m G) ?_ m0 ⟨0, H3, I4, st4, nfp, w0⟩
    rintro m u5 ⟨i, G5, I5, st5, n5, w5⟩
    rcases turn i m G5 w5 with ⟨stop, qq⟩ | ⟨go, Nx, hNx, step⟩
    · refine thnF (T.done (X.blk s3 H3 sc ce fp) rfl rfl rfl hc i [] u5 _ G5 (fun _ _ => False) I5 (stand I5 n5) st5 stop) fun r u6 ⟨hr, I6⟩ => ?_
      subst hr
      have I7 : Inv X pins σ G5 u6 := I3.call' (ch := fp) I6.os I6.base I6.hok I6.bare fun b hb => ⟨(f3 b hb).1.2.2.2.1, (f3 b hb).1.2.1, (f3 b hb).1.2.2.2.2.1, (f3 b hb).1.2.2.2.2.2⟩
      have nC : G5 ce.locals = none := I6.free
      obtain ⟨mm, hn, _⟩ := I6.loc
      have hn : u6.heap.Ns ce.locals mm := hn
      rw [cL] at hn nC
      refine ⟨mm, hn, fun g sb => ?_⟩
      obtain ⟨f0, f1, f2', f3', f4, f5⟩ := I3.fpOk (Nat.le_refl _) nC
      exact ⟨.ref D, G5, I7.turned (t' := u6.toks) (fun b o hb z => (sb.2 b hb).trans z) f0 f1 f3' f4 f5, rfl, qq⟩
    · refine thnF (T.item (X.blk s3 H3 sc ce fp) rfl rfl rfl hc i [] u5 _ G5 (fun _ _ => False) I5 (stand I5 n5) st5 go) fun r u6 ⟨got, hr, h6⟩ => ?_
      subst hr
      refine thnF h6 fun _ u7 ⟨x, G7, I7, r7, y7, st7, n7⟩ => ?_
      have I7' := I7.pinned (stand I7 n7) (T.obj _ _ st7)
      refine thnF (gA.run _ u7 _ G7 x got _ I7' r7 (step x G7 y7)) fun _ u8 ⟨σ8, G8, I8, hw8, q8⟩ => ?_
      refine wpAny_pure ?_
      simp only [if_true]
      have fin : ∀ {u : Shared} {G : Hp}, Inv (X.blk s3 H3 sc ce fp) ([] ++ pinsAt fp u7.heap) σ8 G u → Nx G → ∃ m', m' < m ∧ ∃ i G, Inv (X.blk s3 H3 sc ce fp) [] (wipe σ (own.map (·.2))) G u ∧ tn i u.heap ∧ (∀ b ∈ fp, G b = none) ∧ W i m' G := fun {u G} I' nx => by
        obtain ⟨m', hm, w'⟩ := hNx G nx
        have pin' : ∀ b ∈ fp, ∀ o, u7.heap.get? b = some o → u.heap.get? b = some o ∧ G b = none := fun b hb o z =>
          have zz := I'.pin (b, o) (List.mem_append_right _ (List.mem_append_right _ (mem_pinsAt hb z)))
          ⟨zz.1, zz.2.1⟩
        have hl : (wipe σ (own.map (·.2))).length = σ8.length := by rw [← hw8, wipe_length]
        refine ⟨m', hm, i + 1, G, (I'.unpinned (pins := [])).weak hl (fun j v z => ?_), T.keep _ _ _ st7 fun b hb o z => (pin' b hb o z).1, fun b hb => ?_, w'⟩
        · rw [← hw8] at z
          exact (wipe_some z).1
        · obtain ⟨o, z, _⟩ := T.obj _ _ st7 b hb
          exact (pin' b hb o z).2
      refine thnF (gK.run _ u8 σ8 G8 _ I8 q8) fun z u10 ⟨yk, G10, I10, r10, q10⟩ => ?_
      refine thnF (gV.run _ u10 σ8 G10 _ I10 q10) fun z2 u11 ⟨yv, G11, I11, r11, b, qk, L, ek, hb, hDL, hL, hne, few, nx⟩ => ?_
      subst ek
      cases r10
      exact dset_inv (X := X.blk s3 H3 sc ce fp) I11 hDL hL hb hne few r11 (show X.A.units < cLine by omega) fun u12 I12 => fin I12 nx
  exact codeAny_compStart_dict loop (T.self X.A 0 _ _ _ st4 loop)
end
end Fm
namespace Fm
open PySem PySem.Spec PyProof.Rows L2 PySem.W
section
variable {X : Cx} {K : PySem.W.Frag} {P : Program} {w : World}
/-- what the dict has for a tuple of ints -/
def findT (L : List (Addr × List Int × L2.V)) (q : List Int) : Option L2.V := (L.find? fun p => decide (p.2.1 = q)).map (·.2.2)
/-- d.setdefault(k, z) -/
def tDSetT (K : PySem.W.Frag) (P : Program) (w : World) (td ty tx : TE) : TE := fun σ H Q => td σ H fun x H1 => (∃ a F, x = .ref a ∧ H1 a = some (DTO P w a F)) ∧ ty σ H1 fun y H2 => tx σ H2 fun z H3 =>
  ∃ (a b : Addr) (L : List (Addr × List Int × L2.V)) (q : List Int), x = .ref a ∧ y = .ref b ∧ H3 a = some (DTO P w a (ValF L)) ∧ (∀ p ∈ L, SqT K H3 p.1 (p.2.1.map V.int)) ∧ SqT K H3 b (q.map V.int) ∧ L.length ≤ 100000 ∧
    (∀ v, findT L q = some v → Q v H3) ∧ (findT L q = none → Q z (upd H3 a (DTO P w a (ValF (L ++ [(b, q, z)])))))
theorem pe_dsetT {o e f : Expr} {apos cpos : Pos} {td ty tx : TE} (hu : X.A.units + 64 < cLine) (ho : PE X o td) (he : PE X e ty) (hf : PE X f tx) (m : M2 X o "setdefault" apos e f cpos) (eK : X.K = K := by rfl) (eP : X.prog = P := by rfl) (ew : X.w = w := by rfl) :
    PE X (.Call (.Attribute o "setdefault" apos) [e, f] [] cpos) (tDSetT K P w td ty tx) := by
  subst eK eP ew
  refine ⟨fun pins s σ H Q I h => ?_⟩
  refine wpAny_Call_method m.base m.few m.line F.plainAttrs_dict F.slot_dict_setdefault F.type_dict_setdefault (thn (ho.run pins s σ H _ I h) fun u s1 ⟨x, H1, I1, rx, ⟨a, G, ex, hd⟩, q1⟩ => ?_)
  subst ex
  cases rx
  obtain ⟨xs, _, sysm, _, ob, es, ep, g1, g2, _⟩ := Inv.dto I1 (.inl hd)
  refine ⟨⟨ob, g1, g2.1⟩, fun c z => (by cases z; exact ⟨ob, g1, g2.2.1⟩), ?_⟩
  rw [m.trees]
  refine Calls.callWith_builtin rfl (Calls.evalArgs_plain (Calls.spliced_cons (thn (he.run pins s1 σ H1 _ I1 q1) fun iv s2 ⟨y, H2, I2, ry, q2⟩ =>
    Calls.spliced_cons (thn (hf.run pins s2 σ H2 _ I2 q2) fun fv s3 ⟨z, H3, I3, rz, a', b, L, q, ea, eb, hd3, hL, hb, hl, q3, q4⟩ => Calls.spliced_nil ?_))))
  cases ea
  subst eb
  cases ry
  obtain ⟨ys, hF, hraw⟩ := Inv.dto I3 (.inl hd3)
  have hyl : ys.length = L.length := (Paired.length hF).symm
  have hkeys : ∀ x ∈ ys, IsT X.prog X.w s3.heap x.1 x.2.1 := fun x hx => by
    obtain ⟨p, hp, e1, e2⟩ := valF_mem hF x hx
    rw [e1, e2]
    exact Inv.isT I3 (hL p hp)
  have rl : RelO (findT L q) ((atKey ys q).map (·.2)) := hF.find q
  refine call_setdefault_heap (knd := TK X.prog X.w) (hsz := by rw [hyl, sizeLine_eq]; omega) (show X.A.units + 1 < cLine by omega) (Inv.isT I3 hb) hraw.1 (hraw.full hkeys) (fun p hp => ?_) fun hn h' hm sb => ?_
  · rw [hp] at rl
    cases hv : findT L q with
    | none =>
      rw [hv] at rl
      exact (show False from rl).elim
    | some v =>
      rw [hv] at rl
      exact ⟨v, H3, I3.tok _, rl, q3 v hv⟩
  · have hnone : findT L q = none := by
      rw [hn] at rl
      cases hv : findT L q with
      | none => rfl
      | some v =>
        rw [hv] at rl
        exact (show False from rl).elim
    have es' : storedH ys q b fv = ys ++ [(q, b, fv)] := by
      unfold storedH
      rw [if_neg (by rw [hn]; exact Bool.false_ne_true)]
    rw [es'] at hm
    have he : ∃ u, h'.get? a = some u := by
      obtain ⟨o, _, _, y, _⟩ := hm
      exact ⟨o, y⟩
    exact ⟨z, _, I3.write (e := a) (t' := s3.toks + (TK X.prog X.w).draws q) (by rw [hd3]; trivial) (.inl rfl) (fun c u hc hu => (sb.2 c hc).trans hu) he (dto_ok (F := ValF (L ++ [(b, q, z)])) (Paired.snoc hF ⟨rfl, rfl, rz⟩) (raw_of hm hraw.1)), rz, q4 hnone⟩
/-- {}, to be a dict with such keys -/
def tDNewT (P : Program) (w : World) : TE := fun _ H Q => ∀ p, H p = none → Q (.ref p) (upd H p (DTO P w p (ValF [])))
theorem pe_dnewT {pos : Pos} (eP : X.prog = P := by rfl) (ew : X.w = w := by rfl) : PE X (.Dict [] [] pos) (tDNewT P w) := by
  subst eP ew
  refine ⟨fun pins s σ H Q I h => ?_⟩
  have hs : (s.heap.objs.size == sysModules) = false := beq_eq_false_iff_ne.mpr (Ne.symm (Nat.ne_of_lt I.big))
  exact wpAny_Dict_empty ⟨.ref s.heap.objs.size, _, I.laid (a := s.heap.objs.size) (o := DTO X.prog X.w s.heap.objs.size (ValF [])) (t' := s.toks) (fun _ _ q => Heap.get?_push_of_some _ q) (Nat.le_refl _) (dto_ok (F := ValF []) (xs := []) .nil (raw_of (Heap.DictOfH.new s.heap) hs)), rfl, h _ (I.hok.fresh (Nat.le_refl _))⟩
end
end Fm
/-! Dicts whose keys are boxes: compared, copied, cleared, made of pairs, asked, told anew. -/
namespace Fm
open PySem PySem.Spec PyProof.Rows L2 PySem.W
open PySem.SeqAt (EqIn EqAt)
section
variable {prog : Program} {w : World} {K : Type} [DecidableEq K] {knd : HeapKind prog w K} {A : Around} {E : Value → Shared → Prop} {s : Shared}
def HitsH (prog : Program) (w : World) {K : Type} [DecidableEq K] (A : Around) (s : Shared) (kb ks : List (K × Addr × Value)) : Prop := ∀ x ∈ ks, ∃ p, atKey kb x.1 = some p ∧ EqIn prog w A s x.2.2 p.2 true
theorem samePairsH {nm : String} {a b : Addr} {ka kb : List (K × Addr × Value)} {Q : Bool → Shared → Prop} (hu : knd.room A) (ha : (a == sysModules) = false) (hb : (b == sysModules) = false)
    (da : s.heap.DictOfH knd a ka) (db : s.heap.DictOfH knd b kb) (hl : ka.length = kb.length) (hits : HitsH prog w A s kb ka) (h : Q true s) :
    wpAny (model prog w) A (Builtin.Dict.samePairs nm a b) Q E s := by
  obtain ⟨oa, es, ep, hoa, _, hda, hea, hia, hna⟩ := da
  obtain ⟨ob, es', ep', hob, _, hdb, heb, hib, hnb⟩ := db
  have hla : es.size = ka.length := size_of_entries hea
  have hlb : es'.size = kb.length := size_of_entries heb
  have hsz : es.size = es'.size := by omega
  unfold Builtin.Dict.samePairs Builtin.Dict.showsAll
  rw [if_neg (show ¬ (a == sysModules) = true by rw [ha]; exact Bool.false_ne_true), if_neg (show ¬ (b == sysModules) = true by rw [hb]; exact Bool.false_ne_true)]
  refine wpAny_bind (wpAny_pure (wpAny_bind (wpAny_pure ?_)))
  refine wpAny_bind (wpAny_dictEntries hoa hda ?_)
  dsimp only
  refine wpAny_bind (wpAny_dictEntries hob hdb ?_)
  rw [if_neg (by rw [hsz]; simp)]
  refine wpAny_bind (wpAny_dictEpoch hoa hda ?_)
  refine wpAny_bind ?_
  rw [Std.Legacy.Range.forIn_eq_forIn_range']
  simp only [Std.Legacy.Range.size, Nat.sub_zero, Nat.add_sub_cancel, Nat.div_one]
  refine wpAny_forIn_list _
    (fun rest q s' => s' = s ∧ q = (none, ()) ∧ ∃ i, rest = List.range' i (es.size - i) ∧ i ≤ es.size)
    _ ?_ ?_ _ _ ⟨rfl, rfl, 0, by simp, Nat.zero_le _⟩
  · rintro x rest q s' ⟨rfl, rfl, i, hr, hi⟩
    have hlt : i < es.size := by
      rcases Nat.lt_or_ge i es.size with h | h
      · exact h
      · rw [Nat.sub_eq_zero_of_le h] at hr; simp at hr
    obtain ⟨rfl, hrest⟩ : x = i ∧ rest = List.range' (i + 1) (es.size - (i + 1)) := by
      have e : es.size - i = (es.size - (i + 1)) + 1 := by omega
      rw [e, List.range'_succ] at hr
      injection hr with h1 h2
      exact ⟨h1, h2⟩
    refine wpAny_bind (wpAny_dictEntries hoa hda ?_)
    have hlt' : x < ka.length := by omega
    have hx := List.getElem?_eq_getElem hlt'
    generalize ka[x] = kx at hx
    obtain ⟨k, ak, v⟩ := kx
    have hmem := List.mem_of_getElem? hx
    obtain ⟨p, hp, heq⟩ := hits _ hmem
    rw [entry_at hea x, hx]
    show wpAny _ _ (holding [Value.ref ak, v] _ >>= _) _ _ _
    refine wpAny_bind (wpAny_holding (wpAny_bind (wpAny_dictFind_heap hu (hia _ hmem) hob hdb heb hib hnb (fun hnone => ?_) fun j pj hj => ?_)))
    · rw [atKey_none_of_get hnone] at hp
      cases hp
    · have hpj := atKey_of_get hnb hj
      rw [hpj] at hp
      have ep := Option.some.inj hp
      subst ep
      refine wpAny_bind (wpAny_dictEntries hob hdb ?_)
      rw [entry_at heb j, hj]
      refine wpAny_holding (heq _ _ ?_)
      show wpAny _ _ (if (!true) = true then _ else _) _ _ _
      rw [if_neg (by decide)]
      refine wpAny_bind (wpAny_dictEpoch hoa hda ?_)
      rw [if_neg (by simp)]
      exact wpAny_pure ⟨rfl, rfl, x + 1, hrest, hlt⟩
  · rintro q s' ⟨rfl, rfl, i, hr, hi⟩
    exact wpAny_pure h
theorem keqH_ne {a b : Addr} {ka kb : List (K × Addr × Value)} {Q : Value → Shared → Prop} (hr : knd.room A.in1) (ha : (a == sysModules) = false) (hb : (b == sysModules) = false)
    (da : s.heap.DictOfH knd a ka) (db : s.heap.DictOfH knd b kb) (hu : A.units < cLine) (hl : ka.length = kb.length) (hits : HitsH prog w A.in1 s kb ka) (h : Q (.bool false) s) :
    wpAny (model prog w) A (compareOp .NotEq (.ref a) (.ref b)) Q E s := by
  refine wpAny_richCompare_same_room (op := .NotEq) da.typeIs db.typeIs PySem.F.slot_dict_ne (wpAny_call_entry PySem.F.slot_dict_ne da.typeIs PySem.F.entry_dict_ne ?_ (PySem.F.args_dict_ne_2 _ _)) hu
  show wpAny _ _ (Builtin.Dict.dictSlotArgs "__ne__" ⟨[.ref a, .ref b], []⟩ >>= _) _ _ s
  refine wpAny_bind ?_
  unfold Builtin.Dict.dictSlotArgs
  refine wpAny_bind (wpAny_notOrdered_dict da.typeIs ?_)
  show wpAny _ _ (pure (Value.ref a, Value.ref b)) _ _ s
  refine wpAny_pure ?_
  refine wpAny_bind (wpAny_isInstance (T := "dict") db.typeIs PySem.F.sub_dict_dict ?_)
  simp only [Bool.not_true, Bool.false_eq_true, if_false]
  refine wpAny_bind (wpAny_pure (wpAny_bind (wpAny_pure ?_)))
  refine wpAny_bind (samePairsH hr ha hb da db hl hits ?_)
  refine wpAny_pure ⟨_, rfl, ?_, ?_⟩
  · exact fun x => nomatch x
  · simpa using h
/-- dict(o) -/
theorem call_dictH {o : Addr} {more : List (K × Addr × Value)} {Q : Value → Shared → Prop} (hu : knd.room A.in1.in1) (hoS : (o == sysModules) = false) (ho : s.heap.DictOfH knd o more)
    (ho' : ∀ x, (s.heap.push x).DictOfH knd o more) (hty : ∀ x ∈ more, ∀ y, ({ s with heap := s.heap.push y } : Shared).TypeIs (.ref x.2.1) "tuple") (hap : (more.map fun x => knd.hash x.1).Nodup) (hsz : more.length ≤ sizeLine)
    (h : ∀ h', h'.DictOfH knd s.heap.objs.size more → Heap.SameBut s.heap.objs.size (s.heap.push { cls := .type "dict", data := .dict #[] }) h' → Q (.ref s.heap.objs.size) { s with heap := h' }) :
    wpAny (model prog w) A (call (.type "dict") [.ref o]) Q E s := by
  refine callType_codes (Q₁ := fun obj s₁ => obj = .ref s.heap.objs.size ∧ s₁ = { s with heap := s.heap.push { cls := .type "dict", data := .dict #[] } }) F.kt_called_dict (F.kt_typeCall_dict_1 _) F.entry_dict_init (kt_code_dict_new _ ⟨rfl, rfl⟩) ?_
  rintro obj s₁ ⟨rfl, rfl⟩
  have hnew : (s.heap.push { cls := .type "dict", data := .dict #[] }).DictOfH knd s.heap.objs.size [] := Heap.DictOfH.new s.heap
  have ho2 := ho' { cls := .type "dict", data := .dict #[] }
  have hn : (more.map (·.1)).Nodup := ho.nodup
  have hdo : s.heap.objs.size ≠ o := by
    obtain ⟨_, _, _, hg, _⟩ := ho
    exact fun e => absurd (Heap.lt_size hg) (by rw [e]; exact Nat.lt_irrefl _)
  refine ⟨hnew.typeIs, F.args_dict_init_2 _ _, ?_⟩
  unfold Builtin.«dict.__init__»
  refine wpAny_bind ?_
  unfold Builtin.Dict.selfAndRest
  refine wpAny_bind (wpAny_notOrdered_dict hnew.typeIs ?_)
  show wpAny _ _ (pure (s.heap.objs.size, [Value.ref o])) _ _ _
  refine wpAny_pure ?_
  show wpAny _ _ (Builtin.Dict.updateFrom "dict.__init__" s.heap.objs.size (.ref o) [] .none) _ _ _
  refine updateFrom_dictH .none hu hdo hoS hnew ho2 (.inr ⟨fun x hx => hty x hx _, hap⟩) (by simpa using hsz) fun h' hd' _ hs' => ?_
  rw [storedAllH_nil_of_nodup _ hn] at hd'
  exact ⟨rfl, h h' hd' hs'⟩
end
section
variable {X : Cx} {K : PySem.W.Frag} {P : Program} {w : World} {pins : List (Addr × Obj)} {σ : L2.St} {H : Hp} {s : Shared}
/-- a == b, a != b: what both have is alike -/
def BoxEq (K : PySem.W.Frag) (H : Hp) (L1 L2 : BoxL) : Prop := L1.length = L2.length ∧ ∀ p ∈ L1, ∃ v, findB L2 p.2.1 = some v ∧ ∃ c : List Int, Dp K H p.2.2 (.tuple (c.map PyData.int)) ∧ Dp K H v (.tuple (c.map PyData.int))
def rNeB (K : PySem.W.Frag) (P : Program) (w : World) : R2 := fun x y H Q => ∃ (a b : Addr) (L1 L2 : BoxL), x = .ref a ∧ y = .ref b ∧ Rd H a (DBO P w a L1) ∧ Rd H b (DBO P w b L2) ∧ BoxesAt K H L1 ∧ BoxesAt K H L2 ∧ BoxEq K H L1 L2 ∧ Q (.bl false) H
theorem depth_ints : ∀ c : List Int, PyData.depthAll (c.map PyData.int) = 0
  | [] => rfl
  | i :: c => by
    rw [List.map_cons]
    show max 0 (PyData.depthAll (c.map PyData.int)) = 0
    rw [depth_ints c]
    rfl
theorem eqv_intsT (c : List Int) : PyData.eqv (.tuple (c.map PyData.int)) (.tuple (c.map PyData.int)) = true := by
  rw [PyData.eqv]
  induction c with
  | nil => rfl
  | cons x c ih =>
    rw [List.map_cons, PyData.eqvAll, ih, PyData.eqv]
    simp
theorem op_neB (hu : X.A.units + 64 < cLine) (eK : X.K = K := by rfl) (eP : X.prog = P := by rfl) (ew : X.w = w := by rfl) : OpR X (compareOp .NotEq) (rNeB K P w) := by
  subst eK eP ew
  intro pins s σ H x y v u Q I rx ry h
  obtain ⟨a, b, L1, L2, rfl, rfl, ha, hb, h1, h2, ⟨hl, he⟩, q⟩ := h
  cases rx
  cases ry
  obtain ⟨xs, hF, hd⟩ := Inv.dbo I ha
  obtain ⟨ys, hG, hd2⟩ := Inv.dbo I hb
  have lx : xs.length = L1.length := (Paired.length hF).symm
  have ly : ys.length = L2.length := (Paired.length hG).symm
  refine keqH_ne (knd := NK X.prog X.w) (show X.A.units + 1 + 8 < cLine by omega) hd.1 hd2.1 (boxes_full I hF hd h1) (boxes_full I hG hd2 h2) (show X.A.units < cLine by omega) (by omega) (fun x hx => ?_) ⟨.bl false, H, I, rfl, q⟩
  obtain ⟨i, hi, ei⟩ := List.mem_iff_getElem.mp hx
  have hxi : xs[i]? = some x := by rw [← ei]; exact List.getElem?_eq_getElem hi
  have hpi : L1[i]? = some (L1[i]'(by omega)) := List.getElem?_eq_getElem (by omega)
  obtain ⟨r1, r2, r3⟩ : x.2.1 = (L1[i]'(by omega)).1 ∧ x.1 = bk (L1[i]'(by omega)).2.1 ∧ RelV (L1[i]'(by omega)).2.2 x.2.2 := by
    obtain ⟨y, hy, r⟩ := _root_.L2.paired_get hF hpi
    rw [hxi] at hy
    cases hy
    exact r
  generalize L1[i]'(by omega) = p at hpi r1 r2 r3
  obtain ⟨v, hv, c, d1, d2⟩ := he p (List.mem_of_getElem? hpi)
  have rl := hG.find p.2.1
  rw [hv, ← r2] at rl
  cases hz : atKey ys x.1 with
  | none =>
    rw [hz] at rl
    exact (show False from rl).elim
  | some z =>
    rw [hz] at rl
    refine ⟨z, rfl, ?_⟩
    obtain ⟨as, q1⟩ := Dp.reads I _ _ x.2.2 d1 r3
    obtain ⟨bs, q2⟩ := Dp.reads I _ _ z.2 d2 rl
    have y := eqAt_alike (.tuple (c.map PyData.int)) (.tuple (c.map PyData.int)) X.A.in1 s x.2.2 z.2 as bs q1 q2 (show alikeAll _ _ = true from alike_ints c c) (by
      show X.A.units + 1 + min (PyData.depthAll (c.map PyData.int) + 1) (PyData.depthAll (c.map PyData.int) + 1) < cLine
      rw [depth_ints]
      show X.A.units + 1 + min 1 1 < cLine
      omega)
    rw [eqv_intsT] at y
    exact y.inModel _ _
/-- dict(d) -/
def rDictCB (K : PySem.W.Frag) (P : Program) (w : World) : List V → Hp → VK → Prop := fun xs H Q => ∃ (a : Addr) (L : BoxL), xs = [V.ref a] ∧ Rd H a (DBO P w a L) ∧ BoxesAt K H L ∧ (L.map fun p => (bk p.2.1).hash w).Nodup ∧ L.length ≤ 100000 ∧ ∀ d, H d = none → Q (.ref d) (upd H d (DBO P w d L))
theorem call_dictCB (hu : X.A.units + 64 < cLine) (eK : X.K = K := by rfl) (eP : X.prog = P := by rfl) (ew : X.w = w := by rfl) : CallR X (.type "dict") (rDictCB K P w) := by
  subst eK eP ew
  intro pins s σ H xs us Q I r h
  obtain ⟨a, L, rfl, ha, hL, hh, few, q⟩ := h
  rw [Vals.ref1 r]
  obtain ⟨xs, hF, hd⟩ := Inv.dbo I ha
  have lx : xs.length = L.length := (Paired.length hF).symm
  have dd := boxes_full I hF hd hL
  have key : ∀ x ∈ xs, NestedIs s.heap x.1 (.ref x.2.1) := fun x hx => by
    obtain ⟨p, hp, e1, e2⟩ := valB_mem hF x hx
    rw [e1, e2]
    exact (Inv.boxKey I (hL p hp)).1
  refine call_dictH (knd := NK X.prog X.w) (show X.A.units + 1 + 1 + 8 < cLine by omega) hd.1 dd (fun x => ?_) (fun x hx y => ?_) ?_ (by rw [lx, sizeLine_eq]; omega) fun h' hd' hs => ?_
  · have sb : ∀ b o, s.heap.get? b = some o → (s.heap.push x).get? b = some o := fun b o e => Heap.get?_push_of_some _ e
    obtain ⟨o, es, ep, g1, g2, g3, g4, g5, g6⟩ := dd
    exact ⟨o, es, ep, sb _ _ g1, g2, g3, g4, fun z hz => nestedKind_stays.stays (fun b o vs n e _ => sb b o e) (g5 z hz), g6⟩
  · have k := key x hx
    obtain ⟨p, hp, e1, e2⟩ := valB_mem hF x hx
    rw [e2] at k
    unfold bk at k
    cases k with
    | tup h1 h2 _ _ => exact ⟨_, Heap.get?_push_of_some _ h1, h2⟩
  · have e : (xs.map fun x => (NK X.prog X.w).hash x.1) = L.map fun p => (bk p.2.1).hash X.w := by
      have : xs.map (fun x => x.1) = L.map fun p => bk p.2.1 := by
        clear key dd hd lx ha hL hh few q
        unfold ValB at hF
        induction hF with
        | nil => rfl
        | cons r _ ih => rw [List.map_cons, List.map_cons, ih, r.2.1]
      have e2 := congrArg (List.map fun k => NestedKey.hash X.w k) this
      rw [List.map_map, List.map_map] at e2
      exact e2
    rw [e]
    exact hh
  · have hm : (s.heap.objs.size == sysModules) = false := beq_eq_false_iff_ne.mpr (Nat.ne_of_gt I.big)
    exact ⟨.ref s.heap.objs.size, _, I.laid (a := s.heap.objs.size) (t' := s.toks) (fun b u e => (hs.2 b (Nat.ne_of_lt (Heap.lt_size e))).trans (Heap.get?_push_of_some _ e)) (Nat.le_refl _) (dbo_ok hF (braw_of hd' hm)), rfl, q _ (I.hok.fresh (Nat.le_refl _))⟩
/-- isinstance(d, dict) -/
def rIsiB (P : Program) (w : World) : List V → Hp → VK → Prop := fun xs H Q => ∃ (a : Addr) (L : BoxL), xs = [.ref a, .ty "dict"] ∧ Rd H a (DBO P w a L) ∧ Q (.bl true) H
theorem call_isiB (eP : X.prog = P := by rfl) (ew : X.w = w := by rfl) : CallR X (.builtin "isinstance") (rIsiB P w) := by
  subst eP ew
  intro pins s σ H xs us Q I r h
  obtain ⟨a, L, rfl, ha, q⟩ := h
  obtain ⟨u1, u2, rfl, r1, r2⟩ := vals2 r
  cases (show u1 = Value.ref a from r1)
  cases (show u2 = Value.type "dict" from r2)
  obtain ⟨xs, _, _, _, o, es, ep, g1, g2, _⟩ := Inv.dbo I ha
  exact PySem.W.kia_one PySem.W.kitx_dict I.kIn ⟨o, g1, g2.1⟩ (show PySem.W.kitOne X.K (.type "dict") (.type "dict") = some true from if_pos (beq_self_eq_true _)) (fun z => nomatch z) fun tk => ⟨.bl true, H, I.tok tk, rfl, q⟩
end
end Fm
namespace Fm
open PySem PySem.Spec PyProof.Rows L2 PySem.W
section
variable {X : Cx} {K : PySem.W.Frag} {P : Program} {w : World} {pins : List (Addr × Obj)} {σ : L2.St} {H : Hp} {s : Shared}
/-! ### d.clear() -/
def tClearB (P : Program) (w : World) (to : TE) : TE := fun σ H Q => to σ H fun x H1 => ∃ (a : Addr) (L : BoxL), x = .ref a ∧ H1 a = some (DBO P w a L) ∧ L.length ≤ 100000 ∧ Q .non (upd H1 a (DBO P w a []))
theorem pe_clearB {o : Expr} {to : TE} {apos cpos : Pos} (ho : PE X o to) (hbase : attributeBase o "clear" X.env (eval o X.env) = eval o X.env := by rfl) (hline : (apos.endLine == cpos.line) = true := by rfl) (eP : X.prog = P := by rfl) (ew : X.w = w := by rfl) :
    PE X (.Call (.Attribute o "clear" apos) [] [] cpos) (tClearB P w to) := by
  subst eP ew
  refine ⟨fun pins s σ H Q I h => ?_⟩
  refine wpAny_Call_method0_late hbase hline (thn (ho.run pins s σ H _ I h) fun v s1 ⟨x, H1, I1, r1, a, L, ex, hd, hl, q⟩ => ?_)
  subst ex
  cases r1
  obtain ⟨xs, hF, sysm, _, ob, es, ep, g1, g2, g3, g4⟩ := Inv.dbo I1 (.inl hd)
  have lx : xs.length = L.length := (Paired.length hF).symm
  refine ⟨"dict", "dict.clear", F.plainAttrs_dict, F.slot_dict_clear, F.type_dict_clear, ⟨ob, g1, g2.1⟩, fun c e => (by cases e; exact ⟨ob, g1, g2.2.1⟩), Calls.callWith_builtin rfl (PySem.evalArgs_none ?_)⟩
  have hr : s1.heap.DictRaw a es ep := ⟨ob, g1, g2, g3⟩
  refine call_meetsIn F.slot_dict_clear hr.typeIs F.entry_dict_clear (F.args_dict_clear_1 _) (meets_dict_clear_raw a) ⟨es, ep, hr, by rw [size_of_entries g4, lx, sizeLine_eq]; omega, fun h' hr' hs' => ?_⟩
  obtain ⟨o', ho', hc', hd'⟩ := hr'
  exact ⟨.non, _, I1.write (e := a) (t' := s1.toks) (by rw [hd]; trivial) (.inl rfl) (fun c u hc hu => (hs'.2 c hc).trans hu) ⟨_, ho'⟩ (dbo_ok (xs := []) .nil ⟨sysm, List.nodup_nil, o', #[], ep + 1, ho', hc', hd', rfl⟩), rfl, q⟩
/-! ### dict(list of pairs) -/
abbrev PrB := List (Addr × Addr × (List Int × List Int) × V)
def PrBAt (K : PySem.W.Frag) (H : Hp) (M : PrB) : Prop := ∀ m ∈ M, SqT K H m.1 [.ref m.2.1, m.2.2.2] ∧ BoxAt K H m.2.1 m.2.2.1
abbrev NB := List ((Addr × Addr × (List Int × List Int) × V) × Value)
theorem prb_vals (I : Inv X pins σ H s) : ∀ {M : PrB}, PrBAt X.K H M → ∃ N : NB, N.map (·.1) = M ∧ ∀ n ∈ N, RelV n.1.2.2.2 n.2 ∧ IsTup s.heap n.1.1 #[.ref n.1.2.1, n.2] ∧ (NK X.prog X.w).is s.heap (bk n.1.2.2.1) n.1.2.1
  | [], _ => ⟨[], rfl, fun n hn => (by cases hn)⟩
  | m :: M, h => by
    obtain ⟨N, e, hN⟩ := prb_vals I (M := M) fun z hz => h z (List.mem_cons_of_mem _ hz)
    obtain ⟨h1, h2⟩ := h m List.mem_cons_self
    obtain ⟨its, rv, pt, _⟩ := I.tuple h1
    cases rv with
    | cons r1 rr =>
      cases rr with
      | cons r2 rn =>
        cases rn
        cases r1
        rename_i u
        refine ⟨(m, u) :: N, by rw [List.map_cons, e], fun n hn => ?_⟩
        rcases List.mem_cons.mp hn with z | z
        · rw [z]
          exact ⟨r2, pt, Inv.boxKey I h2⟩
        · exact hN n z
theorem tsB {N : NB} {j : Nat} {n : (Addr × Addr × (List Int × List Int) × V) × Value} (h : N[j]? = some n) : ((N[j]?).map (·.1.1)).getD 0 = n.1.1 := by rw [h] <;> rfl
theorem prb_items {h : Heap} {N : NB} {its : List Value} (e : its = N.map fun n => Value.ref n.1.1) (hN : ∀ n ∈ N, IsTup h n.1.1 #[.ref n.1.2.1, n.2]) :
    PairItems h its.toArray (fun j => ((N[j]?).map (·.1.1)).getD 0) (N.map fun n => (Value.ref n.1.2.1, n.2)) := by
  refine ⟨by rw [e] <;> simp, fun j k v hj => ?_⟩
  rw [List.getElem?_map] at hj
  obtain ⟨n, hn, en⟩ := Option.map_eq_some_iff.mp hj
  cases en
  refine ⟨?_, ?_⟩
  · rw [e]
    simp [hn]
  · show PairAt h (((N[j]?).map (·.1.1)).getD 0) _ _
    rw [tsB hn]
    exact .inl (hN n (List.mem_of_getElem? hn))
def entB (n : (Addr × Addr × (List Int × List Int) × V) × Value) : EntB := (bk n.1.2.2.1, n.1.2.1, n.2)
theorem prb_have {N : NB} : PairsHaveH (NK P w) (N.map fun n => (Value.ref n.1.2.1, n.2)).length (PairRel (N.map fun n => (Value.ref n.1.2.1, n.2))) (N.map entB) := by
  refine ⟨by simp, fun i key v hi => ?_⟩
  have hi' : (N.map fun n => (Value.ref n.1.2.1, n.2))[i]? = some (key, v) := hi
  rw [List.getElem?_map] at hi'
  obtain ⟨n, hn, en⟩ := Option.map_eq_some_iff.mp hi'
  cases en
  exact ⟨bk n.1.2.2.1, n.1.2.1, by rw [List.getElem?_map, hn] <;> rfl, rfl⟩
theorem valB_of {M : PrB} {N : NB} (e : N.map (·.1) = M) (hN : ∀ n ∈ N, RelV n.1.2.2.2 n.2) : ValB (M.map (·.2)) (N.map entB) := by
  subst e
  unfold ValB
  induction N with
  | nil => exact .nil
  | cons n N ih =>
    rw [List.map_cons, List.map_cons, List.map_cons]
    exact .cons ⟨rfl, rfl, hN n List.mem_cons_self⟩ (ih fun z hz => hN z (List.mem_cons_of_mem _ hz))
theorem nodup_bk : ∀ {qs : List (List Int × List Int)}, qs.Nodup → (qs.map bk).Nodup
  | [], _ => List.nodup_nil
  | q :: qs, h => by
    rw [List.nodup_cons] at h
    rw [List.map_cons, List.nodup_cons]
    refine ⟨fun hm => ?_, nodup_bk h.2⟩
    obtain ⟨z, hz, e⟩ := List.mem_map.mp hm
    exact h.1 (by rw [← bk_inj e]; exact hz)
def rDictLB (K : PySem.W.Frag) (P : Program) (w : World) : List V → Hp → VK → Prop := fun xs H Q => ∃ (a : Addr) (M : PrB), xs = [V.ref a] ∧ SqL K H a (M.map fun m => V.ref m.1) ∧ PrBAt K H M ∧ (M.map fun m => m.2.2.1).Nodup ∧ M.length ≤ 100000 ∧
  ∀ d, H d = none → Q (.ref d) (upd H d (DBO P w d (M.map (·.2))))
theorem call_dictLB (hc : X.calm = true) (hu : X.A.units + 64 < cLine) (eK : X.K = K := by rfl) (eP : X.prog = P := by rfl) (ew : X.w = w := by rfl) : CallR X (.type "dict") (rDictLB K P w) := by
  subst eK eP ew
  intro pins s σ H xs us Q I r h
  obtain ⟨a, M, rfl, ha, hM, nd, few, q⟩ := h
  rw [Vals.ref1 r]
  obtain ⟨N, e, hN⟩ := prb_vals I hM
  obtain ⟨its, rv, pl, hz⟩ := I.list ha
  have hi : its = N.map fun n => Value.ref n.1.1 := by
    have := refs_vals rv
    rw [this, ← e, List.map_map]
    rfl
  obtain ⟨ol, nl, g0, gc, gd, gdat⟩ := pl
  have ok : PlainSeq "list" s.heap a its.toArray ∧ PairItems s.heap its.toArray (fun j => ((N[j]?).map (·.1.1)).getD 0) (N.map fun n => (Value.ref n.1.2.1, n.2)) := ⟨⟨ol, nl, g0, gc, gd, gdat⟩, prb_items hi fun n hn => (hN n hn).2.1⟩
  have hlen : N.length = M.length := by rw [← e, List.length_map]
  have ndN : ((N.map entB).map (·.1)).Nodup := by
    have e1 : (N.map entB).map (·.1) = (M.map fun m => m.2.2.1).map bk := by
      rw [← e, List.map_map, List.map_map, List.map_map]
      rfl
    rw [e1]
    exact nodup_bk nd
  refine call_dict_pairsH (knd := NK X.prog X.w) (PairArg.list a its.toArray _ _) (I.ok.hd hc) (show X.A.units + 1 + 1 + 8 < cLine by omega) ok prb_have (fun g hk x hx => ?_) (by rw [List.length_map, sizeLine_eq]; omega) fun g tk hd hk => ?_
  · obtain ⟨n, hn, ex⟩ := List.mem_map.mp hx
    subst ex
    obtain ⟨k1, k2⟩ := (hN n hn).2.2
    exact ⟨NestedIs.at (fun b o vs m e _ => hk b o (Nat.ne_of_lt (Heap.lt_size e)) (by simp) e) _ _ k1, k2⟩
  · rw [storedAllH_nil_of_nodup _ ndN] at hd
    have hn : H s.heap.objs.size = none := I.hok.fresh (Nat.le_refl _)
    exact ⟨.ref s.heap.objs.size, _, I.laid (a := s.heap.objs.size) (t' := tk) (fun b ob z => hk b ob (by simp) z) (Nat.le_refl _) (dbo_ok (valB_of e fun n hn => (hN n hn).1) (braw_of hd (beq_eq_false_iff_ne.mpr (Ne.symm (Nat.ne_of_lt I.big))))), rfl, q _ hn⟩
/-! ### d.get(b, z) -/
def tDGetZ (K : PySem.W.Frag) (P : Program) (w : World) (td ty tx : TE) : TE := fun σ H Q => td σ H fun x H1 => (∃ a L, x = .ref a ∧ H1 a = some (DBO P w a L)) ∧ ty σ H1 fun y H2 => tx σ H2 fun z H3 =>
  ∃ (a b : Addr) (L : BoxL) (q : List Int × List Int), x = .ref a ∧ y = .ref b ∧ H3 a = some (DBO P w a L) ∧ BoxesAt K H3 L ∧ BoxAt K H3 b q ∧ Q ((findB L q).getD z) H3
theorem pe_dgetZ {o e f : Expr} {apos cpos : Pos} {td ty tx : TE} (hu : X.A.units + 64 < cLine) (ho : PE X o td) (he : PE X e ty) (hf : PE X f tx) (m : M2 X o "get" apos e f cpos) (eK : X.K = K := by rfl) (eP : X.prog = P := by rfl) (ew : X.w = w := by rfl) :
    PE X (.Call (.Attribute o "get" apos) [e, f] [] cpos) (tDGetZ K P w td ty tx) := by
  subst eK eP ew
  refine ⟨fun pins s σ H Q I h => ?_⟩
  refine wpAny_Call_method m.base m.few m.line F.plainAttrs_dict F.slot_dict_get F.type_dict_get (thn (ho.run pins s σ H _ I h) fun u s1 ⟨x, H1, I1, rx, ⟨a, G, ex, hd⟩, q1⟩ => ?_)
  subst ex
  cases rx
  obtain ⟨xs, _, sysm, _, ob, es, ep, g1, g2, _⟩ := Inv.dbo I1 (.inl hd)
  refine ⟨⟨ob, g1, g2.1⟩, fun c z => (by cases z; exact ⟨ob, g1, g2.2.1⟩), ?_⟩
  rw [m.trees]
  refine Calls.callWith_builtin rfl (Calls.evalArgs_plain (Calls.spliced_cons (thn (he.run pins s1 σ H1 _ I1 q1) fun iv s2 ⟨y, H2, I2, ry, q2⟩ =>
    Calls.spliced_cons (thn (hf.run pins s2 σ H2 _ I2 q2) fun fv s3 ⟨z, H3, I3, rz, a', b, L, q, ea, eb, hd3, hL, hb, q3⟩ => Calls.spliced_nil ?_))))
  cases ea
  subst eb
  cases ry
  obtain ⟨ys, hF, hraw⟩ := Inv.dbo I3 (.inl hd3)
  have dd := boxes_full I3 hF hraw hL
  refine call_meetsIn F.slot_dict_get dd.typeIs F.entry_dict_get (F.args_dict_get_3 _ _ _) (meetsH_dict_get_default (NK X.prog X.w) a b hraw.1 fv) ⟨show X.A.units + 1 + 8 < cLine by omega, bk q, ys, Inv.boxKey I3 hb, dd, ?_⟩
  exact ⟨_, H3, I3.tok _, (hF.find q).getD rz, q3⟩
/-! ### d[b] = v, whether b is there or not -/
def storeB (L : BoxL) (b : Addr) (q : List Int × List Int) (v : V) : BoxL := if (findB L q).isSome then L.map (fun p => if p.2.1 = q then (p.1, p.2.1, v) else p) else L ++ [(b, q, v)]
theorem valB_put {L : BoxL} {xs : List EntB} {q : List Int × List Int} {v : V} {r : Value} (h : ValB L xs) (rv : RelV v r) : ValB (L.map fun p => if p.2.1 = q then (p.1, p.2.1, v) else p) (xs.map (putAt (bk q) r)) := by
  unfold ValB at h ⊢
  induction h with
  | nil => exact .nil
  | @cons p x ps qs r1 _ ih =>
    rw [List.map_cons, List.map_cons]
    refine .cons ?_ ih
    obtain ⟨a1, a2, a3⟩ := r1
    unfold putAt
    by_cases e : p.2.1 = q
    · rw [if_pos e, if_pos (by rw [a2, e])]
      exact ⟨a1, a2, rv⟩
    · rw [if_neg e, if_neg (fun z => e (bk_inj (a2.symm.trans z)))]
      exact ⟨a1, a2, a3⟩
def sDPutR (K : PySem.W.Frag) (P : Program) (w : World) (td ty tv : TE) : TS := fun D σ H => tv σ H fun v H1 => td σ H1 fun x H2 => ty σ H2 fun y H3 => ∃ (a b : Addr) (q : List Int × List Int) (L : BoxL), x = .ref a ∧ y = .ref b ∧ H3 a = some (DBO P w a L) ∧ BoxesAt K H3 L ∧ BoxAt K H3 b q ∧ L.length ≤ 100000 ∧
  D.nx σ (upd H3 a (DBO P w a (storeB L b q v)))
theorem ps_dputR {o i value : Expr} {pos pos' : Pos} {td ty tv : TE} (hu : X.A.units + 64 < cLine) (ho : PE X o td) (hi : PE X i ty) (hv : PE X value tv) (hs : swapsWith value (some (.Subscript o i pos')) pos.line X.env = pure false) (eK : X.K = K := by rfl) (eP : X.prog = P := by rfl) (ew : X.w = w := by rfl) :
    PS X (.Assign [.Subscript o i pos'] value pos) (sDPutR K P w td ty tv) := by
  subst eK eP ew
  refine ⟨fun pins s σ H D I h => ?_⟩
  refine wpAny_Assign_Subscript (thn (hv.run pins s σ H _ I h) fun r s1 ⟨v, H1, I1, rv, q1⟩ => thn (ho.run pins s1 σ H1 _ I1 q1) fun u s2 ⟨x, H2, I2, rx, q2⟩ => thn (hi.run pins s2 σ H2 _ I2 q2) fun iv s3 ⟨y, H3, I3, ry, a, b, q, L, ex, ey, ha, hL, hb, hl, q3⟩ => ?_) hs
  subst ex ey
  cases rx
  cases ry
  obtain ⟨xs, hF, hd⟩ := Inv.dbo I3 (.inl ha)
  have hxl : xs.length = L.length := (Paired.length hF).symm
  refine wpAny_setItem_heap (knd := NK X.prog X.w) (hsz := by rw [hxl, sizeLine_eq]; omega) (show X.A.units + 1 + 8 < cLine by omega) (Inv.boxKey I3 hb) (boxes_full I3 hF hd hL) fun h' hm sb => ?_
  have he : ∃ u, h'.get? a = some u := by
    obtain ⟨o, _, _, z, _⟩ := hm
    exact ⟨o, z⟩
  have e : (findB L q).isSome = (atKey xs (bk q)).isSome := by
    rw [(hF.find q).isSome_eq, Option.isSome_map]
  have hF2 : ValB (storeB L b q v) (storedH xs (bk q) b r) := by
    unfold storeB storedH
    rw [e]
    by_cases z : (atKey xs (bk q)).isSome = true
    · rw [if_pos z, if_pos z]
      exact valB_put hF rv
    · rw [if_neg z, if_neg z]
      exact Paired.snoc hF ⟨rfl, rfl, rv⟩
  exact ⟨σ, _, I3.write (e := a) (t' := s3.toks + (NK X.prog X.w).draws (bk q)) (by rw [ha]; trivial) (.inl rfl) (fun c u hc hu => (sb.2 c hc).trans hu) he (dbo_ok hF2 (braw_of hm hd.1)), q3⟩
/-! ### for b, v in d.items() -/
def ItiB (P : Program) (w : World) (d : Addr) (o : Obj) (L : BoxL) : It := ⟨fun i H => H d = some (.frz o (DBO P w d L)) ∧ i < L.length, fun i H x H' => ∃ T p, L[i]? = some p ∧ x = .ref T ∧ H T = none ∧ H' = upd H T (.tup [.ref p.1, p.2.2]), fun i H => H d = some (.frz o (DBO P w d L)) ∧ L.length ≤ i⟩
theorem Inv.frzB2 {d : Addr} {o : Obj} {L : BoxL} (I : Inv X pins σ H s) (h : H d = some (.frz o (DBO X.prog X.w d L))) :
    (d == sysModules) = false ∧ s.heap.get? d = some o ∧ o.ExactDict ∧ ∃ (es : Array DictEntry) (ep : Nat), o.data = .dict es ep ∧ es.size = L.length ∧ ∀ (i : Nat) p, L[i]? = some p → ∃ en, es[i]? = some en ∧ en.key = .ref p.1 ∧ RelV p.2.2 en.val := by
  obtain ⟨g0, ⟨xs, hx, sy, _, o', es, ep, g1, g2, g3, g4⟩, _⟩ := I.hok d _ h
  rw [g0] at g1
  cases g1
  refine ⟨sy, g0, g2, es, ep, g3, by rw [size_of_entries g4, ← Paired.length hx], fun i p hi => ?_⟩
  obtain ⟨y, hy, r1, _, r3⟩ := _root_.L2.paired_get hx hi
  refine ⟨_, by rw [entry_at g4, hy] <;> rfl, ?_, r3⟩
  rw [← r1]
  rfl
theorem turn_itemsB {elts : List Expr} {kk : Nat} {tpos : Pos} {d : Addr} {o : Obj} {L : BoxL} {es : Array DictEntry} {ep : Nat} (it : Addr) (hod : o.data = .dict es ep) : Turn P w K (.Tuple elts kk tpos) (ItiB P w d o L) [it] it (fun i h => ∃ ok ov, IsItemIter h it d i L.length ep ok ov) where
  mem := List.mem_singleton.mpr rfl
  obj := fun i h st b hb => by
    rw [List.mem_singleton.mp hb]
    obtain ⟨ok, ov, e⟩ := st
    exact ⟨_, e, fun v z => nomatch z⟩
  keep := fun i h h' st k => let ⟨ok, ov, e⟩ := st; ⟨ok, ov, k it (by simp) _ e⟩
  item := by
    intro X hP hw hK hc i pins s σ H E I hf st hg
    subst hP hw hK
    obtain ⟨hd, hi⟩ := hg
    obtain ⟨hs, g0, hx, es', ep', hdt, hsz, ent⟩ := Inv.frzB2 I hd
    obtain ⟨rfl, rfl⟩ := dict_ep hod hdt
    obtain ⟨p, hp⟩ : ∃ p, L[i]? = some p := ⟨_, List.getElem?_eq_getElem hi⟩
    obtain ⟨en, hen, hk, hv⟩ := ent i p hp
    obtain ⟨ok, ov, he⟩ := st
    rw [← hsz] at he
    have hlt : it < s.heap.objs.size := Heap.lt_size he
    have hi' : i < es'.size := by omega
    have een : es'[i] = en := by
      rw [Array.getElem?_eq_getElem hi'] at hen
      exact Option.some.inj hen
    refine wpAny_pyNext_items_item_raw he ⟨o, g0, hx, hod⟩ hi' fun h' ho hT hz hk' => ?_
    rw [een] at ho hT
    refine ⟨_, rfl, wpAny_letOwnedTupleGo_items (s := { s with heap := h' }) ho fun h'' he' sb => ?_⟩
    have hT2 : h''.get? s.heap.objs.size = some { cls := .type "tuple", data := .seq #[en.key, en.val] } := (sb.2 _ (Nat.ne_of_gt hlt)).trans hT
    have new : ObjOk X.prog X.w (upd H s.heap.objs.size (.tup [.ref p.1, p.2.2])) h'' s.heap.objs.size (.tup [.ref p.1, p.2.2]) :=
      ⟨by show 2 ≤ sizeLine; decide, [en.key, en.val], .cons (by rw [hk]; exact rfl) (.cons hv .nil), ⟨_, hT2, rfl, _, rfl⟩⟩
    have I1 : Inv X pins σ (upd H s.heap.objs.size (.tup [.ref p.1, p.2.2])) { s with heap := h'' } :=
      I.turnedNew (t' := s.toks) (ch := [it]) (fun b ob hb e => (sb.2 b (by simpa using hb)).trans (hk' b ob (by simpa using hb) e)) hf (Nat.le_refl _) new
    refine ⟨.ref s.heap.objs.size, _, I1, rfl, ⟨_, p, hp, rfl, I.hok.fresh (Nat.le_refl _), rfl⟩, ⟨en.key, en.val, ?_⟩, fun b hb => ?_⟩
    · rw [← hsz]; exact he'
    · have e : b = it := by simpa using hb
      rw [e, upd_ne (Nat.ne_of_lt hlt)]
      exact (hf it (by simp)).1
  done := by
    intro X hP hw hK hc i pins s σ H E I hf st hg
    subst hP hw hK
    obtain ⟨hd, hi⟩ := hg
    obtain ⟨f0, f1, f2, f3, f4, f5⟩ := hf it (by simp)
    obtain ⟨hs, g0, hx, es', ep', hdt, hsz, ent⟩ := Inv.frzB2 I hd
    obtain ⟨rfl, rfl⟩ := dict_ep hod hdt
    obtain ⟨ok, ov, he⟩ := st
    rw [← hsz] at he
    exact wpAny_pyNext_items_end_raw (I.ok.hd hc) he ⟨o, g0, hx, hod⟩ (by omega) fun h' eb => ⟨rfl, I.turned (t' := s.toks) (fun b ob hb e => eb b ob hb e) f0 f1 f3 f4 f5⟩
  self := fun A i s Q E st h => let ⟨_, _, e⟩ := st; PySem.W.kcp_self e h
def iItemsB (P : Program) (w : World) (td : TE) : TI := fun σ H R => td σ H fun x H1 => ∃ d o L, x = .ref d ∧ H1 d = some (.frz o (DBO P w d L)) ∧ R (ItiB P w d o L) H1
theorem pi_itemsB {e : Expr} {td : TE} {apos cpos : Pos} {elts : List Expr} {kk : Nat} {tpos : Pos} (he : PE X e td) (hbase : attributeBase e "items" X.env (eval e X.env) = eval e X.env := by rfl) (hline : (apos.endLine == cpos.line) = true := by rfl) (eP : X.prog = P := by rfl) (ew : X.w = w := by rfl) :
    PI X (.Tuple elts kk tpos) (.Call (.Attribute e "items" apos) [] [] cpos) (iItemsB P w td) := by
  subst eP ew
  refine ⟨fun pins s σ H R I h => ?_⟩
  refine wpAny_Call_method (T := "dict") (id := "dict.items") hbase rfl hline F.plainAttrs_dict F.slot_dict_items F.type_dict_items (thn (he.run pins s σ H _ I h) fun u s1 ⟨x, H1, I1, rx, d, o, L, ex, hd, q⟩ => ?_)
  subst ex
  obtain rfl : u = Value.ref d := rx
  obtain ⟨hs, g0, hx, es, ep, hdt, hsz, ent⟩ := Inv.frzB2 I1 hd
  have hr : s1.heap.DictRaw d es ep := ⟨o, g0, hx, hdt⟩
  refine ⟨hr.typeIs, fun c e => (by cases e; exact ⟨o, g0, hx.2.1⟩), ?_⟩
  have I2 : Inv X pins σ H1 { s1 with heap := s1.heap.push { cls := .type "dict_items", data := .fields #[.ref d] } } := I1.kept (t' := s1.toks) fun b ob q => Heap.get?_push_of_some _ q
  have fin : wpAny (model X.prog X.w) X.A (pyIter (.ref s1.heap.objs.size)) (PIE X pins σ (.Tuple elts kk tpos) R) X.xe { s1 with heap := s1.heap.push { cls := .type "dict_items", data := .fields #[.ref d] } } := by
    refine wpAny_pyIter_items_raw (d := d) ⟨_, Heap.get?_push_size _ rfl, rfl, rfl⟩ (hr.at fun o' z => Heap.get?_push_of_some _ z) (pi_one (tk := s1.toks) I2 _ (turn_itemsB _ hdt) ⟨.none, .none, ?_⟩ q)
    rw [← hsz]
    exact Heap.get?_push_size _ rfl
  show wpAny _ _ (callWith cpos (.builtin "dict.items") [.ref d] [] []) _ X.xe s1
  exact method_meetsIn F.slot_dict_items F.entry_dict_items rfl (PySem.evalArgs_none ⟨rfl, hr.typeIs, F.args_dict_items_1 _, _, meets_dict_items_raw d hs, ⟨es, ep, hr⟩, fin⟩)
end
end Fm
/-! {p for .. in ..}: a set comprehension of one for, its members tuples of ints. -/
namespace Fm
open PySem PySem.Spec PyProof.Rows L2 PySem.W
abbrev sc1 (el ta ea : Expr) (sc : Scope) (ps : Pos) : Expr := .SetComp el [⟨ta, ea, [], 0⟩] sc ps
section
variable {X : Cx} {K : PySem.W.Frag} {P : Program} {w : World}
def tSc1 (K : PySem.W.Frag) (P : Program) (w : World) (wa : TI) (ga : TG) (te : TE) (vs : List Nat) : TE := fun σ H Q => wa σ H fun J H1 => ∀ D, H1 D = none → ∃ W : Nat → Nat → Hp → Prop, (∃ m, W 0 m (upd H1 D (SetTO P w D []))) ∧ ∀ i m H, W i m H →
  (J.stop i H ∧ Q (.ref D) H) ∨ (J.go i H ∧ ∃ Nx : Hp → Prop, (∀ H', Nx H' → ∃ m', m' < m ∧ W (i + 1) m' H') ∧ ∀ x H', J.yld i H x H' → ga x (wipe σ vs) H' fun σ2 H2 => wipe σ2 vs = wipe σ vs ∧ te σ2 H2 fun y H7 =>
      ∃ (b : Addr) (q : List Int) (L : List (Addr × List Int)), y = .ref b ∧ SqT K H7 b (q.map V.int) ∧ H7 D = some (SetTO P w D L) ∧ TupsAt K H7 L ∧ L.length + 1 < 64 ∧ ∀ L', PutIn L b q L' → Nx (upd H7 D (SetTO P w D L')))
theorem sc1_all {pins : List (Addr × Obj)} {s : Shared} {σ : L2.St} {H : Hp} {Q : VK} {el ta ea : Expr} {sc : Scope} {own : List (Str × Nat)} {ps qs : Pos} {wa : TI} {ga : TG} {te : TE} {use : Option (Value → Sem Unit)} {Qf : Value → Shared → Prop}
    (hc : X.calm = true) (hu : X.A.units + 64 < cLine) (hN : X.N.Nodup) (I : Inv X pins σ H s) (pa : PI X ta ea wa) (ok : BlkOk X.N X.env.scope sc own)
    (pga : ∀ (s : Shared) (H : Hp) (C : Addr) (cl : List (Str × Addr)) (fp : List Addr), PG (X.blk s H sc (compEnvC sc cl C X.env) fp) ta ga)
    (pe : ∀ (s : Shared) (H : Hp) (C : Addr) (cl : List (Str × Addr)) (fp : List Addr), PE (X.blk s H sc (compEnvC sc cl C X.env) fp) el te)
    (fa : ∀ x, foldedSetIterable ea X.env x = pure x) (eK : X.K = K) (eP : X.prog = P) (ew : X.w = w)
    (h : tSc1 K P w wa ga te (own.map (·.2)) σ H Q)
    (post : ∀ D C u m H', Inv X pins σ H' u → Q (.ref D) H' → u.heap.Ns C m → FpOk X pins H' C → compPost (model X.prog X.w) X.A X.xe use Qf (.ref D) C (.ok .next) u) :
    wpAny (model X.prog X.w) X.A (comprehension (sc1 el ta ea sc ps) sc X.env qs (newSet (.type "set")) false (eval ea X.env) use) Qf X.xe s := by
  subst eK eP ew
  have hfree : ∀ y ∈ sc.names, y.2 = .free → ∃ c, X.env.cells.lookup y.1 = some c := fun y hy e => (ok.free y hy e).elim (fun z => I.ok.has _ (.inl z)) fun z => I.ok.has _ (.inr z)
  refine wpAny_comprehension_free (use := use) rfl fa (closure_ok hfree) ok.kind (fun y hy e => by rw [ok.uniq y hy, e]) (thn (pa.run pins s σ H _ I h) fun xv s1 hx => thn hx fun itv s2 h2 => ?_)
  obtain ⟨it, fp, tn, J, H2, e, I2, T, st2, f2, q⟩ := h2
  subst e
  refine wpAny_newSet_raw fun led hled => newEnv_comp ?_
  subst hled
  generalize hD : s2.heap.objs.size = D
  have hDn : H2 D = none := I2.hok.fresh (Nat.le_of_eq hD)
  obtain ⟨W, ⟨m0, w0⟩, turn⟩ := q D hDn
  generalize hob : ({ cls := .type "set", dict := none, data := .set #[] 0 (.fresh 0 0 (!X.w.params.followText "set-order")) } : Obj) = ob
  generalize hs3 : ({ s2 with heap := s2.heap.push ob } : Shared) = s3
  have h3 : s3.heap = s2.heap.push ob := by rw [← hs3]
  have gD : s3.heap.get? D = some ob := by
    rw [h3, ← hD]
    exact Heap.get?_push_size _ (by rw [← hob] <;> rfl)
  have old3 : ∀ b o, s2.heap.get? b = some o → s3.heap.get? b = some o := fun b o z => by
    rw [h3]
    exact Heap.get?_push_of_some _ z
  have I3 : Inv X pins σ (upd H2 D (SetTO X.prog X.w D [])) s3 := by
    have t0 : SetT0 X.prog X.w s3.heap D [] := (setTR_fresh (P := X.prog) (w := X.w) (by rw [gD, ← hob])).t0
    have := I2.laid (a := D) (o := SetTO X.prog X.w D []) (h' := s3.heap) (t' := s2.toks) old3 (Nat.le_of_eq hD) (setTO_new t0)
    rw [← hs3] at this ⊢
    exact this
  have lo : ∀ b ∈ fp, b < s2.heap.objs.size := fun b hb => by
    obtain ⟨o, z, _⟩ := T.obj _ _ st2 b hb
    exact Heap.lt_size z
  have f3 : ∀ b ∈ fp, FpOk X pins (upd H2 D (SetTO X.prog X.w D [])) b ∧ b < s3.heap.objs.size := fun b hb => by
    have l := lo b hb
    have ne : b ≠ D := by
      rw [← hD]
      exact Nat.ne_of_lt l
    exact ⟨⟨by rw [upd_ne ne]; exact (f2 b hb).1, (f2 b hb).2⟩, by rw [h3, Heap.size_push]; exact Nat.lt_succ_of_lt l⟩
  have st3 : tn 0 s3.heap := T.keep _ _ _ st2 fun b _ o z => old3 b o z
  have I4 := block_start I3 ok hN f3
  generalize hH3 : upd H2 D (SetTO X.prog X.w D []) = H3 at I3 I4 f3 w0
  generalize hcl : cellsFrom (s3.heap.objs.size + 1) sc.names (cloFrom X.env.cells sc.names []) = cl at I4
  have gA := pga s3 H3 s3.heap.objs.size cl fp
  have gE := pe s3 H3 s3.heap.objs.size cl fp
  show codeAny _ _ (.compStart (sc1 el ta ea sc ps) 0 (.ref it) (.ref D) (compEnvC sc cl s3.heap.objs.size X.env)) (compPost (model X.prog X.w) X.A X.xe use Qf (.ref D) s3.heap.objs.size) { s3 with heap := pushCells (s3.heap.push { cls := .type "dict", data := .dict #[] }) sc.names }
  generalize hce : compEnvC sc cl s3.heap.objs.size X.env = ce at I4 gA gE ⊢
  have cL : ce.locals = s3.heap.objs.size := by subst hce; rfl
  generalize hs4 : ({ s3 with heap := pushCells (s3.heap.push { cls := .type "dict", data := .dict #[] }) sc.names } : Shared) = s4 at I4 ⊢
  have st4 : tn 0 s4.heap := T.keep _ _ _ st3 fun b _ o z => by rw [← hs4]; exact pushCells_keeps _ _ _ _ (Heap.get?_push_of_some _ z)
  have nfp : ∀ b ∈ fp, H3 b = none := fun b hb => (f3 b hb).1.1
  have stand : ∀ {τ : L2.St} {G : Hp} {u : Shared}, Inv (X.blk s3 H3 sc ce fp) [] τ G u → (∀ b ∈ fp, G b = none) → ∀ b ∈ fp, FpOk (X.blk s3 H3 sc ce fp) [] G b := fun I' hn b hb =>
    ⟨hn b hb, (I'.ok.exf b hb).1, I'.ok.exfs b hb, .inl hb, fun x c z => (I'.ok.exf b hb).2 x c z, fun p hp => absurd (show p ∈ ([] : List (Addr × Obj)) ++ [] from hp) (by simp)⟩
  have loop : codeAny (model X.prog X.w) X.A (.compLoop (sc1 el ta ea sc ps) 0 (.ref it) (.ref D) ce) (compPost (model X.prog X.w) X.A X.xe use Qf (.ref D) s3.heap.objs.size) s4 := by
    refine PpSet.compLoopS_any (fun m u => ∃ i G, Inv (X.blk s3 H3 sc ce fp) [] (wipe σ (own.map (·.2))) G u ∧ tn i u.heap ∧ (∀ b ∈ fp, G b = none) ∧ W i m G) ?_ m0 ⟨0, H3, I4, st4, nfp, w0⟩
    rintro m u5 ⟨i, G5, I5, st5, n5, w5⟩
    rcases turn i m G5 w5 with ⟨stop, qq⟩ | ⟨go, Nx, hNx, step⟩
    · refine thnF (T.done (X.blk s3 H3 sc ce fp) rfl rfl rfl hc i [] u5 _ G5 (fun _ _ => False) I5 (stand I5 n5) st5 stop) fun r u6 ⟨hr, I6⟩ => ?_
      subst hr
      have I7 : Inv X pins σ G5 u6 := I3.call' (ch := fp) I6.os I6.base I6.hok I6.bare fun b hb => ⟨(f3 b hb).1.2.2.2.1, (f3 b hb).1.2.1, (f3 b hb).1.2.2.2.2.1, (f3 b hb).1.2.2.2.2.2⟩
      have nC : G5 ce.locals = none := I6.free
      obtain ⟨mm, hn, _⟩ := I6.loc
      have hn : u6.heap.Ns ce.locals mm := hn
      rw [cL] at hn nC
      exact post D s3.heap.objs.size u6 mm G5 I7 qq hn (I3.fpOk (Nat.le_refl _) nC)
    · refine thnF (T.item (X.blk s3 H3 sc ce fp) rfl rfl rfl hc i [] u5 _ G5 (fun _ _ => False) I5 (stand I5 n5) st5 go) fun r u6 ⟨got, hr, h6⟩ => ?_
      subst hr
      refine thnF h6 fun _ u7 ⟨x, G7, I7, r7, y7, st7, n7⟩ => ?_
      have I7' := I7.pinned (stand I7 n7) (T.obj _ _ st7)
      refine thnF (gA.run _ u7 _ G7 x got _ I7' r7 (step x G7 y7)) fun _ u8 ⟨σ8, G8, I8, hw8, q8⟩ => ?_
      refine wpAny_pure ?_
      simp only [if_true]
      have fin : ∀ {u : Shared} {G : Hp}, Inv (X.blk s3 H3 sc ce fp) ([] ++ pinsAt fp u7.heap) σ8 G u → Nx G → ∃ m', m' < m ∧ ∃ i G, Inv (X.blk s3 H3 sc ce fp) [] (wipe σ (own.map (·.2))) G u ∧ tn i u.heap ∧ (∀ b ∈ fp, G b = none) ∧ W i m' G := fun {u G} I' nx => by
        obtain ⟨m', hm, w'⟩ := hNx G nx
        have pin' : ∀ b ∈ fp, ∀ o, u7.heap.get? b = some o → u.heap.get? b = some o ∧ G b = none := fun b hb o z =>
          have zz := I'.pin (b, o) (List.mem_append_right _ (List.mem_append_right _ (mem_pinsAt hb z)))
          ⟨zz.1, zz.2.1⟩
        have hl : (wipe σ (own.map (·.2))).length = σ8.length := by rw [← hw8, wipe_length]
        refine ⟨m', hm, i + 1, G, (I'.unpinned (pins := [])).weak hl (fun j v z => ?_), T.keep _ _ _ st7 fun b hb o z => (pin' b hb o z).1, fun b hb => ?_, w'⟩
        · rw [← hw8] at z
          exact (wipe_some z).1
        · obtain ⟨o, z, _⟩ := T.obj _ _ st7 b hb
          exact (pin' b hb o z).2
      refine thnF (gE.run _ u8 σ8 G8 _ I8 q8) fun z u17 ⟨yv, G17, I17, r17, b, kk, L, ey, hb, hDL, hL, few, nx⟩ => ?_
      subst ey
      cases r17
      exact add_inv (X := X.blk s3 H3 sc ce fp) I17 hDL hL hb (by show X.A.units + 2 < cLine; omega) few fun L' u18 p I18 => fin I18 (nx L' p)
  exact codeAny_compStart_set loop (T.self X.A 0 _ _ _ st4 loop)
theorem pe_sc1 {el ta ea : Expr} {sc : Scope} {own : List (Str × Nat)} {ps : Pos} {wa : TI} {ga : TG} {te : TE} (hc : X.calm = true) (hu : X.A.units + 64 < cLine) (hN : X.N.Nodup) (pa : PI X ta ea wa) (ok : BlkOk X.N X.env.scope sc own)
    (pga : ∀ (s : Shared) (H : Hp) (C : Addr) (cl : List (Str × Addr)) (fp : List Addr), PG (X.blk s H sc (compEnvC sc cl C X.env) fp) ta ga)
    (pe : ∀ (s : Shared) (H : Hp) (C : Addr) (cl : List (Str × Addr)) (fp : List Addr), PE (X.blk s H sc (compEnvC sc cl C X.env) fp) el te)
    (fa : ∀ x, foldedSetIterable ea X.env x = pure x := by intro _; rfl) (eK : X.K = K := by rfl) (eP : X.prog = P := by rfl) (ew : X.w = w := by rfl) :
    PE X (sc1 el ta ea sc ps) (tSc1 K P w wa ga te (own.map (·.2))) := by
  refine ⟨fun pins s σ H Q I h => ?_⟩
  rw [arm_eval_SetComp]
  refine sc1_all hc hu hN I pa ok pga pe fa eK eP ew h fun D C u m H' I' q hn f => ⟨m, hn, fun g sb => ?_⟩
  obtain ⟨f0, f1, f2, f3, f4, f5⟩ := f
  exact ⟨.ref D, H', I'.turned (t' := u.toks) (fun b o hb z => (sb.2 b hb).trans z) f0 f1 f3 f4 f5, rfl, q⟩
end
end Fm
namespace Fm
open PySem PySem.Spec PyProof.Rows L2
def topS (i : Nat) : Stmt := PySem.Challenge.pw_fairmasks_k06_whole_fair_habits_by_share.main.body.getD i (.Pass ⟨0, 0, 0, 0⟩)
abbrev s_is_whole : Stmt := topS 4
abbrev N_is_whole : List Str := ["thing"]
theorem sc_is_whole : FnScope N_is_whole ["thing"] (defScope s_is_whole) := ⟨rfl, rfl, rfl, by decide +kernel, rfl, by decide +kernel, by decide +kernel⟩
abbrev s_is_pair : Stmt := topS 5
abbrev N_is_pair : List Str := ["thing"]
theorem sc_is_pair : FnScope N_is_pair ["thing"] (defScope s_is_pair) := ⟨rfl, rfl, rfl, by decide +kernel, rfl, by decide +kernel, by decide +kernel⟩
abbrev s_is_fraction : Stmt := topS 6
abbrev N_is_fraction : List Str := ["thing", "top", "bottom"]
theorem sc_is_fraction : FnScope N_is_fraction ["thing"] (defScope s_is_fraction) := ⟨rfl, rfl, rfl, by decide +kernel, rfl, by decide +kernel, by decide +kernel⟩
abbrev s_is_share : Stmt := topS 7
abbrev N_is_share : List Str := ["thing"]
theorem sc_is_share : FnScope N_is_share ["thing"] (defScope s_is_share) := ⟨rfl, rfl, rfl, by decide +kernel, rfl, by decide +kernel, by decide +kernel⟩
abbrev s_fraction : Stmt := topS 8
abbrev N_fraction : List Str := ["top", "bottom", "common"]
theorem sc_fraction : FnScope N_fraction ["top", "bottom"] (defScope s_fraction) := ⟨rfl, rfl, rfl, by decide +kernel, rfl, by decide +kernel, by decide +kernel⟩
abbrev s_plus : Stmt := topS 9
abbrev N_plus : List Str := ["one", "other"]
theorem sc_plus : FnScope N_plus ["one", "other"] (defScope s_plus) := ⟨rfl, rfl, rfl, by decide +kernel, rfl, by decide +kernel, by decide +kernel⟩
abbrev s_minus : Stmt := topS 10
abbrev N_minus : List Str := ["one", "other"]
theorem sc_minus : FnScope N_minus ["one", "other"] (defScope s_minus) := ⟨rfl, rfl, rfl, by decide +kernel, rfl, by decide +kernel, by decide +kernel⟩
abbrev s_below : Stmt := topS 11
abbrev N_below : List Str := ["one", "other"]
theorem sc_below : FnScope N_below ["one", "other"] (defScope s_below) := ⟨rfl, rfl, rfl, by decide +kernel, rfl, by decide +kernel, by decide +kernel⟩
abbrev s_is_sizes : Stmt := topS 24
abbrev N_is_sizes : List Str := ["thing", "many", "size"]
theorem sc_is_sizes : FnScope N_is_sizes ["thing"] (defScope s_is_sizes) := ⟨rfl, rfl, rfl, by decide +kernel, rfl, by decide +kernel, by decide +kernel⟩
abbrev s_is_content : Stmt := topS 25
abbrev N_is_content : List Str := ["sizes", "thing", "size", "worth"]
theorem sc_is_content : FnScope N_is_content ["sizes", "thing"] (defScope s_is_content) := ⟨rfl, rfl, rfl, by decide +kernel, rfl, by decide +kernel, by decide +kernel⟩
abbrev s_is_pattern : Stmt := topS 26
abbrev N_is_pattern : List Str := ["columns", "thing", "last", "column"]
theorem sc_is_pattern : FnScope N_is_pattern ["columns", "thing"] (defScope s_is_pattern) := ⟨rfl, rfl, rfl, by decide +kernel, rfl, by decide +kernel, by decide +kernel⟩
abbrev s_is_box_of : Stmt := topS 27
abbrev N_is_box_of : List Str := ["sizes", "thing", "pattern", "worths", "column"]
theorem sc_is_box_of : FnScope N_is_box_of ["sizes", "thing"] (defScope s_is_box_of) := ⟨rfl, rfl, rfl, by decide +kernel, rfl, by decide +kernel, by decide +kernel⟩
abbrev s_all_columns : Stmt := topS 28
abbrev N_all_columns : List Str := ["columns"]
theorem sc_all_columns : FnScope N_all_columns ["columns"] (defScope s_all_columns) := ⟨rfl, rfl, rfl, by decide +kernel, rfl, by decide +kernel, by decide +kernel⟩
abbrev s_all_contents : Stmt := topS 29
abbrev N_all_contents : List Str := ["sizes", "found", "size", "content", "worth"]
theorem sc_all_contents : FnScope N_all_contents ["sizes"] (defScope s_all_contents) := ⟨rfl, rfl, rfl, by decide +kernel, rfl, by decide +kernel, by decide +kernel⟩
abbrev s_worths_at : Stmt := topS 30
abbrev N_worths_at : List Str := ["pattern", "content", "column"]
theorem sc_worths_at : FnScope N_worths_at ["pattern", "content"] (defScope s_worths_at) := ⟨rfl, rfl, rfl, by decide +kernel, rfl, by decide +kernel, by decide +kernel⟩
abbrev s_is_habit_row : Stmt := topS 33
abbrev N_is_habit_row : List Str := ["columns", "thing", "last", "total", "pair", "pattern", "part"]
theorem sc_is_habit_row : FnScope N_is_habit_row ["columns", "thing"] (defScope s_is_habit_row) := ⟨rfl, rfl, rfl, by decide +kernel, rfl, by decide +kernel, by decide +kernel⟩
abbrev s_patterns : Stmt := topS 34
abbrev N_patterns : List Str := ["habit", "found", "row", "shown", "part"]
theorem sc_patterns : FnScope N_patterns ["habit"] (defScope s_patterns) := ⟨rfl, rfl, rfl, by decide +kernel, rfl, by decide +kernel, by decide +kernel⟩
abbrev s_unfair : Stmt := topS 35
abbrev N_unfair : List Str := ["habit", "rows", "pattern", "pair", "row", "shown", "part"]
theorem sc_unfair : FnScope N_unfair ["habit"] (defScope s_unfair) := ⟨rfl, rfl, rfl, by decide +kernel, rfl, by decide +kernel, by decide +kernel⟩
abbrev s_unlike_pair_in : Stmt := topS 36
abbrev N_unlike_pair_in : List Str := ["sizes", "pattern", "parts", "firsts", "least", "content", "part", "one", "told"]
theorem sc_unlike_pair_in : FnScope N_unlike_pair_in ["sizes", "pattern", "parts"] (defScope s_unlike_pair_in) := ⟨rfl, rfl, rfl, by decide +kernel, rfl, by decide +kernel, by decide +kernel⟩
abbrev s_is_fair : Stmt := topS 37
abbrev N_is_fair : List Str := ["habit"]
theorem sc_is_fair : FnScope N_is_fair ["habit"] (defScope s_is_fair) := ⟨rfl, rfl, rfl, by decide +kernel, rfl, by decide +kernel, by decide +kernel⟩
abbrev s_box_shares : Stmt := topS 38
abbrev N_box_shares : List Str := ["habit", "everything", "found", "content", "row", "pattern", "part"]
theorem sc_box_shares : FnScope N_box_shares ["habit"] (defScope s_box_shares) := ⟨rfl, rfl, rfl, by decide +kernel, rfl, by decide +kernel, by decide +kernel⟩
abbrev s_is_part_shares : Stmt := topS 39
abbrev N_is_part_shares : List Str := ["sizes", "thing", "box", "part"]
theorem sc_is_part_shares : FnScope N_is_part_shares ["sizes", "thing"] (defScope s_is_part_shares) := ⟨rfl, rfl, rfl, by decide +kernel, rfl, by decide +kernel, by decide +kernel⟩
abbrev s_habit_of : Stmt := topS 40
abbrev N_habit_of : List Str := ["sizes", "shares", "parts", "rows", "content", "pairs", "pattern", "worths"]
theorem sc_habit_of : FnScope N_habit_of ["sizes", "shares"] (defScope s_habit_of) := ⟨rfl, rfl, rfl, by decide +kernel, rfl, by decide +kernel, by decide +kernel⟩
abbrev s_filled_row : Stmt := topS 41
abbrev N_filled_row : List Str := ["sizes", "content", "pairs", "total", "pattern", "part", "pair"]
theorem sc_filled_row : FnScope N_filled_row ["sizes", "content", "pairs"] (defScope s_filled_row) := ⟨rfl, rfl, rfl, by decide +kernel, rfl, by decide +kernel, by decide +kernel⟩
abbrev s_law_hand : Stmt := topS 43
abbrev N_law_hand : List Str := ["script", "cells", "cell"]
theorem sc_law_hand : FnScope N_law_hand ["script"] (defScope s_law_hand) := ⟨rfl, rfl, rfl, by decide +kernel, rfl, by decide +kernel, by decide +kernel⟩
abbrev s_law_draw : Stmt := topS 44
abbrev N_law_draw : List Str := ["hand", "many", "number", "cell", "digit"]
theorem sc_law_draw : FnScope N_law_draw ["hand", "many"] (defScope s_law_draw) := ⟨rfl, rfl, rfl, by decide +kernel, rfl, by decide +kernel, by decide +kernel⟩
abbrev s_law_some : Stmt := topS 45
abbrev N_law_some : List Str := ["hand", "things"]
theorem sc_law_some : FnScope N_law_some ["hand", "things"] (defScope s_law_some) := ⟨rfl, rfl, rfl, by decide +kernel, rfl, by decide +kernel, by decide +kernel⟩
abbrev s_law_sizes : Stmt := topS 46
abbrev N_law_sizes : List Str := ["hand"]
theorem sc_law_sizes : FnScope N_law_sizes ["hand"] (defScope s_law_sizes) := ⟨rfl, rfl, rfl, by decide +kernel, rfl, by decide +kernel, by decide +kernel⟩
abbrev s_law_contents : Stmt := topS 47
abbrev N_law_contents : List Str := ["sizes", "found", "size", "longer", "content", "worth"]
theorem sc_law_contents : FnScope N_law_contents ["sizes"] (defScope s_law_contents) := ⟨rfl, rfl, rfl, by decide +kernel, rfl, by decide +kernel, by decide +kernel⟩
abbrev s_law_patterns : Stmt := topS 48
abbrev N_law_patterns : List Str := ["columns", "found", "c", "pattern"]
theorem sc_law_patterns : FnScope N_law_patterns ["columns"] (defScope s_law_patterns) := ⟨rfl, rfl, rfl, by decide +kernel, rfl, by decide +kernel, by decide +kernel⟩
abbrev s_law_box : Stmt := topS 49
abbrev N_law_box : List Str := ["pattern", "content", "c"]
theorem sc_law_box : FnScope N_law_box ["pattern", "content"] (defScope s_law_box) := ⟨rfl, rfl, rfl, by decide +kernel, rfl, by decide +kernel, by decide +kernel⟩
abbrev s_law_is_in : Stmt := topS 50
abbrev N_law_is_in : List Str := ["box", "content"]
theorem sc_law_is_in : FnScope N_law_is_in ["box", "content"] (defScope s_law_is_in) := ⟨rfl, rfl, rfl, by decide +kernel, rfl, by decide +kernel, by decide +kernel⟩
abbrev s_law_low : Stmt := topS 51
abbrev N_law_low : List Str := ["top", "bottom", "turn", "a", "b"]
theorem sc_law_low : FnScope N_law_low ["top", "bottom"] (defScope s_law_low) := ⟨rfl, rfl, rfl, by decide +kernel, rfl, by decide +kernel, by decide +kernel⟩
abbrev s_law_plus : Stmt := topS 52
abbrev N_law_plus : List Str := ["one", "other"]
theorem sc_law_plus : FnScope N_law_plus ["one", "other"] (defScope s_law_plus) := ⟨rfl, rfl, rfl, by decide +kernel, rfl, by decide +kernel, by decide +kernel⟩
abbrev s_law_sum : Stmt := topS 53
abbrev N_law_sum : List Str := ["row", "found", "item"]
theorem sc_law_sum : FnScope N_law_sum ["row"] (defScope s_law_sum) := ⟨rfl, rfl, rfl, by decide +kernel, rfl, by decide +kernel, by decide +kernel⟩
abbrev s_law_shares : Stmt := topS 54
abbrev N_law_shares : List Str := ["hand", "sizes", "parts", "bottom", "left", "found", "pattern", "most", "content", "box", "k"]
theorem sc_law_shares : FnScope N_law_shares ["hand", "sizes"] (defScope s_law_shares) := ⟨rfl, rfl, rfl, by decide +kernel, rfl, by decide +kernel, by decide +kernel⟩
abbrev s_law_row_of : Stmt := topS 55
abbrev N_law_row_of : List Str := ["sizes", "shares", "content", "row", "box", "spent", "rest", "pair"]
theorem sc_law_row_of : FnScope N_law_row_of ["sizes", "shares", "content"] (defScope s_law_row_of) := ⟨rfl, rfl, rfl, by decide +kernel, rfl, by decide +kernel, by decide +kernel⟩
abbrev s_law : Stmt := topS 56
abbrev N_law : List Str := ["script", "hand", "turn", "sizes", "shares", "handed", "habit", "rows", "due", "told", "whole", "row", "content", "box"]
theorem sc_law : FnScope N_law ["script"] (defScope s_law) := ⟨rfl, rfl, rfl, by decide +kernel, rfl, by decide +kernel, by decide +kernel⟩
abbrev s_BadHabit_init : Stmt := inClass (topS 15) 0
abbrev N_BadHabit_init : List Str := ["self", "part"]
theorem sc_BadHabit_init : FnScope N_BadHabit_init ["self", "part"] (defScope s_BadHabit_init) := ⟨rfl, rfl, rfl, by decide +kernel, rfl, by decide +kernel, by decide +kernel⟩
abbrev s_Habit_init : Stmt := inClass (topS 32) 0
abbrev N_Habit_init : List Str := ["self", "sizes", "rows", "index", "row"]
theorem sc_Habit_init : FnScope N_Habit_init ["self", "sizes", "rows"] (defScope s_Habit_init) := ⟨rfl, rfl, rfl, by decide +kernel, rfl, by decide +kernel, by decide +kernel⟩
abbrev s_Habit_eq : Stmt := inClass (topS 32) 1
abbrev N_Habit_eq : List Str := ["self", "other"]
theorem sc_Habit_eq : FnScope N_Habit_eq ["self", "other"] (defScope s_Habit_eq) := ⟨rfl, rfl, rfl, by decide +kernel, rfl, by decide +kernel, by decide +kernel⟩
/-- what the top has left: each def, each constant, the built-ins that are not hidden -/
structure Txt (K : PySem.W.Frag) (mg : Str → Option Value) where
  f_is_whole : Addr
  d_is_whole : FuncData
  F_is_whole : Fun K "is_whole" "is_whole" s_is_whole f_is_whole d_is_whole
  b_is_whole : Binds K d_is_whole ["thing"] []
  g_is_whole : mg "is_whole" = some (.ref f_is_whole)
  f_is_pair : Addr
  d_is_pair : FuncData
  F_is_pair : Fun K "is_pair" "is_pair" s_is_pair f_is_pair d_is_pair
  b_is_pair : Binds K d_is_pair ["thing"] []
  g_is_pair : mg "is_pair" = some (.ref f_is_pair)
  f_is_fraction : Addr
  d_is_fraction : FuncData
  F_is_fraction : Fun K "is_fraction" "is_fraction" s_is_fraction f_is_fraction d_is_fraction
  b_is_fraction : Binds K d_is_fraction ["thing"] []
  g_is_fraction : mg "is_fraction" = some (.ref f_is_fraction)
  f_is_share : Addr
  d_is_share : FuncData
  F_is_share : Fun K "is_share" "is_share" s_is_share f_is_share d_is_share
  b_is_share : Binds K d_is_share ["thing"] []
  g_is_share : mg "is_share" = some (.ref f_is_share)
  f_fraction : Addr
  d_fraction : FuncData
  F_fraction : Fun K "fraction" "fraction" s_fraction f_fraction d_fraction
  b_fraction : Binds K d_fraction ["top", "bottom"] []
  g_fraction : mg "fraction" = some (.ref f_fraction)
  f_plus : Addr
  d_plus : FuncData
  F_plus : Fun K "plus" "plus" s_plus f_plus d_plus
  b_plus : Binds K d_plus ["one", "other"] []
  g_plus : mg "plus" = some (.ref f_plus)
  f_minus : Addr
  d_minus : FuncData
  F_minus : Fun K "minus" "minus" s_minus f_minus d_minus
  b_minus : Binds K d_minus ["one", "other"] []
  g_minus : mg "minus" = some (.ref f_minus)
  f_below : Addr
  d_below : FuncData
  F_below : Fun K "below" "below" s_below f_below d_below
  b_below : Binds K d_below ["one", "other"] []
  g_below : mg "below" = some (.ref f_below)
  f_is_sizes : Addr
  d_is_sizes : FuncData
  F_is_sizes : Fun K "is_sizes" "is_sizes" s_is_sizes f_is_sizes d_is_sizes
  b_is_sizes : Binds K d_is_sizes ["thing"] []
  g_is_sizes : mg "is_sizes" = some (.ref f_is_sizes)
  f_is_content : Addr
  d_is_content : FuncData
  F_is_content : Fun K "is_content" "is_content" s_is_content f_is_content d_is_content
  b_is_content : Binds K d_is_content ["sizes", "thing"] []
  g_is_content : mg "is_content" = some (.ref f_is_content)
  f_is_pattern : Addr
  d_is_pattern : FuncData
  F_is_pattern : Fun K "is_pattern" "is_pattern" s_is_pattern f_is_pattern d_is_pattern
  b_is_pattern : Binds K d_is_pattern ["columns", "thing"] []
  g_is_pattern : mg "is_pattern" = some (.ref f_is_pattern)
  f_is_box_of : Addr
  d_is_box_of : FuncData
  F_is_box_of : Fun K "is_box_of" "is_box_of" s_is_box_of f_is_box_of d_is_box_of
  b_is_box_of : Binds K d_is_box_of ["sizes", "thing"] []
  g_is_box_of : mg "is_box_of" = some (.ref f_is_box_of)
  f_all_columns : Addr
  d_all_columns : FuncData
  F_all_columns : Fun K "all_columns" "all_columns" s_all_columns f_all_columns d_all_columns
  b_all_columns : Binds K d_all_columns ["columns"] []
  g_all_columns : mg "all_columns" = some (.ref f_all_columns)
  f_all_contents : Addr
  d_all_contents : FuncData
  F_all_contents : Fun K "all_contents" "all_contents" s_all_contents f_all_contents d_all_contents
  b_all_contents : Binds K d_all_contents ["sizes"] []
  g_all_contents : mg "all_contents" = some (.ref f_all_contents)
  f_worths_at : Addr
  d_worths_at : FuncData
  F_worths_at : Fun K "worths_at" "worths_at" s_worths_at f_worths_at d_worths_at
  b_worths_at : Binds K d_worths_at ["pattern", "content"] []
  g_worths_at : mg "worths_at" = some (.ref f_worths_at)
  f_is_habit_row : Addr
  d_is_habit_row : FuncData
  F_is_habit_row : Fun K "is_habit_row" "is_habit_row" s_is_habit_row f_is_habit_row d_is_habit_row
  b_is_habit_row : Binds K d_is_habit_row ["columns", "thing"] []
  g_is_habit_row : mg "is_habit_row" = some (.ref f_is_habit_row)
  f_patterns : Addr
  d_patterns : FuncData
  F_patterns : Fun K "patterns" "patterns" s_patterns f_patterns d_patterns
  b_patterns : Binds K d_patterns ["habit"] []
  g_patterns : mg "patterns" = some (.ref f_patterns)
  f_unfair : Addr
  d_unfair : FuncData
  F_unfair : Fun K "unfair" "unfair" s_unfair f_unfair d_unfair
  b_unfair : Binds K d_unfair ["habit"] []
  g_unfair : mg "unfair" = some (.ref f_unfair)
  f_unlike_pair_in : Addr
  d_unlike_pair_in : FuncData
  F_unlike_pair_in : Fun K "unlike_pair_in" "unlike_pair_in" s_unlike_pair_in f_unlike_pair_in d_unlike_pair_in
  b_unlike_pair_in : Binds K d_unlike_pair_in ["sizes", "pattern", "parts"] []
  g_unlike_pair_in : mg "unlike_pair_in" = some (.ref f_unlike_pair_in)
  f_is_fair : Addr
  d_is_fair : FuncData
  F_is_fair : Fun K "is_fair" "is_fair" s_is_fair f_is_fair d_is_fair
  b_is_fair : Binds K d_is_fair ["habit"] []
  g_is_fair : mg "is_fair" = some (.ref f_is_fair)
  f_box_shares : Addr
  d_box_shares : FuncData
  F_box_shares : Fun K "box_shares" "box_shares" s_box_shares f_box_shares d_box_shares
  b_box_shares : Binds K d_box_shares ["habit"] []
  g_box_shares : mg "box_shares" = some (.ref f_box_shares)
  f_is_part_shares : Addr
  d_is_part_shares : FuncData
  F_is_part_shares : Fun K "is_part_shares" "is_part_shares" s_is_part_shares f_is_part_shares d_is_part_shares
  b_is_part_shares : Binds K d_is_part_shares ["sizes", "thing"] []
  g_is_part_shares : mg "is_part_shares" = some (.ref f_is_part_shares)
  f_habit_of : Addr
  d_habit_of : FuncData
  F_habit_of : Fun K "habit_of" "habit_of" s_habit_of f_habit_of d_habit_of
  b_habit_of : Binds K d_habit_of ["sizes", "shares"] []
  g_habit_of : mg "habit_of" = some (.ref f_habit_of)
  f_filled_row : Addr
  d_filled_row : FuncData
  F_filled_row : Fun K "filled_row" "filled_row" s_filled_row f_filled_row d_filled_row
  b_filled_row : Binds K d_filled_row ["sizes", "content", "pairs"] []
  g_filled_row : mg "filled_row" = some (.ref f_filled_row)
  f_law_hand : Addr
  d_law_hand : FuncData
  F_law_hand : Fun K "_law_hand" "_law_hand" s_law_hand f_law_hand d_law_hand
  b_law_hand : Binds K d_law_hand ["script"] []
  g_law_hand : mg "_law_hand" = some (.ref f_law_hand)
  f_law_draw : Addr
  d_law_draw : FuncData
  F_law_draw : Fun K "_law_draw" "_law_draw" s_law_draw f_law_draw d_law_draw
  b_law_draw : Binds K d_law_draw ["hand", "many"] []
  g_law_draw : mg "_law_draw" = some (.ref f_law_draw)
  f_law_some : Addr
  d_law_some : FuncData
  F_law_some : Fun K "_law_some" "_law_some" s_law_some f_law_some d_law_some
  b_law_some : Binds K d_law_some ["hand", "things"] []
  g_law_some : mg "_law_some" = some (.ref f_law_some)
  f_law_sizes : Addr
  d_law_sizes : FuncData
  F_law_sizes : Fun K "_law_sizes" "_law_sizes" s_law_sizes f_law_sizes d_law_sizes
  b_law_sizes : Binds K d_law_sizes ["hand"] []
  g_law_sizes : mg "_law_sizes" = some (.ref f_law_sizes)
  f_law_contents : Addr
  d_law_contents : FuncData
  F_law_contents : Fun K "_law_contents" "_law_contents" s_law_contents f_law_contents d_law_contents
  b_law_contents : Binds K d_law_contents ["sizes"] []
  g_law_contents : mg "_law_contents" = some (.ref f_law_contents)
  f_law_patterns : Addr
  d_law_patterns : FuncData
  F_law_patterns : Fun K "_law_patterns" "_law_patterns" s_law_patterns f_law_patterns d_law_patterns
  b_law_patterns : Binds K d_law_patterns ["columns"] []
  g_law_patterns : mg "_law_patterns" = some (.ref f_law_patterns)
  f_law_box : Addr
  d_law_box : FuncData
  F_law_box : Fun K "_law_box" "_law_box" s_law_box f_law_box d_law_box
  b_law_box : Binds K d_law_box ["pattern", "content"] []
  g_law_box : mg "_law_box" = some (.ref f_law_box)
  f_law_is_in : Addr
  d_law_is_in : FuncData
  F_law_is_in : Fun K "_law_is_in" "_law_is_in" s_law_is_in f_law_is_in d_law_is_in
  b_law_is_in : Binds K d_law_is_in ["box", "content"] []
  g_law_is_in : mg "_law_is_in" = some (.ref f_law_is_in)
  f_law_low : Addr
  d_law_low : FuncData
  F_law_low : Fun K "_law_low" "_law_low" s_law_low f_law_low d_law_low
  b_law_low : Binds K d_law_low ["top", "bottom"] []
  g_law_low : mg "_law_low" = some (.ref f_law_low)
  f_law_plus : Addr
  d_law_plus : FuncData
  F_law_plus : Fun K "_law_plus" "_law_plus" s_law_plus f_law_plus d_law_plus
  b_law_plus : Binds K d_law_plus ["one", "other"] []
  g_law_plus : mg "_law_plus" = some (.ref f_law_plus)
  f_law_sum : Addr
  d_law_sum : FuncData
  F_law_sum : Fun K "_law_sum" "_law_sum" s_law_sum f_law_sum d_law_sum
  b_law_sum : Binds K d_law_sum ["row"] []
  g_law_sum : mg "_law_sum" = some (.ref f_law_sum)
  f_law_shares : Addr
  d_law_shares : FuncData
  F_law_shares : Fun K "_law_shares" "_law_shares" s_law_shares f_law_shares d_law_shares
  b_law_shares : Binds K d_law_shares ["hand", "sizes"] []
  g_law_shares : mg "_law_shares" = some (.ref f_law_shares)
  f_law_row_of : Addr
  d_law_row_of : FuncData
  F_law_row_of : Fun K "_law_row_of" "_law_row_of" s_law_row_of f_law_row_of d_law_row_of
  b_law_row_of : Binds K d_law_row_of ["sizes", "shares", "content"] []
  g_law_row_of : mg "_law_row_of" = some (.ref f_law_row_of)
  f_BadHabit_init : Addr
  d_BadHabit_init : FuncData
  F_BadHabit_init : Fun K "__init__" "BadHabit.__init__" s_BadHabit_init f_BadHabit_init d_BadHabit_init
  b_BadHabit_init : Binds K d_BadHabit_init ["self", "part"] []
  f_Habit_init : Addr
  d_Habit_init : FuncData
  F_Habit_init : Fun K "__init__" "Habit.__init__" s_Habit_init f_Habit_init d_Habit_init
  b_Habit_init : Binds K d_Habit_init ["self", "sizes", "rows"] []
  f_Habit_eq : Addr
  d_Habit_eq : FuncData
  F_Habit_eq : Fun K "__eq__" "Habit.__eq__" s_Habit_eq f_Habit_eq d_Habit_eq
  b_Habit_eq : Binds K d_Habit_eq ["self", "other"] []
  c_MaskError : Addr
  g_MaskError : mg "MaskError" = some (.ref c_MaskError)
  m_MaskError : Value
  U_MaskError : UpC K c_MaskError m_MaskError
  c_BadHabit : Addr
  g_BadHabit : mg "BadHabit" = some (.ref c_BadHabit)
  o_BadHabit : OexC K c_BadHabit
  i_BadHabit : PySem.W.findIn K (.ref c_BadHabit) "__init__" = some (some (.ref f_BadHabit_init))
  t_BadHabit : PySem.W.typeIn K (.ref f_BadHabit_init) = some (.type "function")
  e_BadHabit : ExcC K c_BadHabit
  x_BadHabit : PySem.W.exmOne K (.ref c_BadHabit) (.ref c_MaskError) = some true
  q_BadHabit_BadHabit : PySem.W.kitOne K (.ref c_BadHabit) (.ref c_BadHabit) = some true
  c_Habit : Addr
  g_Habit : mg "Habit" = some (.ref c_Habit)
  M_Habit : Mk K c_Habit f_Habit_init
  l_Habit : Cls K c_Habit
  a_sizes : NoAttr K c_Habit "sizes"
  a_rows : NoAttr K c_Habit "rows"
  h_Habit : PySem.W.findIn K (.ref c_Habit) "__class__" = some (some (.builtin "object.__class__"))
  h2_Habit : PySem.W.specialIn K (.builtin "object.__class__") "__get__" = some (some (.builtin "getset_descriptor.__get__"))
  h3_Habit : PySem.W.takesIn K (.builtin "object.__class__") = some true
  h4_Habit : PySem.W.mroIn K c_Habit (.type "object") = some true
  k_Habit_int : PySem.W.kitOne K (.ref c_Habit) (.type "int") = some false
  k_Habit_tuple : PySem.W.kitOne K (.ref c_Habit) (.type "tuple") = some false
  p_BadHabit : PySem.W.findIn K (.ref c_BadHabit) "part" = some none
  xf_BadHabit : XfC K c_BadHabit
  xx_BadHabit : PySem.W.exmOne K (.ref c_BadHabit) (.ref c_BadHabit) = some true
  eq_Habit : PySem.W.findIn K (.ref c_Habit) "__eq__" = some (some (.ref f_Habit_eq))
  fn_Habit_eq : PySem.W.isFn K (.ref f_Habit_eq) = true
  ne_Habit : PySem.W.findIn K (.ref c_Habit) "__ne__" = some (some (.builtin "object.__ne__"))
  kk_Habit : PySem.W.kitOne K (.ref c_Habit) (.ref c_Habit) = some true
  ko_NoneType : PySem.W.kitOne K (.type "NoneType") (.ref c_Habit) = some false
  so_NoneType : PySem.W.subIn K (.type "NoneType") (.ref c_Habit) = some false
  ko_int : PySem.W.kitOne K (.type "int") (.ref c_Habit) = some false
  so_int : PySem.W.subIn K (.type "int") (.ref c_Habit) = some false
  ko_str : PySem.W.kitOne K (.type "str") (.ref c_Habit) = some false
  so_str : PySem.W.subIn K (.type "str") (.ref c_Habit) = some false
  ko_tuple : PySem.W.kitOne K (.type "tuple") (.ref c_Habit) = some false
  so_tuple : PySem.W.subIn K (.type "tuple") (.ref c_Habit) = some false
  w_gcd : mg "gcd" = some (.builtin "math.gcd")
  v_ZERO : Addr
  g_ZERO : mg "ZERO" = some (.ref v_ZERO)
  k_ZERO : ∀ H, SqT K H v_ZERO [.int 0, .int 1]
  v_ONE : Addr
  g_ONE : mg "ONE" = some (.ref v_ONE)
  k_ONE : ∀ H, SqT K H v_ONE [.int 1, .int 1]
  u_MOST_COLUMNS : Value
  k_MOST_COLUMNS : mg "MOST_COLUMNS" = some u_MOST_COLUMNS ∧ RelV (.int 5) u_MOST_COLUMNS
  u_LEAST_SIZE : Value
  k_LEAST_SIZE : mg "LEAST_SIZE" = some u_LEAST_SIZE ∧ RelV (.int 2) u_LEAST_SIZE
  u_MOST_SIZE : Value
  k_MOST_SIZE : mg "MOST_SIZE" = some u_MOST_SIZE ∧ RelV (.int 4) u_MOST_SIZE
  u_MOST_CONTENTS : Value
  k_MOST_CONTENTS : mg "MOST_CONTENTS" = some u_MOST_CONTENTS ∧ RelV (.int 256) u_MOST_CONTENTS
  z_len : mg "len" = none
  z_isinstance : mg "isinstance" = none
  z_range : mg "range" = none
  z_zip : mg "zip" = none
  z_tuple : mg "tuple" = none
  z_int : mg "int" = none
  z_bool : mg "bool" = none
  z_abs : mg "abs" = none
  z_sorted : mg "sorted" = none
  z_dict : mg "dict" = none
  z_set : mg "set" = none
  z_enumerate : mg "enumerate" = none
section
variable {P : Program} {w : World} {K : PySem.W.Frag} {mg : Str → Option Value} {base : Heap}

/-! ### judging things -/
def m_is_whole : List Dt → Option Dt
  | [d] => some (.bl d.isW)
  | _ => none
theorem ok_is_whole (T : Txt K mg) : FnOk P w K mg base CX0 1 T.f_is_whole T.d_is_whole ["thing"] (spD K m_is_whole) := by
  refine T.F_is_whole.ok sc_is_whole (fun vs H Q E h => ?_) (fun cdv A outer s H vs Q E hr h => ?_)
  · obtain ⟨ds, r, hd, e, _⟩ := h
    exact match ds, e, hd with | [_], _, hd => hd.length
  · obtain ⟨ds, r, hd, e, q⟩ := h
    match ds, e, hd, q with
    | [d], e, .cons h .nil, q =>
      cases e
      obtain ⟨t, ty, ki, kt, kb⟩ := h.kinds
      refine ⟨_, (pss_one (ps_ret (pe_and (pe_callB (call_isiK' K) (by rfl) T.z_isinstance (by decide +kernel) (pa_cons (pv 0) (pa_cons (pe_bltn (v := .ty "int") (by rfl) T.z_int (by decide +kernel) rfl) pa_nil))) (pe_one (pe_not (pe_callB (call_isiK' K) (by rfl) T.z_isinstance (by decide +kernel) (pa_cons (pv 0) (pa_cons (pe_bltn (v := .ty "bool") (by rfl) T.z_bool (by decide +kernel) rfl) pa_nil)))))))), ?_⟩
      refine ⟨_, rfl, _, _, _, _, _, rfl, .ty _, ty, ki, _, rfl, ?_⟩
      cases hi : d.isInt with
      | true =>
        refine iteT ?_
        refine ⟨_, rfl, _, _, _, _, _, rfl, .ty _, ty, kb hi, _, rfl, ?_⟩
        rw [Bool.not_not]
        exact q _ _ (Same.refl H) (.bl _)
      | false =>
        refine iteF ?_
        have e : d.isW = false := by cases d <;> first | rfl | cases hi
        have q' := q (.bl false) H (Same.refl H)
        rw [e] at q'
        exact q' (.bl _)
def Dt.isPair : Dt → Bool
  | .tup ds => ds.length == 2
  | _ => false
def m_is_pair : List Dt → Option Dt
  | [d] => some (.bl d.isPair)
  | _ => none
theorem ok_is_pair (T : Txt K mg) : FnOk P w K mg base CX0 1 T.f_is_pair T.d_is_pair ["thing"] (spD K m_is_pair) := by
  refine T.F_is_pair.ok sc_is_pair (fun vs H Q E h => ?_) (fun cdv A outer s H vs Q E hr h => ?_)
  · obtain ⟨ds, r, hd, e, _⟩ := h
    exact match ds, e, hd with | [_], _, hd => hd.length
  · obtain ⟨ds, r, hd, e, q⟩ := h
    match ds, e, hd, q with
    | [d], e, .cons h .nil, q =>
      cases e
      obtain ⟨t, ty, ki, kt, kb⟩ := h.kinds
      refine ⟨_, (pss_one (ps_ret (pe_and (pe_callB (call_isiK' K) (by rfl) T.z_isinstance (by decide +kernel) (pa_cons (pv 0) (pa_cons (pe_bltn (v := .ty "tuple") (by rfl) T.z_tuple (by decide +kernel) rfl) pa_nil))) (pe_one (pe_cmpR op_eq (pe_callB (call_lenK K) (by rfl) T.z_len PySem.boot_len (pa_cons (pv 0) pa_nil)) pe_int (nomark _)))))), ?_⟩
      refine ⟨_, rfl, _, _, _, _, _, rfl, .ty _, ty, kt, _, rfl, ?_⟩
      cases hi : d.isTup with
      | true =>
        refine iteT ?_
        cases d with
        | tup xs =>
          obtain ⟨a, vs, rfl, hs, ha⟩ := h.tup_inv
          refine ⟨_, rfl, a, vs, rfl, .inr hs, rfl, ?_⟩
          have e : decide (V.int (vs.length : Int) = V.int 2) = (xs.length == 2) := by
            rw [dec_int, ha.length, Bool.eq_iff_iff]
            simp
            omega
          rw [e]
          exact q _ _ (Same.refl H) (.bl _)
        | _ => cases hi
      | false =>
        refine iteF ?_
        have e : d.isPair = false := by cases d <;> first | rfl | cases hi
        have q' := q (.bl false) H (Same.refl H)
        rw [e] at q'
        exact q' (.bl _)
def patGo (n : Int) : Int → List Dt → Bool
  | _, [] => true
  | l, .int c :: r => if l < c ∧ c < n then patGo n c r else false
  | _, _ :: _ => false
def Dt.isPat (n : Int) : Dt → Bool
  | .tup ds => patGo n (-1) ds
  | _ => false
def m_is_pattern : List Dt → Option Dt
  | [.int n, d] => some (.bl (d.isPat n))
  | _ => none
theorem ok_is_pattern (T : Txt K mg) : FnOk P w K mg base CX0 2 T.f_is_pattern T.d_is_pattern ["columns", "thing"] (spD K m_is_pattern) := by
  refine T.F_is_pattern.ok sc_is_pattern (fun vs H Q E h => ?_) (fun cdv A outer s H vs Q E hr h => ?_)
  · obtain ⟨ds, r, hd, e, _⟩ := h
    exact match ds, e, hd with | [.int _, _], _, hd => hd.length
  · obtain ⟨ds, r, hd, e, q⟩ := h
    match ds, e, hd, q with
    | [.int n, d], e, .cons hn (.cons h .nil), q =>
      cases e
      cases hn
      obtain ⟨t, ty, ki, kt, kb⟩ := h.kinds
      refine ⟨_, (pss_cons (ps_if (pt_not (pt_val (pe_callB (call_isiK' K) (by rfl) T.z_isinstance (by decide +kernel) (pa_cons (pv 1) (pa_cons (pe_bltn (v := .ty "tuple") (by rfl) T.z_tuple (by decide +kernel) rfl) pa_nil))))) (pss_one (ps_ret pe_bl)) pss_nil)
      (pss_cons (ps_set (i := 2) sc_is_pattern.nd rfl (.inl rfl) (pe_un un_neg pe_int))
      (pss_cons (ps_for PassesOwn.never rfl (pi_tupK K (pv 1)) (pg_name (i := 3) sc_is_pattern.nd rfl (.inl rfl)) (pss_cons (ps_if (PW.pt (pw_or (pt_not (pt_val (pe_call (ok_is_whole T) hr (by rfl) T.g_is_whole T.F_is_whole.kp T.b_is_whole .nil pass0 (pa_cons (pv 3) pa_nil)))) (pw_or1 (pt_not (pt_chain op_lt op_lt (pv 2) (pv 3) (pv 0)))))) (pss_one (ps_ret pe_bl)) pss_nil)
      (pss_one (ps_set (i := 2) sc_is_pattern.nd rfl (.inl rfl) (pv 3)))))
      (pss_one (ps_ret pe_bl))))), ?_⟩
      refine ⟨_, rfl, _, _, _, _, _, rfl, .ty _, ty, kt, _, rfl, ?_⟩
      cases hi : d.isTup with
      | false =>
        refine iteT ?_
        have e : d.isPat n = false := by cases d <;> first | rfl | cases hi
        have q' := q (.bl false) H (Same.refl H)
        rw [e] at q'
        exact q' (.bl _)
      | true =>
        refine iteF ?_
        cases d with
        | tup xs =>
          obtain ⟨a, vs, rfl, hs, ha⟩ := h.tup_inv
          refine ⟨1, rfl, _, rfl, a, rfl, ⟨_, hs⟩, for_tup (xs := vs) (fun i σ H' => ∃ (l : Int) (c : Option V), σ = [some (.int n), some (.ref a), some (.int l), c] ∧ Same H H' ∧ patGo n (-1) xs = patGo n l (xs.drop i))
            ⟨-1, none, rfl, Same.refl H, rfl⟩ (fun i σ H' _ ⟨_, _, _, sm, _⟩ => (Ext.of sm).sqT hs) ?_ ?_⟩
          · rintro i x σ H' hx ⟨l, c, rfl, sm, e⟩
            obtain ⟨dx, hdx, hx2⟩ := ha.get hx
            have hdr : xs.drop i = dx :: xs.drop (i + 1) := by
              obtain ⟨hlt, e2⟩ := List.getElem?_eq_some_iff.mp hdx
              rw [List.drop_eq_getElem_cons hlt, e2]
            rw [hdr] at e
            -- not is_whole(column) or not last < column < columns
            refine ⟨_, rfl, spD_bl (.cons (hx2.ext (.of sm)) .nil) rfl fun H1 s1 => ⟨_, rfl, ?_⟩⟩
            have fin : patGo n l (dx :: xs.drop (i + 1)) = false → ∀ H2, Same H' H2 → Q (.bl false) H2 := fun z H2 s2 => by
              have q' := q (.bl false) H2 (sm.trans s2)
              rw [show (Dt.tup xs).isPat n = patGo n (-1) xs from rfl, e, z] at q'
              exact q' (.bl _)
            cases hw : dx.isW with
            | false =>
              refine iteT (iteT ?_)
              exact fin (by cases dx <;> first | rfl | cases hw) _ s1
            | true =>
              refine iteF ?_
              cases dx with
              | int c =>
                cases hx2
                refine ⟨_, rfl, _, rfl, _, _, rfl, rfl, _, rfl, ?_⟩
                refine ite2 (fun h1 => ?_) (fun h1 => ?_)
                · refine ⟨_, rfl, _, _, rfl, rfl, _, rfl, ?_⟩
                  refine ite2 (fun h2 => ?_) (fun h2 => ?_)
                  · have n2 : ¬ c < n := by simpa using h2
                    exact fin (by show (if l < c ∧ c < n then _ else false) = false; rw [if_neg fun z => n2 z.2]) _ s1
                  · have y2 : c < n := by simpa using h2
                    refine ⟨_, rfl, c, _, rfl, sm.trans s1, ?_⟩
                    rw [e]
                    show (if l < c ∧ c < n then _ else false) = _
                    rw [if_pos ⟨of_decide_eq_true h1, y2⟩]
                · refine ⟨_, rfl, iteT ?_⟩
                  exact fin (by show (if l < c ∧ c < n then _ else false) = false; rw [if_neg fun z => h1 (decide_eq_true z.1)]) _ s1
              | _ => cases hw
          · rintro σ H' ⟨l, c, rfl, sm, e⟩
            have ed : xs.drop vs.length = [] := List.drop_eq_nil_of_le (by rw [ha.length]; exact Nat.le_refl _)
            rw [ed] at e
            have q' := q (.bl true) H' sm
            rw [show (Dt.tup xs).isPat n = patGo n (-1) xs from rfl, e] at q'
            exact q' (.bl _)
        | _ => cases hi

/-! ### contents, sizes, boxes judged -/
theorem drop_at {α : Type} {xs : List α} {i : Nat} {x : α} (h : xs[i]? = some x) : xs.drop i = x :: xs.drop (i + 1) := by
  obtain ⟨hlt, e⟩ := List.getElem?_eq_some_iff.mp h
  rw [List.drop_eq_getElem_cons hlt, e]
def contGo : List Int → List Dt → Bool
  | s :: ss, .int c :: r => if 0 ≤ c ∧ c < s then contGo ss r else false
  | _ :: _, _ :: _ => false
  | [], _ => true
  | _, [] => true
def Dt.isCont (ss : List Int) : Dt → Bool
  | .tup ds => ds.length == ss.length && contGo ss ds
  | _ => false
theorem int_at {ss : List Int} {i : Nat} {x : V} (h : (ss.map V.int)[i]? = some x) : ∃ n, x = .int n ∧ ss[i]? = some n := by
  rw [List.getElem?_map] at h
  cases e : ss[i]? with
  | none =>
    rw [e] at h
    cases h
  | some n =>
    rw [e] at h
    exact ⟨n, (Option.some.inj h).symm, rfl⟩
/-- sizes as a tuple or a list of ints, and a thing -/
def spCont (K : PySem.W.Frag) : Sp := fun vs H Q _ => ∃ (L : Bool) (p : Addr) (ss : List Int) (v : V) (d : Dt), vs = [.ref p, v] ∧ SqA L K H p (ss.map V.int) ∧ Dh K H v d ∧ ∀ H', Same H H' → Q (.bl (d.isCont ss)) H'
theorem ok_is_content (T : Txt K mg) : FnOk P w K mg base CX0 2 T.f_is_content T.d_is_content ["sizes", "thing"] (spCont K) := by
  refine T.F_is_content.ok sc_is_content (fun vs H Q E h => ?_) (fun cdv A outer s H vs Q E hr h => ?_)
  · obtain ⟨_, _, _, _, _, rfl, _⟩ := h
    rfl
  · obtain ⟨L, p, ss, v, d, rfl, hp, h, q⟩ := h
    obtain ⟨t, ty, ki, kt, kb⟩ := h.kinds
    refine ⟨_, (pss_cons (ps_if (PW.pt (pw_or (pt_not (pt_val (pe_callB (call_isiK' K) (by rfl) T.z_isinstance (by decide +kernel) (pa_cons (pv 1) (pa_cons (pe_bltn (v := .ty "tuple") (by rfl) T.z_tuple (by decide +kernel) rfl) pa_nil))))) (pw_or1 (pt_cmpR op_ne (pe_callB (call_lenK K) (by rfl) T.z_len PySem.boot_len (pa_cons (pv 1) pa_nil)) (pe_callB (call_lenK K) (by rfl) T.z_len PySem.boot_len (pa_cons (pv 0) pa_nil)) (nomark _))))) (pss_one (ps_ret pe_bl)) pss_nil)
      (pss_cons (ps_for PassesOwn.never rfl (pi_zipM (by rfl) T.z_zip (pa_cons (pv 0) (pa_cons (pv 1) pa_nil))) (pg_tupK K (n := 2) rfl (pgs_cons (pg_name (i := 2) sc_is_content.nd rfl (.inl rfl)) (pgs_cons (pg_name (i := 3) sc_is_content.nd rfl (.inl rfl)) pgs_nil))) (pss_one (ps_if (PW.pt (pw_or (pt_not (pt_val (pe_call (ok_is_whole T) hr (by rfl) T.g_is_whole T.F_is_whole.kp T.b_is_whole .nil pass0 (pa_cons (pv 3) pa_nil)))) (pw_or1 (pt_not (pt_chain op_le op_lt pe_int (pv 3) (pv 2)))))) (pss_one (ps_ret pe_bl)) pss_nil)))
      (pss_one (ps_ret pe_bl)))), ?_⟩
    refine ⟨_, rfl, _, _, _, _, _, rfl, .ty _, ty, kt, _, rfl, ?_⟩
    cases hi : d.isTup with
    | false =>
      refine iteT (iteT ?_)
      have e : d.isCont ss = false := by cases d <;> first | rfl | cases hi
      have q' := q H (Same.refl H)
      rw [e] at q'
      exact q'
    | true =>
      refine iteF ?_
      cases d with
      | tup xs =>
        obtain ⟨a, vs, rfl, hs, ha⟩ := h.tup_inv
        refine ⟨_, rfl, a, vs, rfl, .inr hs, _, rfl, p, _, rfl, hp.any, rfl, _, rfl, ?_⟩
        have el : decide (V.int (vs.length : Int) = V.int ((ss.map V.int).length : Int)) = (xs.length == ss.length) := by
          rw [dec_int, ha.length, List.length_map, Bool.eq_iff_iff]
          simp
          omega
        have eq0 : (Dt.tup xs).isCont ss = (xs.length == ss.length && contGo ss xs) := rfl
        rw [eq0] at q
        rw [el]
        cases hl : xs.length == ss.length with
        | false =>
          refine iteT ?_
          rw [hl] at q
          exact q H (Same.refl H)
        | true =>
          refine iteF ?_
          rw [hl, Bool.true_and] at q
          have hlen : xs.length = ss.length := by simpa using hl
          refine ⟨_, rfl, _, rfl, L, p, a, ss.map V.int, vs, rfl, hp, hs, for_zipM (fun i σ H' => ∃ y2 y3, σ = [some (.ref p), some (.ref a), y2, y3] ∧ Same H H' ∧ contGo ss xs = contGo (ss.drop i) (xs.drop i))
            ⟨none, none, rfl, Same.refl H, rfl⟩ (fun i σ H' ⟨_, _, _, sm, _⟩ => ⟨Ext.sqTs sm hp, (Ext.of sm).sqT hs⟩) ?_ ?_⟩
          · rintro i x y Tp σ H' hx hy ⟨y2, y3, rfl, sm, e⟩ nT
            obtain ⟨n, rfl, hn⟩ := int_at hx
            obtain ⟨dx, hdx, hx2⟩ := ha.get hy
            rw [drop_at hn, drop_at hdx] at e
            refine ⟨Tp, [_, y], rfl, SqT.of upd_same, rfl, _, [y], rfl, y, [], rfl, rfl, ?_⟩
            have s1 : Same H (upd H' Tp (.tup [V.int n, y])) := sm.trans (same_new nT)
            refine ⟨_, rfl, spD_bl (.cons (hx2.ext (.of s1)) .nil) rfl fun H1 s2 => ⟨_, rfl, ?_⟩⟩
            cases hw : dx.isW with
            | false =>
              refine iteT (iteT ?_)
              have z : contGo ss xs = false := by
                rw [e]
                cases dx <;> first | rfl | cases hw
              rw [z] at q
              exact q H1 (s1.trans s2)
            | true =>
              refine iteF ?_
              cases dx with
              | int c =>
                cases hx2
                have e' : contGo ss xs = if 0 ≤ c ∧ c < n then contGo (ss.drop (i + 1)) (xs.drop (i + 1)) else false := e
                refine ⟨_, rfl, _, _, rfl, rfl, _, rfl, ?_⟩
                refine ite2 (fun h1 => ?_) (fun h1 => ?_)
                · refine ⟨_, rfl, _, _, rfl, rfl, _, rfl, ?_⟩
                  refine ite2 (fun h2 => ?_) (fun h2 => ?_)
                  · have n2 : ¬ c < n := by simpa using h2
                    rw [if_neg fun z => n2 z.2] at e'
                    rw [e'] at q
                    exact q H1 (s1.trans s2)
                  · have y2 : c < n := by simpa using h2
                    rw [if_pos ⟨of_decide_eq_true h1, y2⟩] at e'
                    exact ⟨_, _, rfl, s1.trans s2, e'⟩
                · refine ⟨_, rfl, iteT ?_⟩
                  rw [if_neg fun z => h1 (decide_eq_true z.1)] at e'
                  rw [e'] at q
                  exact q H1 (s1.trans s2)
              | _ => cases hw
          · rintro σ H' ⟨y2, y3, rfl, sm, e⟩
            have z : contGo ss xs = true := by
              rw [e, List.drop_eq_nil_of_le (as := ss) (by have := ha.length; rw [List.length_map]; omega)]
              rfl
            rw [z] at q
            exact q H' sm
      | _ => cases hi
def sizeGo : Int → List Dt → Option Int
  | m, [] => some m
  | m, .int c :: r => if 2 ≤ c ∧ c ≤ 4 then sizeGo (m * c) r else none
  | _, _ :: _ => none
def Dt.isSizes : Dt → Bool
  | .tup ds => if 1 ≤ ds.length ∧ ds.length ≤ 5 then (match sizeGo 1 ds with | some m => decide (m ≤ 256) | none => false) else false
  | _ => false
def m_is_sizes : List Dt → Option Dt
  | [d] => some (.bl d.isSizes)
  | _ => none
theorem ok_is_sizes (T : Txt K mg) : FnOk P w K mg base CX0 2 T.f_is_sizes T.d_is_sizes ["thing"] (spD K m_is_sizes) := by
  refine T.F_is_sizes.ok sc_is_sizes (fun vs H Q E h => ?_) (fun cdv A outer s H vs Q E hr h => ?_)
  · obtain ⟨ds, r, hd, e, _⟩ := h
    exact match ds, e, hd with | [_], _, hd => hd.length
  · obtain ⟨ds, r, hd, e, q⟩ := h
    match ds, e, hd, q with
    | [d], e, .cons h .nil, q =>
      cases e
      have q : ∀ H', Same H H' → Q (.bl d.isSizes) H' := fun H' s => q _ H' s (.bl _)
      obtain ⟨t, ty, ki, kt, kb⟩ := h.kinds
      refine ⟨_, (pss_cons (ps_if (PW.pt (pw_or (pt_not (pt_val (pe_callB (call_isiK' K) (by rfl) T.z_isinstance (by decide +kernel) (pa_cons (pv 0) (pa_cons (pe_bltn (v := .ty "tuple") (by rfl) T.z_tuple (by decide +kernel) rfl) pa_nil))))) (pw_or1 (pt_not (pt_chain op_le op_le pe_int (pe_callB (call_lenK K) (by rfl) T.z_len PySem.boot_len (pa_cons (pv 0) pa_nil)) (pe_glob (by rfl) T.k_MOST_COLUMNS.1 T.k_MOST_COLUMNS.2)))))) (pss_one (ps_ret pe_bl)) pss_nil)
      (pss_cons (ps_set (i := 1) sc_is_sizes.nd rfl (.inl rfl) pe_int)
      (pss_cons (ps_for PassesOwn.never rfl (pi_tupK K (pv 0)) (pg_name (i := 2) sc_is_sizes.nd rfl (.inl rfl)) (pss_cons (ps_if (PW.pt (pw_or (pt_not (pt_val (pe_call (ok_is_whole T) hr (by rfl) T.g_is_whole T.F_is_whole.kp T.b_is_whole .nil pass0 (pa_cons (pv 2) pa_nil)))) (pw_or1 (pt_not (pt_chain op_le op_le (pe_glob (by rfl) T.k_LEAST_SIZE.1 T.k_LEAST_SIZE.2) (pv 2) (pe_glob (by rfl) T.k_MOST_SIZE.1 T.k_MOST_SIZE.2)))))) (pss_one (ps_ret pe_bl)) pss_nil)
      (pss_one (ps_set (i := 1) sc_is_sizes.nd rfl (.inl rfl) (pe_op op_mul (pv 1) (pv 2))))))
      (pss_one (ps_ret (pe_cmpR op_le (pv 1) (pe_glob (by rfl) T.k_MOST_CONTENTS.1 T.k_MOST_CONTENTS.2) (nomark _))))))), ?_⟩
      refine ⟨_, rfl, _, _, _, _, _, rfl, .ty _, ty, kt, _, rfl, ?_⟩
      cases hi : d.isTup with
      | false =>
        refine iteT (iteT ?_)
        have e : d.isSizes = false := by cases d <;> first | rfl | cases hi
        rw [e] at q
        exact q H (Same.refl H)
      | true =>
        refine iteF ?_
        cases d with
        | tup xs =>
          obtain ⟨a, vs, rfl, hs, ha⟩ := h.tup_inv
          have eq0 : (Dt.tup xs).isSizes = if 1 ≤ xs.length ∧ xs.length ≤ 5 then (match sizeGo 1 xs with | some m => decide (m ≤ 256) | none => false) else false := rfl
          rw [eq0] at q
          have hl := ha.length
          refine ⟨_, rfl, a, vs, rfl, .inr hs, _, _, rfl, rfl, _, rfl, ?_⟩
          have out : ¬ (1 ≤ xs.length ∧ xs.length ≤ 5) → Q (.bl false) H := fun n => by
            rw [if_neg n] at q
            exact q H (Same.refl H)
          refine ite2 (fun h1 => ?_) (fun h1 => ?_)
          · have h1' : (1 : Int) ≤ vs.length := of_decide_eq_true h1
            refine ⟨_, _, rfl, rfl, _, rfl, ?_⟩
            refine ite2 (fun h2 => ?_) (fun h2 => ?_)
            · have n2 : ¬ (vs.length : Int) ≤ 5 := by simpa using h2
              exact out fun z => n2 (by omega)
            · have h2' : (vs.length : Int) ≤ 5 := by simpa using h2
              have hin : 1 ≤ xs.length ∧ xs.length ≤ 5 := ⟨by omega, by omega⟩
              rw [if_pos hin] at q
              refine ⟨_, rfl, a, rfl, ⟨_, hs⟩, for_tup (xs := vs) (fun i σ H' => ∃ (m : Int) (c : Option V), σ = [some (.ref a), some (.int m), c] ∧ Same H H' ∧ sizeGo 1 xs = sizeGo m (xs.drop i))
                ⟨1, none, rfl, Same.refl H, rfl⟩ (fun i σ H' _ ⟨_, _, _, sm, _⟩ => (Ext.of sm).sqT hs) ?_ ?_⟩
              · rintro i x σ H' hx ⟨m, c, rfl, sm, e⟩
                obtain ⟨dx, hdx, hx2⟩ := ha.get hx
                rw [drop_at hdx] at e
                refine ⟨_, rfl, spD_bl (.cons (hx2.ext (.of sm)) .nil) rfl fun H1 s1 => ⟨_, rfl, ?_⟩⟩
                have bad : sizeGo m (dx :: xs.drop (i + 1)) = none → Q (.bl false) H1 := fun z => by
                  rw [e, z] at q
                  exact q H1 (sm.trans s1)
                cases hw : dx.isW with
                | false =>
                  refine iteT (iteT ?_)
                  exact bad (by cases dx <;> first | rfl | cases hw)
                | true =>
                  refine iteF ?_
                  cases dx with
                  | int c =>
                    cases hx2
                    have e' : sizeGo m (Dt.int c :: xs.drop (i + 1)) = if 2 ≤ c ∧ c ≤ 4 then sizeGo (m * c) (xs.drop (i + 1)) else none := rfl
                    refine ⟨_, rfl, _, _, rfl, rfl, _, rfl, ?_⟩
                    refine ite2 (fun h1 => ?_) (fun h1 => ?_)
                    · refine ⟨_, _, rfl, rfl, _, rfl, ?_⟩
                      refine ite2 (fun h2 => ?_) (fun h2 => ?_)
                      · have n2 : ¬ c ≤ 4 := by simpa using h2
                        exact bad (by rw [e', if_neg fun z => n2 z.2])
                      · have y2 : c ≤ 4 := by simpa using h2
                        have y1 : 2 ≤ c := of_decide_eq_true h1
                        refine ⟨_, rfl, _, rfl, _, _, rfl, rfl, .inr ⟨by omega, by omega⟩, ?_⟩
                        refine ⟨_, _, rfl, sm.trans s1, ?_⟩
                        rw [e, e', if_pos ⟨y1, y2⟩]
                    · refine ⟨_, rfl, iteT ?_⟩
                      exact bad (by rw [e', if_neg fun z => h1 (decide_eq_true z.1)])
                  | _ => cases hw
              · rintro σ H' ⟨m, c, rfl, sm, e⟩
                rw [List.drop_eq_nil_of_le (as := xs) (by omega)] at e
                have e2 : sizeGo 1 xs = some m := e
                rw [e2] at q
                exact ⟨_, rfl, _, _, rfl, rfl, q H' sm⟩
          · refine ⟨_, rfl, iteT ?_⟩
            exact out fun z => h1 (decide_eq_true (by omega))
        | _ => cases hi

end
end Fm
namespace Fm
open PySem PySem.Spec PyProof.Rows L2
section
variable {P : Program} {w : World} {K : PySem.W.Frag} {mg : Str → Option Value} {base : Heap}

/-! ### contents -/
theorem ints_dh {K : PySem.W.Frag} {H : Hp} : ∀ c : List Int, DhAll K H (c.map V.int) (c.map Dt.int)
  | [] => .nil
  | i :: r => .cons (.int i) (ints_dh r)
theorem dh_ints {K : PySem.W.Frag} {H : Hp} : ∀ {vs : List V} (c : List Int), DhAll K H vs (c.map Dt.int) → vs = c.map V.int
  | [], [], _ => rfl
  | v :: vs, i :: r, .cons h t => by rw [h.int_inv, dh_ints r t]; rfl
def ctD (c : List Int) : Dt := .tup (c.map Dt.int)
theorem dh_ct {K : PySem.W.Frag} {H : Hp} {a : Addr} {c : List Int} (h : SqT K H a (c.map V.int)) : Dh K H (.ref a) (ctD c) := .tup h (ints_dh c)
theorem ct_inv {K : PySem.W.Frag} {H : Hp} {v : V} {c : List Int} (h : Dh K H v (ctD c)) : ∃ a, v = .ref a ∧ SqT K H a (c.map V.int) := by
  obtain ⟨a, xs, rfl, s, t⟩ := h.tup_inv
  rw [dh_ints c t] at s
  exact ⟨a, rfl, s⟩
def ext (n : Nat) (c : List Int) : List (List Int) := (List.range n).map fun (w : Nat) => c ++ [(w : Int)]
theorem ext_succ (n : Nat) (c : List Int) : ext (n + 1) c = ext n c ++ [c ++ [(n : Int)]] := by
  unfold ext
  rw [List.range_succ, List.map_append]
  rfl
theorem ext_len (n : Nat) (c : List Int) : (ext n c).length = n := by simp [ext]
theorem flat_len (n : Nat) : ∀ l : List (List Int), (l.flatMap (ext n)).length = l.length * n
  | [] => by simp
  | c :: r => by rw [List.flatMap_cons, List.length_append, ext_len, flat_len n r, List.length_cons, Nat.add_mul, Nat.one_mul, Nat.add_comm]
def stepC (found : List (List Int)) (s : Int) : List (List Int) := found.flatMap (ext s.toNat)
def allC (ss : List Int) : List (List Int) := ss.foldl stepC [[]]
theorem allC_snoc (ss : List Int) (s : Int) : allC (ss ++ [s]) = stepC (allC ss) s := by
  unfold allC
  rw [List.foldl_append]
  rfl
/-- how far a comprehension has come: i lists wholly, of the next one j items -/
def upTo (cs : List (List Int)) (n i j : Nat) : List (List Int) := (cs.take i).flatMap (ext n) ++ match cs[i]? with
  | some c => ext j c
  | none => []
theorem upTo_step {cs : List (List Int)} {n i j : Nat} {c : List Int} (h : cs[i]? = some c) : upTo cs n i (j + 1) = upTo cs n i j ++ [c ++ [(j : Int)]] := by
  unfold upTo
  rw [h]
  dsimp only
  rw [ext_succ, List.append_assoc]
theorem upTo_next {cs : List (List Int)} {n i : Nat} {c : List Int} (h : cs[i]? = some c) : upTo cs n i n = upTo cs n (i + 1) 0 := by
  have e0 : (match cs[i + 1]? with
      | some c => ext 0 c
      | none => []) = [] := by
    cases cs[i + 1]? <;> rfl
  unfold upTo
  rw [e0, h, List.take_add_one, h]
  simp
theorem upTo_end {cs : List (List Int)} {n : Nat} : upTo cs n cs.length 0 = cs.flatMap (ext n) := by
  unfold upTo
  rw [List.getElem?_eq_none (Nat.le_refl _), List.take_length]
  simp
theorem upTo_zero {cs : List (List Int)} {n : Nat} : upTo cs n 0 0 = [] := by
  unfold upTo
  cases cs[0]? <;> rfl
theorem upTo_len {cs : List (List Int)} {n i j : Nat} : (upTo cs n i j).length ≤ cs.length * n + j := by
  unfold upTo
  rw [List.length_append, flat_len, List.length_take]
  have h1 : min i cs.length * n ≤ cs.length * n := Nat.mul_le_mul_right _ (Nat.min_le_right _ _)
  cases cs[i]? with
  | none => simp; omega
  | some c =>
    dsimp only
    rw [ext_len]
    omega
def SizesOk (ss : List Int) : Prop := (Dt.tup (ss.map Dt.int)).isSizes = true
theorem sizeGo_mem : ∀ (m : Int) (ss : List Int) (r : Int), sizeGo m (ss.map Dt.int) = some r → ∀ s ∈ ss, 2 ≤ s ∧ s ≤ 4
  | _, [], _, _ => fun _ h => by simp at h
  | m, c :: ss, r, h => fun s hs => by
    have h' : (if 2 ≤ c ∧ c ≤ 4 then sizeGo (m * c) (ss.map Dt.int) else none) = some r := h
    by_cases hc : 2 ≤ c ∧ c ≤ 4
    · rw [if_pos hc] at h'
      rcases List.mem_cons.mp hs with e | e
      · rw [e]
        exact hc
      · exact sizeGo_mem _ ss r h' s e
    · rw [if_neg hc] at h'
      cases h'
theorem SizesOk.facts {ss : List Int} (h : SizesOk ss) : 1 ≤ ss.length ∧ ss.length ≤ 5 ∧ ∀ s ∈ ss, 2 ≤ s ∧ s ≤ 4 := by
  have h' : (if 1 ≤ (ss.map Dt.int).length ∧ (ss.map Dt.int).length ≤ 5 then (match sizeGo 1 (ss.map Dt.int) with
    | some m => decide (m ≤ 256)
    | none => false) else false) = true := h
  rw [List.length_map] at h'
  by_cases hl : 1 ≤ ss.length ∧ ss.length ≤ 5
  · rw [if_pos hl] at h'
    cases e : sizeGo 1 (ss.map Dt.int) with
    | none =>
      rw [e] at h'
      cases h'
    | some m => exact ⟨hl.1, hl.2, sizeGo_mem 1 ss m e⟩
  · rw [if_neg hl] at h'
    cases h'
theorem allC_len {ss : List Int} (h : ∀ s ∈ ss, s ≤ 4) : ∀ i, (allC (ss.take i)).length ≤ 4 ^ i ∧ ∀ c ∈ allC (ss.take i), c.length ≤ i
  | 0 => ⟨by simp [allC], by simp [allC]⟩
  | i + 1 => by
    obtain ⟨h1, h2⟩ := allC_len h i
    cases e : ss[i]? with
    | none =>
      have e' : ss.take (i + 1) = ss.take i := by rw [List.take_add_one, e]; simp
      rw [e']
      exact ⟨Nat.le_trans h1 (Nat.pow_le_pow_right (by decide) (Nat.le_succ i)), fun c hc => Nat.le_succ_of_le (h2 c hc)⟩
    | some s =>
      have e' : ss.take (i + 1) = ss.take i ++ [s] := by rw [List.take_add_one, e]; rfl
      have hs : s ≤ 4 := h s (List.mem_of_getElem? e)
      rw [e', allC_snoc]
      unfold stepC
      refine ⟨?_, fun c hc => ?_⟩
      · rw [flat_len, Nat.pow_succ]
        exact Nat.mul_le_mul h1 (by omega)
      · obtain ⟨b, hb, hc⟩ := List.mem_flatMap.mp hc
        obtain ⟨w, _, rfl⟩ := List.mem_map.mp hc
        rw [List.length_append]
        exact Nat.add_le_add_right (h2 b hb) 1
theorem allC_all {ss : List Int} (h : SizesOk ss) : (allC ss).length ≤ 1024 ∧ ∀ c ∈ allC ss, c.length ≤ 5 := by
  obtain ⟨_, h5, hm⟩ := h.facts
  have q := allC_len (fun s hs => (hm s hs).2) ss.length
  rw [List.take_length] at q
  refine ⟨Nat.le_trans q.1 (Nat.pow_le_pow_right (by decide) h5), fun c hc => Nat.le_trans (q.2 c hc) h5⟩
theorem map_at {α β : Type} {l : List α} {f : α → β} {i : Nat} {y : β} (h : (l.map f)[i]? = some y) : ∃ x, l[i]? = some x ∧ f x = y := by
  rw [List.getElem?_map] at h
  cases e : l[i]? with
  | none =>
    rw [e] at h
    cases h
  | some x =>
    rw [e] at h
    exact ⟨x, rfl, Option.some.inj h⟩
theorem sz_small {n : Nat} (h : n ≤ 100000) : n < sizeLine := Nat.lt_of_le_of_lt h (by decide)
theorem Same.put {H0 H : Hp} {D : Addr} {o : HO} (h : H0 D = none) (s : Same H0 H) : Same H0 (upd H D o) := fun b x e => by
  rw [upd_ne (ne_of_none e h)]
  exact s b x e
/-- the list that is made at D is no part of what stood before -/
theorem Ext.put {H : Hp} {D : Addr} {xs ys : List V} (h : H D = some (.lst xs)) : Ext H (upd H D (.lst ys)) := fun b o e => by
  by_cases hb : b = D
  · subst hb
    rw [h] at e
    cases e
    exact .inr ⟨⟨xs, rfl⟩, ys, upd_same⟩
  · rw [upd_ne hb]
    exact .inl e
/-- content + (worth,) -/
theorem cat_ct {K : PySem.W.Frag} {H : Hp} {Q : VK} {x : V} {c : List Int} {j : Int} (hc : Dh K H x (ctD c)) (hl : c.length ≤ 1000) {r : Addr} (hr : H r = some (.tup [.int j]))
    (q : ∀ v H', Same H H' → Dh K H' v (ctD (c ++ [j])) → Q v H') : rCatA K x (.ref r) H Q := by
  obtain ⟨a, rfl, s⟩ := ct_inv hc
  refine ⟨a, r, _, _, rfl, rfl, s, SqT.of hr, ?_, fun e => ?_, fun _ e => (nomatch e), fun _ _ p hp => ?_⟩
  · rw [List.length_map]
    exact Nat.le_of_lt (sz_small (by show c.length + 1 ≤ 100000; omega))
  · have e0 : c = [] := List.map_eq_nil_iff.mp e
    subst e0
    exact q _ _ (Same.refl H) (dh_ct (c := [j]) (SqT.of hr))
  · refine q _ _ (same_new hp) (dh_ct ?_)
    rw [List.map_append]
    exact SqT.of upd_same
def spAll (K : PySem.W.Frag) : Sp := fun vs H Q _ => ∃ (a : Addr) (ss : List Int), vs = [.ref a] ∧ SqT K H a (ss.map V.int) ∧ SizesOk ss ∧ ∀ p xs H', H p = none → Same H H' → H' p = some (.lst xs) → DhAll K H' xs ((allC ss).map ctD) → Q (.ref p) H'
theorem ok_all_contents (T : Txt K mg) : FnOk P w K mg base CX0 1 T.f_all_contents T.d_all_contents ["sizes"] (spAll K) := by
  refine T.F_all_contents.ok sc_all_contents (fun vs H Q E h => ?_) (fun cdv A outer s H vs Q E hr h => ?_)
  · obtain ⟨_, _, rfl, _⟩ := h
    rfl
  · obtain ⟨a, ss, rfl, hs, ok, q⟩ := h
    obtain ⟨_, h5, hm⟩ := ok.facts
    refine ⟨_, (pss_cons (ps_set (i := 1) sc_all_contents.nd rfl (.inl rfl) (pe_lst (pa_cons (pe_tup pa_nil) pa_nil)))
      (pss_cons (ps_for PassesOwn.never rfl (pi_tupK K (pv 0)) (pg_name (i := 2) sc_all_contents.nd rfl (.inr rfl)) (pss_one (ps_setLc2 (i := 1) (own := [("content", 3), ("worth", 4)]) (vs1 := [4]) rfl sc_all_contents.nd rfl rfl (sw_true rfl rfl rfl (by decide +kernel)) (pi_listK K (pv 1)) (blkOk_by (N := N_all_contents) (sc := defScope s_all_contents) (by decide +kernel)) (by decide) (fun _ _ _ _ _ => (pg_name (i := 3) sc_all_contents.nd rfl (.inl rfl))) (fun _ _ _ _ _ => pts_nil) (fun _ _ _ _ _ => (pi_range1 (by rfl) T.z_range (pa_cons (pv 2) pa_nil))) (fun _ _ _ _ _ => (pg_name (i := 4) sc_all_contents.nd rfl (.inl rfl))) (fun _ _ _ _ _ => pts_nil) (fun _ _ _ _ _ => (pe_op (op_catK K) (pv 3) (pe_tup (pa_cons (pv 4) pa_nil)))))))
      (pss_one (ps_ret (pv 1))))), ?_⟩
    refine ⟨Nat.zero_le _, fun t0 n0 => ⟨by show 1 ≤ sizeLine; decide, fun f0 nf0 => ?_⟩⟩
    have s1 : Same H (upd H t0 (.tup [])) := same_new n0
    have s2 : Same H (upd (upd H t0 (.tup [])) f0 (.lst [.ref t0])) := s1.trans (same_new nf0)
    refine ⟨_, rfl, a, rfl, ⟨_, (Ext.of s2).sqT hs⟩, for_tup (xs := ss.map V.int) (fun i σ H' => ∃ (f : Addr) (xs : List V) (y2 y3 y4 : Option V), σ = [some (.ref a), some (.ref f), y2, y3, y4] ∧ Same H H' ∧ H f = none ∧ H' f = some (.lst xs) ∧ DhAll K H' xs ((allC (ss.take i)).map ctD))
      ⟨f0, [.ref t0], none, none, none, rfl, s2, s1.free nf0, upd_same, .cons (dh_ct (c := []) (SqT.of ?_)) .nil⟩ (fun i σ H' _ ⟨_, _, _, _, _, _, sm, _⟩ => (Ext.of sm).sqT hs) ?_ ?_⟩
    · rw [upd_ne (fun e => by rw [e, upd_same] at nf0; cases nf0), upd_same]
      rfl
    · rintro i x σ H' hx ⟨f, xs, y2, y3, y4, rfl, sm, nf, hf, hall⟩
      obtain ⟨z, rfl, hz⟩ := int_at hx
      obtain ⟨z2, z4⟩ := hm z (List.mem_of_getElem? hz)
      obtain ⟨n, rfl⟩ : ∃ n : Nat, z = (n : Int) := ⟨z.toNat, by omega⟩
      have hi : i < ss.length := (List.getElem?_eq_some_iff.mp hz).1
      have etake : ss.take (i + 1) = ss.take i ++ [(n : Int)] := by rw [List.take_add_one, hz]; rfl
      generalize hcs : allC (ss.take i) = cs at hall
      have hlen := hall.length
      rw [List.length_map] at hlen
      have hb := allC_len (fun s hs => (hm s hs).2) i
      rw [hcs] at hb
      have hcl : cs.length ≤ 1024 := Nat.le_trans hb.1 (Nat.pow_le_pow_right (by decide) (by omega : i ≤ 5))
      refine ⟨.ref f, rfl, f, rfl, ⟨xs, SqL.of hf⟩, fun D hD => lc2_lr (K := K) (xs := xs) (n := n) (fun i j H2 => ∃ acc, Same H' H2 ∧ H2 D = some (.lst acc) ∧ DhAll K H2 acc ((upTo cs n i j).map ctD)) (by omega) (fun _ => rfl) (fun _ _ => rfl) ?_ ?_ ?_ ?_ ?_ ?_⟩
      · exact ⟨[], same_new hD, upd_same, by rw [upTo_zero]; exact .nil⟩
      · rintro i2 j2 H2 ⟨acc, s3, _⟩
        exact s3.seq (SqL.of hf)
      · intro i2 x H2 _ _ R hR
        exact ⟨_, rfl, hR⟩
      · rintro i2 j x H2 hx2 hj ⟨acc, s3, hD2, hacc⟩
        obtain ⟨d, hd, hxd⟩ := hall.get hx2
        obtain ⟨c, hc, rfl⟩ := map_at hd
        have hcm : c.length ≤ 1000 := Nat.le_trans (hb.2 c (List.mem_of_getElem? hc)) (by omega)
        refine ⟨x, rfl, .int (j : Int), rfl, by show 1 ≤ sizeLine; decide, fun r hr2 => cat_ct (K := K) (c := c) (j := (j : Int)) (hxd.ext (.of (s3.trans (same_new hr2)))) hcm upd_same fun v H3 s4 hv => ?_⟩
        have s5 : Same H2 H3 := (same_new hr2).trans s4
        have hal : acc.length ≤ 100000 := by
          have e1 := hacc.length
          have e2 := upTo_len (cs := cs) (n := n) (i := i2) (j := j)
          have e3 : cs.length * n ≤ 1024 * 4 := Nat.mul_le_mul hcl (by omega)
          rw [List.length_map] at e1
          omega
        refine ⟨acc, s5 _ _ hD2, sz_small hal, acc ++ [v], fun b o e => ?_, upd_same, ?_⟩
        · rw [upd_ne (ne_of_none e hD)]
          exact s5 _ _ (s3 _ _ e)
        · rw [upTo_step hc, List.map_append]
          exact ((hacc.ext (.of s5)).snoc hv).ext (Ext.put (s5 _ _ hD2))
      · rintro i2 H2 hi2 ⟨acc, s3, hD2, hacc⟩
        obtain ⟨c, hc⟩ : ∃ c, cs[i2]? = some c := ⟨cs[i2], List.getElem?_eq_getElem (by omega)⟩
        exact ⟨acc, s3, hD2, by rw [← upTo_next hc]; exact hacc⟩
      · rintro H2 ⟨acc, s3, hD2, hacc⟩
        refine ⟨D, acc, _, _, _, rfl, sm.trans s3, sm.free hD, hD2, ?_⟩
        rw [hlen, upTo_end] at hacc
        rw [etake, allC_snoc, hcs]
        exact hacc
    · rintro σ H' ⟨f, xs, y2, y3, y4, rfl, sm, nf, hf, hall⟩
      rw [List.length_map, List.take_length] at hall
      exact ⟨.ref f, rfl, q f xs H' nf sm hf hall⟩

/-! ### patterns, contents as data -/
def InR (ps : List Int) (n : Int) : Prop := ∀ p ∈ ps, 0 ≤ p ∧ p < n
def Asc (n : Int) : Int → List Int → Prop
  | _, [] => True
  | l, c :: r => l < c ∧ c < n ∧ Asc n c r
theorem patGo_asc {n : Int} : ∀ {l : Int} {ds : List Dt}, patGo n l ds = true → ∃ ps, ds = ps.map Dt.int ∧ Asc n l ps
  | _, [], _ => ⟨[], rfl, True.intro⟩
  | l, .int c :: r, h => by
    have h' : (if l < c ∧ c < n then patGo n c r else false) = true := h
    by_cases hc : l < c ∧ c < n
    · rw [if_pos hc] at h'
      obtain ⟨ps, rfl, ha⟩ := patGo_asc h'
      exact ⟨c :: ps, rfl, hc.1, hc.2, ha⟩
    · rw [if_neg hc] at h'
      cases h'
  | _, .non :: _, h => by cases h
  | _, .bl _ :: _, h => by cases h
  | _, .str _ :: _, h => by cases h
  | _, .tup _ :: _, h => by cases h
  | _, .oth _ :: _, h => by cases h
theorem asc_patGo {n : Int} : ∀ {l : Int} {ps : List Int}, Asc n l ps → patGo n l (ps.map Dt.int) = true
  | _, [], _ => rfl
  | l, c :: r, ⟨h1, h2, h3⟩ => by
    show (if l < c ∧ c < n then patGo n c (r.map Dt.int) else false) = true
    rw [if_pos ⟨h1, h2⟩]
    exact asc_patGo h3
theorem Asc.mem {n : Int} : ∀ {l : Int} {ps : List Int}, Asc n l ps → ∀ p ∈ ps, l < p ∧ p < n
  | l, c :: r, ⟨h1, h2, h3⟩, p, hp => by
    rcases List.mem_cons.mp hp with e | e
    · rw [e]
      exact ⟨h1, h2⟩
    · have := h3.mem p e
      omega
theorem Asc.inR {n : Int} {ps : List Int} (h : Asc n (-1) ps) : InR ps n := fun p hp => by
  have := h.mem p hp
  omega
theorem Asc.lenA {n : Int} : ∀ {l : Int} {ps : List Int}, Asc n l ps → l < n → (ps.length : Int) + l < n
  | l, [], _, h => by simpa using h
  | l, c :: r, ⟨h1, h2, h3⟩, _ => by
    have := h3.lenA h2
    rw [List.length_cons]
    omega
theorem Asc.len {n : Int} {ps : List Int} (h : Asc n (-1) ps) (hn : 0 ≤ n) : (ps.length : Int) ≤ n := by
  have := h.lenA (by omega)
  omega
def Dt.ints : Dt → List Int
  | .tup ds => ds.map fun d => match d with
    | .int i => i
    | _ => 0
  | _ => []
theorem ints_ct (c : List Int) : (ctD c).ints = c := by
  show (c.map Dt.int).map _ = c
  rw [List.map_map]
  conv => rhs; rw [← List.map_id c]
  rfl
theorem isPat_ct {n : Int} {d : Dt} (h : d.isPat n = true) : ∃ ps, d = ctD ps ∧ Asc n (-1) ps := by
  cases d with
  | tup ds =>
    obtain ⟨ps, rfl, a⟩ := patGo_asc (show patGo n (-1) ds = true from h)
    exact ⟨ps, rfl, a⟩
  | _ => cases h
theorem dh_two {K : PySem.W.Frag} {H : Hp} {xs : List V} {d1 d2 : Dt} : DhAll K H xs [d1, d2] → ∃ v1 v2, xs = [v1, v2] ∧ Dh K H v1 d1 ∧ Dh K H v2 d2
  | .cons h1 (.cons h2 .nil) => ⟨_, _, rfl, h1, h2⟩
abbrev ctP (c : List Int) : PyData := .tuple (c.map PyData.int)
abbrev ctsP (cs : List (List Int)) : PyData := .list (cs.map ctP)
theorem lay_all {α : Type} {f : α → PyData} {n : Nat} (h : ∀ x, (f x).canLay0 = true ∧ (f x).depth ≤ n) : ∀ l : List α, PyData.canLayAll0 (l.map f) = true ∧ PyData.depthAll (l.map f) ≤ n
  | [] => ⟨rfl, Nat.zero_le _⟩
  | x :: r => by
    obtain ⟨h1, h2⟩ := lay_all h r
    obtain ⟨h3, h4⟩ := h x
    refine ⟨?_, ?_⟩
    · show ((f x).canLay0 && PyData.canLayAll0 (r.map f)) = true
      rw [h1, h3]
      rfl
    · show max (f x).depth (PyData.depthAll (r.map f)) ≤ n
      exact Nat.max_le.mpr ⟨h4, h2⟩
theorem lay_ct (c : List Int) : (ctP c).canLay0 = true ∧ (ctP c).depth ≤ 1 := by
  obtain ⟨h1, h2⟩ := lay_all (f := PyData.int) (n := 0) (fun _ => ⟨rfl, Nat.le_refl _⟩) c
  exact ⟨h1, Nat.succ_le_succ h2⟩
theorem shaped_of {d : PyData} {n : Nat} (h : d.canLay0 = true ∧ d.depth ≤ n) (hn : n ≤ 64) : SeqAt.shaped d = true := by
  unfold SeqAt.shaped
  rw [h.1, decide_eq_true (Nat.le_trans h.2 hn)]
  rfl
theorem shaped_ct (c : List Int) : SeqAt.shaped (ctP c) = true := shaped_of (lay_ct c) (by decide)
theorem lay_cts (cs : List (List Int)) : (ctsP cs).canLay0 = true ∧ (ctsP cs).depth ≤ 2 := by
  obtain ⟨h1, h2⟩ := lay_all (f := fun c => ctP c) (n := 1) lay_ct cs
  exact ⟨h1, Nat.succ_le_succ h2⟩
theorem shaped_cts (cs : List (List Int)) : SeqAt.shaped (ctsP cs) = true := shaped_of (lay_cts cs) (by decide)
theorem eqv_all {α : Type} [DecidableEq α] {f : α → PyData} (h : ∀ x y, PyData.eqv (f x) (f y) = decide (x = y)) : ∀ l m : List α, PyData.eqvAll (l.map f) (m.map f) = decide (l = m)
  | [], [] => by simp [PyData.eqvAll]
  | [], _ :: _ => by simp [PyData.eqvAll]
  | _ :: _, [] => by simp [PyData.eqvAll]
  | x :: l, y :: m => by
    rw [List.map_cons, List.map_cons, PyData.eqvAll, h, eqv_all h l m]
    by_cases e1 : x = y <;> by_cases e2 : l = m <;> simp [e1, e2]
theorem eqv_ct (c d : List Int) : PyData.eqv (ctP c) (ctP d) = decide (c = d) := by
  rw [PyData.eqv]
  exact eqv_all (f := PyData.int) (fun x y => by rw [PyData.eqv]; by_cases e : x = y <;> simp [e]) c d
theorem eqv_cts (c d : List (List Int)) : PyData.eqv (ctsP c) (ctsP d) = decide (c = d) := by
  rw [PyData.eqv]
  exact eqv_all (f := fun c => ctP c) eqv_ct c d
theorem dp_ints {K : PySem.W.Frag} {H : Hp} : ∀ c : List Int, DpAll K H (c.map V.int) (c.map PyData.int)
  | [] => .nil
  | i :: r => .cons (.int i) (dp_ints r)
theorem dp_ct {K : PySem.W.Frag} {H : Hp} {v : V} {c : List Int} (h : Dh K H v (ctD c)) : Dp K H v (ctP c) := by
  obtain ⟨a, rfl, s⟩ := ct_inv h
  exact .tup s (dp_ints c)
theorem dp_ctAll {K : PySem.W.Frag} {H : Hp} : ∀ {xs : List V} (cs : List (List Int)), DhAll K H xs (cs.map ctD) → DpAll K H xs (cs.map ctP)
  | _, [], .nil => .nil
  | _, _ :: r, .cons h t => .cons (dp_ct h) (dp_ctAll r t)
theorem dp_cts {K : PySem.W.Frag} {H : Hp} {a : Addr} {xs : List V} {cs : List (List Int)} (s : SqL K H a xs) (h : DhAll K H xs (cs.map ctD)) : Dp K H (.ref a) (ctsP cs) := .lst s (dp_ctAll cs h)
def IsCt (ss c : List Int) : Prop := (ctD c).isCont ss = true
theorem IsCt.len {ss c : List Int} (h : IsCt ss c) : c.length = ss.length := by
  have h' : ((c.map Dt.int).length == ss.length && contGo ss (c.map Dt.int)) = true := h
  rw [Bool.and_eq_true] at h'
  simpa using h'.1
theorem Asc.isPat {n : Int} {ps : List Int} (h : Asc n (-1) ps) : (ctD ps).isPat n = true := asc_patGo h

end
end Fm
namespace Fm
open PySem PySem.Spec PyProof.Rows L2
section
variable {P : Program} {w : World} {K : PySem.W.Frag} {mg : Str → Option Value} {base : Heap}

/-! ### the drawing hand -/
abbrev hv (c : Addr) (i big acc cnt : Int) : List V := [.ref c, .int i, .int big, .int acc, .int cnt]
/-- at h a hand: its cells at c -/
structure HandOk (H : Hp) (h c : Addr) : Prop where
  ex : ∃ (i big acc cnt : Int) (cells : List Int), H h = some (.lst (hv c i big acc cnt)) ∧ H c = some (.lst (cells.map V.int)) ∧ 0 ≤ i
/-- all but the hand is as it was -/
structure Keep (h c : Addr) (H H' : Hp) : Prop where
  rest : ∀ b o, b ≠ h → H b = some o → H' b = some o
  hand : HandOk H' h c
theorem HandOk.same {H H' : Hp} {h c : Addr} (x : HandOk H h c) (s : Same H H') : HandOk H' h c := by
  obtain ⟨i, big, acc, cnt, cells, e1, e2, e3⟩ := x.ex
  exact ⟨i, big, acc, cnt, cells, s _ _ e1, s _ _ e2, e3⟩
theorem Keep.of {H H' : Hp} {h c : Addr} (x : HandOk H h c) (s : Same H H') : Keep h c H H' := ⟨fun b o _ e => s b o e, x.same s⟩
theorem Keep.trans {H H1 H2 : Hp} {h c : Addr} (a : Keep h c H H1) (b : Keep h c H1 H2) : Keep h c H H2 := ⟨fun z o n e => b.rest z o n (a.rest z o n e), b.hand⟩
theorem Keep.same {H H1 H2 : Hp} {h c : Addr} (a : Keep h c H H1) (s : Same H1 H2) : Keep h c H H2 := a.trans (.of a.hand s)
theorem Keep.ext {H H' : Hp} {h c : Addr} (x : HandOk H h c) (k : Keep h c H H') : Ext H H' := fun b o e => by
  by_cases hb : b = h
  · subst hb
    obtain ⟨i, big, acc, cnt, cells, e1, _⟩ := x.ex
    obtain ⟨i', big', acc', cnt', cells', e1', _⟩ := k.hand.ex
    rw [e1] at e
    cases e
    exact .inr ⟨⟨_, rfl⟩, _, e1'⟩
  · exact .inl (k.rest b o hb e)
theorem Keep.free {H H' : Hp} {h c p : Addr} (x : HandOk H h c) (k : Keep h c H H') (n : H' p = none) : H p = none := by
  cases e : H p with
  | none => rfl
  | some o =>
    rcases Keep.ext x k p o e with q | ⟨_, ys, q⟩
    · rw [n] at q
      cases q
    · rw [n] at q
      cases q
theorem HandOk.ne {H : Hp} {h c p : Addr} (x : HandOk H h c) (n : H p = none) : p ≠ h ∧ p ≠ c := by
  obtain ⟨_, _, _, _, _, e1, e2, _⟩ := x.ex
  exact ⟨(ne_of_none e1 n).symm, (ne_of_none e2 n).symm⟩
/-- a new object that the hand has nothing to do with is changed -/
theorem Keep.put {H H' : Hp} {h c D : Addr} {o : HO} (x : HandOk H h c) (k : Keep h c H H') (n : H D = none) : Keep h c H (upd H' D o) := by
  obtain ⟨n1, n2⟩ := x.ne n
  refine ⟨fun b u nb e => ?_, ?_⟩
  · rw [upd_ne (ne_of_none e n)]
    exact k.rest b u nb e
  · obtain ⟨i, big, acc, cnt, cells, e1, e2, e3⟩ := k.hand.ex
    refine ⟨i, big, acc, cnt, cells, ?_, ?_, e3⟩
    · rw [upd_ne n1.symm]
      exact e1
    · rw [upd_ne n2.symm]
      exact e2
def spDraw (_K : PySem.W.Frag) : Sp := fun vs H Q _ => ∃ (h c : Addr) (many : Int), vs = [.ref h, .int many] ∧ HandOk H h c ∧ 0 < many ∧ many < 1073741824 ∧ ∀ d H', 0 ≤ d → d < many → Keep h c H H' → Q (.int d) H'
theorem upd_keep {H H' : Hp} {h : Addr} {o : HO} (k : ∀ b u, b ≠ h → H b = some u → H' b = some u) : ∀ b u, b ≠ h → H b = some u → (upd H' h o) b = some u := fun b u n e => by
  rw [upd_ne n]
  exact k b u n e
theorem ok_law_draw (T : Txt K mg) : FnOk P w K mg base CX0 1 T.f_law_draw T.d_law_draw ["hand", "many"] (spDraw K) := by
  refine T.F_law_draw.ok sc_law_draw (fun vs H Q E h => ?_) (fun cdv A outer s H vs Q E hr h => ?_)
  · obtain ⟨_, _, _, rfl, _⟩ := h
    rfl
  · obtain ⟨h, c, many, rfl, hx, m0, m1, q⟩ := h
    obtain ⟨i, big, acc, cnt, cells, hh, hc, hi⟩ := hx.ex
    have nch : c ≠ h := fun e => by
      rw [e, hh] at hc
      have z := HO.lst.inj (Option.some.inj hc)
      cases cells with
      | nil => cases z
      | cons y r =>
        have z' := (List.cons.inj z).1
        cases z'
    refine ⟨_, (C8.pss_cut (ps_if (PW.pt (pw_and (pt_cmpR op_eq (pe_ix (ix_listK K) (pv 0) pe_int (fun _ _ => rfl)) pe_int (nomark _)) (pw_and1 (pt_cmpR op_lt (pe_ix (ix_listK K) (pv 0) pe_int (fun _ _ => rfl)) (pe_callB (call_lenK K) (by rfl) T.z_len PySem.boot_len (pa_cons (pe_ix (ix_listK K) (pv 0) pe_int (fun _ _ => rfl)) pa_nil)) (nomark _))))) (pss_cons (ps_set (i := 3) sc_law_draw.nd rfl (.inl rfl) (pe_ix (ix_listK K) (pe_ix (ix_listK K) (pv 0) pe_int (fun _ _ => rfl)) (pe_ix (ix_listK K) (pv 0) pe_int (fun _ _ => rfl)) (fun _ _ => rfl)))
      (pss_cons (ps_asg (pe_op op_add (pe_ix (ix_listK K) (pv 0) pe_int (fun _ _ => rfl)) pe_int) (pg_sub (pv 0) pe_int set_list))
      (pss_cons (ps_asg (pe_op op_mod (pe_callTy call_int1 (by rfl) T.z_int (by decide +kernel) (pa_cons (pe_op op_add (pe_op op_add (pe_op op_mul (pe_ix (ix_listK K) (pv 0) pe_int (fun _ _ => rfl)) pe_int) (pv 3)) pe_int) pa_nil)) pe_int) (pg_sub (pv 0) pe_int set_list))
      (pss_one (ps_if (pt_cmpR op_ge (pv 3) (pe_op op_pow pe_int pe_int) (nomark _)) (pss_one (ps_asg (pv 3) (pg_sub (pv 0) pe_int set_list))) pss_nil))))) pss_nil)
      (pss_cons (ps_if (pt_cmpR op_gt (pe_ix (ix_listK K) (pv 0) pe_int (fun _ _ => rfl)) pe_int (nomark _)) (pss_cons (ps_set (i := 4) sc_law_draw.nd rfl (.inl rfl) (pe_op op_mod (pe_callTy call_int1 (by rfl) T.z_int (by decide +kernel) (pa_cons (pe_ix (ix_listK K) (pv 0) pe_int (fun _ _ => rfl)) pa_nil)) (pv 1)))
      (pss_cons (ps_asg (pe_op op_fdiv (pe_ix (ix_listK K) (pv 0) pe_int (fun _ _ => rfl)) (pv 1)) (pg_sub (pv 0) pe_int set_list))
      (pss_one (ps_ret (pv 4))))) pss_nil)
      (pss_cons (ps_asg (pe_op op_add (pe_ix (ix_listK K) (pv 0) pe_int (fun _ _ => rfl)) pe_int) (pg_sub (pv 0) pe_int set_list))
      (pss_cons (ps_set (i := 2) sc_law_draw.nd rfl (.inl rfl) (pe_op op_mod (pe_callTy call_int1 (by rfl) T.z_int (by decide +kernel) (pa_cons (pe_op op_mul (pe_callTy call_int1 (by rfl) T.z_int (by decide +kernel) (pa_cons (pe_op op_add (pe_ix (ix_listK K) (pv 0) pe_int (fun _ _ => rfl)) (pe_op op_mul pe_int (pe_ix (ix_listK K) (pv 0) pe_int (fun _ _ => rfl)))) pa_nil)) pe_int) pa_nil)) pe_int))
      (pss_cons (ps_set (i := 2) sc_law_draw.nd rfl (.inl rfl) (pe_op op_mod (pe_callTy call_int1 (by rfl) T.z_int (by decide +kernel) (pa_cons (pe_op op_mul (pv 2) (pe_op op_add (pe_op op_fdiv (pv 2) pe_int) pe_int)) pa_nil)) pe_int))
      (pss_cons (ps_set (i := 2) sc_law_draw.nd rfl (.inl rfl) (pe_op op_mod (pe_callTy call_int1 (by rfl) T.z_int (by decide +kernel) (pa_cons (pe_op op_mul (pv 2) (pe_op op_add (pe_op op_fdiv (pv 2) pe_int) pe_int)) pa_nil)) pe_int))
      (pss_one (ps_ret (pe_op op_mod (pe_callTy call_int1 (by rfl) T.z_int (by decide +kernel) (pa_cons (pe_op op_fdiv (pv 2) pe_int) pa_nil)) (pv 1)))))))))), ?_⟩
    refine ⟨fun σ H' => ∃ (i big acc : Int) (y2 y3 y4 : Option V), σ = [some (.ref h), some (.int many), y2, y3, y4] ∧ (∀ b o, b ≠ h → H b = some o → H' b = some o) ∧ 0 ≤ i ∧ H' h = some (.lst (hv c i big acc cnt)), ?_, ?_⟩
    · have skip : ∃ (i big acc : Int) (y2 y3 y4 : Option V), ([some (.ref h), some (.int many), none, none, none] : L2.St) = [some (.ref h), some (.int many), y2, y3, y4] ∧ (∀ b o, b ≠ h → H b = some o → H b = some o) ∧ 0 ≤ i ∧ H h = some (.lst (hv c i big acc cnt)) := ⟨i, big, acc, none, none, none, rfl, fun _ _ _ e => e, hi, hh⟩
      refine ⟨_, rfl, h, _, 2, _, rfl, rfl, SqL.of hh, atI_nat (j := 2) rfl, rfl, _, rfl, ?_⟩
      refine ite2 (fun _ => ?_) (fun _ => ?_)
      · refine ⟨_, rfl, h, _, 1, _, rfl, rfl, SqL.of hh, atI_nat (j := 1) rfl, _, rfl, h, _, 0, _, rfl, rfl, SqL.of hh, atI_nat (j := 0) rfl, c, _, rfl, .inl (SqL.of hc), _, _, rfl, rfl, _, rfl, ?_⟩
        refine ite2 (fun hlt => ?_) (fun _ => skip)
        have hlt' : i < cells.length := by
          have := of_decide_eq_true hlt
          rw [List.length_map] at this
          exact this
        have hcell : atI (cells.map V.int) i = some (.int (cells[i.toNat]'(by omega))) := by
          refine at_of (j := i.toNat) (by omega) ?_
          rw [List.getElem?_map, List.getElem?_eq_getElem (by omega)]
          rfl
        generalize cells[i.toNat]'(by omega) = cell at hcell
        refine ⟨_, rfl, h, _, 0, _, rfl, rfl, SqL.of hh, atI_nat (j := 0) rfl, _, rfl, h, _, 1, _, rfl, rfl, SqL.of hh, atI_nat (j := 1) rfl, c, _, _, _, rfl, rfl, SqL.of hc, hcell, ?_⟩
        -- hand[1] = hand[1] + 1
        refine ⟨_, rfl, h, _, 1, _, rfl, rfl, SqL.of hh, atI_nat (j := 1) rfl, _, _, rfl, rfl, _, rfl, h, _, 1, 1, rfl, rfl, hh, rfl, ?_⟩
        -- hand[3] = ..
        refine ⟨_, rfl, h, _, 3, _, rfl, rfl, SqL.of upd_same, atI_nat (j := 3) rfl, _, _, rfl, rfl, .inr ⟨by decide, by decide⟩, _, rfl, _, _, rfl, rfl, _, _, rfl, rfl, .inl ⟨_, rfl, _, _, rfl, rfl, show (0 : Int) < 2147483629 by decide, _, rfl, h, _, 3, 3, rfl, rfl, upd_same, rfl, ?_⟩⟩
        refine ⟨_, rfl, _, _, rfl, rfl, ⟨by decide, by decide, by decide⟩, _, _, rfl, rfl, _, rfl, ?_⟩
        have kp : ∀ b u, b ≠ h → H b = some u → (upd (upd H h (.lst ((hv c i big acc cnt).set 1 (V.int (i + 1))))) h (.lst (((hv c i big acc cnt).set 1 (V.int (i + 1))).set 3 (V.int ((acc * 69621 + cell + 11) % 2147483629))))) b = some u := upd_keep (upd_keep fun _ _ _ e => e)
        refine ite2 (fun _ => ?_) (fun _ => ?_)
        · refine ⟨_, rfl, _, rfl, h, _, 2, 2, rfl, rfl, upd_same, rfl, ?_⟩
          exact ⟨i + 1, cell, _, none, some (.int cell), none, rfl, upd_keep kp, by omega, upd_same⟩
        · exact ⟨i + 1, big, _, none, some (.int cell), none, rfl, kp, by omega, upd_same⟩
      · exact skip
    · rintro σ H' ⟨i, big, acc, y2, y3, y4, rfl, kp, hi, hh⟩
      have hc' : H' c = some (.lst (cells.map V.int)) := kp c _ nch hc
      refine ⟨_, rfl, h, _, 2, _, rfl, rfl, SqL.of hh, atI_nat (j := 2) rfl, _, _, rfl, rfl, _, rfl, ?_⟩
      refine ite2 (fun _ => ?_) (fun _ => ?_)
      · -- digit = int(hand[2]) % many; hand[2] = hand[2] // many
        refine ⟨_, rfl, h, _, 2, _, rfl, rfl, SqL.of hh, atI_nat (j := 2) rfl, .inl ⟨_, rfl, _, rfl, _, _, rfl, rfl, m0, ?_⟩⟩
        refine ⟨_, rfl, h, _, 2, _, rfl, rfl, SqL.of hh, atI_nat (j := 2) rfl, _, rfl, _, _, rfl, rfl, ⟨m0, m1⟩, _, rfl, h, _, 2, 2, rfl, rfl, hh, rfl, ?_⟩
        refine ⟨_, rfl, ?_⟩
        refine q (big % many) _ (Int.emod_nonneg _ (by omega)) (Int.emod_lt_of_pos _ m0) ⟨upd_keep kp, ⟨i, big / many, acc, cnt, cells, upd_same, ?_, hi⟩⟩
        rw [upd_ne nch]
        exact hc'
      · -- hand[4] = hand[4] + 1
        refine ⟨_, rfl, h, _, 4, _, rfl, rfl, SqL.of hh, atI_nat (j := 4) rfl, _, _, rfl, rfl, _, rfl, h, _, 4, 4, rfl, rfl, hh, rfl, ?_⟩
        generalize hG : upd H' h (.lst ((hv c i big acc cnt).set 4 (V.int (cnt + 1)))) = G
        have eh : G h = some (.lst (hv c i big acc (cnt + 1))) := by
          rw [← hG]
          exact upd_same
        have kG : Keep h c H G := by
          rw [← hG]
          refine ⟨upd_keep kp, ⟨i, big, acc, cnt + 1, cells, upd_same, ?_, hi⟩⟩
          rw [upd_ne nch]
          exact hc'
        refine ⟨_, rfl, h, _, 3, _, rfl, rfl, SqL.of eh, atI_nat (j := 3) rfl, _, rfl, h, _, 4, _, rfl, rfl, SqL.of eh, atI_nat (j := 4) rfl, _, _, rfl, rfl, .inl ⟨by decide, by decide⟩, _, _, rfl, rfl, .inl ⟨_, rfl, _, _, rfl, rfl, .inr ⟨by decide, by decide⟩, .inl ⟨_, rfl, _, _, rfl, rfl, show (0 : Int) < 2147483647 by decide, ?_⟩⟩⟩
        have b1 : ∀ x : Int, 0 ≤ x % 2147483647 ∧ x % 2147483647 < 2147483647 := fun x => ⟨Int.emod_nonneg _ (by decide), Int.emod_lt_of_pos _ (by decide)⟩
        generalize hn : ((acc + 7919 * (cnt + 1)) * 48271) % 2147483647 = n1
        have q1 := b1 ((acc + 7919 * (cnt + 1)) * 48271)
        rw [hn] at q1
        refine ⟨_, rfl, _, rfl, _, _, rfl, rfl, ⟨by decide, by decide⟩, _, _, rfl, rfl, _, _, rfl, rfl, .inl ⟨by omega, by omega⟩, .inl ⟨_, rfl, _, _, rfl, rfl, show (0 : Int) < 2147483647 by decide, ?_⟩⟩
        generalize hn2 : (n1 * (n1 / 1009 + 69621)) % 2147483647 = n2
        have q2 := b1 (n1 * (n1 / 1009 + 69621))
        rw [hn2] at q2
        refine ⟨_, rfl, _, rfl, _, _, rfl, rfl, ⟨by decide, by decide⟩, _, _, rfl, rfl, _, _, rfl, rfl, .inl ⟨by omega, by omega⟩, .inl ⟨_, rfl, _, _, rfl, rfl, show (0 : Int) < 2147483399 by decide, ?_⟩⟩
        refine ⟨_, rfl, _, _, rfl, rfl, ⟨by decide, by decide⟩, .inl ⟨_, rfl, _, rfl, _, _, rfl, rfl, m0, ?_⟩⟩
        exact q _ _ (Int.emod_nonneg _ (by omega)) (Int.emod_lt_of_pos _ m0) kG

theorem cut_map (ns : List Int) (lo hi : Option Int) : ∃ ms : List Int, cutV (ns.map V.int) lo hi = ms.map V.int ∧ ms.length ≤ ns.length := by
  refine ⟨(ns.drop (HT.sIx (ns.map V.int).length 0 lo)).take (HT.sIx (ns.map V.int).length (ns.map V.int).length hi - HT.sIx (ns.map V.int).length 0 lo), ?_, ?_⟩
  · unfold cutV
    rw [List.map_take, List.map_drop]
  · rw [List.length_take, List.length_drop]
    omega
def spHand (K : PySem.W.Frag) : Sp := fun vs H Q _ => ∃ (a : Addr) (ns : List Int), vs = [.ref a] ∧ SqL K H a (ns.map V.int) ∧ ns.length ≤ 1000 ∧ ∀ h c H', H h = none → Same H H' → HandOk H' h c → Q (.ref h) H'
theorem ok_law_hand (T : Txt K mg) : FnOk P w K mg base CX0 1 T.f_law_hand T.d_law_hand ["script"] (spHand K) := by
  refine T.F_law_hand.ok sc_law_hand (fun vs H Q E h => ?_) (fun cdv A outer s H vs Q E hr h => ?_)
  · obtain ⟨_, _, rfl, _⟩ := h
    rfl
  · obtain ⟨a, ns, rfl, ha, hl, q⟩ := h
    obtain ⟨ms, em, hm⟩ := cut_map ns none (some 63)
    refine ⟨_, (pss_cons (ps_setLc (i := 1) (own := [("cell", 2)]) rfl sc_law_hand.nd rfl rfl (sw_true rfl rfl rfl (by decide +kernel)) (pi_listK K (pe_slice (sl_listK K) (pv 0) po_none (po_some pe_int))) (blkOk_by (N := N_law_hand) (sc := defScope s_law_hand) (by decide +kernel)) (fun _ _ _ _ _ => (pg_name (i := 2) sc_law_hand.nd rfl (.inl rfl))) (fun _ _ _ _ _ => pts_nil) (fun _ _ _ _ _ => (pe_callB call_abs (by rfl) T.z_abs (by decide +kernel) (pa_cons (pe_callTy call_int1 (by rfl) T.z_int (by decide +kernel) (pa_cons (pv 2) pa_nil)) pa_nil))))
      (pss_one (ps_ret (pe_lst (pa_cons (pv 1) (pa_cons pe_int (pa_cons pe_int (pa_cons (pe_op op_add pe_int (pe_callB (call_lenK K) (by rfl) T.z_len PySem.boot_len (pa_cons (pv 1) pa_nil))) (pa_cons pe_int pa_nil))))))))), ?_⟩
    refine ⟨_, rfl, 63, rfl, a, _, rfl, ha, fun p np => ⟨p, rfl, ⟨_, SqL.of upd_same⟩, fun D hD => lc_list (K := K) (xs := cutV (ns.map V.int) none (some 63)) (fun i H' => ∃ cs : List Int, cs.length = i ∧ Same (upd H p (.lst (cutV (ns.map V.int) none (some 63)))) H' ∧ H' D = some (.lst (cs.map V.int)))
      ⟨[], rfl, same_new hD, upd_same⟩ (fun i H' _ ⟨_, _, sm, _⟩ => sm.seq (SqL.of upd_same)) ?_ ?_⟩⟩
    · rintro i x H' hx ⟨cs, hcs, sm, hDl⟩
      rw [em] at hx
      obtain ⟨z, rfl, hz⟩ := int_at hx
      have hi := (List.getElem?_eq_some_iff.mp hz).1
      refine ⟨rfl, ?_⟩
      dsimp only [tYes]
      rw [if_pos rfl]
      refine ⟨_, rfl, .inl ⟨_, rfl, _, rfl, _, hDl, ?_, cs ++ [if z < 0 then -z else z], ?_, fun b o e => ?_, ?_⟩⟩
      · rw [List.length_map]
        exact sz_small (by omega)
      · rw [List.length_append, hcs]
        rfl
      · rw [upd_ne (ne_of_none e hD)]
        exact sm _ _ e
      · rw [upd_same, List.map_append]
        rfl
    · rintro H' ⟨cs, hcs, sm, hDl⟩
      have s1 : Same H H' := (same_new np).trans sm
      refine ⟨_, rfl, _, rfl, D, _, rfl, .inl (SqL.of hDl), _, _, rfl, rfl, by show 5 ≤ sizeLine; decide, fun h nh => ?_⟩
      have s2 : Same H' (upd H' h (.lst (hv D 0 0 (1 + ((cs.map V.int).length : Int)) 0))) := same_new nh
      exact q h D _ (s1.free nh) (s1.trans s2) ⟨0, 0, _, 0, cs, upd_same, s2 _ _ hDl, Int.le_refl 0⟩
def spSome (_K : PySem.W.Frag) : Sp := fun vs H Q _ => ∃ (h c p : Addr) (xs : List V), vs = [.ref h, .ref p] ∧ HandOk H h c ∧ p ≠ h ∧ H p = some (.lst xs) ∧ 0 < xs.length ∧ xs.length < 1000000 ∧ ∀ x H', x ∈ xs → Keep h c H H' → Q x H'
theorem ok_law_some (T : Txt K mg) : FnOk P w K mg base CX0 2 T.f_law_some T.d_law_some ["hand", "things"] (spSome K) := by
  refine T.F_law_some.ok sc_law_some (fun vs H Q E h => ?_) (fun cdv A outer s H vs Q E hr h => ?_)
  · obtain ⟨_, _, _, _, rfl, _⟩ := h
    rfl
  · obtain ⟨h, c, p, xs, rfl, hx, ne, hp, l0, l1, q⟩ := h
    refine ⟨_, (pss_one (ps_ret (pe_ix (ix_listK K) (pv 1) (pe_call (ok_law_draw T) hr (by rfl) T.g_law_draw T.F_law_draw.kp T.b_law_draw .nil pass0 (pa_cons (pv 0) (pa_cons (pe_callB (call_lenK K) (by rfl) T.z_len PySem.boot_len (pa_cons (pv 1) pa_nil)) pa_nil))) (fun _ _ => rfl)))), ?_⟩
    refine ⟨_, rfl, _, rfl, _, rfl, p, _, rfl, .inl (SqL.of hp), h, c, _, rfl, hx, by omega, by omega, fun d H' d0 d1 k => ?_⟩
    have hd : d.toNat < xs.length := by omega
    exact ⟨p, xs, d, xs[d.toNat], rfl, rfl, SqL.of (k.rest _ _ ne hp), at_of (j := d.toNat) (by omega) (List.getElem?_eq_getElem hd), q _ H' (List.getElem_mem hd) k⟩
def taInts : List Int → TA
  | [] => tNil
  | i :: r => tCons (tC (.int i)) (taInts r)
def taTups : List (List Int) → TA
  | [] => tNil
  | c :: r => tCons (tTup (taInts c)) (taTups r)
theorem taInts_ok {σ : L2.St} {H : Hp} : ∀ (c : List Int) (Q : List V → Hp → Prop), Q (c.map V.int) H → taInts c σ H Q
  | [], Q, q => q
  | i :: r, Q, q => taInts_ok r (fun vs H1 => Q (V.int i :: vs) H1) q
theorem taTups_ok {σ : L2.St} : ∀ (css : List (List Int)) {H : Hp} (Q : List V → Hp → Prop), (∀ c ∈ css, c.length ≤ 1000) → (∀ vs H', Same H H' → DhAll K H' vs (css.map ctD) → Q vs H') → taTups css σ H Q
  | [], H, Q, _, q => q [] H (Same.refl H) .nil
  | c :: r, H, Q, hl, q => by
    refine taInts_ok c _ ⟨?_, fun p np => taTups_ok r (fun vs H1 => Q (V.ref p :: vs) H1) (fun d hd => hl d (List.mem_cons_of_mem _ hd)) fun vs H' s hv => ?_⟩
    · rw [List.length_map]
      exact Nat.le_of_lt (sz_small (by have := hl c (List.mem_cons_self ..); omega))
    · have s2 := (same_new (o := .tup (c.map V.int)) np).trans s
      exact q _ H' s2 (.cons (dh_ct (SqT.of (s _ _ upd_same))) hv)
theorem DhAll.mem {H : Hp} {vs : List V} {ds : List Dt} (h : DhAll K H vs ds) {v : V} (hv : v ∈ vs) : ∃ d, d ∈ ds ∧ Dh K H v d := by
  obtain ⟨i, hi, rfl⟩ := List.mem_iff_getElem.mp hv
  obtain ⟨d, e, hd⟩ := h.get (List.getElem?_eq_getElem hi)
  exact ⟨d, List.mem_of_getElem? e, hd⟩
theorem some_tups {H : Hp} {σ : L2.St} {Q : VK} {h ca : Addr} {css : List (List Int)} (hx : HandOk H h ca) (hl : ∀ c ∈ css, c.length ≤ 1000) (h0 : 0 < css.length) (h1 : css.length ≤ 1000) (q : ∀ x c H', c ∈ css → Keep h ca H H' → Dh K H' x (ctD c) → Q x H') :
    tLst (taTups css) σ H fun x H1 => spSome K [.ref h, x] H1 Q E0 := by
  refine taTups_ok (K := K) css _ hl fun vs H1 s1 hv => ?_
  have e := hv.length
  rw [List.length_map] at e
  refine ⟨Nat.le_of_lt (sz_small (by omega)), fun p np => ?_⟩
  have s2 : Same H (upd H1 p (.lst vs)) := s1.trans (same_new np)
  have nph : p ≠ h := ((hx.same s1).ne np).1
  refine ⟨h, ca, p, vs, rfl, hx.same s2, nph, upd_same, by omega, by omega, fun x H' hm k => ?_⟩
  obtain ⟨d, hd, hxd⟩ := hv.mem hm
  obtain ⟨c, hc, rfl⟩ := List.mem_map.mp hd
  exact q x c H' hc ((Keep.of hx s2).trans k) ((hxd.ext (Ext.new np)).ext (Keep.ext (hx.same s2) k))
def spSizes (K : PySem.W.Frag) : Sp := fun vs H Q _ => ∃ h c : Addr, vs = [.ref h] ∧ HandOk H h c ∧ ∀ v ss H', Keep h c H H' → SizesOk ss → Dh K H' v (ctD ss) → Q v H'
abbrev szA : List (List Int) := [[2, 2, 2, 2, 2], [4, 4], [3, 3, 2], [2, 4, 2, 2], [4, 4, 4]]
abbrev szB : List (List Int) := [[2, 2, 2], [2, 3, 2], [3, 2, 2], [2, 2], [3, 2], [2, 2, 3], [4], [2, 2, 2, 2], [2]]
theorem szA_ok : ∀ c ∈ szA, SizesOk c := fun c hc => by
  have q : szA.all (fun c => (Dt.tup (c.map Dt.int)).isSizes) = true := by decide
  exact List.all_eq_true.mp q c hc
theorem szB_ok : ∀ c ∈ szB, SizesOk c := fun c hc => by
  have q : szB.all (fun c => (Dt.tup (c.map Dt.int)).isSizes) = true := by decide
  exact List.all_eq_true.mp q c hc
theorem ok_law_sizes (T : Txt K mg) : FnOk P w K mg base CX0 3 T.f_law_sizes T.d_law_sizes ["hand"] (spSizes K) := by
  refine T.F_law_sizes.ok sc_law_sizes (fun vs H Q E h => ?_) (fun cdv A outer s H vs Q E hr h => ?_)
  · obtain ⟨_, _, rfl, _⟩ := h
    rfl
  · obtain ⟨h, ca, rfl, hx, q⟩ := h
    refine ⟨_, (pss_cons (ps_if (pt_cmpR op_eq (pe_call (ok_law_draw T) (hr.mono (by decide)) (by rfl) T.g_law_draw T.F_law_draw.kp T.b_law_draw .nil pass0 (pa_cons (pv 0) (pa_cons pe_int pa_nil))) pe_int (nomark _)) (pss_one (ps_ret (pe_call (ok_law_some T) hr (by rfl) T.g_law_some T.F_law_some.kp T.b_law_some .nil pass0 (pa_cons (pv 0) (pa_cons (pe_lst (pa_cons (pe_tup (pa_cons pe_int (pa_cons pe_int (pa_cons pe_int (pa_cons pe_int (pa_cons pe_int pa_nil)))))) (pa_cons (pe_tup (pa_cons pe_int (pa_cons pe_int pa_nil))) (pa_cons (pe_tup (pa_cons pe_int (pa_cons pe_int (pa_cons pe_int pa_nil)))) (pa_cons (pe_tup (pa_cons pe_int (pa_cons pe_int (pa_cons pe_int (pa_cons pe_int pa_nil))))) (pa_cons (pe_tup (pa_cons pe_int (pa_cons pe_int (pa_cons pe_int pa_nil)))) pa_nil)))))) pa_nil))))) pss_nil)
      (pss_one (ps_ret (pe_call (ok_law_some T) hr (by rfl) T.g_law_some T.F_law_some.kp T.b_law_some .nil pass0 (pa_cons (pv 0) (pa_cons (pe_lst (pa_cons (pe_tup (pa_cons pe_int (pa_cons pe_int (pa_cons pe_int pa_nil)))) (pa_cons (pe_tup (pa_cons pe_int (pa_cons pe_int (pa_cons pe_int pa_nil)))) (pa_cons (pe_tup (pa_cons pe_int (pa_cons pe_int (pa_cons pe_int pa_nil)))) (pa_cons (pe_tup (pa_cons pe_int (pa_cons pe_int pa_nil))) (pa_cons (pe_tup (pa_cons pe_int (pa_cons pe_int pa_nil))) (pa_cons (pe_tup (pa_cons pe_int (pa_cons pe_int (pa_cons pe_int pa_nil)))) (pa_cons (pe_tup (pa_cons pe_int pa_nil)) (pa_cons (pe_tup (pa_cons pe_int (pa_cons pe_int (pa_cons pe_int (pa_cons pe_int pa_nil))))) (pa_cons (pe_tup (pa_cons pe_int pa_nil)) pa_nil)))))))))) pa_nil)))))), ?_⟩
    refine ⟨_, rfl, h, ca, 12, rfl, hx, by decide, by decide, fun d H1 _ _ k => ⟨rfl, _, rfl, ?_⟩⟩
    have go : ∀ css : List (List Int), (∀ c ∈ css, SizesOk c) → css.length ≤ 1000 → 0 < css.length → tLst (taTups css) [some (.ref h)] H1 fun x H2 => spSome K [.ref h, x] H2 Q E0 := fun css ok l1 l0 =>
      some_tups (K := K) k.hand (fun c hc => by have := (ok c hc).facts; omega) l0 l1 fun x c H2 hc k2 hd => q x c H2 (k.trans k2) (ok c hc) hd
    refine ite2 (fun _ => ?_) (fun _ => ?_)
    · exact ⟨_, rfl, go szA szA_ok (by decide) (by decide)⟩
    · exact ⟨_, rfl, go szB szB_ok (by decide) (by decide)⟩

theorem ext_take {n j : Nat} (c : List Int) (h : j < n) : (ext n c).take (j + 1) = (ext n c).take j ++ [c ++ [(j : Int)]] := by
  have e : (ext n c)[j]? = some (c ++ [(j : Int)]) := by
    unfold ext
    rw [List.getElem?_map, List.getElem?_range h]
    rfl
  rw [List.take_add_one, e]
  rfl
theorem lc_ext {H : Hp} {σ : L2.St} {Q : VK} {x : V} {c : List Int} {n : Nat} {kx kc : Nat} {ta : TA} (hta : ∀ R : List V → Hp → Prop, R [.int n] H → ta σ H R) (hx : Dh K H x (ctD c)) (hl : c.length ≤ 1000) (hn : n ≤ 1000)
    (hw : ∀ y, wipe ((wipe σ [kx]).set kx (some y)) [kx] = wipe σ [kx]) (hc : ∀ y : V, ((wipe σ [kx]).set kx (some y))[kc]? = some (some x)) (hk : ∀ y : V, ((wipe σ [kx]).set kx (some y))[kx]? = some (some y))
    (q : ∀ D xs H', H D = none → Same H H' → H' D = some (.lst xs) → DhAll K H' xs ((ext n c).map ctD) → Q (.ref D) H') :
    tLc (iRng1 ta) (gName kx) tYes (tOp (rCatA K) (tVar kc) (tTup (tCons (tVar kx) tNil))) [kx] σ H Q := by
  refine hta _ ⟨_, rfl, by omega, by omega, fun D hD => lc_range (lo := 0) (n := ((n : Nat) : Int).toNat) (fun i H' => ∃ acc, Same H H' ∧ H' D = some (.lst acc) ∧ DhAll K H' acc (((ext n c).take i).map ctD)) ⟨[], same_new hD, upd_same, .nil⟩ ?_ ?_⟩
  · rintro i H' hi ⟨acc, sm, hDl, hacc⟩
    rw [Int.toNat_natCast] at hi
    refine ⟨hw _, ?_⟩
    dsimp only [tYes]
    rw [if_pos rfl, Int.zero_add]
    refine ⟨x, hc _, _, hk _, by show 1 ≤ sizeLine; decide, fun r hr2 => cat_ct (K := K) (c := c) (j := (i : Int)) (hx.ext (.of (sm.trans (same_new hr2)))) hl upd_same fun v H3 s4 hv => ?_⟩
    have s5 : Same H' H3 := (same_new hr2).trans s4
    refine ⟨acc, s5 _ _ hDl, ?_, acc ++ [v], Same.put hD (sm.trans s5), upd_same, ?_⟩
    · have e1 := hacc.length
      rw [List.length_map, List.length_take, ext_len] at e1
      exact sz_small (by omega)
    · rw [ext_take c hi, List.map_append]
      exact ((hacc.ext (.of s5)).snoc hv).ext (Ext.put (s5 _ _ hDl))
  · rintro H' ⟨acc, sm, hDl, hacc⟩
    rw [Int.toNat_natCast, List.take_of_length_le (by rw [ext_len]; exact Nat.le_refl _)] at hacc
    exact q D acc H' hD sm hDl hacc
theorem ok_law_contents (T : Txt K mg) : FnOk P w K mg base CX0 1 T.f_law_contents T.d_law_contents ["sizes"] (spAll K) := by
  refine T.F_law_contents.ok sc_law_contents (fun vs H Q E h => ?_) (fun cdv A outer s H vs Q E hr h => ?_)
  · obtain ⟨_, _, rfl, _⟩ := h
    rfl
  · obtain ⟨a, ss, rfl, hs, ok, q⟩ := h
    obtain ⟨_, h5, hm⟩ := ok.facts
    refine ⟨_, (pss_cons (ps_set (i := 1) sc_law_contents.nd rfl (.inl rfl) (pe_lst (pa_cons (pe_tup pa_nil) pa_nil)))
      (pss_cons (ps_for PassesOwn.never rfl (pi_tupK K (pv 0)) (pg_name (i := 2) sc_law_contents.nd rfl (.inl rfl)) (pss_cons (ps_set (i := 3) sc_law_contents.nd rfl (.inl rfl) (pe_lst pa_nil))
      (pss_cons (ps_for PassesOwn.never rfl (pi_listK K (pv 1)) (pg_name (i := 4) sc_law_contents.nd rfl (.inr rfl)) (pss_one (ps_expr (pe_bm PySem.F.plainAttrs_list PySem.F.slot_list_extend PySem.F.type_list_extend mt_extend (pv 3) (pa_cons (pe_lc (own := [("worth", 5)]) rfl sc_law_contents.nd (pi_range1 (by rfl) T.z_range (pa_cons (pv 2) pa_nil)) (blkOk_by (N := N_law_contents) (sc := defScope s_law_contents) (by decide +kernel)) (fun _ _ _ _ _ => (pg_name (i := 5) sc_law_contents.nd rfl (.inl rfl))) (fun _ _ _ _ _ => pts_nil) (fun _ _ _ _ _ => (pe_op (op_catK K) (pv 4) (pe_tup (pa_cons (pv 5) pa_nil))))) pa_nil)))))
      (pss_one (ps_set (i := 1) sc_law_contents.nd rfl (.inl rfl) (pv 3))))))
      (pss_one (ps_ret (pv 1))))), ?_⟩
    refine ⟨Nat.zero_le _, fun t0 n0 => ⟨by show 1 ≤ sizeLine; decide, fun f0 nf0 => ?_⟩⟩
    have s1 : Same H (upd H t0 (.tup [])) := same_new n0
    have s2 : Same H (upd (upd H t0 (.tup [])) f0 (.lst [.ref t0])) := s1.trans (same_new nf0)
    refine ⟨_, rfl, a, rfl, ⟨_, (Ext.of s2).sqT hs⟩, for_tup (xs := ss.map V.int) (fun i σ H' => ∃ (f : Addr) (xs : List V) (y2 y3 y4 y5 : Option V), σ = [some (.ref a), some (.ref f), y2, y3, y4, y5] ∧ Same H H' ∧ H f = none ∧ H' f = some (.lst xs) ∧ DhAll K H' xs ((allC (ss.take i)).map ctD))
      ⟨f0, [.ref t0], none, none, none, none, rfl, s2, s1.free nf0, upd_same, .cons (dh_ct (c := []) (SqT.of ?_)) .nil⟩ (fun i σ H' _ ⟨_, _, _, _, _, _, _, sm, _⟩ => (Ext.of sm).sqT hs) ?_ ?_⟩
    · rw [upd_ne (fun e => by rw [e, upd_same] at nf0; cases nf0), upd_same]
      rfl
    · rintro i x σ H' hx ⟨f, xs, y2, y3, y4, y5, rfl, sm, nf, hf, hall⟩
      obtain ⟨z, rfl, hz⟩ := int_at hx
      obtain ⟨z2, z4⟩ := hm z (List.mem_of_getElem? hz)
      obtain ⟨n, rfl⟩ : ∃ n : Nat, z = (n : Int) := ⟨z.toNat, by omega⟩
      have hi : i < ss.length := (List.getElem?_eq_some_iff.mp hz).1
      have etake : ss.take (i + 1) = ss.take i ++ [(n : Int)] := by rw [List.take_add_one, hz]; rfl
      generalize hcs : allC (ss.take i) = cs at hall
      have hlen := hall.length
      rw [List.length_map] at hlen
      have hb := allC_len (fun s hs => (hm s hs).2) i
      rw [hcs] at hb
      have hcl : cs.length ≤ 1024 := Nat.le_trans hb.1 (Nat.pow_le_pow_right (by decide) (by omega : i ≤ 5))
      refine ⟨Nat.zero_le _, fun D hD => ?_⟩
      have sD : Same H' (upd H' D (.lst [])) := same_new hD
      refine ⟨.ref f, rfl, f, rfl, ⟨xs, SqL.of (sD _ _ hf)⟩, for_list (K := K) (xs := xs) (fun j σ H2 => ∃ (acc : List V) (y4 y5 : Option V), σ = [some (.ref a), some (.ref f), some (.int n), some (.ref D), y4, y5] ∧ Same H' H2 ∧ H2 D = some (.lst acc) ∧ DhAll K H2 acc (((cs.take j).flatMap (ext n)).map ctD))
        ⟨[], _, _, rfl, sD, upd_same, .nil⟩ (fun j σ H2 _ ⟨_, _, _, _, s3, _⟩ => s3.seq (SqL.of hf)) ?_ ?_⟩
      · rintro j x σ H2 hx2 ⟨acc, y4, y5, rfl, s3, hD2, hacc⟩
        obtain ⟨d, hd, hxd⟩ := hall.get hx2
        obtain ⟨c, hc, rfl⟩ := map_at hd
        have hcm : c.length ≤ 1000 := Nat.le_trans (hb.2 c (List.mem_of_getElem? hc)) (by omega)
        refine ⟨.ref D, rfl, .inl ⟨rfl, _, SqL.of hD2⟩, ?_⟩
        dsimp only [tCons]
        refine lc_ext (K := K) (σ := [some (.ref a), some (.ref f), some (.int n), some (.ref D), some x, y5]) (kx := 5) (kc := 4) (n := n) (c := c) (fun R hR => ⟨_, rfl, hR⟩) (hxd.ext (.of s3)) hcm (by omega) (fun _ => rfl) (fun _ => rfl) (fun _ => rfl) fun b zs H3 nb s4 hb3 hzs => ?_
        have e1 := hacc.length
        rw [List.length_map, flat_len, List.length_take] at e1
        have e2 := hzs.length
        rw [List.length_map, ext_len] at e2
        have e3 : min j cs.length * n ≤ 1024 * 4 := Nat.mul_le_mul (by omega) (by omega)
        refine ⟨D, b, acc, zs, rfl, rfl, s4 _ _ hD2, hb3, Nat.le_of_lt (sz_small (by omega)), acc ++ zs, _, _, rfl, Same.put hD (s3.trans s4), upd_same, ?_⟩
        rw [List.take_add_one, hc]
        show DhAll K _ _ (List.map ctD (List.flatMap (ext n) (List.take j cs ++ [c])))
        rw [List.flatMap_append, List.map_append]
        refine ((hacc.ext (.of s4)).append ?_).ext (Ext.put (s4 _ _ hD2))
        simpa using hzs
      · rintro σ H2 ⟨acc, y4, y5, rfl, s3, hD2, hacc⟩
        rw [hlen, List.take_length] at hacc
        refine ⟨_, rfl, D, acc, _, _, _, _, rfl, sm.trans s3, sm.free hD, hD2, ?_⟩
        rw [etake, allC_snoc, hcs]
        exact hacc
    · rintro σ H' ⟨f, xs, y2, y3, y4, y5, rfl, sm, nf, hf, hall⟩
      rw [List.length_map, List.take_length] at hall
      exact ⟨.ref f, rfl, q f xs H' nf sm hf hall⟩

/-! ### lists of flags -/
theorem flags_step {f : Nat → Bool} {i : Nat} : ((List.range (i + 1)).map f).map V.bl = ((List.range i).map f).map V.bl ++ [V.bl (f i)] := by
  rw [List.range_succ, List.map_append, List.map_append]
  rfl
theorem flags_len {f : Nat → Bool} {i : Nat} : (((List.range i).map f).map V.bl).length = i := by
  rw [List.length_map, List.length_map, List.length_range]
theorem lc_bT {H : Hp} {σ : L2.St} {Q : VK} {a : Addr} {xs : List V} {kx : Nat} {tp te : TE} (f : Nat → Bool) (htp : ∀ R : VK, R (.ref a) H → tp σ H R) (ha : SqT K H a xs) (hl : xs.length ≤ 1000) (hw : ∀ x, wipe ((wipe σ [kx]).set kx (some x)) [kx] = wipe σ [kx])
    (hte : ∀ i x H', xs[i]? = some x → Same H H' → ∀ R : VK, (∀ H2, Same H' H2 → R (.bl (f i)) H2) → te ((wipe σ [kx]).set kx (some x)) H' R)
    (q : ∀ D H', H D = none → Same H H' → H' D = some (.lst (((List.range xs.length).map f).map V.bl)) → Q (.ref D) H') : tLc (iTup K tp) (gName kx) tYes te [kx] σ H Q := by
  refine htp _ ⟨a, rfl, ⟨_, ha⟩, fun D hD => lc_tup (K := K) (xs := xs) (fun i H' => Same H H' ∧ H' D = some (.lst (((List.range i).map f).map V.bl))) ⟨same_new hD, upd_same⟩ (fun i H' _ p => (Ext.of p.1).sqT ha) ?_ ?_⟩
  · rintro i x H' hi ⟨sm, hDl⟩
    have hlt := (List.getElem?_eq_some_iff.mp hi).1
    refine ⟨hw _, ?_⟩
    dsimp only [tYes]
    rw [if_pos rfl]
    refine hte i x H' hi sm _ fun H2 s2 => ⟨_, s2 _ _ hDl, ?_, Same.put hD (sm.trans s2), ?_⟩
    · rw [flags_len]
      exact sz_small (by omega)
    · rw [upd_same, flags_step]
  · rintro H' ⟨sm, hDl⟩
    exact q D H' hD sm hDl
theorem lc_bR {H : Hp} {σ : L2.St} {Q : VK} {lo : Int} {n : Nat} {kx : Nat} {ti : TI} {te : TE} (f : Nat → Bool) (hti : ∀ R : It → Hp → Prop, R (Itr lo n) H → ti σ H R) (hl : n ≤ 1000) (hw : ∀ x, wipe ((wipe σ [kx]).set kx (some x)) [kx] = wipe σ [kx])
    (hte : ∀ i H', i < n → Same H H' → ∀ R : VK, (∀ H2, Same H' H2 → R (.bl (f i)) H2) → te ((wipe σ [kx]).set kx (some (.int (lo + i)))) H' R)
    (q : ∀ D H', H D = none → Same H H' → H' D = some (.lst (((List.range n).map f).map V.bl)) → Q (.ref D) H') : tLc ti (gName kx) tYes te [kx] σ H Q := by
  refine hti _ fun D hD => lc_range (fun i H' => Same H H' ∧ H' D = some (.lst (((List.range i).map f).map V.bl))) ⟨same_new hD, upd_same⟩ ?_ ?_
  · rintro i H' hi ⟨sm, hDl⟩
    refine ⟨hw _, ?_⟩
    dsimp only [tYes]
    rw [if_pos rfl]
    refine hte i H' hi sm _ fun H2 s2 => ⟨_, s2 _ _ hDl, ?_, Same.put hD (sm.trans s2), ?_⟩
    · rw [flags_len]
      exact sz_small (by omega)
    · rw [upd_same, flags_step]
  · rintro H' ⟨sm, hDl⟩
    exact q D H' hD sm hDl
theorem lc_zipM {L : Bool} {a b : Addr} {xs ys : List V} {g : TG} {tt : TT} {te : TE} {vs : List Nat} {σ : L2.St} {H1 : Hp} {D : Addr} {Qd : Hp → Prop} (Pv : Nat → Hp → Prop) (h0 : Pv 0 (upd H1 D (.lst []))) (hq : ∀ i H, Pv i H → SqA L K H a xs ∧ SqT K H b ys)
    (hs : ∀ (i : Nat) (x y : V) (T : Addr) (H : Hp), xs[i]? = some x → ys[i]? = some y → Pv i H → H T = none → g (.ref T) (wipe σ vs) (upd H T (.tup [x, y])) fun σ2 H2 => wipe σ2 vs = wipe σ vs ∧ tt σ2 H2 fun b H3 =>
      if b = true then te σ2 H3 fun y H4 => ∃ acc, H4 D = some (.lst acc) ∧ acc.length < sizeLine ∧ Pv (i + 1) (upd H4 D (.lst (acc ++ [y]))) else Pv (i + 1) H3) (hd : ∀ H, Pv (min xs.length ys.length) H → Qd H) :
    ∃ W : Nat → Nat → Hp → Prop, (∃ m, W 0 m (upd H1 D (.lst []))) ∧ ∀ i m H, W i m H →
      ((ItM L K a b xs ys).stop i H ∧ Qd H) ∨ ((ItM L K a b xs ys).go i H ∧ ∃ Nx : Hp → Prop, (∀ H', Nx H' → ∃ m', m' < m ∧ W (i + 1) m' H') ∧ ∀ x H', (ItM L K a b xs ys).yld i H x H' → g x (wipe σ vs) H' fun σ2 H2 => wipe σ2 vs = wipe σ vs ∧ tt σ2 H2 fun b H3 =>
        if b = true then te σ2 H3 fun y H4 => ∃ acc, H4 D = some (.lst acc) ∧ acc.length < sizeLine ∧ Nx (upd H4 D (.lst (acc ++ [y]))) else Nx H3) := by
  refine ⟨fun i m H => i + m = min xs.length ys.length ∧ Pv i H, ⟨_, Nat.zero_add _, h0⟩, ?_⟩
  rintro i m H ⟨em, p⟩
  obtain ⟨qx, qy⟩ := hq i H p
  cases m with
  | zero =>
    have ei : i = min xs.length ys.length := em
    refine .inl ⟨⟨qx, qy, ei⟩, hd H ?_⟩
    rw [← ei]
    exact p
  | succ m =>
    refine .inr ⟨⟨qx, qy, by omega, by omega⟩, Pv (i + 1), fun H' p' => ⟨m, Nat.lt_succ_self m, by omega, p'⟩, fun v H' y => ?_⟩
    obtain ⟨T, x, y', rfl, hT, rfl, f1, f2⟩ := y
    exact hs i x y' T H f1 f2 p hT
/-- neighbours -/
def adj {α : Type} (r : α → α → Bool) : List α → Bool
  | x :: y :: l => r x y && adj r (y :: l)
  | _ => true
theorem all_range_succ (n : Nat) (f : Nat → Bool) : ((List.range (n + 1)).map f).all id = (f 0 && ((List.range n).map fun i => f (i + 1)).all id) := by
  rw [List.range_succ_eq_map, List.map_cons, List.all_cons, List.map_map]
  rfl
theorem adj_all {α : Type} [Inhabited α] (r : α → α → Bool) : ∀ l : List α, ((List.range (l.length - 1)).map fun k => r (l.getD k default) (l.getD (k + 1) default)).all id = adj r l
  | [] => rfl
  | [_] => rfl
  | x :: y :: l => by
    have ih := adj_all r (y :: l)
    show ((List.range (l.length + 1)).map _).all id = (r x y && adj r (y :: l))
    rw [all_range_succ, ← ih]
    rfl
theorem all_map_range {α : Type} (l : List α) (f : Nat → Bool) (g : α → Bool) (h : ∀ i x, l[i]? = some x → f i = g x) : ((List.range l.length).map f).all id = l.all g := by
  induction l generalizing f with
  | nil => rfl
  | cons x l ih =>
    rw [List.length_cons, all_range_succ, List.all_cons, ih (fun i => f (i + 1)) (fun i y hy => h (i + 1) y (by simpa using hy)), h 0 x rfl]

end
end Fm
namespace Fm
open PySem PySem.Spec PyProof.Rows L2
section
variable {P : Program} {w : World} {K : PySem.W.Frag} {mg : Str → Option Value} {base : Heap}

/-! ### fractions -/
def gz (t b : Int) : Int := ((Nat.gcd t.natAbs b.natAbs : Nat) : Int)
def lowZ (t b : Int) : Int × Int := (t / gz t b, b / gz t b)
def plusZ (p q : Int × Int) : Int × Int := lowZ (p.1 * q.2 + q.1 * p.2) (p.2 * q.2)
abbrev frD (p : Int × Int) : Dt := ctD [p.1, p.2]
/-- at most n, over a bottom of at most B -/
structure Fr (n B : Nat) (p : Int × Int) : Prop where
  pos : 0 < p.2
  bot : p.2 ≤ B
  top0 : 0 ≤ p.1
  top : p.1 ≤ n * p.2
theorem gz_pos {t b : Int} (h : 0 < b) : 0 < gz t b := by
  unfold gz
  have : 0 < Nat.gcd t.natAbs b.natAbs := Nat.gcd_pos_of_pos_right _ (by omega)
  omega
theorem gz_dvd (t b : Int) : gz t b ∣ t ∧ gz t b ∣ b := by
  unfold gz
  exact ⟨Int.ofNat_dvd_left.mpr (Nat.gcd_dvd_left _ _), Int.ofNat_dvd_left.mpr (Nat.gcd_dvd_right _ _)⟩
theorem gz_le {t b : Int} (h : 0 < b) : gz t b ≤ b := Int.le_of_dvd h (gz_dvd t b).2
theorem low_fr {n B : Nat} {t b : Int} (h0 : 0 < b) (hb : b ≤ B) (ht : 0 ≤ t) (hn : t ≤ n * b) : Fr n B (lowZ t b) := by
  have g0 := gz_pos (t := t) h0
  obtain ⟨⟨x, hx⟩, ⟨y, hy⟩⟩ := gz_dvd t b
  have e1 : t / gz t b = x := by conv => lhs; lhs; rw [hx]
                                 exact Int.mul_ediv_cancel_left _ (by omega)
  have e2 : b / gz t b = y := by conv => lhs; lhs; rw [hy]
                                 exact Int.mul_ediv_cancel_left _ (by omega)
  have y0 : 0 < y := by
    rcases Int.lt_or_le 0 y with h | h
    · exact h
    · have : gz t b * y ≤ 0 := Int.mul_nonpos_of_nonneg_of_nonpos (Int.le_of_lt g0) h
      omega
  have x0 : 0 ≤ x := by
    rcases Int.lt_or_le x 0 with h | h
    · have : gz t b * x < 0 := Int.mul_neg_of_pos_of_neg g0 h
      omega
    · exact h
  have g1 : y ≤ b := by
    have : 1 * y ≤ gz t b * y := Int.mul_le_mul_of_nonneg_right g0 (Int.le_of_lt y0)
    omega
  refine ⟨by show 0 < b / gz t b; rw [e2]; exact y0, by show b / gz t b ≤ B; rw [e2]; omega, by show 0 ≤ t / gz t b; rw [e1]; exact x0, ?_⟩
  show t / gz t b ≤ n * (b / gz t b)
  rw [e1, e2]
  have h2 : gz t b * x ≤ gz t b * (n * y) := by
    rw [← hx, Int.mul_left_comm, ← hy]
    exact hn
  exact Int.le_of_mul_le_mul_left h2 g0
theorem plus_pre {n m B C : Nat} {p q : Int × Int} (hp : Fr n B p) (hq : Fr m C q) : 0 < p.2 * q.2 ∧ p.2 * q.2 ≤ ((B * C : Nat) : Int) ∧ 0 ≤ p.1 * q.2 + q.1 * p.2 ∧ p.1 * q.2 + q.1 * p.2 ≤ ((n + m : Nat) : Int) * (p.2 * q.2) := by
  have a1 := hp.pos
  have a2 := hq.pos
  refine ⟨Int.mul_pos a1 a2, ?_, Int.add_nonneg (Int.mul_nonneg hp.top0 (Int.le_of_lt a2)) (Int.mul_nonneg hq.top0 (Int.le_of_lt a1)), ?_⟩
  · rw [Int.natCast_mul]
    exact Int.mul_le_mul hp.bot hq.bot (Int.le_of_lt a2) (by omega)
  · have h1 : p.1 * q.2 ≤ n * p.2 * q.2 := Int.mul_le_mul_of_nonneg_right hp.top (Int.le_of_lt a2)
    have h2 : q.1 * p.2 ≤ m * q.2 * p.2 := Int.mul_le_mul_of_nonneg_right hq.top (Int.le_of_lt a1)
    rw [Int.natCast_add, Int.add_mul, ← Int.mul_assoc, ← Int.mul_assoc]
    have e : (m : Int) * p.2 * q.2 = m * q.2 * p.2 := by rw [Int.mul_assoc, Int.mul_comm p.2, ← Int.mul_assoc]
    omega
theorem plus_fr {n m B C : Nat} {p q : Int × Int} (hp : Fr n B p) (hq : Fr m C q) : Fr (n + m) (B * C) (plusZ p q) := by
  obtain ⟨h1, h2, h3, h4⟩ := plus_pre hp hq
  exact low_fr h1 h2 h3 h4
theorem nat_bd {x : Int} {m : Nat} (h0 : 0 ≤ x) (h : x ≤ m) (hm : m < 2 ^ 1100) : x.natAbs < 2 ^ 1100 := by omega
/-- all numbers of a sum are below this -/
def top300 : Nat := 10 ^ 300
theorem mul_le {a b : Int} {m n : Nat} (a0 : 0 ≤ a) (b0 : 0 ≤ b) (h1 : a ≤ m) (h2 : b ≤ n) : a * b ≤ ((m * n : Nat) : Int) := by
  rw [Int.natCast_mul]
  exact Int.mul_le_mul h1 h2 b0 (by omega)
theorem Fr.top_le {n B : Nat} {p : Int × Int} (h : Fr n B p) : p.1 ≤ ((n * B : Nat) : Int) := by
  have h1 := h.top
  have h2 : (n : Int) * p.2 ≤ n * B := Int.mul_le_mul_of_nonneg_left h.bot (by omega)
  rw [Int.natCast_mul]
  omega
theorem pow_1100 : 1000 * top300 < 2 ^ 1100 := by decide +kernel
theorem Fr.bds {n B : Nat} {p : Int × Int} (h : Fr n B p) (hn : n ≤ 1000) (hB : B ≤ top300) : p.1.natAbs < 2 ^ 1100 ∧ p.2.natAbs < 2 ^ 1100 := by
  have h1 := h.top_le
  have h2 := h.bot
  have h3 := h.top0
  have h4 := h.pos
  have h5 : n * B ≤ 1000 * top300 := Nat.mul_le_mul hn hB
  have h6 := pow_1100
  refine ⟨?_, ?_⟩
  · have z : p.1.natAbs ≤ n * B := by omega
    omega
  · have z : p.2.natAbs ≤ B := by omega
    have y : B ≤ 1000 * top300 := Nat.le_trans hB (Nat.le_mul_of_pos_left _ (by decide))
    omega
theorem wide_of {a b : Int} (ha : a.natAbs < 2 ^ 1100) (hb : b.natAbs < 2 ^ 1100) : CMulW a b := wide_mul ha hb (by decide) (by decide) (by decide)
theorem div_of {t b : Int} (h : 0 < b) (hb : b.natAbs < 2 ^ 1100) (j : Int) (hj : j = gz t b) (x : Int) : CDivW x j := by
  subst hj
  have g := gz_pos (t := t) h
  have l := gz_le (t := t) h
  exact wide_div g (show (gz t b).natAbs < 2 ^ 1100 by omega) (by decide) (by decide)
def spLow (K : PySem.W.Frag) : Sp := fun vs H Q _ => ∃ t b : Int, vs = [.int t, .int b] ∧ 0 < b ∧ b ≤ (top300 : Int) ∧ 0 ≤ t ∧ ∀ v H', Same H H' → Dh K H' v (frD (lowZ t b)) → Q v H'
theorem bd300 {b : Int} (h : b ≤ (top300 : Int)) (h0 : 0 < b) : b.natAbs < 2 ^ 1100 := by
  have h6 := pow_1100
  have y : top300 ≤ 1000 * top300 := Nat.le_mul_of_pos_left _ (by decide)
  have z : b.natAbs ≤ top300 := by omega
  omega
theorem ok_fraction (T : Txt K mg) : FnOk P w K mg base CX0 1 T.f_fraction T.d_fraction ["top", "bottom"] (spLow K) := by
  refine T.F_fraction.ok sc_fraction (fun vs H Q E h => ?_) (fun cdv A outer s H vs Q E hr h => ?_)
  · obtain ⟨_, _, rfl, _⟩ := h
    rfl
  · obtain ⟨t, b, rfl, b0, b1, t0, q⟩ := h
    have hb := bd300 b1 b0
    refine ⟨_, (pss_cons (ps_set (i := 2) sc_fraction.nd rfl (.inl rfl) (pe_callBfun cr_gcd (by rfl) T.w_gcd (pa_cons (pv 0) (pa_cons (pv 1) pa_nil))))
      (pss_one (ps_ret (pe_tup (pa_cons (pe_op op_fdivW (pv 0) (pv 2)) (pa_cons (pe_op op_fdivW (pv 1) (pv 2)) pa_nil)))))), ?_⟩
    refine ⟨_, rfl, _, rfl, t, b, rfl, ?_⟩
    refine ⟨_, rfl, _, rfl, _, _, rfl, rfl, div_of b0 hb _ rfl _, _, rfl, _, rfl, _, _, rfl, rfl, div_of b0 hb _ rfl _, by show 2 ≤ sizeLine; decide, fun p np => ?_⟩
    exact q _ _ (same_new np) (dh_ct (c := [_, _]) (SqT.of upd_same))
def spPlus (K : PySem.W.Frag) : Sp := fun vs H Q _ => ∃ (a b : Addr) (p q : Int × Int) (n m B C : Nat), vs = [.ref a, .ref b] ∧ SqT K H a [.int p.1, .int p.2] ∧ SqT K H b [.int q.1, .int q.2] ∧ Fr n B p ∧ Fr m C q ∧ n + m ≤ 1000 ∧ B * C ≤ top300 ∧ 1 ≤ B ∧ 1 ≤ C ∧ ∀ v H', Same H H' → Dh K H' v (frD (plusZ p q)) → Q v H'
theorem ok_plus (T : Txt K mg) : FnOk P w K mg base CX0 2 T.f_plus T.d_plus ["one", "other"] (spPlus K) := by
  refine T.F_plus.ok sc_plus (fun vs H Q E h => ?_) (fun cdv A outer s H vs Q E hr h => ?_)
  · obtain ⟨_, _, _, _, _, _, _, _, rfl, _⟩ := h
    rfl
  · obtain ⟨a, b, p, q', n, m, B, C, rfl, ha, hb, fp, fq, nm, bc, b1, c1, q⟩ := h
    have lB : B ≤ top300 := Nat.le_trans (Nat.le_mul_of_pos_right _ c1) bc
    have lC : C ≤ top300 := Nat.le_trans (Nat.le_mul_of_pos_left _ b1) bc
    obtain ⟨x1, x2⟩ := fp.bds (by omega) lB
    obtain ⟨y1, y2⟩ := fq.bds (by omega) lC
    obtain ⟨h1, h2, h3, h4⟩ := plus_pre fp fq
    refine ⟨_, (pss_one (ps_ret (pe_call (ok_fraction T) hr (by rfl) T.g_fraction T.F_fraction.kp T.b_fraction .nil pass0 (pa_cons (pe_op op_add (pe_op op_mulW (pe_ix (ix_tupK K) (pv 0) pe_int (fun _ _ => rfl)) (pe_ix (ix_tupK K) (pv 1) pe_int (fun _ _ => rfl))) (pe_op op_mulW (pe_ix (ix_tupK K) (pv 1) pe_int (fun _ _ => rfl)) (pe_ix (ix_tupK K) (pv 0) pe_int (fun _ _ => rfl)))) (pa_cons (pe_op op_mulW (pe_ix (ix_tupK K) (pv 0) pe_int (fun _ _ => rfl)) (pe_ix (ix_tupK K) (pv 1) pe_int (fun _ _ => rfl))) pa_nil))))), ?_⟩
    refine ⟨_, rfl, a, _, 0, _, rfl, rfl, ha, atI_nat (j := 0) rfl, _, rfl, b, _, 1, _, rfl, rfl, hb, atI_nat (j := 1) rfl, _, _, rfl, rfl, wide_of x1 y2, ?_⟩
    refine ⟨_, rfl, b, _, 0, _, rfl, rfl, hb, atI_nat (j := 0) rfl, _, rfl, a, _, 1, _, rfl, rfl, ha, atI_nat (j := 1) rfl, _, _, rfl, rfl, wide_of y1 x2, _, _, rfl, rfl, ?_⟩
    refine ⟨_, rfl, a, _, 1, _, rfl, rfl, ha, atI_nat (j := 1) rfl, _, rfl, b, _, 1, _, rfl, rfl, hb, atI_nat (j := 1) rfl, _, _, rfl, rfl, wide_of x2 y2, ?_⟩
    exact ⟨_, _, rfl, h1, Int.le_trans h2 (by omega), h3, q⟩

end
end Fm
namespace Fm
open PySem PySem.Spec PyProof.Rows L2
section
variable {P : Program} {w : World} {K : PySem.W.Frag} {mg : Str → Option Value} {base : Heap}

/-! ### the law's fractions -/
/-- Euclid: behind i turns -/
def Eu (i a b : Nat) : Prop := b = 0 ∨ (i = 0 ∧ b ≤ top300) ∨ (b ≤ a ∧ a * b < 2 ^ (2000 - i))
theorem top_sq : top300 * top300 < 2 ^ 1999 := by decide +kernel
theorem Eu.step {i a b : Nat} (h : Eu i a b) (hb : b ≠ 0) (hi : i < 2000) : Eu (i + 1) b (a % b) := by
  have b0 : 0 < b := Nat.pos_of_ne_zero hb
  have hm := Nat.mod_lt a b0
  rcases h with h | ⟨rfl, h⟩ | ⟨h1, h2⟩
  · exact absurd h hb
  · refine .inr (.inr ⟨Nat.le_of_lt hm, ?_⟩)
    have z : b * (a % b) ≤ top300 * top300 := Nat.mul_le_mul h (Nat.le_trans (Nat.le_of_lt hm) h)
    exact Nat.lt_of_le_of_lt z top_sq
  · refine .inr (.inr ⟨Nat.le_of_lt hm, ?_⟩)
    have e := Nat.div_add_mod a b
    have q1 : 1 ≤ a / b := Nat.div_pos h1 b0
    have z1 : b * 1 ≤ b * (a / b) := Nat.mul_le_mul_left _ q1
    have z2 : 2 * (a % b) ≤ a := by omega
    have z3 : b * (2 * (a % b)) ≤ b * a := Nat.mul_le_mul_left _ z2
    have z4 : b * (2 * (a % b)) = 2 * (b * (a % b)) := by rw [Nat.mul_left_comm]
    have z5 : (2 : Nat) ^ (2000 - i) = 2 * 2 ^ (2000 - (i + 1)) := by
      have : 2000 - i = (2000 - (i + 1)) + 1 := by omega
      rw [this, Nat.pow_succ, Nat.mul_comm]
    have z6 : b * a = a * b := Nat.mul_comm _ _
    omega
theorem Eu.fin {a b : Nat} (h : Eu 2000 a b) : b = 0 := by
  rcases h with h | ⟨h, _⟩ | ⟨h1, h2⟩
  · exact h
  · cases h
  · have z : a * b < 1 := h2
    rcases Nat.eq_zero_or_pos b with h | h
    · exact h
    · have : b * b ≤ a * b := Nat.mul_le_mul_right _ h1
      have : 1 * 1 ≤ b * b := Nat.mul_le_mul h h
      omega
theorem ok_law_low (T : Txt K mg) : FnOk P w K mg base CX0 1 T.f_law_low T.d_law_low ["top", "bottom"] (spLow K) := by
  refine T.F_law_low.ok sc_law_low (fun vs H Q E h => ?_) (fun cdv A outer s H vs Q E hr h => ?_)
  · obtain ⟨_, _, rfl, _⟩ := h
    rfl
  · obtain ⟨t, b, rfl, b0, b1, t0, q⟩ := h
    have hb := bd300 b1 b0
    refine ⟨_, (pss_cons (ps_par (i := 3) (j := 4) (by rfl) sc_law_low.nd rfl rfl (by decide) rfl rfl (pa_cons (pe_callB call_abs (by rfl) T.z_abs (by decide +kernel) (pa_cons (pv 0) pa_nil)) (pa_cons (pv 1) pa_nil)) (by rfl))
      (pss_cons (ps_for PassesOwn.never rfl (pi_range1 (by rfl) T.z_range (pa_cons pe_int pa_nil)) (pg_name (i := 2) sc_law_low.nd rfl (.inl rfl)) (pss_cons (ps_if (pt_cmpR op_eq (pv 4) pe_int (nomark _)) (pss_one ps_break) pss_nil)
      (pss_one (ps_par (i := 3) (j := 4) (by rfl) sc_law_low.nd rfl rfl (by decide) rfl rfl (pa_cons (pv 4) (pa_cons (pe_op op_mod (pe_callTy call_int1 (by rfl) T.z_int (by decide +kernel) (pa_cons (pv 3) pa_nil)) (pv 4)) pa_nil)) (by rfl)))))
      (pss_one (ps_ret (pe_tup (pa_cons (pe_op op_fdivW (pv 0) (pv 3)) (pa_cons (pe_op op_fdivW (pv 1) (pv 3)) pa_nil))))))), ?_⟩
    have hmin : (if t < 0 then -t else t) = t := if_neg (by omega)
    have fin : ∀ (y2 : Option V) (a : Nat) (z4 : Option V) (H' : Hp), Nat.gcd a 0 = Nat.gcd t.natAbs b.natAbs → Same H H' → tRet (tTup (tCons (tOp (rI CDivW fun i j => .int (i / j)) (tVar 0) (tVar 3)) (tCons (tOp (rI CDivW fun i j => .int (i / j)) (tVar 1) (tVar 3)) tNil))) { nx := fun x H' => Q V.non H', rt := Q } [some (.int t), some (.int b), y2, some (.int (a : Int)), z4] H' := by
      intro y2 a z4 H' hg sm
      have ea : (a : Int) = gz t b := by
        rw [Nat.gcd_zero_right] at hg
        unfold gz
        rw [hg]
      rw [ea]
      refine ⟨_, rfl, _, rfl, _, _, rfl, rfl, div_of b0 hb _ rfl _, _, rfl, _, rfl, _, _, rfl, rfl, div_of b0 hb _ rfl _, by show 2 ≤ sizeLine; decide, fun p np => ?_⟩
      exact q _ _ (sm.trans (same_new np)) (dh_ct (c := [_, _]) (SqT.of upd_same))
    refine ⟨_, rfl, t, rfl, _, rfl, _, _, rfl, ?_⟩
    rw [hmin]
    refine ⟨2000, rfl, by decide, by decide, for_range (lo := 0) (n := 2000) (fun i σ H' => ∃ (y2 : Option V) (a c : Nat), σ = [some (.int t), some (.int b), y2, some (.int (a : Int)), some (.int (c : Int))] ∧ Same H H' ∧ Nat.gcd a c = Nat.gcd t.natAbs b.natAbs ∧ Eu i a c)
      ⟨none, t.natAbs, b.natAbs, ?_, Same.refl H, rfl, .inr (.inl ⟨rfl, by omega⟩)⟩ ?_ ?_⟩
    · have e1 : ((t.natAbs : Nat) : Int) = t := by omega
      have e2 : ((b.natAbs : Nat) : Int) = b := by omega
      rw [e1, e2]
      rfl
    · rintro i σ H' hi ⟨y2, a, c, rfl, sm, hg, eu⟩
      refine ⟨_, rfl, rfl, _, rfl, ?_⟩
      rw [dec_int]
      by_cases hc : c = 0
      · subst hc
        refine iteT ?_
        exact fin _ a _ H' hg sm
      · have e : ((c : Int) == 0) = false := beq_eq_false_iff_ne.mpr (by omega)
        rw [e]
        refine iteF ?_
        refine ⟨_, rfl, _, rfl, .inl ⟨_, rfl, _, rfl, _, _, rfl, rfl, by omega, _, _, rfl, _, c, a % c, rfl, sm, ?_, eu.step hc hi⟩⟩
        rw [← hg, Nat.gcd_comm c (a % c), ← Nat.gcd_rec, Nat.gcd_comm]
    · rintro σ H' ⟨y2, a, c, rfl, sm, hg, eu⟩
      have hc := eu.fin
      subst hc
      exact fin _ a _ H' hg sm
theorem ok_law_plus (T : Txt K mg) : FnOk P w K mg base CX0 2 T.f_law_plus T.d_law_plus ["one", "other"] (spPlus K) := by
  refine T.F_law_plus.ok sc_law_plus (fun vs H Q E h => ?_) (fun cdv A outer s H vs Q E hr h => ?_)
  · obtain ⟨_, _, _, _, _, _, _, _, rfl, _⟩ := h
    rfl
  · obtain ⟨a, b, p, q', n, m, B, C, rfl, ha, hb, fp, fq, nm, bc, b1, c1, q⟩ := h
    have lB : B ≤ top300 := Nat.le_trans (Nat.le_mul_of_pos_right _ c1) bc
    have lC : C ≤ top300 := Nat.le_trans (Nat.le_mul_of_pos_left _ b1) bc
    obtain ⟨x1, x2⟩ := fp.bds (by omega) lB
    obtain ⟨y1, y2⟩ := fq.bds (by omega) lC
    obtain ⟨h1, h2, h3, h4⟩ := plus_pre fp fq
    refine ⟨_, (pss_one (ps_ret (pe_call (ok_law_low T) hr (by rfl) T.g_law_low T.F_law_low.kp T.b_law_low .nil pass0 (pa_cons (pe_op op_add (pe_op op_mulW (pe_ix (ix_tupK K) (pv 0) pe_int (fun _ _ => rfl)) (pe_ix (ix_tupK K) (pv 1) pe_int (fun _ _ => rfl))) (pe_op op_mulW (pe_ix (ix_tupK K) (pv 1) pe_int (fun _ _ => rfl)) (pe_ix (ix_tupK K) (pv 0) pe_int (fun _ _ => rfl)))) (pa_cons (pe_op op_mulW (pe_ix (ix_tupK K) (pv 0) pe_int (fun _ _ => rfl)) (pe_ix (ix_tupK K) (pv 1) pe_int (fun _ _ => rfl))) pa_nil))))), ?_⟩
    refine ⟨_, rfl, a, _, 0, _, rfl, rfl, ha, atI_nat (j := 0) rfl, _, rfl, b, _, 1, _, rfl, rfl, hb, atI_nat (j := 1) rfl, _, _, rfl, rfl, wide_of x1 y2, ?_⟩
    refine ⟨_, rfl, b, _, 0, _, rfl, rfl, hb, atI_nat (j := 0) rfl, _, rfl, a, _, 1, _, rfl, rfl, ha, atI_nat (j := 1) rfl, _, _, rfl, rfl, wide_of y1 x2, _, _, rfl, rfl, ?_⟩
    refine ⟨_, rfl, a, _, 1, _, rfl, rfl, ha, atI_nat (j := 1) rfl, _, rfl, b, _, 1, _, rfl, rfl, hb, atI_nat (j := 1) rfl, _, _, rfl, rfl, wide_of x2 y2, ?_⟩
    exact ⟨_, _, rfl, h1, Int.le_trans h2 (by omega), h3, q⟩
/-- a row of fractions -/
def sumZ (l : List (Int × Int)) : Int × Int := l.foldl plusZ (0, 1)
def B30 : Nat := 10 ^ 30
def nzs (l : List (Int × Int)) : List (Int × Int) := l.filter fun p => decide (p ≠ (0, 1))
/-- fractions of which all sums stay small -/
structure Frs (l : List (Int × Int)) : Prop where
  each : ∀ p ∈ l, p = (0, 1) ∨ Fr 1 B30 p
  few : (nzs l).length ≤ 10
theorem zero_fr : Fr 0 1 (0, 1) := ⟨by decide, by decide, by decide, by decide⟩
theorem b30_pow : B30 ^ 10 = top300 := by decide +kernel
theorem b30_le {k : Nat} (h : k ≤ 10) : B30 ^ k ≤ top300 := b30_pow ▸ Nat.pow_le_pow_right (by decide) h
theorem sumZ_snoc (l : List (Int × Int)) (p : Int × Int) : sumZ (l ++ [p]) = plusZ (sumZ l) p := by
  unfold sumZ
  rw [List.foldl_append]
  rfl
theorem nzs_take (l : List (Int × Int)) (i : Nat) : (nzs (l.take i)).length ≤ (nzs l).length := by
  conv => rhs; rw [← List.take_append_drop i l]
  unfold nzs
  rw [List.filter_append, List.length_append]
  omega
theorem Frs.take {l : List (Int × Int)} (h : Frs l) (i : Nat) : Frs (l.take i) := ⟨fun p hp => h.each p (List.mem_of_mem_take hp), Nat.le_trans (nzs_take l i) h.few⟩
theorem sum_at {l : List (Int × Int)} (h : Frs l) : ∀ i, Fr (nzs (l.take i)).length (B30 ^ (nzs (l.take i)).length) (sumZ (l.take i))
  | 0 => by
    rw [List.take_zero]
    exact zero_fr
  | i + 1 => by
    cases e : l[i]? with
    | none =>
      have ih := sum_at h i
      rw [List.take_add_one, e]
      simpa using ih
    | some p =>
      have ih := sum_at h i
      have e2 : l.take (i + 1) = l.take i ++ [p] := by rw [List.take_add_one, e]; rfl
      rw [e2, sumZ_snoc]
      rcases h.each p (List.mem_of_getElem? e) with hz | hz
      · have e3 : nzs (l.take i ++ [p]) = nzs (l.take i) := by
          unfold nzs
          rw [List.filter_append, hz]
          simp
        rw [e3]
        have := plus_fr ih zero_fr
        rw [hz]
        simpa using this
      · by_cases hp : p = (0, 1)
        · have e3 : nzs (l.take i ++ [p]) = nzs (l.take i) := by
            unfold nzs
            rw [List.filter_append, hp]
            simp
          rw [e3]
          have := plus_fr ih zero_fr
          rw [hp]
          simpa using this
        · have e3 : (nzs (l.take i ++ [p])).length = (nzs (l.take i)).length + 1 := by
            unfold nzs
            rw [List.filter_append, List.length_append]
            simp [hp]
          rw [e3, Nat.pow_succ]
          exact plus_fr ih hz
/-- one more: what the sum asks -/
theorem sum_next {l : List (Int × Int)} (h : Frs l) {i : Nat} {p : Int × Int} (e : l[i]? = some p) : ∃ n m B C, Fr n B (sumZ (l.take i)) ∧ Fr m C p ∧ n + m ≤ 1000 ∧ B * C ≤ top300 ∧ 1 ≤ B ∧ 1 ≤ C := by
  have ih := sum_at h i
  have hk : (nzs (l.take i)).length ≤ 10 := (h.take i).few
  have one : 1 ≤ B30 ^ (nzs (l.take i)).length := Nat.pow_pos (by decide)
  by_cases hp : p = (0, 1)
  · subst hp
    exact ⟨_, 0, _, 1, ih, zero_fr, by omega, by rw [Nat.mul_one]; exact b30_le hk, one, Nat.le_refl 1⟩
  · rcases h.each p (List.mem_of_getElem? e) with hz | hz
    · exact absurd hz hp
    · have hk2 : (nzs (l.take i)).length + 1 ≤ 10 := by
        have z := (h.take (i + 1)).few
        have e2 : l.take (i + 1) = l.take i ++ [p] := by rw [List.take_add_one, e]; rfl
        rw [e2] at z
        unfold nzs at z ⊢
        rw [List.filter_append, List.length_append] at z
        simpa [hp] using z
      refine ⟨_, 1, _, B30, ih, hz, by omega, ?_, one, by decide⟩
      rw [← Nat.pow_succ]
      exact b30_le hk2
theorem fr_inv {K : PySem.W.Frag} {H : Hp} {v : V} {p : Int × Int} (h : Dh K H v (frD p)) : ∃ a, v = .ref a ∧ SqT K H a [.int p.1, .int p.2] := ct_inv h
def spSum (K : PySem.W.Frag) : Sp := fun vs H Q _ => ∃ (a : Addr) (xs : List V) (l : List (Int × Int)), vs = [.ref a] ∧ SqL K H a xs ∧ DhAll K H xs (l.map frD) ∧ Frs l ∧ ∀ v H', Same H H' → Dh K H' v (frD (sumZ l)) → Q v H'
theorem ok_law_sum (T : Txt K mg) : FnOk P w K mg base CX0 3 T.f_law_sum T.d_law_sum ["row"] (spSum K) := by
  refine T.F_law_sum.ok sc_law_sum (fun vs H Q E h => ?_) (fun cdv A outer s H vs Q E hr h => ?_)
  · obtain ⟨_, _, _, rfl, _⟩ := h
    rfl
  · obtain ⟨a, xs, l, rfl, ha, hx, fl, q⟩ := h
    have hl := hx.length
    rw [List.length_map] at hl
    refine ⟨_, (pss_cons (ps_set (i := 1) sc_law_sum.nd rfl (.inl rfl) (pe_tup (pa_cons pe_int (pa_cons pe_int pa_nil))))
      (pss_cons (ps_for PassesOwn.never rfl (pi_listK K (pv 0)) (pg_name (i := 2) sc_law_sum.nd rfl (.inl rfl)) (pss_one (ps_set (i := 1) sc_law_sum.nd rfl (.inl rfl) (pe_call (ok_law_plus T) hr (by rfl) T.g_law_plus T.F_law_plus.kp T.b_law_plus .nil pass0 (pa_cons (pv 1) (pa_cons (pv 2) pa_nil))))))
      (pss_one (ps_ret (pv 1))))), ?_⟩
    refine ⟨by show 2 ≤ sizeLine; decide, fun t nt => ?_⟩
    have s1 : Same H (upd H t (.tup [.int 0, .int 1])) := same_new nt
    refine ⟨_, rfl, a, rfl, ⟨_, s1.seq ha⟩, for_list (K := K) (xs := xs) (fun i σ H' => ∃ (f : V) (y2 : Option V), σ = [some (.ref a), some f, y2] ∧ Same H H' ∧ Dh K H' f (frD (sumZ (l.take i))))
      ⟨_, none, rfl, s1, dh_ct (c := [0, 1]) (SqT.of upd_same)⟩ (fun i σ H' _ ⟨_, _, _, sm, _⟩ => sm.seq ha) ?_ ?_⟩
    · rintro i x σ H' hxi ⟨f, y2, rfl, sm, hf⟩
      obtain ⟨d, hd, hxd⟩ := hx.get hxi
      obtain ⟨p, hp, rfl⟩ := map_at hd
      obtain ⟨n, m, B, C, f1, f2, nm, bc, b1, c1⟩ := sum_next fl hp
      obtain ⟨fa, rfl, hfa⟩ := fr_inv hf
      obtain ⟨xa, rfl, hxa⟩ := fr_inv (hxd.ext (.of sm))
      refine ⟨_, rfl, _, rfl, fa, xa, _, _, n, m, B, C, rfl, hfa, hxa, f1, f2, nm, bc, b1, c1, fun v H2 s2 hv => ⟨v, _, rfl, sm.trans s2, ?_⟩⟩
      have e2 : l.take (i + 1) = l.take i ++ [p] := by rw [List.take_add_one, hp]; rfl
      rw [e2, sumZ_snoc]
      exact hv
    · rintro σ H' ⟨f, y2, rfl, sm, hf⟩
      rw [hl, List.take_length] at hf
      exact ⟨_, rfl, q f H' sm hf⟩

end
end Fm
namespace Fm
open PySem PySem.Spec PyProof.Rows L2
section
variable {P : Program} {w : World} {K : PySem.W.Frag} {mg : Str → Option Value} {base : Heap}

/-! ### rows of habits judged -/
def two : List Dt → Option (Dt × Dt)
  | [x, y] => some (x, y)
  | _ => none
def Dt.num : Dt → Option Int
  | .int i => some i
  | _ => none
def Dt.fr? : Dt → Option (Int × Int)
  | .tup ds => match two ds with
    | some (x, y) => match x.num, y.num with
      | some t, some b => some (t, b)
      | _, _ => none
    | none => none
  | _ => none
def Dt.zz (d : Dt) : Int × Int := d.fr?.getD (0, 1)
def Dt.isFr (d : Dt) : Bool := match d.fr? with
  | some p => decide (p.2 ≥ 1) && decide (gz p.1 p.2 = 1)
  | none => false
def Dt.isSh0 (d : Dt) : Bool := d.isFr && (decide (0 ≤ d.zz.1) && decide (d.zz.1 ≤ d.zz.2))
def Dt.isShr (d : Dt) : Bool := match d.fr? with
  | some p => decide (1 ≤ p.1) && (decide (p.1 ≤ p.2) && decide (gz p.1 p.2 = 1))
  | none => false
theorem two_inv {ds : List Dt} {x y : Dt} (h : two ds = some (x, y)) : ds = [x, y] := by
  match ds, h with
  | [a, b], h =>
    cases h
    rfl
  | [], h => cases h
  | [_], h => cases h
  | _ :: _ :: _ :: _, h => cases h
theorem num_inv {d : Dt} {i : Int} (h : d.num = some i) : d = .int i := by
  cases d with
  | int j =>
    cases h
    rfl
  | _ => cases h
theorem fr_inv? {d : Dt} {p : Int × Int} (h : d.fr? = some p) : d = .tup [.int p.1, .int p.2] := by
  cases d with
  | tup ds =>
    have h' : (match two ds with
      | some (x, y) => match x.num, y.num with
        | some t, some b => some (t, b)
        | _, _ => none
      | none => none) = some p := h
    cases e : two ds with
    | none =>
      rw [e] at h'
      cases h'
    | some xy =>
      obtain ⟨x, y⟩ := xy
      rw [e] at h'
      have h2 : (match x.num, y.num with
        | some t, some b => some (t, b)
        | _, _ => none) = some p := h'
      rw [two_inv e]
      cases e1 : x.num with
      | none =>
        rw [e1] at h2
        cases h2
      | some t =>
        cases e2 : y.num with
        | none =>
          rw [e1, e2] at h2
          cases h2
        | some b =>
          rw [e1, e2] at h2
          cases h2
          rw [num_inv e1, num_inv e2]
  | _ => cases h
theorem num_none {d : Dt} (h : d.isW = false) : d.num = none := by
  cases d with
  | int _ => cases h
  | _ => rfl
theorem fr_two {x y : Dt} (h : x.isW = false ∨ y.isW = false) : (Dt.tup [x, y]).fr? = none := by
  show (match x.num, y.num with
        | some t, some b => some (t, b)
        | _, _ => none) = none
  rcases h with h | h
  · rw [num_none h]
  · rw [num_none h]
    cases x.num <;> rfl
def m_is_fraction : List Dt → Option Dt
  | [d] => some (.bl d.isFr)
  | _ => none
def m_is_share : List Dt → Option Dt
  | [d] => some (.bl d.isSh0)
  | _ => none
theorem notpair_fr {d : Dt} (h : d.isPair = false) : d.fr? = none := by
  cases e : d.fr? with
  | none => rfl
  | some p =>
    rw [fr_inv? e] at h
    cases h
theorem isFr_none {d : Dt} (h : d.fr? = none) : d.isFr = false := by
  unfold Dt.isFr
  rw [h]
theorem pair_inv {d : Dt} (h : d.isPair = true) : ∃ x y, d = .tup [x, y] := by
  cases d with
  | tup ds =>
    match ds, h with
    | [x, y], _ => exact ⟨x, y, rfl⟩
    | [], h => cases h
    | [_], h => cases h
    | _ :: _ :: _ :: _, h => exact absurd h (by simp [Dt.isPair])
  | _ => cases h
theorem isW_inv {d : Dt} (h : d.isW = true) : ∃ i, d = .int i := by
  cases d with
  | int i => exact ⟨i, rfl⟩
  | _ => cases h
theorem ok_is_fraction (T : Txt K mg) : FnOk P w K mg base CX0 2 T.f_is_fraction T.d_is_fraction ["thing"] (spD K m_is_fraction) := by
  refine T.F_is_fraction.ok sc_is_fraction (fun vs H Q E h => ?_) (fun cdv A outer s H vs Q E hr h => ?_)
  · obtain ⟨ds, r, hd, e, _⟩ := h
    exact match ds, e, hd with | [_], _, hd => hd.length
  · obtain ⟨ds, r, hd, e, q⟩ := h
    match ds, e, hd, q with
    | [d], e, .cons h .nil, q =>
      cases e
      have q : ∀ H', Same H H' → Q (.bl d.isFr) H' := fun H' s => q _ H' s (.bl _)
      refine ⟨_, (pss_cons (ps_if (pt_not (pt_val (pe_call (ok_is_pair T) hr (by rfl) T.g_is_pair T.F_is_pair.kp T.b_is_pair .nil pass0 (pa_cons (pv 0) pa_nil)))) (pss_one (ps_ret pe_bl)) pss_nil)
      (pss_cons (ps_asg (pv 0) (pg_tupK K (n := 2) rfl (pgs_cons (pg_name (i := 1) sc_is_fraction.nd rfl (.inl rfl)) (pgs_cons (pg_name (i := 2) sc_is_fraction.nd rfl (.inl rfl)) pgs_nil))))
      (pss_one (ps_ret (pe_and (pe_call (ok_is_whole T) hr (by rfl) T.g_is_whole T.F_is_whole.kp T.b_is_whole .nil pass0 (pa_cons (pv 1) pa_nil)) (pe_and (pe_call (ok_is_whole T) hr (by rfl) T.g_is_whole T.F_is_whole.kp T.b_is_whole .nil pass0 (pa_cons (pv 2) pa_nil)) (pe_and (pe_cmpR op_ge (pv 2) pe_int (nomark _)) (pe_one (pe_cmpR op_eq (pe_callBfun cr_gcd (by rfl) T.w_gcd (pa_cons (pv 1) (pa_cons (pv 2) pa_nil))) pe_int (nomark _)))))))))), ?_⟩
      refine ⟨_, rfl, spD_bl (.cons h .nil) rfl fun H1 s1 => ⟨_, rfl, ?_⟩⟩
      cases hp : d.isPair with
      | false =>
        refine iteT ?_
        rw [isFr_none (notpair_fr hp)] at q
        exact q H1 s1
      | true =>
        refine iteF ?_
        obtain ⟨x, y, rfl⟩ := pair_inv hp
        obtain ⟨a, xs, rfl, ha, hx⟩ := (h.ext (.of s1)).tup_inv
        obtain ⟨v1, v2, rfl, h1, h2⟩ := dh_two hx
        refine ⟨_, rfl, a, _, rfl, ha, rfl, _, _, rfl, _, _, rfl, rfl, ?_⟩
        refine ⟨_, rfl, spD_bl (.cons h1 .nil) rfl fun H2 s2 => ⟨_, rfl, ?_⟩⟩
        cases hw : x.isW with
        | false =>
          refine iteF ?_
          rw [isFr_none (fr_two (.inl hw))] at q
          exact q H2 (s1.trans s2)
        | true =>
          refine iteT ?_
          refine ⟨_, rfl, spD_bl (.cons (h2.ext (.of s2)) .nil) rfl fun H3 s3 => ⟨_, rfl, ?_⟩⟩
          have s13 := (s1.trans s2).trans s3
          cases hw2 : y.isW with
          | false =>
            refine iteF ?_
            rw [isFr_none (fr_two (.inr hw2))] at q
            exact q H3 s13
          | true =>
            refine iteT ?_
            obtain ⟨t, rfl⟩ := isW_inv hw
            obtain ⟨b, rfl⟩ := isW_inv hw2
            cases h1
            cases h2
            have eq0 : (Dt.tup [.int t, .int b]).isFr = (decide (b ≥ 1) && decide (gz t b = 1)) := rfl
            rw [eq0] at q
            refine ⟨_, rfl, _, _, rfl, rfl, _, rfl, ?_⟩
            refine ite2 (fun h1 => ?_) (fun h1 => ?_)
            · rw [h1, Bool.true_and] at q
              refine ⟨_, rfl, _, rfl, t, b, rfl, rfl, ?_⟩
              have e : decide (V.int ((Nat.gcd t.natAbs b.natAbs : Nat) : Int) = V.int 1) = decide (gz t b = 1) := by
                rw [dec_int]
                unfold gz
                rw [Bool.eq_iff_iff]
                simp
              rw [e]
              exact q H3 s13
            · have h1' : decide (b ≥ 1) = false := by simpa using h1
              rw [h1', Bool.false_and] at q
              exact q H3 s13
theorem sh0_fr {d : Dt} (h : d.isFr = false) : d.isSh0 = false := by
  unfold Dt.isSh0
  rw [h, Bool.false_and]
theorem fr_shape {d : Dt} (h : d.isFr = true) : ∃ t b, d = .tup [.int t, .int b] := by
  unfold Dt.isFr at h
  cases e : d.fr? with
  | none =>
    rw [e] at h
    cases h
  | some p => exact ⟨_, _, fr_inv? e⟩
theorem ok_is_share (T : Txt K mg) : FnOk P w K mg base CX0 3 T.f_is_share T.d_is_share ["thing"] (spD K m_is_share) := by
  refine T.F_is_share.ok sc_is_share (fun vs H Q E h => ?_) (fun cdv A outer s H vs Q E hr h => ?_)
  · obtain ⟨ds, r, hd, e, _⟩ := h
    exact match ds, e, hd with | [_], _, hd => hd.length
  · obtain ⟨ds, r, hd, e, q⟩ := h
    match ds, e, hd, q with
    | [d], e, .cons h .nil, q =>
      cases e
      have q : ∀ H', Same H H' → Q (.bl d.isSh0) H' := fun H' s => q _ H' s (.bl _)
      refine ⟨_, (pss_one (ps_ret (pe_and (pe_call (ok_is_fraction T) hr (by rfl) T.g_is_fraction T.F_is_fraction.kp T.b_is_fraction .nil pass0 (pa_cons (pv 0) pa_nil)) (pe_one (pe_chain op_le op_le pe_int (pe_ix (ix_tupK K) (pv 0) pe_int (fun _ _ => rfl)) (pe_ix (ix_tupK K) (pv 0) pe_int (fun _ _ => rfl))))))), ?_⟩
      refine ⟨_, rfl, spD_bl (.cons h .nil) rfl fun H1 s1 => ⟨_, rfl, ?_⟩⟩
      cases hf : d.isFr with
      | false =>
        refine iteF ?_
        rw [sh0_fr hf] at q
        exact q H1 s1
      | true =>
        refine iteT ?_
        obtain ⟨t, b, rfl⟩ := fr_shape hf
        have hf' : (decide (b ≥ 1) && decide (gz t b = 1)) = true := hf
        have eq0 : (Dt.tup [.int t, .int b]).isSh0 = ((decide (b ≥ 1) && decide (gz t b = 1)) && (decide (0 ≤ t) && decide (t ≤ b))) := rfl
        rw [eq0, hf', Bool.true_and] at q
        obtain ⟨a, rfl, ha⟩ := ct_inv (c := [t, b]) h
        have ha1 := (Ext.of s1).sqT ha
        refine ⟨_, rfl, a, _, 0, _, rfl, rfl, ha1, atI_nat (j := 0) rfl, _, _, rfl, rfl, _, rfl, ?_⟩
        refine ite2 (fun h1 => ?_) (fun h1 => ?_)
        · rw [h1, Bool.true_and] at q
          exact ⟨_, rfl, a, _, 1, _, rfl, rfl, ha1, atI_nat (j := 1) rfl, _, _, rfl, rfl, q H1 s1⟩
        · have h1' : decide (0 ≤ t) = false := by simpa using h1
          rw [h1', Bool.false_and] at q
          exact q H1 s1
/-- a share that is not 0 -/
theorem shr_eq (d : Dt) : d.isShr = (d.isSh0 && decide (d.zz ≠ (0, 1))) := by
  cases h : d.fr? with
  | none =>
    rw [sh0_fr (isFr_none h), Bool.false_and]
    unfold Dt.isShr
    rw [h]
  | some p =>
    obtain ⟨t, b⟩ := p
    rw [fr_inv? h]
    show (decide (1 ≤ t) && (decide (t ≤ b) && decide (gz t b = 1))) = (((decide (b ≥ 1) && decide (gz t b = 1)) && (decide (0 ≤ t) && decide (t ≤ b))) && decide ((t, b) ≠ (0, 1)))
    have hz : gz t b = 1 → b ≥ 1 → t = 0 → b = 1 := fun hg hb e => by
      unfold gz at hg
      rw [e, Int.natAbs_zero, Nat.gcd_zero_left] at hg
      omega
    rw [Bool.eq_iff_iff]
    simp only [Bool.and_eq_true, decide_eq_true_eq, ne_eq, Prod.mk.injEq, not_and]
    constructor
    · rintro ⟨h1, h2, h3⟩
      exact ⟨⟨⟨by omega, h3⟩, by omega, h2⟩, by omega⟩
    · rintro ⟨⟨⟨h1, h2⟩, h3, h4⟩, h5⟩
      refine ⟨?_, h4, h2⟩
      by_cases e : t = 0
      · exact absurd (hz h2 h1 e) (h5 e)
      · omega
theorem zz_sh0 {d : Dt} (h : d.isSh0 = true) : ∃ t b : Int, d = .tup [.int t, .int b] ∧ d.zz = (t, b) := by
  cases hf : d.isFr with
  | false =>
    rw [sh0_fr hf] at h
    cases h
  | true =>
    obtain ⟨t, b, rfl⟩ := fr_shape hf
    exact ⟨t, b, rfl, rfl⟩
def Dt.p1 : Dt → Dt
  | .tup ds => match two ds with
    | some (x, _) => x
    | none => .non
  | _ => .non
def Dt.p2 : Dt → Dt
  | .tup ds => match two ds with
    | some (_, y) => y
    | none => .non
  | _ => .non
def lastLt : Option (List Int) → List Int → Bool
  | none, _ => true
  | some l, p => HT.lexLt l p
def rowGo (n : Int) : Option (List Int) → Int × Int → List Dt → Bool
  | _, tot, [] => decide (tot = (1, 1))
  | last, tot, d :: r => d.isPair && (d.p1.isPat n && (d.p2.isShr && (lastLt last d.p1.ints && rowGo n (some d.p1.ints) (plusZ tot d.p2.zz) r)))
def Dt.isRow (n : Int) : Dt → Bool
  | .tup ds => rowGo n none (0, 1) ds
  | _ => false
/-- what is drawn: numbers and tuples that are not great -/
inductive Wf : Dt → Prop
  | non : Wf .non
  | bl (b : Bool) : Wf (.bl b)
  | int {i : Int} : i.natAbs ≤ B30 → Wf (.int i)
  | str (s : Str) : Wf (.str s)
  | tup {ds : List Dt} : ds.length ≤ 10 → (∀ d ∈ ds, Wf d) → Wf (.tup ds)
  | oth (t : Value) : Wf (.oth t)
theorem Wf.items {ds : List Dt} (h : Wf (.tup ds)) : ds.length ≤ 10 ∧ ∀ d ∈ ds, Wf d := by
  cases h with
  | tup h1 h2 => exact ⟨h1, h2⟩
theorem Wf.num {i : Int} (h : Wf (.int i)) : i.natAbs ≤ B30 := by
  cases h with
  | int h => exact h
theorem shr_fr {d : Dt} (h : d.isShr = true) (hw : Wf d) : Fr 1 B30 d.zz := by
  rw [shr_eq, Bool.and_eq_true] at h
  obtain ⟨t, b, rfl, e⟩ := zz_sh0 h.1
  have z : ((decide (b ≥ 1) && decide (gz t b = 1)) && (decide (0 ≤ t) && decide (t ≤ b))) = true := h.1
  rw [Bool.and_eq_true, Bool.and_eq_true, Bool.and_eq_true, decide_eq_true_eq, decide_eq_true_eq, decide_eq_true_eq, decide_eq_true_eq] at z
  have hb := (hw.items.2 (.int b) (by simp)).num
  rw [e]
  exact ⟨by show 0 < b; omega, by show b ≤ (B30 : Int); omega, z.2.1, by show t ≤ ((1 : Nat) : Int) * b; omega⟩

end
end Fm
namespace Fm
open PySem PySem.Spec PyProof.Rows L2
section
variable {P : Program} {w : World} {K : PySem.W.Frag} {mg : Str → Option Value} {base : Heap}

def LastOk (K : PySem.W.Frag) (H : Hp) (v : V) : Option (List Int) → Prop
  | none => v = .non
  | some l => Dh K H v (ctD l)
def spRow (K : PySem.W.Frag) : Sp := fun vs H Q _ => ∃ (n : Int) (v : V) (d : Dt), vs = [.int n, v] ∧ Dh K H v d ∧ Wf d ∧ ∀ H', Same H H' → Q (.bl (d.isRow n)) H'
theorem eqv_fr (p q : Int × Int) : PyData.eqv (ctP [p.1, p.2]) (ctP [q.1, q.2]) = decide (p = q) := by
  rw [eqv_ct, Bool.eq_iff_iff]
  obtain ⟨a, b⟩ := p
  obtain ⟨c, d⟩ := q
  simp
theorem frs_of {ss : List (Int × Int)} (h : ∀ p ∈ ss, Fr 1 B30 p) (hl : ss.length ≤ 10) : Frs ss := ⟨fun p hp => .inr (h p hp), Nat.le_trans (List.length_filter_le _ _) hl⟩
theorem ok_is_habit_row (T : Txt K mg) : FnOk P w K mg base CX0 4 T.f_is_habit_row T.d_is_habit_row ["columns", "thing"] (spRow K) := by
  refine T.F_is_habit_row.ok sc_is_habit_row (fun vs H Q E h => ?_) (fun cdv A outer s H vs Q E hr h => ?_)
  · obtain ⟨_, _, _, rfl, _⟩ := h
    rfl
  · obtain ⟨n, v, d, rfl, h, wf, q⟩ := h
    obtain ⟨t, ty, ki, kt, kb⟩ := h.kinds
    refine ⟨_, (pss_cons (ps_if (pt_not (pt_val (pe_callB (call_isiK' K) (by rfl) T.z_isinstance (by decide +kernel) (pa_cons (pv 1) (pa_cons (pe_bltn (v := .ty "tuple") (by rfl) T.z_tuple (by decide +kernel) rfl) pa_nil))))) (pss_one (ps_ret pe_bl)) pss_nil)
      (pss_cons (ps_set (i := 2) sc_is_habit_row.nd rfl (.inl rfl) pe_non)
      (pss_cons (ps_set (i := 3) sc_is_habit_row.nd rfl (.inl rfl) (pe_glob (by rfl) T.g_ZERO (show L2.RelV (.ref T.v_ZERO) _ from rfl)))
      (pss_cons (ps_for PassesOwn.never rfl (pi_tupK K (pv 1)) (pg_name (i := 4) sc_is_habit_row.nd rfl (.inl rfl)) (pss_cons (ps_if (pt_not (pt_val (pe_call (ok_is_pair T) (hr.mono (by decide)) (by rfl) T.g_is_pair T.F_is_pair.kp T.b_is_pair .nil pass0 (pa_cons (pv 4) pa_nil)))) (pss_one (ps_ret pe_bl)) pss_nil)
      (pss_cons (ps_asg (pv 4) (pg_tupK K (n := 2) rfl (pgs_cons (pg_name (i := 5) sc_is_habit_row.nd rfl (.inl rfl)) (pgs_cons (pg_name (i := 6) sc_is_habit_row.nd rfl (.inl rfl)) pgs_nil))))
      (pss_cons (ps_if (PW.pt (pw_or (pt_not (pt_val (pe_call (ok_is_pattern T) (hr.mono (by decide)) (by rfl) T.g_is_pattern T.F_is_pattern.kp T.b_is_pattern .nil pass0 (pa_cons (pv 0) (pa_cons (pv 5) pa_nil))))) (pw_or (pt_not (pt_val (pe_call (ok_is_share T) hr (by rfl) T.g_is_share T.F_is_share.kp T.b_is_share .nil pass0 (pa_cons (pv 6) pa_nil)))) (pw_or1 (pt_cmpR (op_eqK K hr.units) (pv 6) (pe_glob (by rfl) T.g_ZERO (show L2.RelV (.ref T.v_ZERO) _ from rfl)) (nomark _)))))) (pss_one (ps_ret pe_bl)) pss_nil)
      (pss_cons (ps_if (PW.pt (pw_and (pt_cmpR op_notN (pv 2) pe_non (nomark _)) (pw_and1 (pt_not (pt_cmpR (op_ltTK (K := K) hr.units0) (pv 2) (pv 5) (nomark _)))))) (pss_one (ps_ret pe_bl)) pss_nil)
      (pss_cons (ps_set (i := 2) sc_is_habit_row.nd rfl (.inl rfl) (pv 5))
      (pss_one (ps_set (i := 3) sc_is_habit_row.nd rfl (.inl rfl) (pe_call (ok_plus T) (hr.mono (by decide)) (by rfl) T.g_plus T.F_plus.kp T.b_plus .nil pass0 (pa_cons (pv 3) (pa_cons (pv 6) pa_nil)))))))))))
      (pss_one (ps_ret (pe_cmpR (op_eqK K hr.units) (pv 3) (pe_glob (by rfl) T.g_ONE (show L2.RelV (.ref T.v_ONE) _ from rfl)) (nomark _)))))))), ?_⟩
    refine ⟨_, rfl, _, _, _, _, _, rfl, .ty _, ty, kt, _, rfl, ?_⟩
    cases hi : d.isTup with
    | false =>
      refine iteT ?_
      have e : d.isRow n = false := by cases d <;> first | rfl | cases hi
      rw [e] at q
      exact q H (Same.refl H)
    | true =>
      refine iteF ?_
      cases d with
      | tup ds =>
        obtain ⟨a, xs, rfl, hs, ha⟩ := h.tup_inv
        obtain ⟨w10, wds⟩ := wf.items
        have hl := ha.length
        have eq0 : (Dt.tup ds).isRow n = rowGo n none (0, 1) ds := rfl
        rw [eq0] at q
        refine ⟨_, rfl, a, rfl, ⟨_, hs⟩, for_tup (xs := xs) (fun i σ H' => ∃ (last : Option (List Int)) (v2 v3 : V) (ss : List (Int × Int)) (y4 y5 y6 : Option V), σ = [some (.int n), some (.ref a), some v2, some v3, y4, y5, y6] ∧ Same H H' ∧ LastOk K H' v2 last ∧ Dh K H' v3 (frD (sumZ ss)) ∧ ss.length = i ∧ (∀ p ∈ ss, Fr 1 B30 p) ∧ rowGo n none (0, 1) ds = rowGo n last (sumZ ss) (ds.drop i))
          ⟨none, _, _, [], none, none, none, rfl, Same.refl _, rfl, dh_ct (c := [0, 1]) (T.k_ZERO H), rfl, (fun p hp => by cases hp), rfl⟩ (fun i σ H' _ ⟨_, _, _, _, _, _, _, _, sm, _⟩ => (Ext.of sm).sqT hs) ?_ ?_⟩
        · rintro i x σ H' hx ⟨last, v2, v3, ss, y4, y5, y6, rfl, sm, hlast, h3, hsl, hss, e⟩
          obtain ⟨dx, hdx, hx2⟩ := ha.get hx
          have il := (List.getElem?_eq_some_iff.mp hdx).1
          rw [drop_at hdx] at e
          have e' : rowGo n none (0, 1) ds = (dx.isPair && (dx.p1.isPat n && (dx.p2.isShr && (lastLt last dx.p1.ints && rowGo n (some dx.p1.ints) (plusZ (sumZ ss) dx.p2.zz) (ds.drop (i + 1)))))) := e
          have wdx := wds dx (List.mem_of_getElem? hdx)
          have bad : rowGo n none (0, 1) ds = false → ∀ H2, Same H' H2 → Q (.bl false) H2 := fun z H2 s2 => by
            have z' := q H2 (sm.trans s2)
            rw [z] at z'
            exact z'
          refine ⟨_, rfl, spD_bl (.cons (hx2.ext (.of sm)) .nil) rfl fun H1 s1 => ⟨_, rfl, ?_⟩⟩
          cases hp : dx.isPair with
          | false =>
            refine iteT ?_
            exact bad (by rw [e', hp]; rfl) H1 s1
          | true =>
            refine iteF ?_
            rw [hp, Bool.true_and] at e'
            obtain ⟨p, s', rfl⟩ := pair_inv hp
            have e1 : (Dt.tup [p, s']).p1 = p := rfl
            have e2 : (Dt.tup [p, s']).p2 = s' := rfl
            rw [e1, e2] at e'
            obtain ⟨b, ys, rfl, hb, hy⟩ := (hx2.ext (.of (sm.trans s1))).tup_inv
            obtain ⟨w1, w2, rfl, g1, g2⟩ := dh_two hy
            refine ⟨_, rfl, b, _, rfl, hb, rfl, w1, _, rfl, w2, _, rfl, rfl, ?_⟩
            refine ⟨_, rfl, _, rfl, spD_bl (.cons (.int _) (.cons g1 .nil)) rfl fun H2 s2 => ⟨_, rfl, ?_⟩⟩
            have s12 := s1.trans s2
            cases hpat : p.isPat n with
            | false =>
              refine iteT (iteT ?_)
              exact bad (by rw [e', hpat]; rfl) H2 s12
            | true =>
              refine iteF ?_
              rw [hpat, Bool.true_and] at e'
              refine ⟨_, rfl, spD_bl (.cons (g2.ext (.of s2)) .nil) rfl fun H3 s3 => ⟨_, rfl, ?_⟩⟩
              have s13 := s12.trans s3
              cases hsh : s'.isSh0 with
              | false =>
                refine iteT (iteT ?_)
                exact bad (by rw [e', shr_eq, hsh]; rfl) H3 s13
              | true =>
                refine iteF ?_
                obtain ⟨tt, bb, rfl, ez⟩ := zz_sh0 hsh
                have g3 : Dh K H3 w2 (frD (tt, bb)) := g2.ext (.of (s2.trans s3))
                refine ⟨_, rfl, ctP [tt, bb], ctP [0, 1], dp_ct g3, .tup (T.k_ZERO H3) (dp_ints [0, 1]), shaped_ct _, shaped_ct _, _, rfl, ?_⟩
                rw [eqv_fr (tt, bb) (0, 1)]
                rw [shr_eq, hsh, Bool.true_and, ez] at e'
                by_cases hz : (tt, bb) = ((0, 1) : Int × Int)
                · rw [decide_eq_true hz]
                  refine iteT ?_
                  exact bad (by rw [e', decide_eq_false (fun z => z hz)]; rfl) H3 s13
                · rw [decide_eq_false hz]
                  refine iteF ?_
                  rw [decide_eq_true (show (tt, bb) ≠ ((0, 1) : Int × Int) from hz), Bool.true_and] at e'
                  have hshr : (Dt.tup [.int tt, .int bb]).isShr = true := by
                    rw [shr_eq, hsh, ez, Bool.true_and]
                    exact decide_eq_true hz
                  have fr := shr_fr hshr (wdx.items.2 (.tup [.int tt, .int bb]) (by simp))
                  rw [ez] at fr
                  obtain ⟨ps, rfl, _⟩ := isPat_ct hpat
                  rw [ints_ct] at e'
                  have g13 := g1.ext (.of (s2.trans s3))
                  -- the tail: last = pattern; total = plus(total, part)
                  have tail : ∀ (R : Bool), rowGo n none (0, 1) ds = rowGo n (some ps) (plusZ (sumZ ss) (tt, bb)) (ds.drop (i + 1)) →
                      ∃ (v : V), ([some (.int n), some (.ref a), some v2, some v3, some (.ref b), some w1, some w2] : L2.St)[3]? = some (some v) ∧ ∃ u, ([some (.int n), some (.ref a), some w1, some v3, some (.ref b), some w1, some w2] : L2.St)[6]? = some (some u) ∧ spPlus K [v, u] H3 (fun z H4 => ∃ (last : Option (List Int)) (v2 v3 : V) (ss : List (Int × Int)) (y4 y5 y6 : Option V), [some (.int n), some (.ref a), some w1, some z, some (.ref b), some w1, some w2] = [some (.int n), some (.ref a), some v2, some v3, y4, y5, y6] ∧ Same H H4 ∧ LastOk K H4 v2 last ∧ Dh K H4 v3 (frD (sumZ ss)) ∧ ss.length = i + 1 ∧ (∀ p ∈ ss, Fr 1 B30 p) ∧ rowGo n none (0, 1) ds = rowGo n last (sumZ ss) (ds.drop (i + 1))) E0 := by
                    intro _ ego
                    obtain ⟨ta, rfl, hta⟩ := fr_inv (h3.ext (.of s13))
                    obtain ⟨wa, rfl, hwa⟩ := fr_inv g3
                    have hss' : ∀ p ∈ ss ++ [(tt, bb)], Fr 1 B30 p := fun p hp => by
                      rcases List.mem_append.mp hp with hp | hp
                      · exact hss p hp
                      · rw [List.mem_singleton.mp hp]
                        exact fr
                    have fs : Frs (ss ++ [(tt, bb)]) := frs_of hss' (by rw [List.length_append]; show ss.length + 1 ≤ 10; omega)
                    obtain ⟨n', m, B, C, f1, f2, nm, bc, b1, c1⟩ := sum_next fs (i := ss.length) (p := (tt, bb)) (by simp)
                    have et : (ss ++ [(tt, bb)]).take ss.length = ss := by simp
                    rw [et] at f1
                    refine ⟨_, rfl, _, rfl, ta, wa, _, _, n', m, B, C, rfl, hta, hwa, f1, f2, nm, bc, b1, c1, fun v H4 s4 hv => ?_⟩
                    refine ⟨some ps, w1, v, ss ++ [(tt, bb)], _, _, _, rfl, (sm.trans s13).trans s4, g13.ext (.of s4), ?_, by rw [List.length_append, hsl]; rfl, hss', ?_⟩
                    · rw [sumZ_snoc]
                      exact hv
                    · rw [sumZ_snoc]
                      exact ego
                  cases last with
                  | none =>
                    have hl2 : v2 = .non := hlast
                    subst hl2
                    refine ⟨_, rfl, rfl, _, rfl, iteF ?_⟩
                    exact ⟨_, rfl, tail true (by rw [e']; rfl)⟩
                  | some l =>
                    have hl2 : Dh K H3 v2 (ctD l) := (show Dh K H' v2 (ctD l) from hlast).ext (.of s13)
                    obtain ⟨la, rfl, hla⟩ := ct_inv hl2
                    obtain ⟨xa, rfl, hxa⟩ := ct_inv g13
                    refine ⟨_, rfl, rfl, _, rfl, ?_⟩
                    rw [decide_eq_false (show ¬ V.ref la = V.non from fun z => by cases z)]
                    refine iteT ?_
                    refine ⟨_, rfl, _, rfl, la, xa, l, ps, rfl, rfl, hla, hxa, _, rfl, ?_⟩
                    have e3 : lastLt (some l) ps = HT.lexLt l ps := rfl
                    rw [e3] at e'
                    cases hlt : HT.lexLt l ps with
                    | true =>
                      refine iteF ?_
                      rw [hlt, Bool.true_and] at e'
                      exact ⟨_, rfl, tail true e'⟩
                    | false =>
                      refine iteT ?_
                      rw [hlt, Bool.false_and] at e'
                      exact bad e' H3 s13
        · rintro σ H' ⟨last, v2, v3, ss, y4, y5, y6, rfl, sm, hlast, h3, hsl, hss, e⟩
          rw [List.drop_eq_nil_of_le (by omega)] at e
          have e' : rowGo n none (0, 1) ds = decide (sumZ ss = (1, 1)) := by
            rw [e]
            cases last <;> rfl
          refine ⟨_, rfl, ctP [(sumZ ss).1, (sumZ ss).2], ctP [1, 1], dp_ct h3, .tup (T.k_ONE H') (dp_ints [1, 1]), shaped_ct _, shaped_ct _, ?_⟩
          rw [eqv_fr (sumZ ss) (1, 1), ← e']
          exact q H' sm
      | _ => cases hi

end
end Fm
namespace Fm
open PySem PySem.Spec PyProof.Rows L2
section
variable {P : Program} {w : World} {K : PySem.W.Frag} {mg : Str → Option Value} {base : Heap}

/-! ### the class of habits -/
inductive Part where
  | sizes | rows | at (i : Nat)
def Part.v : Part → V
  | .sizes => .str "sizes"
  | .rows => .str "rows"
  | .at i => .int (i : Nat)
def badAt (n : Int) : List Dt → Nat → Option Nat
  | [], _ => none
  | d :: r, i => if d.isRow n = true then badAt n r (i + 1) else some i
def Dt.dues : Dt → List Dt
  | .tup ds => ds
  | _ => []
/-- what is due of a habit with these -/
def dueD (s r : Dt) : Option Part :=
  if s.isSizes = true then
    (if r.isTup = true ∧ r.dues.length = (allC s.ints).length then (badAt s.ints.length r.dues 0).map Part.at else some .rows)
  else some .sizes
/-- the fields of a habit -/
abbrev hfs (v1 v2 : V) : List (Str × V) := putF "rows" v2 (putF "sizes" v1 [])
def spIni1 (K : PySem.W.Frag) (C : Addr) : Sp := fun vs H Q _ => ∃ (a : Addr) (v : V), vs = [.ref a, v] ∧ H a = some (exo a C none) ∧ ∀ dx, H dx = none → dx ≠ a → Q .non (upd (upd H dx (exd dx [("part", v)])) a (exo a C (some dx)))
theorem ok_BadHabit_init (T : Txt K mg) : FnOk P w K mg base CX0 1 T.f_BadHabit_init T.d_BadHabit_init ["self", "part"] (spIni1 K T.c_BadHabit) := by
  refine T.F_BadHabit_init.ok sc_BadHabit_init (fun vs H Q E h => ?_) (fun cdv A outer s H vs Q E hr h => ?_)
  · obtain ⟨_, _, rfl, _⟩ := h
    rfl
  · obtain ⟨a, v, rfl, ha, q⟩ := h
    refine ⟨_, (pss_cons (ps_expr (pe_upinit T.U_MaskError (by rfl) T.g_MaskError (pa_cons (pv 0) (pa_cons pe_str pa_nil))))
      (pss_one (ps_ost (pv 0) (pv 1)))), ?_⟩
    refine ⟨_, rfl, a, T.c_BadHabit, _, rfl, by decide, T.o_BadHabit, ha, ?_⟩
    exact ⟨_, rfl, _, rfl, a, T.c_BadHabit, rfl, T.o_BadHabit, T.p_BadHabit, .inl ⟨ha, fun dx nd ne => q dx nd ne⟩⟩
/-- raise BadHabit(v) -/
theorem bad_raise (T : Txt K mg) {σ : L2.St} {H : Hp} {ta : TA} {v : V} {Q : XK} (hta : ∀ R : List V → Hp → Prop, R [v] H → ta σ H R) (q : ∀ d H', Same H H' → H' d = some (.xd [("part", v)]) → Q (.ref T.c_BadHabit) (some d) H') : tMkO T.c_BadHabit (spIni1 K T.c_BadHabit) [] ta σ H Q := by
  refine hta _ ⟨by show 1 ≤ 1000; decide, fun a na => ⟨a, v, rfl, upd_same, fun dx nd ne => ⟨rfl, dx, [("part", v)], upd_same, ?_, ?_, ?_⟩⟩⟩
  · rw [upd_ne ne, upd_same]
  · rw [upd_ne ne] at nd
    exact nd
  · rw [upd_ne ne] at nd
    refine q dx _ (fun b o e => ?_) upd_same
    have h1 := ne_of_none e na
    have h2 := ne_of_none e nd
    rw [upd_ne h2, del_ne h1, upd_ne h1, upd_ne h2, upd_ne h1]
    exact e
def RsWf : Dt → Prop
  | .tup ds => ∀ d ∈ ds, Wf d
  | _ => True
theorem Wf.rs {d : Dt} (h : Wf d) : RsWf d := by
  cases d with
  | tup ds => exact h.items.2
  | _ => exact True.intro
theorem badAt_none {n : Int} : ∀ {ds : List Dt} {i : Nat}, badAt n ds i = none → ∀ d ∈ ds, d.isRow n = true
  | [], _, _, d, hd => by cases hd
  | x :: r, i, h, d, hd => by
    have h' : (if x.isRow n = true then badAt n r (i + 1) else some i) = none := h
    by_cases hx : x.isRow n = true
    · rw [if_pos hx] at h'
      rcases List.mem_cons.mp hd with e | e
      · rw [e]
        exact hx
      · exact badAt_none h' d e
    · rw [if_neg hx] at h'
      cases h'
def spHab (K : PySem.W.Frag) (C : Addr) : Sp := fun vs H Q _ => ∃ (x dx : Addr) (v1 v2 : V) (ss : List Int) (ds : List Dt), vs = [.ref x, v1, v2] ∧ H x = some (.ins C dx []) ∧ SizesOk ss ∧ Dh K H v1 (ctD ss) ∧ Dh K H v2 (.tup ds) ∧ (∀ d ∈ ds, Wf d) ∧ ds.length = (allC ss).length ∧ (∀ d ∈ ds, d.isRow ss.length = true) ∧
  ∀ H', H' x = some (.ins C dx (hfs v1 v2)) → (∀ b o, b ≠ x → H b = some o → H' b = some o) → Q .non H'
theorem ok_Habit_init (T : Txt K mg) : FnOk P w K mg base CX0 5 T.f_Habit_init T.d_Habit_init ["self", "sizes", "rows"] (spHab K T.c_Habit) := by
  refine T.F_Habit_init.ok sc_Habit_init (fun vs H Q E h => ?_) (fun cdv A outer s H vs Q E hr h => ?_)
  · obtain ⟨_, _, _, _, _, _, rfl, _⟩ := h
    rfl
  · obtain ⟨x, dx, v1, v2, ss, ds, rfl, hx, ok, h1, h2, wf, hlen, hrow, q⟩ := h
    have ok' : (ctD ss).isSizes = true := ok
    obtain ⟨sa, rfl, hsa⟩ := ct_inv h1
    obtain ⟨ra, rs, rfl, hra, hrs⟩ := h2.tup_inv
    have hl := hrs.length
    refine ⟨_, (pss_cons (ps_if (pt_not (pt_val (pe_call (ok_is_sizes T) (hr.mono (by decide)) (by rfl) T.g_is_sizes T.F_is_sizes.kp T.b_is_sizes .nil pass0 (pa_cons (pv 1) pa_nil)))) (pss_one ps_never) pss_nil)
      (pss_cons (ps_if (PW.pt (pw_or (pt_not (pt_val (pe_callB (call_isiK' K) (by rfl) T.z_isinstance (by decide +kernel) (pa_cons (pv 2) (pa_cons (pe_bltn (v := .ty "tuple") (by rfl) T.z_tuple (by decide +kernel) rfl) pa_nil))))) (pw_or1 (pt_cmpR op_ne (pe_callB (call_lenK K) (by rfl) T.z_len PySem.boot_len (pa_cons (pv 2) pa_nil)) (pe_callB (call_lenK K) (by rfl) T.z_len PySem.boot_len (pa_cons (pe_call (ok_all_contents T) (hr.mono (by decide)) (by rfl) T.g_all_contents T.F_all_contents.kp T.b_all_contents .nil pass0 (pa_cons (pv 1) pa_nil)) pa_nil)) (nomark _))))) (pss_one ps_never) pss_nil)
      (pss_cons (ps_for PassesOwn.never rfl (pi_enumT (K := K) (by rfl) T.z_enumerate (pa_cons (pv 2) pa_nil)) (pg_tupK K (n := 2) rfl (pgs_cons (pg_name (i := 3) sc_Habit_init.nd rfl (.inl rfl)) (pgs_cons (pg_name (i := 4) sc_Habit_init.nd rfl (.inl rfl)) pgs_nil))) (pss_one (ps_if (pt_not (pt_val (pe_call (ok_is_habit_row T) hr (by rfl) T.g_is_habit_row T.F_is_habit_row.kp T.b_is_habit_row .nil pass0 (pa_cons (pe_callB (call_lenK K) (by rfl) T.z_len PySem.boot_len (pa_cons (pv 1) pa_nil)) (pa_cons (pv 4) pa_nil))))) (pss_one ps_never) pss_nil)))
      (pss_cons (ps_fld (pv 0) (pv 1) rfl)
      (pss_one (ps_fld (pv 0) (pv 2) rfl)))))), ?_⟩
    refine ⟨_, rfl, spD_bl (.cons h1 .nil) rfl fun H1 s1 => ⟨_, rfl, ?_⟩⟩
    rw [ok']
    refine iteF ?_
    refine ⟨_, rfl, _, _, _, _, _, rfl, .ty _, tyx_tup ((Ext.of s1).sqT hra), kit_ty (show kitB "tuple" "tuple" = some true by decide +kernel), _, rfl, iteF ?_⟩
    refine ⟨_, rfl, ra, _, rfl, .inr ((Ext.of s1).sqT hra), ?_⟩
    refine ⟨_, rfl, sa, ss, rfl, (Ext.of s1).sqT hsa, ok, fun p xs H2 np s2 hp hxs => ?_⟩
    have s12 := s1.trans s2
    have hl2 : xs.length = (allC ss).length := by
      rw [hxs.length, List.length_map]
    refine ⟨p, xs, rfl, .inl (SqL.of hp), rfl, _, rfl, ?_⟩
    rw [decide_eq_true (show V.int (rs.length : Int) = V.int (xs.length : Int) by rw [hl, hl2, hlen])]
    refine iteF ?_
    refine ⟨_, rfl, ra, rs, rfl, (Ext.of s12).sqT hra, for_enumT (fun i σ H' => ∃ y3 y4 : Option V, σ = [some (.ref x), some (.ref sa), some (.ref ra), y3, y4] ∧ Same H H')
      ⟨none, none, rfl, s12⟩ (fun i σ H' ⟨_, _, _, sm⟩ => (Ext.of sm).sqT hra) ?_ ?_⟩
    · rintro i r Tp σ H' hr' ⟨y3, y4, rfl, sm⟩ nT
      have smT : Same H (upd H' Tp (.tup [.int (i : Nat), r])) := sm.trans (same_new nT)
      obtain ⟨d, hd, hdr⟩ := hrs.get hr'
      have hdm := List.mem_of_getElem? hd
      refine ⟨Tp, _, rfl, SqT.of upd_same, rfl, _, _, rfl, _, _, rfl, rfl, ?_⟩
      refine ⟨_, rfl, sa, _, rfl, .inr ((Ext.of smT).sqT hsa), _, rfl, _, r, d, rfl, hdr.ext (.of smT), wf d hdm, fun H3 s3 => ⟨_, rfl, ?_⟩⟩
      rw [List.length_map, hrow d hdm]
      refine iteF ?_
      exact ⟨_, _, rfl, smT.trans s3⟩
    · rintro σ H' ⟨y3, y4, rfl, sm⟩
      refine ⟨_, rfl, _, rfl, x, T.c_Habit, dx, [], rfl, sm _ _ hx, T.l_Habit, T.a_sizes, by show 0 < 1000; decide, _, rfl, _, rfl, x, T.c_Habit, dx, _, rfl, upd_same, T.l_Habit, T.a_rows, by show 1 < 1000; decide, ?_⟩
      refine q _ upd_same fun b o nb e => ?_
      rw [upd_ne nb, upd_ne nb]
      exact sm _ _ e

end
end Fm
namespace Fm
open PySem PySem.Spec PyProof.Rows L2
section
variable {P : Program} {w : World} {K : PySem.W.Frag} {mg : Str → Option Value} {base : Heap}

abbrev at0 (c : List Int) (k : Int) : Int := c.getD k.toNat 0
theorem contGo_iff : ∀ {ss c : List Int}, contGo ss (c.map Dt.int) = true ↔ ∀ (i : Nat) (x s : Int), c[i]? = some x → ss[i]? = some s → 0 ≤ x ∧ x < s
  | [], c => ⟨fun _ i x s _ h => by simp at h, fun _ => by cases c <;> rfl⟩
  | s :: ss, [] => ⟨fun _ i x s h => by simp at h, fun _ => rfl⟩
  | s :: ss, x :: c => by
    have e : contGo (s :: ss) ((x :: c).map Dt.int) = if 0 ≤ x ∧ x < s then contGo ss (c.map Dt.int) else false := rfl
    rw [e]
    constructor
    · intro h i y t hy ht
      by_cases hx : 0 ≤ x ∧ x < s
      · rw [if_pos hx] at h
        cases i with
        | zero =>
          have e1 : x = y := by simpa using hy
          have e2 : s = t := by simpa using ht
          rw [← e1, ← e2]
          exact hx
        | succ i => exact contGo_iff.mp h i y t (by simpa using hy) (by simpa using ht)
      · rw [if_neg hx] at h
        cases h
    · intro h
      rw [if_pos (h 0 x s rfl rfl)]
      exact contGo_iff.mpr fun i y t hy ht => h (i + 1) y t (by simpa using hy) (by simpa using ht)
theorem isCt_iff {ss c : List Int} : IsCt ss c ↔ c.length = ss.length ∧ ∀ (i : Nat) (x s : Int), c[i]? = some x → ss[i]? = some s → 0 ≤ x ∧ x < s := by
  have e : (ctD c).isCont ss = ((c.map Dt.int).length == ss.length && contGo ss (c.map Dt.int)) := rfl
  unfold IsCt
  rw [e, Bool.and_eq_true, contGo_iff, List.length_map]
  simp
theorem mem_step {found : List (List Int)} {s : Int} {c : List Int} : c ∈ stepC found s ↔ ∃ b ∈ found, ∃ w : Nat, w < s.toNat ∧ c = b ++ [(w : Int)] := by
  unfold stepC
  rw [List.mem_flatMap]
  constructor
  · rintro ⟨b, hb, hc⟩
    obtain ⟨w, hw, rfl⟩ := List.mem_map.mp hc
    exact ⟨b, hb, w, List.mem_range.mp hw, rfl⟩
  · rintro ⟨b, hb, w, hw, rfl⟩
    exact ⟨b, hb, List.mem_map.mpr ⟨w, List.mem_range.mpr hw, rfl⟩⟩
theorem mem_allC_take {ss : List Int} : ∀ (i : Nat), i ≤ ss.length → ∀ c, c ∈ allC (ss.take i) ↔ c.length = i ∧ ∀ (j : Nat) (x s : Int), c[j]? = some x → ss[j]? = some s → 0 ≤ x ∧ x < s
  | 0, _, c => by
    have e : allC (ss.take 0) = [[]] := rfl
    rw [e, List.mem_singleton]
    constructor
    · rintro rfl
      exact ⟨rfl, fun j x s h => by simp at h⟩
    · rintro ⟨h, _⟩
      exact List.length_eq_zero_iff.mp h
  | i + 1, h, c => by
    have hi : i < ss.length := h
    have e : ss[i]? = some ss[i] := List.getElem?_eq_getElem hi
    have e' : ss.take (i + 1) = ss.take i ++ [ss[i]] := by rw [List.take_add_one, e]; rfl
    rw [e', allC_snoc, mem_step]
    constructor
    · rintro ⟨b, hb, w, hw, rfl⟩
      obtain ⟨hl, hall⟩ := (mem_allC_take i (Nat.le_of_lt hi) b).mp hb
      refine ⟨by rw [List.length_append, hl]; rfl, fun j x s hx hs => ?_⟩
      by_cases hj : j < i
      · rw [List.getElem?_append_left (by omega)] at hx
        exact hall j x s hx hs
      · have hj2 : j < (b ++ [(w : Int)]).length := (List.getElem?_eq_some_iff.mp hx).1
        rw [List.length_append, hl] at hj2
        have ej : j = i := by
          have : ([(w : Int)] : List Int).length = 1 := rfl
          omega
        subst ej
        rw [List.getElem?_append_right (by omega), hl, Nat.sub_self] at hx
        have ex : (w : Int) = x := by simpa using hx
        rw [e] at hs
        have es := Option.some.inj hs
        omega
    · rintro ⟨hl, hall⟩
      have hil : i < c.length := by omega
      refine ⟨c.take i, (mem_allC_take i (Nat.le_of_lt hi) _).mpr ⟨by rw [List.length_take]; omega, fun j x s hx hs => ?_⟩, (c[i]).toNat, ?_, ?_⟩
      · have hj : j < (c.take i).length := (List.getElem?_eq_some_iff.mp hx).1
        rw [List.length_take] at hj
        rw [List.getElem?_take_of_lt (by omega)] at hx
        exact hall j x s hx hs
      · have := hall i c[i] ss[i] (List.getElem?_eq_getElem hil) e
        omega
      · have := hall i c[i] ss[i] (List.getElem?_eq_getElem hil) e
        have e2 : ((c[i].toNat : Nat) : Int) = c[i] := by omega
        rw [e2]
        have e3 : c.take (i + 1) = c.take i ++ [c[i]] := by rw [List.take_add_one, List.getElem?_eq_getElem hil]; rfl
        rw [← e3, List.take_of_length_le (by omega)]
theorem mem_allC {ss c : List Int} : c ∈ allC ss ↔ IsCt ss c := by
  have q := mem_allC_take (ss := ss) ss.length (Nat.le_refl _) c
  rw [List.take_length] at q
  rw [q, isCt_iff]
theorem at0_some {c : List Int} {k : Int} (h0 : 0 ≤ k) (h1 : k < c.length) : c[k.toNat]? = some (at0 c k) := by
  have hl : k.toNat < c.length := by omega
  show _ = some (c.getD k.toNat 0)
  rw [List.getD_eq_getElem?_getD, List.getElem?_eq_getElem hl]
  rfl

/-! ### places, shares, habits compared -/
def placeZ (ss c : List Int) : Int := (ss.zip c).foldl (fun p x => p * x.1 + x.2) 0
theorem flat_at {n : Nat} : ∀ {l : List (List Int)} {i j : Nat} {c : List Int}, l[i]? = some c → j < n → (l.flatMap (ext n))[i * n + j]? = some (c ++ [(j : Int)])
  | [], i, j, c, h, _ => by simp at h
  | d :: r, 0, j, c, h, hj => by
    have e : d = c := by simpa using h
    subst e
    rw [List.flatMap_cons, Nat.zero_mul, Nat.zero_add, List.getElem?_append_left (by rw [ext_len]; exact hj)]
    unfold ext
    rw [List.getElem?_map, List.getElem?_range hj]
    rfl
  | d :: r, i + 1, j, c, h, hj => by
    have h' : r[i]? = some c := by simpa using h
    have ih := flat_at (n := n) h' hj
    rw [List.flatMap_cons, List.getElem?_append_right (by rw [ext_len, Nat.add_mul, Nat.one_mul]; omega), ext_len]
    have e : (i + 1) * n + j - n = i * n + j := by rw [Nat.add_mul, Nat.one_mul]; omega
    rw [e]
    exact ih
theorem zip_take {ss c : List Int} {i : Nat} {s w : Int} (h1 : ss[i]? = some s) (h2 : c[i]? = some w) : (ss.take (i + 1)).zip (c.take (i + 1)) = (ss.take i).zip (c.take i) ++ [(s, w)] := by
  have e1 : ss.take (i + 1) = ss.take i ++ [s] := by rw [List.take_add_one, h1]; rfl
  have e2 : c.take (i + 1) = c.take i ++ [w] := by rw [List.take_add_one, h2]; rfl
  have l1 := (List.getElem?_eq_some_iff.mp h1).1
  have l2 := (List.getElem?_eq_some_iff.mp h2).1
  rw [e1, e2, List.zip_append (by rw [List.length_take, List.length_take]; omega)]
  rfl
theorem place_take {ss c : List Int} {i : Nat} {s w : Int} (h1 : ss[i]? = some s) (h2 : c[i]? = some w) : placeZ (ss.take (i + 1)) (c.take (i + 1)) = placeZ (ss.take i) (c.take i) * s + w := by
  unfold placeZ
  rw [zip_take h1 h2, List.foldl_append]
  rfl
theorem place_at {ss c : List Int} (ok : SizesOk ss) (h : IsCt ss c) : ∀ i, i ≤ ss.length → 0 ≤ placeZ (ss.take i) (c.take i) ∧ (allC (ss.take i))[(placeZ (ss.take i) (c.take i)).toNat]? = some (c.take i)
  | 0, _ => by
    refine ⟨by rw [List.take_zero]; exact Int.le_refl 0, ?_⟩
    rw [List.take_zero, List.take_zero]
    rfl
  | i + 1, hi => by
    obtain ⟨ih0, ih⟩ := place_at ok h i (by omega)
    obtain ⟨hlen, hb⟩ := isCt_iff.mp h
    obtain ⟨s, hs⟩ : ∃ s, ss[i]? = some s := ⟨_, List.getElem?_eq_getElem (by omega)⟩
    obtain ⟨w, hw⟩ : ∃ w, c[i]? = some w := ⟨_, List.getElem?_eq_getElem (by omega)⟩
    obtain ⟨w0, w1⟩ := hb i w s hw hs
    have hs2 := (ok.facts.2.2 s (List.mem_of_getElem? hs)).1
    rw [place_take hs hw]
    have m0 : 0 ≤ placeZ (ss.take i) (c.take i) * s := Int.mul_nonneg ih0 (by omega)
    refine ⟨by omega, ?_⟩
    have e1 : ss.take (i + 1) = ss.take i ++ [s] := by rw [List.take_add_one, hs]; rfl
    have e2 : c.take (i + 1) = c.take i ++ [((w.toNat : Nat) : Int)] := by
      rw [List.take_add_one, hw]
      have : ((w.toNat : Nat) : Int) = w := by omega
      rw [this]
      rfl
    rw [e1, e2, allC_snoc]
    have q := flat_at (n := s.toNat) ih (show w.toNat < s.toNat by omega)
    have e3 : (placeZ (ss.take i) (c.take i) * s + w).toNat = (placeZ (ss.take i) (c.take i)).toNat * s.toNat + w.toNat := by
      obtain ⟨p, hp⟩ := Int.eq_ofNat_of_zero_le ih0
      obtain ⟨t, ht⟩ := Int.eq_ofNat_of_zero_le (show 0 ≤ s by omega)
      obtain ⟨u, hu⟩ := Int.eq_ofNat_of_zero_le w0
      rw [hp, ht, hu]
      show ((p : Int) * (t : Int) + (u : Int)).toNat = p * t + u
      rw [← Int.natCast_mul, ← Int.natCast_add]
      rfl
    rw [e3]
    exact q
theorem place_all {ss c : List Int} (ok : SizesOk ss) (h : IsCt ss c) : 0 ≤ placeZ ss c ∧ (allC ss)[(placeZ ss c).toNat]? = some c := by
  have q := place_at ok h ss.length (Nat.le_refl _)
  have hl := h.len
  rw [List.take_length, List.take_of_length_le (by omega)] at q
  exact q
def spPlace (K : PySem.W.Frag) : Sp := fun vs H Q _ => ∃ (a b : Addr) (ss c : List Int), vs = [.ref a, .ref b] ∧ SqT K H a (ss.map V.int) ∧ SqT K H b (c.map V.int) ∧ c.length = ss.length ∧ (∀ s ∈ ss, 2 ≤ s ∧ s ≤ 4) ∧ ∀ H', Same H H' → Q (.int (placeZ ss c)) H'
/-- a habit at x -/
structure Hb (K : PySem.W.Frag) (C : Addr) (H : Hp) (x : Addr) (ss : List Int) (ds : List Dt) : Prop where
  ex : ∃ dx v1 v2, H x = some (.ins C dx (hfs v1 v2)) ∧ Dh K H v1 (ctD ss) ∧ Dh K H v2 (.tup ds)
theorem Hb.ext {C : Addr} {H H' : Hp} {x : Addr} {ss : List Int} {ds : List Dt} (e : Ext H H') (h : Hb K C H x ss ds) : Hb K C H' x ss ds := by
  obtain ⟨dx, v1, v2, hx, h1, h2⟩ := h.ex
  refine ⟨dx, v1, v2, ?_, h1.ext e, h2.ext e⟩
  rcases e _ _ hx with q | ⟨⟨xs, q⟩, _⟩
  · exact q
  · cases q
structure Rows (ss : List Int) (ds : List Dt) : Prop where
  len : ds.length = (allC ss).length
  row : ∀ d ∈ ds, d.isRow ss.length = true
theorem row_items {n : Int} : ∀ {ds : List Dt} {last : Option (List Int)} {tot : Int × Int}, rowGo n last tot ds = true → ∀ d ∈ ds, ∃ ps, d = .tup [ctD ps, frD d.p2.zz] ∧ d.p1 = ctD ps ∧ Asc n (-1) ps
  | [], _, _, _, d, hd => by cases hd
  | x :: r, last, tot, h, d, hd => by
    have h' : (x.isPair && (x.p1.isPat n && (x.p2.isShr && (lastLt last x.p1.ints && rowGo n (some x.p1.ints) (plusZ tot x.p2.zz) r)))) = true := h
    rw [Bool.and_eq_true, Bool.and_eq_true, Bool.and_eq_true, Bool.and_eq_true] at h'
    obtain ⟨a1, a2, a3, _, a5⟩ := h'
    rcases List.mem_cons.mp hd with e | e
    · subst e
      obtain ⟨u, v, rfl⟩ := pair_inv a1
      have e1 : (Dt.tup [u, v]).p1 = u := rfl
      have e2 : (Dt.tup [u, v]).p2 = v := rfl
      rw [e1] at a2
      rw [e2] at a3
      obtain ⟨ps, rfl, asc⟩ := isPat_ct a2
      rw [shr_eq, Bool.and_eq_true] at a3
      obtain ⟨t, b, rfl, ez⟩ := zz_sh0 a3.1
      exact ⟨ps, rfl, rfl, asc⟩
    · exact row_items a5 d e
theorem isRow_inv {n : Int} {d : Dt} (h : d.isRow n = true) : ∃ ps, d = .tup ps ∧ ∀ e ∈ ps, ∃ p, e = .tup [ctD p, frD e.p2.zz] ∧ e.p1 = ctD p ∧ Asc n (-1) p := by
  cases d with
  | tup ps => exact ⟨ps, rfl, row_items (show rowGo n none (0, 1) ps = true from h)⟩
  | _ => cases h
def shareIn (row : List Dt) (ps : List Int) : Int × Int := match row.find? (fun d => decide (d.p1.ints = ps)) with
  | some d => d.p2.zz
  | none => (0, 1)
def spShare (K : PySem.W.Frag) (C : Addr) : Sp := fun vs H Q _ => ∃ (x : Addr) (ss : List Int) (ds : List Dt) (ps c : List Int) (v1 v2 : V), vs = [.ref x, v1, v2] ∧ Hb K C H x ss ds ∧ SizesOk ss ∧ Rows ss ds ∧ Dh K H v1 (ctD ps) ∧ Asc ss.length (-1) ps ∧ Dh K H v2 (ctD c) ∧ IsCt ss c ∧
  ∀ v H', Same H H' → Dh K H' v (frD (shareIn (ds.getD (placeZ ss c).toNat .non).dues ps)) → Q v H'
end
end Fm
namespace Fm
open PySem PySem.Spec PyProof.Rows L2
section
variable {P : Program} {w : World} {K : PySem.W.Frag} {mg : Str → Option Value} {base : Heap}

/-! ### habits compared; shares refused -/
abbrev Item := List Int × (Int × Int)
def rowL (d : Dt) : List Item := d.dues.map fun e => (e.p1.ints, e.p2.zz)
def keyR (ds : List Dt) : List (List Item) := ds.map rowL
def itP (i : Item) : PyData := .tuple [ctP i.1, ctP [i.2.1, i.2.2]]
def rowP (l : List Item) : PyData := .tuple (l.map itP)
def rowsP (ds : List Dt) : PyData := .tuple ((keyR ds).map rowP)
theorem eqv_it (x y : Item) : PyData.eqv (itP x) (itP y) = decide (x = y) := by
  unfold itP
  rw [PyData.eqv, PyData.eqvAll, PyData.eqvAll, PyData.eqvAll, eqv_ct, eqv_fr]
  obtain ⟨a, b⟩ := x
  obtain ⟨c, d⟩ := y
  rw [Bool.eq_iff_iff]
  simp
theorem eqv_row (x y : List Item) : PyData.eqv (rowP x) (rowP y) = decide (x = y) := by
  unfold rowP
  rw [PyData.eqv]
  exact eqv_all eqv_it x y
theorem eqv_rows (x y : List Dt) : PyData.eqv (rowsP x) (rowsP y) = decide (keyR x = keyR y) := by
  unfold rowsP
  rw [PyData.eqv]
  exact eqv_all eqv_row _ _
theorem lay_it (i : Item) : (itP i).canLay0 = true ∧ (itP i).depth ≤ 2 := by
  obtain ⟨h1, h2⟩ := lay_all (f := fun c => ctP c) (n := 1) lay_ct [i.1, [i.2.1, i.2.2]]
  exact ⟨h1, Nat.succ_le_succ h2⟩
theorem lay_row (l : List Item) : (rowP l).canLay0 = true ∧ (rowP l).depth ≤ 3 := by
  obtain ⟨h1, h2⟩ := lay_all (n := 2) lay_it l
  exact ⟨h1, Nat.succ_le_succ h2⟩
theorem lay_rows (ds : List Dt) : (rowsP ds).canLay0 = true ∧ (rowsP ds).depth ≤ 4 := by
  obtain ⟨h1, h2⟩ := lay_all (n := 3) lay_row (keyR ds)
  exact ⟨h1, Nat.succ_le_succ h2⟩
theorem shaped_rows (ds : List Dt) : SeqAt.shaped (rowsP ds) = true := shaped_of (lay_rows ds) (by decide)
theorem dp_items {H : Hp} {n : Int} : ∀ {vs : List V} {ps : List Dt}, DhAll K H vs ps → (∀ e ∈ ps, ∃ p, e = .tup [ctD p, frD e.p2.zz] ∧ e.p1 = ctD p ∧ Asc n (-1) p) → DpAll K H vs ((ps.map fun e => (e.p1.ints, e.p2.zz)).map itP)
  | _, _, .nil, _ => .nil
  | _, _, .cons (d := d) h t, hp => by
    obtain ⟨p, e1, e2, _⟩ := hp d (List.mem_cons_self ..)
    rw [List.map_cons, List.map_cons]
    refine .cons ?_ (dp_items t fun e he => hp e (List.mem_cons_of_mem _ he))
    rw [e2, ints_ct]
    rw [e1] at h
    obtain ⟨a, xs, rfl, s, hx⟩ := h.tup_inv
    obtain ⟨v1, v2, rfl, h1, h2⟩ := dh_two hx
    exact .tup s (.cons (dp_ct h1) (.cons (dp_ct h2) .nil))
theorem dp_rowsAll {H : Hp} {n : Int} : ∀ {vs : List V} {ds : List Dt}, DhAll K H vs ds → (∀ d ∈ ds, d.isRow n = true) → DpAll K H vs ((keyR ds).map rowP)
  | _, _, .nil, _ => .nil
  | _, _, .cons (d := d) h t, hp => by
    obtain ⟨ps, rfl, hi⟩ := isRow_inv (hp d (List.mem_cons_self ..))
    refine .cons ?_ (dp_rowsAll t fun e he => hp e (List.mem_cons_of_mem _ he))
    obtain ⟨a, xs, rfl, s, hx⟩ := h.tup_inv
    exact .tup s (dp_items hx hi)
theorem dp_rows {H : Hp} {n : Int} {v : V} {ds : List Dt} (h : Dh K H v (.tup ds)) (hr : ∀ d ∈ ds, d.isRow n = true) : Dp K H v (rowsP ds) := by
  obtain ⟨a, xs, rfl, s, hx⟩ := h.tup_inv
  exact .tup s (dp_rowsAll hx hr)

end
end Fm
namespace Fm
open PySem PySem.Spec PyProof.Rows L2
section
variable {P : Program} {w : World} {K : PySem.W.Frag} {mg : Str → Option Value} {base : Heap}

/-! ### rows: the sum, the whole -/
theorem gz_mul {k a b : Int} (hk : 0 < k) : gz (k * a) (k * b) = k * gz a b := by
  unfold gz
  rw [Int.natAbs_mul, Int.natAbs_mul, Nat.gcd_mul_left, Int.natCast_mul]
  congr 1
  omega
theorem low_mul {k a b : Int} (hk : 0 < k) : lowZ (k * a) (k * b) = lowZ a b := by
  unfold lowZ
  rw [gz_mul hk, Int.mul_ediv_mul_of_pos _ _ hk, Int.mul_ediv_mul_of_pos _ _ hk]
theorem low_cross {a b c d : Int} (hb : 0 < b) (hd : 0 < d) (h : a * d = c * b) : lowZ a b = lowZ c d := by
  rw [← low_mul (a := a) (b := b) hd, ← low_mul (a := c) (b := d) hb, Int.mul_comm d a, h, Int.mul_comm c b, Int.mul_comm d b]
theorem low_parts {t b : Int} (h0 : 0 < b) : t = gz t b * (lowZ t b).1 ∧ b = gz t b * (lowZ t b).2 := by
  obtain ⟨h1, h2⟩ := gz_dvd t b
  unfold lowZ
  exact ⟨(Int.mul_ediv_cancel' h1).symm, (Int.mul_ediv_cancel' h2).symm⟩
theorem low_pos {t b : Int} (h0 : 0 < b) (ht : 0 ≤ t) : 0 < (lowZ t b).2 := (low_fr (n := t.toNat) (B := b.toNat) h0 (by omega) ht (by
  have : t * 1 ≤ t * b := Int.mul_le_mul_of_nonneg_left h0 ht
  have e : ((t.toNat : Nat) : Int) = t := by omega
  rw [e]
  omega)).pos
theorem plus_low {a b B : Int} (hB : 0 < B) (ha : 0 ≤ a) (hb : 0 ≤ b) : plusZ (lowZ a B) (lowZ b B) = lowZ (a + b) B := by
  obtain ⟨a1, a2⟩ := low_parts (t := a) hB
  obtain ⟨b1, b2⟩ := low_parts (t := b) hB
  have p1 := low_pos hB ha
  have p2 := low_pos hB hb
  unfold plusZ
  generalize (lowZ a B).1 = x at *
  generalize (lowZ a B).2 = y at *
  generalize (lowZ b B).1 = u at *
  generalize (lowZ b B).2 = v at *
  generalize gz a B = g at a1 a2
  generalize gz b B = h at b1 b2
  refine low_cross (Int.mul_pos p1 p2) hB ?_
  have e1 : x * v * B = a * (y * v) := by
    rw [a1]
    conv => lhs; rw [a2]
    ac_rfl
  have e2 : u * y * B = b * (y * v) := by
    rw [b1]
    conv => lhs; rw [b2]
    ac_rfl
  rw [Int.add_mul, Int.add_mul, e1, e2]
theorem low_zero {B : Int} (hB : 0 < B) : lowZ 0 B = (0, 1) := by
  unfold lowZ gz
  rw [Int.natAbs_zero, Nat.gcd_zero_left]
  have e : ((B.natAbs : Nat) : Int) = B := by omega
  rw [e, Int.zero_ediv, Int.ediv_self (by omega)]
theorem low_one {B : Int} (hB : 0 < B) : lowZ B B = (1, 1) := by
  unfold lowZ gz
  rw [Nat.gcd_self]
  have e : ((B.natAbs : Nat) : Int) = B := by omega
  rw [e, Int.ediv_self (by omega)]
theorem low_gcd {t b : Int} (h0 : 0 < b) (ht : 0 ≤ t) : gz (lowZ t b).1 (lowZ t b).2 = 1 := by
  have g0 := gz_pos (t := t) h0
  obtain ⟨a1, a2⟩ := low_parts (t := t) h0
  have e : gz t b = gz t b * gz (lowZ t b).1 (lowZ t b).2 := by
    have z := gz_mul (k := gz t b) (a := (lowZ t b).1) (b := (lowZ t b).2) g0
    rw [← a1, ← a2] at z
    exact z
  have : gz t b * 1 = gz t b * gz (lowZ t b).1 (lowZ t b).2 := by rw [Int.mul_one]; exact e
  exact (Int.eq_of_mul_eq_mul_left (by omega) this).symm
def sumI (l : List Int) : Int := l.foldl (· + ·) 0
theorem sumI_snoc (l : List Int) (m : Int) : sumI (l ++ [m]) = sumI l + m := by
  unfold sumI
  rw [List.foldl_append]
  rfl
theorem foldl_low {B : Int} (hB : 0 < B) : ∀ {ms : List Int} {s : Int}, 0 ≤ s → (∀ m ∈ ms, 0 ≤ m) → (ms.map fun m => lowZ m B).foldl plusZ (lowZ s B) = lowZ (ms.foldl (· + ·) s) B
  | [], _, _, _ => rfl
  | m :: ms, s, hs, h => by
    have hm := h m (List.mem_cons_self ..)
    rw [List.map_cons, List.foldl_cons, plus_low hB hs hm, foldl_low hB (by omega) fun x hx => h x (List.mem_cons_of_mem _ hx)]
    rfl
theorem sum_low {B : Int} (hB : 0 < B) {ms : List Int} (h : ∀ m ∈ ms, 0 ≤ m) (hs : sumI ms = B) : sumZ (ms.map fun m => lowZ m B) = (1, 1) := by
  have q := foldl_low hB (s := 0) (Int.le_refl 0) h
  rw [low_zero hB] at q
  unfold sumZ
  rw [q]
  have e : ms.foldl (· + ·) 0 = B := hs
  rw [e]
  exact low_one hB
def ltE (x y : Dt) : Bool := HT.lexLt x.p1.ints y.p1.ints
def hdOk (last : Option (List Int)) : List Dt → Bool
  | [] => true
  | d :: _ => lastLt last d.p1.ints
theorem rowGo_eq {n : Int} : ∀ {ds : List Dt} {last : Option (List Int)} {tot : Int × Int}, rowGo n last tot ds = (ds.all Dt.isPair && ((ds.all fun d => d.p1.isPat n && d.p2.isShr) && ((hdOk last ds && adj ltE ds) && decide ((ds.map fun d => d.p2.zz).foldl plusZ tot = (1, 1)))))
  | [], last, tot => rfl
  | [d], last, tot => by
    show (d.isPair && (d.p1.isPat n && (d.p2.isShr && (lastLt last d.p1.ints && decide (plusZ tot d.p2.zz = (1, 1)))))) = ((d.isPair && true) && (((d.p1.isPat n && d.p2.isShr) && true) && ((lastLt last d.p1.ints && true) && decide (plusZ tot d.p2.zz = (1, 1)))))
    cases d.isPair <;> cases d.p1.isPat n <;> cases d.p2.isShr <;> cases lastLt last d.p1.ints <;> rfl
  | d :: e :: ds, last, tot => by
    have ih := rowGo_eq (n := n) (ds := e :: ds) (last := some d.p1.ints) (tot := plusZ tot d.p2.zz)
    show (d.isPair && (d.p1.isPat n && (d.p2.isShr && (lastLt last d.p1.ints && rowGo n (some d.p1.ints) (plusZ tot d.p2.zz) (e :: ds))))) = ((d.isPair && (e :: ds).all Dt.isPair) && (((d.p1.isPat n && d.p2.isShr) && ((e :: ds).all fun d => d.p1.isPat n && d.p2.isShr)) && ((lastLt last d.p1.ints && (ltE d e && adj ltE (e :: ds))) && decide (((e :: ds).map fun d => d.p2.zz).foldl plusZ (plusZ tot d.p2.zz) = (1, 1)))))
    rw [ih]
    have eh : hdOk (some d.p1.ints) (e :: ds) = ltE d e := rfl
    rw [eh]
    generalize (e :: ds).all Dt.isPair = b1
    generalize ((e :: ds).all fun d => d.p1.isPat n && d.p2.isShr) = b2
    generalize ltE d e = b3
    generalize adj ltE (e :: ds) = b4
    generalize decide (((e :: ds).map fun d => d.p2.zz).foldl plusZ (plusZ tot d.p2.zz) = (1, 1)) = b5
    cases d.isPair <;> cases d.p1.isPat n <;> cases d.p2.isShr <;> cases lastLt last d.p1.ints <;> cases b1 <;> cases b2 <;> cases b3 <;> cases b4 <;> cases b5 <;> rfl
theorem adj_pw {α : Type} {r : α → α → Bool} : ∀ {l : List α}, l.Pairwise (fun x y => r x y = true) → adj r l = true
  | [], _ => rfl
  | [_], _ => rfl
  | x :: y :: l, h => by
    have h' := List.pairwise_cons.mp h
    show (r x y && adj r (y :: l)) = true
    rw [h'.1 y (List.mem_cons_self ..), adj_pw h'.2]
    rfl

end
end Fm
namespace Fm
open PySem PySem.Spec PyProof.Rows L2
section
variable {P : Program} {w : World} {K : PySem.W.Frag} {mg : Str → Option Value} {base : Heap}

/-! ### all patterns -/
/-- patterns of so many columns -/
def CtA (K : PySem.W.Frag) (H : Hp) (n : Nat) (xs : List V) : Prop := ∀ x ∈ xs, ∃ c : List Int, Dh K H x (ctD c) ∧ Asc n (-1) c
theorem CtA.ext {H H' : Hp} {n : Nat} {xs : List V} (e : Ext H H') (h : CtA K H n xs) : CtA K H' n xs := fun x hx => by
  obtain ⟨c, hc, hl⟩ := h x hx
  exact ⟨c, hc.ext e, hl⟩
theorem Asc.snoc {n : Int} : ∀ {l : Int} {ps : List Int}, Asc n l ps → l < n → Asc (n + 1) l (ps ++ [n])
  | _, [], _, h => ⟨h, by omega, True.intro⟩
  | _, c :: r, ⟨h1, h2, h3⟩, _ => ⟨h1, by omega, h3.snoc h2⟩
theorem Asc.wide {n : Int} : ∀ {l : Int} {ps : List Int}, Asc n l ps → Asc (n + 1) l ps
  | _, [], _ => True.intro
  | _, c :: r, ⟨h1, h2, h3⟩ => ⟨h1, by omega, h3.wide⟩

def patsOf : Nat → List (List Int)
  | 0 => [[]]
  | n + 1 => patsOf n ++ (patsOf n).map fun q => q ++ [(n : Int)]
theorem pats_len : ∀ n, (patsOf n).length = 2 ^ n
  | 0 => rfl
  | n + 1 => by
    show (patsOf n ++ (patsOf n).map fun q => q ++ [(n : Int)]).length = _
    rw [List.length_append, List.length_map, pats_len n, Nat.pow_succ]
    omega
theorem Asc.split {n : Int} : ∀ {l : Int} {q : List Int}, Asc (n + 1) l q → Asc n l q ∨ ∃ q', q = q' ++ [n] ∧ Asc n l q'
  | _, [], _ => .inl True.intro
  | l, c :: r, ⟨h1, h2, h3⟩ => by
    by_cases e : c < n
    · rcases h3.split with z | ⟨q', e1, z⟩
      · exact .inl ⟨h1, e, z⟩
      · exact .inr ⟨c :: q', by rw [e1]; rfl, h1, e, z⟩
    · have ec : c = n := by omega
      cases r with
      | nil => exact .inr ⟨[], by rw [ec]; rfl, True.intro⟩
      | cons d r =>
        have := h3.1
        have := h3.2.1
        omega
theorem mem_pats : ∀ {n : Nat} {q : List Int}, q ∈ patsOf n ↔ Asc n (-1) q
  | 0, q => by
    constructor
    · intro h
      rw [List.mem_singleton.mp h]
      exact True.intro
    · intro h
      cases q with
      | nil => exact List.mem_singleton.mpr rfl
      | cons c r =>
        have h1 := h.1
        have h2 := h.2.1
        omega
  | n + 1, q => by
    show q ∈ patsOf n ++ (patsOf n).map (fun q => q ++ [(n : Int)]) ↔ Asc ((n : Int) + 1) (-1) q
    rw [List.mem_append, mem_pats, List.mem_map]
    constructor
    · rintro (h | ⟨p, hp, rfl⟩)
      · exact h.wide
      · exact (mem_pats.mp hp).snoc (by omega)
    · intro h
      rcases h.split with z | ⟨p, e, z⟩
      · exact .inl z
      · exact .inr ⟨p, mem_pats.mpr z, e.symm⟩
theorem pats_nodup : ∀ n, (patsOf n).Nodup
  | 0 => List.nodup_cons.mpr ⟨fun h => (by cases h), List.nodup_nil⟩
  | n + 1 => by
    show (patsOf n ++ (patsOf n).map fun q => q ++ [(n : Int)]).Nodup
    refine List.nodup_append.mpr ⟨pats_nodup n, ?_, fun a ha b hb e => ?_⟩
    · exact List.pairwise_map.mpr ((pats_nodup n).imp fun {x y} hne e => hne (List.append_cancel_right e))
    · obtain ⟨q, _, rfl⟩ := List.mem_map.mp hb
      rw [e] at ha
      have := (mem_pats.mp ha).mem n (List.mem_append_right _ (List.mem_singleton.mpr rfl))
      omega
/-- what a pattern's data tells -/
def unI : PyData → Int
  | .int i => i
  | _ => 0
def unP : PyData → List Int
  | .tuple l => l.map unI
  | _ => []
theorem unP_ct (c : List Int) : unP (ctP c) = c := by
  show (c.map PyData.int).map unI = c
  rw [List.map_map]
  exact (List.map_congr_left fun _ _ => rfl).trans (List.map_id c)
theorem dhs_of {H : Hp} {g : V × PyData → List Int} : ∀ {S : List (V × PyData)}, (∀ b ∈ S, Dh K H b.1 (ctD (g b))) → DhAll K H (S.map (·.1)) ((S.map g).map ctD)
  | [], _ => .nil
  | b :: S, h => .cons (h b (List.mem_cons_self ..)) (dhs_of fun z hz => h z (List.mem_cons_of_mem _ hz))
theorem pats_data {H : Hp} : ∀ {xs : List V} {qs : List (List Int)}, DhAll K H xs (qs.map ctD) → ∃ bs : List (V × PyData), bs.map (·.1) = xs ∧ bs.map (fun b => unP b.2) = qs ∧ ∀ b ∈ bs, Dh K H b.1 (ctD (unP b.2)) ∧ b.2 = ctP (unP b.2)
  | [], [], _ => ⟨[], rfl, rfl, fun b hb => by cases hb⟩
  | x :: xs, c :: qs, h => by
    rw [List.map_cons] at h
    cases h with
    | cons h t =>
      obtain ⟨bs, e, e2, hb⟩ := pats_data t
      refine ⟨(x, ctP c) :: bs, by rw [List.map_cons, e], by rw [List.map_cons, e2, unP_ct], fun b hm => ?_⟩
      rcases List.mem_cons.mp hm with z | z
      · rw [z, unP_ct]
        exact ⟨h, rfl⟩
      · exact hb b z
  | x :: xs, [], h => by cases h
  | [], c :: qs, h => by cases h
theorem le_pats (a b : List Int) : (!PySem.W.dataLt (ctP b) (ctP a)) = decide (a ≤ b) := by
  have e : PySem.W.dataLt (ctP b) (ctP a) = decide (b < a) := (PySem.W.dataLt_tuple _ _).trans (PySem.W.dataLt_ints b a)
  rw [e]
  by_cases h : b < a
  · have h' : ¬ a ≤ b := fun r => List.not_lt.mpr r h
    simp [h, h']
  · have h' : a ≤ b := List.not_lt.mp h
    simp [h, h']
theorem sorted_pats {qs : List (List Int)} (nd : qs.Nodup) : (qs.mergeSort fun a b => decide (a ≤ b)).Pairwise fun a b => HT.lexLt a b = true := by
  have h1 := List.pairwise_mergeSort (le := fun a b : List Int => decide (a ≤ b)) (fun a b c x y => decide_eq_true (List.le_trans (of_decide_eq_true x) (of_decide_eq_true y))) (fun a b => by
    rcases List.le_total a b with x | x <;> simp [x]) qs
  have h2 : (qs.mergeSort fun a b => decide (a ≤ b)).Nodup := (List.mergeSort_perm qs _).nodup_iff.mpr nd
  refine (h1.and h2).imp fun {a b} ⟨x, y⟩ => ?_
  rw [lexLt_dec]
  refine decide_eq_true ?_
  by_cases z : a < b
  · exact z
  · exact absurd (List.le_antisymm (of_decide_eq_true x) (List.not_lt.mp z)) y
theorem sort_pats {H : Hp} {a : Addr} {xs : List V} {qs : List (List Int)} {Q : VK} (hs : SqL K H a xs) (hd : DhAll K H xs (qs.map ctD)) (few : ∀ q ∈ qs, q.length ≤ 5)
    (q : ∀ p ys (qs' : List (List Int)), H p = none → DhAll K H ys (qs'.map ctD) → qs' = (qs.mergeSort fun a b => decide (a ≤ b)) → Q (.ref p) (upd H p (.lst ys))) : rSortTs K [.ref a] H Q := by
  obtain ⟨bs, e, e2, hb⟩ := pats_data hd
  refine ⟨a, bs, rfl, by rw [e]; exact hs, fun b hm => ?_, ?_, fun p np => ?_⟩
  · obtain ⟨h1, h2⟩ := hb b hm
    refine ⟨by rw [h2]; exact dp_ct h1, ⟨_, h2⟩, ?_⟩
    rw [h2]
    have z := (lay_ct (unP b.2)).2
    omega
  · intro d hd d' hd'
    obtain ⟨b, hm, rfl⟩ := List.mem_map.mp hd
    obtain ⟨b', hm', rfl⟩ := List.mem_map.mp hd'
    rw [(hb b hm).2, (hb b' hm').2]
    show PySem.W.alikeAll ((unP b.2).map PyData.int) ((unP b'.2).map PyData.int) = true
    exact PySem.W.alike_ints _ _
  · have pm := List.mergeSort_perm bs (PySem.W.dataLe false (fun b : V × PyData => b.2))
    refine q p _ ((bs.mergeSort (PySem.W.dataLe false (fun b : V × PyData => b.2))).map fun b => unP b.2) np (dhs_of fun b hm => (hb b (pm.mem_iff.mp hm)).1) ?_
    rw [← e2]
    refine List.map_mergeSort (s := fun a b : List Int => decide (a ≤ b)) fun b hm b' hm' => ?_
    rw [PySem.W.dataLe_eq]
    show (!PySem.W.dataLt b'.2 b.2) = _
    rw [(hb b hm).2, (hb b' hm').2, unP_ct, unP_ct]
    exact le_pats _ _
structure PatsAll (n : Nat) (qs : List (List Int)) : Prop where
  nd : qs.Nodup
  all : ∀ q, q ∈ qs ↔ Asc n (-1) q
  len : qs.length = 2 ^ n
  asc : qs.Pairwise fun a b => HT.lexLt a b = true
theorem pats_all {n : Nat} {qs : List (List Int)} (e : qs = (patsOf n).mergeSort fun a b => decide (a ≤ b)) : PatsAll n qs := by
  have h : qs.Perm (patsOf n) := by
    rw [e]
    exact List.mergeSort_perm _ _
  exact ⟨h.nodup_iff.mpr (pats_nodup n), fun q => h.mem_iff.trans mem_pats, by rw [h.length_eq, pats_len], by rw [e]; exact sorted_pats (pats_nodup n)⟩
theorem cta_of {H : Hp} {n : Nat} : ∀ {xs : List V} {qs : List (List Int)}, DhAll K H xs (qs.map ctD) → (∀ q ∈ qs, Asc n (-1) q) → CtA K H n xs
  | [], _, _, _ => fun x hx => by cases hx
  | x :: xs, q :: qs, h, ha => by
    rw [List.map_cons] at h
    cases h with
    | cons h1 t =>
      intro y hy
      rcases List.mem_cons.mp hy with e | e
      · rw [e]
        exact ⟨q, h1, ha q (List.mem_cons_self ..)⟩
      · exact cta_of t (fun z hz => ha z (List.mem_cons_of_mem _ hz)) y e
  | x :: xs, [], h, _ => by cases h
def spPats (K : PySem.W.Frag) : Sp := fun vs H Q _ => ∃ n : Nat, vs = [.int n] ∧ n ≤ 5 ∧ ∀ (p : Addr) (xs : List V) (qs : List (List Int)) (H' : Hp), H p = none → Same H H' → H' p = some (.lst xs) → DhAll K H' xs (qs.map ctD) → PatsAll n qs → Q (.ref p) H'
theorem pow5 {n : Nat} (h : n ≤ 5) : 1 ≤ 2 ^ n ∧ 2 ^ n ≤ 32 := ⟨Nat.one_le_two_pow, Nat.le_trans (Nat.pow_le_pow_right (by decide) h) (by decide)⟩
theorem ok_law_patterns (T : Txt K mg) : FnOk P w K mg base CX0 1 T.f_law_patterns T.d_law_patterns ["columns"] (spPats K) := by
  refine T.F_law_patterns.ok sc_law_patterns (fun vs H Q E h => ?_) (fun cdv A outer s H vs Q E hr h => ?_)
  · obtain ⟨_, rfl, _⟩ := h
    rfl
  · obtain ⟨n, rfl, hn, q⟩ := h
    refine ⟨_, (pss_cons (ps_set (i := 1) sc_law_patterns.nd rfl (.inl rfl) (pe_lst (pa_cons (pe_tup pa_nil) pa_nil)))
      (pss_cons (ps_for PassesOwn.never rfl (pi_range1 (by rfl) T.z_range (pa_cons (pv 0) pa_nil)) (pg_name (i := 2) sc_law_patterns.nd rfl (.inr rfl)) (pss_one (ps_set (i := 1) sc_law_patterns.nd rfl (.inl rfl) (pe_op op_cat (pv 1) (pe_lc (own := [("pattern", 3)]) rfl sc_law_patterns.nd (pi_listK K (pv 1)) (blkOk_by (N := N_law_patterns) (sc := defScope s_law_patterns) (by decide +kernel)) (fun _ _ _ _ _ => (pg_name (i := 3) sc_law_patterns.nd rfl (.inl rfl))) (fun _ _ _ _ _ => pts_nil) (fun _ _ _ _ _ => (pe_op (op_catK K) (pv 3) (pe_tup (pa_cons (pv 2) pa_nil)))))))))
      (pss_one (ps_ret (pe_callB (call_sortTsK (K := K) hr.units) (by rfl) T.z_sorted (by decide +kernel) (pa_cons (pv 1) pa_nil)))))), ?_⟩
    refine ⟨by show 0 ≤ sizeLine; decide, fun t nt => ⟨by show 1 ≤ sizeLine; decide, fun f nf => ?_⟩⟩
    have s1 : Same H (upd H t (.tup [])) := same_new nt
    have e1 : (upd H t (.tup [])) t = some (.tup []) := upd_same
    generalize upd H t (.tup []) = H1 at s1 e1 nf ⊢
    have s2 : Same H1 (upd H1 f (.lst [.ref t])) := same_new nf
    have e2 : (upd H1 f (.lst [.ref t])) f = some (.lst [.ref t]) := upd_same
    generalize upd H1 f (.lst [.ref t]) = H2 at s2 e2 ⊢
    have s12 := s1.trans s2
    refine ⟨_, rfl, n, rfl, by omega, by omega, for_range (lo := 0) (n := ((n : Nat) : Int).toNat) (fun i σ H' => ∃ (f : Addr) (xs : List V) (y2 y3 : Option V), σ = [some (.int n), some (.ref f), y2, y3] ∧ Same H H' ∧ H' f = some (.lst xs) ∧ DhAll K H' xs ((patsOf i).map ctD))
      ⟨f, _, none, none, rfl, s12, e2, .cons (.tup (SqT.of (s2 _ _ e1)) .nil) .nil⟩ ?_ ?_⟩
    · rintro i σ H0 hi ⟨f, xs, y2, y3, rfl, sm, hf, hc⟩
      rw [Int.toNat_natCast] at hi
      have h32 := pow5 (show i ≤ 5 by omega)
      have hlen : xs.length = 2 ^ i := by rw [hc.length, List.length_map, pats_len]
      refine ⟨_, rfl, ?_⟩
      refine ⟨_, rfl, f, rfl, ⟨xs, SqL.of hf⟩, fun D nD => lc_list (K := K) (xs := xs) (fun j H' => ∃ acc, Same H0 H' ∧ H' D = some (.lst acc) ∧ acc.length = j ∧ DhAll K H' acc (((patsOf i).take j).map fun q => ctD (q ++ [(i : Int)]))) ⟨[], same_new nD, upd_same, rfl, by rw [List.take_zero]; exact .nil⟩ (fun j H' _ ⟨_, s', _⟩ => s'.seq (SqL.of hf)) ?_ ?_⟩
      · rintro j x H' hx ⟨acc, s', hD, hal, hac⟩
        obtain ⟨d, hd, hxc⟩ := hc.get hx
        obtain ⟨c, hcq, rfl⟩ := map_at hd
        have hasc := mem_pats.mp (List.mem_of_getElem? hcq)
        have hjl := (List.getElem?_eq_some_iff.mp hx).1
        refine ⟨rfl, ?_⟩
        dsimp only [tYes]
        rw [if_pos rfl]
        have hc5 : c.length ≤ 1000 := by
          have := hasc.len (by omega)
          omega
        refine ⟨_, rfl, _, rfl, by show 1 ≤ sizeLine; decide, fun r nr => cat_ct (K := K) (c := c) (j := (0 + (i : Int))) (hxc.ext (.of (s'.trans (same_new nr)))) hc5 upd_same fun v H3 s4 hv => ?_⟩
        have s5 : Same H' H3 := (same_new nr).trans s4
        refine ⟨acc, s5 _ _ hD, sz_small (by omega), acc ++ [v], Same.put nD (s'.trans s5), upd_same, by rw [List.length_append, hal]; rfl, ?_⟩
        have ep : Ext H3 (upd H3 D (.lst (acc ++ [v]))) := Ext.put (s5 _ _ hD)
        rw [List.take_add_one, hcq, List.map_append]
        refine ((hac.ext (.of s5)).ext ep).snoc ?_
        rw [Int.zero_add] at hv
        exact hv.ext ep
      · rintro H' ⟨acc, s', hD, hal, hac⟩
        have hal2 : acc.length = 2 ^ i := by rw [hal, hlen]
        rw [List.take_of_length_le (by rw [pats_len, hlen]; exact Nat.le_refl _)] at hac
        refine ⟨f, D, xs, acc, rfl, rfl, s' _ _ hf, hD, Nat.le_of_lt (sz_small (by omega)), fun p np => ?_⟩
        have sp : Same H' (upd H' p (.lst (xs ++ acc))) := same_new np
        refine ⟨p, _, _, _, rfl, (sm.trans s').trans sp, upd_same, ?_⟩
        show DhAll K _ (xs ++ acc) ((patsOf i ++ (patsOf i).map fun q => q ++ [(i : Int)]).map ctD)
        rw [List.map_append, List.map_map]
        exact DhAll.append (hc.ext (.of (s'.trans sp))) (hac.ext (.of sp))
    · rintro σ H' ⟨f, xs, y2, y3, rfl, sm, hf, hc⟩
      rw [Int.toNat_natCast] at hc
      refine ⟨_, rfl, sort_pats (SqL.of hf) hc (fun q hq => by have := (mem_pats.mp hq).len (by omega); omega) fun p ys qs' np hd pm => ?_⟩
      have sp : Same H' (upd H' p (.lst ys)) := same_new np
      exact q p ys qs' _ (sm.free np) (sm.trans sp) upd_same (hd.ext (.of sp)) (pats_all pm)

end
end Fm
namespace Fm
open PySem PySem.Spec PyProof.Rows L2
section
variable {P : Program} {w : World} {K : PySem.W.Frag} {mg : Str → Option Value} {base : Heap}

/-! ### rows drawn -/
theorem Keep.putN {H H' : Hp} {h c D : Addr} {o : HO} (x : HandOk H h c) (k : Keep h c H H') (n : H' D = none) : Keep h c H (upd H' D o) := k.same (same_new n)
/-- the items made so far -/
def itD (B : Int) (q : List Int) (m : Int) : Dt := .tup [ctD q, frD (lowZ m B)]
/-- a drawn row -/
def RowV (K : PySem.W.Frag) (H : Hp) (n : Int) (v : V) : Prop := ∃ ps, Dh K H v (.tup ps) ∧ Wf (.tup ps) ∧ (Dt.tup ps).isRow n = true ∧ (1 ≤ ps.length ∧ ps.length ≤ 4 ∧ ∀ e ∈ ps, e.p2.zz.2 ≤ 100) ∧ (∃ a o xs, v = .ref a ∧ H a = some (.frz o (.tup xs)) ∧ o.dict = none ∧ DhAll K H xs ps) ∧
  ∃ (B : Int) (qs : List (List Int)) (ms : List Int), 0 < B ∧ qs.length = ms.length ∧ ps = List.zipWith (itD B) qs ms ∧ sumI ms = B ∧ (∀ m ∈ ms, 1 ≤ m ∧ m ≤ B) ∧ qs.Nodup ∧ ∀ q ∈ qs, Asc n (-1) q
theorem RowV.ext {H H' : Hp} {n : Int} {v : V} (e : Ext H H') : RowV K H n v → RowV K H' n v := fun ⟨ps, h1, h2, h3, h4, ⟨a, o, xs, h5, h6, h7, h9⟩, h8⟩ => ⟨ps, h1.ext e, h2, h3, h4, ⟨a, o, xs, h5, e.frz h6, h7, h9.ext e⟩, h8⟩
def spLRow (K : PySem.W.Frag) : Sp := fun vs H Q _ => ∃ (h c : Addr) (n : Nat), vs = [.ref h, .int n] ∧ HandOk H h c ∧ n ≤ 5 ∧ ∀ v H', Keep h c H H' → RowV K H' n v → Q v H'
theorem itD_shr {B m : Int} (h1 : 1 ≤ m) (h2 : m ≤ B) : (frD (lowZ m B)).isShr = true := by
  have hB : 0 < B := by omega
  have hm : 0 ≤ m := by omega
  have f := low_fr (n := 1) (B := B.toNat) hB (by omega) hm (by omega)
  have g := low_gcd (t := m) hB hm
  obtain ⟨a1, a2⟩ := low_parts (t := m) hB
  have t1 : 1 ≤ (lowZ m B).1 := by
    rcases Int.lt_or_le 0 (lowZ m B).1 with h | h
    · exact h
    · have e : (lowZ m B).1 = 0 := by have := f.top0; omega
      rw [e, Int.mul_zero] at a1
      omega
  have t2 : (lowZ m B).1 ≤ (lowZ m B).2 := by have := f.top; omega
  show (decide (1 ≤ (lowZ m B).1) && (decide ((lowZ m B).1 ≤ (lowZ m B).2) && decide (gz (lowZ m B).1 (lowZ m B).2 = 1))) = true
  rw [decide_eq_true t1, decide_eq_true t2, decide_eq_true g]
  rfl
theorem itD_wf {n : Nat} {B m : Int} {q : List Int} (hn : n ≤ 5) (ha : Asc n (-1) q) (h1 : 1 ≤ m) (h2 : m ≤ B) (hB : B ≤ 100) : Wf (itD B q m) := by
  have f := low_fr (n := 1) (B := B.toNat) (by omega) (by omega) (show 0 ≤ m by omega) (show m ≤ ((1 : Nat) : Int) * B by omega)
  have b1 := f.bot
  have b2 := f.top
  have b3 := f.top0
  have b4 := f.pos
  have big : 100 ≤ B30 := by decide
  have ql := ha.len (by omega)
  refine .tup (by show 2 ≤ 10; decide) fun d hd => ?_
  simp only [List.mem_cons, List.not_mem_nil, or_false] at hd
  rcases hd with rfl | rfl
  · refine .tup (by rw [List.length_map]; omega) fun d hd => ?_
    obtain ⟨i, hi, rfl⟩ := List.mem_map.mp hd
    have := ha.mem i hi
    exact .int (by omega)
  · refine .tup (by show 2 ≤ 10; decide) fun d hd => ?_
    obtain ⟨i, hi, rfl⟩ := List.mem_map.mp hd
    simp only [List.mem_cons, List.not_mem_nil, or_false] at hi
    rcases hi with rfl | rfl
    · exact .int (by omega)
    · exact .int (by omega)
/-- such a row is right -/
theorem made_row {n : Nat} {B : Int} {qs : List (List Int)} {ms : List Int} (hn : n ≤ 5) (hl : qs.length = ms.length) (hq : ∀ q ∈ qs, Asc n (-1) q) (hp : qs.Pairwise fun x y => HT.lexLt x y = true) (h1 : ∀ m ∈ ms, 1 ≤ m ∧ m ≤ B) (hs : sumI ms = B) (hB : B ≤ 100) (h0 : 0 < B) (h4 : qs.length ≤ 4) :
    Wf (.tup (List.zipWith (itD B) qs ms)) ∧ (Dt.tup (List.zipWith (itD B) qs ms)).isRow n = true ∧ ∀ e ∈ List.zipWith (itD B) qs ms, e.p2.zz.2 ≤ 100 := by
  have mem : ∀ d ∈ List.zipWith (itD B) qs ms, ∃ q m, q ∈ qs ∧ m ∈ ms ∧ d = itD B q m := fun d hd => by
    obtain ⟨i, hi, rfl⟩ := List.mem_iff_getElem.mp hd
    rw [List.length_zipWith] at hi
    rw [List.getElem_zipWith]
    exact ⟨_, _, List.getElem_mem _, List.getElem_mem _, rfl⟩
  refine ⟨.tup (by rw [List.length_zipWith]; omega) fun d hd => ?_, ?_, fun d hd => ?_⟩
  rotate_left 2
  · obtain ⟨q, m, e1, e2, rfl⟩ := mem d hd
    have f := low_fr (n := 1) (B := B.toNat) (t := m) h0 (by omega) (by have := (h1 m e2).1; omega) (by have := (h1 m e2).2; omega)
    have z : (lowZ m B).2 ≤ 100 := by have := f.bot; omega
    exact z
  · obtain ⟨q, m, e1, e2, rfl⟩ := mem d hd
    exact itD_wf hn (hq q e1) (h1 m e2).1 (h1 m e2).2 hB
  · show rowGo n none (0, 1) _ = true
    rw [rowGo_eq]
    have a1 : (List.zipWith (itD B) qs ms).all Dt.isPair = true := List.all_eq_true.mpr fun d hd => by
      obtain ⟨q, m, _, _, rfl⟩ := mem d hd
      rfl
    have a2 : ((List.zipWith (itD B) qs ms).all fun d => d.p1.isPat n && d.p2.isShr) = true := List.all_eq_true.mpr fun d hd => by
      obtain ⟨q, m, e1, e2, rfl⟩ := mem d hd
      show ((ctD q).isPat n && (frD (lowZ m B)).isShr) = true
      rw [(hq q e1).isPat, itD_shr (h1 m e2).1 (h1 m e2).2]
      rfl
    have a3 : hdOk none (List.zipWith (itD B) qs ms) = true := by
      cases List.zipWith (itD B) qs ms <;> rfl
    have key : ∀ (qs : List (List Int)) (ms : List Int), qs.length = ms.length → (List.zipWith (itD B) qs ms).map (fun d => d.p1.ints) = qs ∧ (List.zipWith (itD B) qs ms).map (fun d => d.p2.zz) = ms.map fun m => lowZ m B := by
      intro qs
      induction qs with
      | nil =>
        intro ms h
        have : ms = [] := List.eq_nil_of_length_eq_zero h.symm
        subst this
        exact ⟨rfl, rfl⟩
      | cons q qs ih =>
        intro ms h
        match ms, h with
        | m :: ms, h =>
          obtain ⟨i1, i2⟩ := ih ms (by simpa using h)
          refine ⟨?_, ?_⟩
          · rw [List.zipWith_cons_cons, List.map_cons, i1]
            show (ctD q).ints :: qs = q :: qs
            rw [ints_ct]
          · rw [List.zipWith_cons_cons, List.map_cons, i2]
            rfl
    obtain ⟨k1, k2⟩ := key qs ms hl
    have a4 : adj ltE (List.zipWith (itD B) qs ms) = true := by
      refine adj_pw ?_
      have z : ((List.zipWith (itD B) qs ms).map fun d => d.p1.ints).Pairwise fun x y => HT.lexLt x y = true := by rw [k1]; exact hp
      exact List.pairwise_map.mp z
    have a5 : ((List.zipWith (itD B) qs ms).map fun d => d.p2.zz).foldl plusZ (0, 1) = (1, 1) := by
      rw [k2]
      exact sum_low h0 (fun m hm => by have := (h1 m hm).1; omega) hs
    rw [a1, a2, a3, a4, a5]
    rfl
theorem nodup_len {α : Type} [DecidableEq α] : ∀ (l D : List α), l.Nodup → (∀ x ∈ l, x ∈ D) → l.length ≤ D.length
  | [], _, _, _ => Nat.zero_le _
  | x :: l, D, hn, hs => by
    have h' := List.nodup_cons.mp hn
    have hx := hs x (List.mem_cons_self ..)
    have ih := nodup_len l (D.erase x) h'.2 fun y hy => (List.mem_erase_of_ne (show y ≠ x from by
      intro e
      rw [e] at hy
      exact h'.1 hy)).mpr (hs y (List.mem_cons_of_mem _ hy))
    rw [List.length_erase_of_mem hx] at ih
    have := List.length_pos_of_mem hx
    rw [List.length_cons]
    omega
end
end Fm
namespace Fm
open PySem PySem.Spec PyProof.Rows L2
section
variable {P : Program} {w : World} {K : PySem.W.Frag} {mg : Str → Option Value} {base : Heap}

/-! ### the patterns of a habit -/
theorem sw_trueS {el ta ea tb eb : Expr} {sc : Scope} {ps py : Pos} {y : Str} {l : Nat} {ev : Env} (h1 : ev.scope.kind = .function) (h2 : ev.scope.names.lookup y = some .local) (h3 : (py.line == ps.line) = true)
    (h4 : (sc.names.any fun (n, k) => n == y && (k == .local || k == .cell)) = false) : swapsWith (sc2 el ta ea tb eb sc ps) (some (.Name y py)) l ev = pure true := by
  have e1 : ev.kindOf y = some .local := h2
  have e2 : ev.blockKind = .function := by
    unfold Env.blockKind
    rw [h1] <;> rfl
  unfold swapsWith
  simp only [e2, e1, h4, Expr.pos, h3]
  rfl
def rgI (n : Nat) : List Int := (List.range n).map fun (i : Nat) => (i : Int)
theorem rgV_I (n : Nat) : rgV 0 (n : Int) = (rgI n).map V.int := by
  unfold rgV rgI
  rw [List.map_map]
  have e : ((n : Int) - 0).toNat = n := by omega
  rw [e]
  refine List.map_congr_left fun i _ => ?_
  show V.int (0 + (i : Int)) = V.int (i : Int)
  rw [Int.zero_add]
def spCols (K : PySem.W.Frag) : Sp := fun vs H Q _ => ∃ n : Nat, vs = [.int n] ∧ n ≤ 1000 ∧ ∀ b H', Same H H' → H' b = some (.tup ((rgI n).map V.int)) → Q (.ref b) H'
theorem ok_all_columns (T : Txt K mg) : FnOk P w K mg base CX0 1 T.f_all_columns T.d_all_columns ["columns"] (spCols K) := by
  refine T.F_all_columns.ok sc_all_columns (fun vs H Q E h => ?_) (fun cdv A outer s H vs Q E hr h => ?_)
  · obtain ⟨_, rfl, _⟩ := h
    rfl
  · obtain ⟨n, rfl, hn, q⟩ := h
    refine ⟨_, (pss_one (ps_ret (pe_tupRg rfl (by rfl) T.z_tuple (prg_1 (by rfl) T.z_range (pv 0))))), ?_⟩
    refine ⟨_, rfl, _, rfl, RgOk.of_le (by omega) (by omega) (by omega) (by omega), fun p np => ?_⟩
    rw [rgV_I]
    exact q _ _ (same_new np) upd_same
def keysD (d : Dt) : List (List Int) := (rowL d).map (·.1)
/-- ascending, and just those of S -/
def SortedOf (qs S : List (List Int)) : Prop := qs.Pairwise (fun x y => HT.lexLt x y = true) ∧ ∀ q, q ∈ qs ↔ q ∈ S
theorem lex_irr (x : List Int) : HT.lexLt x x = false := by
  rw [lexLt_dec]
  exact decide_eq_false fun h => List.lt_irrefl _ h
theorem lex_asym {x y : List Int} (h : HT.lexLt x y = true) (h' : HT.lexLt y x = true) : False := by
  rw [lexLt_dec] at h h'
  exact List.lt_irrefl _ (List.lt_trans (of_decide_eq_true h) (of_decide_eq_true h'))
theorem sorted_one : ∀ {xs ys : List (List Int)}, xs.Pairwise (fun x y => HT.lexLt x y = true) → ys.Pairwise (fun x y => HT.lexLt x y = true) → (∀ q, q ∈ xs ↔ q ∈ ys) → xs = ys
  | [], [], _, _, _ => rfl
  | [], y :: _, _, _, h => by cases (h y).mpr (List.mem_cons_self ..)
  | x :: _, [], _, _, h => by cases (h x).mp (List.mem_cons_self ..)
  | x :: xs, y :: ys, hx, hy, h => by
    have hx' := List.pairwise_cons.mp hx
    have hy' := List.pairwise_cons.mp hy
    have e : x = y := by
      rcases List.mem_cons.mp ((h x).mp (List.mem_cons_self ..)) with z | z
      · exact z
      · rcases List.mem_cons.mp ((h y).mpr (List.mem_cons_self ..)) with u | u
        · exact u.symm
        · exact (lex_asym (hy'.1 x z) (hx'.1 y u)).elim
    subst e
    rw [sorted_one hx'.2 hy'.2 fun q => ?_]
    have hq := h q
    rw [List.mem_cons, List.mem_cons] at hq
    constructor
    · intro z
      rcases hq.mp (.inr z) with u | u
      · have := hx'.1 q z
        rw [u, lex_irr] at this
        cases this
      · exact u
    · intro z
      rcases hq.mpr (.inr z) with u | u
      · have := hy'.1 q z
        rw [u, lex_irr] at this
        cases this
      · exact u
theorem SortedOf.one {qs qs' S S' : List (List Int)} (h : SortedOf qs S) (h' : SortedOf qs' S') (e : ∀ q, q ∈ S ↔ q ∈ S') : qs = qs' := sorted_one h.1 h'.1 fun q => ((h.2 q).trans (e q)).trans (h'.2 q).symm
/-- all that a habit shows, and ALL -/
def showsD (n : Nat) (ds : List Dt) : List (List Int) := rgI n :: ds.flatMap keysD
theorem asc_rg : ∀ (n : Nat), Asc n (-1) (rgI n) := fun n => by
  have key : ∀ (m k : Nat), Asc ((k + m : Nat) : Int) ((k : Int) - 1) ((List.range' k m).map fun (i : Nat) => (i : Int)) := by
    intro m
    induction m with
    | zero => intro k; exact True.intro
    | succ m ih =>
      intro k
      rw [List.range'_succ, List.map_cons]
      refine ⟨by omega, by omega, ?_⟩
      have z := ih (k + 1)
      have e1 : ((k + 1 : Nat) : Int) - 1 = (k : Int) := by omega
      have e2 : k + 1 + m = k + (m + 1) := by omega
      rw [e1, e2] at z
      exact z
  have z := key n 0
  rw [Nat.zero_add] at z
  unfold rgI
  rw [List.range_eq_range']
  exact z
theorem keys_asc {n : Int} {d : Dt} (h : d.isRow n = true) : ∀ q ∈ keysD d, Asc n (-1) q := by
  obtain ⟨ps, rfl, hi⟩ := isRow_inv h
  intro q hq
  obtain ⟨it, hit, rfl⟩ := List.mem_map.mp hq
  obtain ⟨e, he, rfl⟩ := List.mem_map.mp hit
  obtain ⟨p, _, hp, ha⟩ := hi e he
  show Asc n (-1) e.p1.ints
  rw [hp, ints_ct]
  exact ha
theorem shows_asc {ss : List Int} {ds : List Dt} (h : Rows ss ds) : ∀ q ∈ showsD ss.length ds, Asc ss.length (-1) q := fun q hq => by
  rcases List.mem_cons.mp hq with e | hq
  · rw [e]
    exact asc_rg _
  · obtain ⟨d, hd, hq⟩ := List.mem_flatMap.mp hq
    exact keys_asc (h.row d hd) q hq
theorem few_pats {n : Nat} (hn : n ≤ 5) {l : List (List Int)} (nd : l.Nodup) (h : ∀ q ∈ l, Asc n (-1) q) : l.length ≤ 32 := by
  have := nodup_len l (patsOf n) nd fun q hq => mem_pats.mpr (h q hq)
  rw [pats_len] at this
  have := (pow5 hn).2
  omega
/-- the set while it is made -/
structure SetMade (K : PySem.W.Frag) (P : Program) (w : World) (H0 H : Hp) (D : Addr) (S : List (List Int)) : Prop where
  same : Same H0 H
  ex : ∃ L : List (Addr × List Int), H D = some (SetTO P w D L) ∧ TupsAt K H0 L ∧ (L.map (·.2)).Nodup ∧ ∀ q, q ∈ L.map (·.2) ↔ q ∈ S
theorem put_nodup {L L' : List (Addr × List Int)} {b : Addr} {k : List Int} (h : PutIn L b k L') (nd : (L.map (·.2)).Nodup) : (L'.map (·.2)).Nodup ∧ ∀ q, q ∈ L'.map (·.2) ↔ q ∈ L.map (·.2) ∨ q = k := by
  by_cases e : k ∈ L.map (·.2)
  · rw [h.1 e]
    refine ⟨nd, fun q => ⟨.inl, fun z => z.elim id fun z => by rw [z]; exact e⟩⟩
  · have pm := (h.2 e).map (·.2)
    refine ⟨pm.nodup_iff.mpr (List.nodup_cons.mpr ⟨e, nd⟩), fun q => ?_⟩
    rw [pm.mem_iff, List.map_cons, List.mem_cons]
    exact ⟨fun z => z.symm, fun z => z.symm⟩
theorem put_mem {L L' : List (Addr × List Int)} {b : Addr} {k : List Int} (h : PutIn L b k L') {p : Addr × List Int} (hp : p ∈ L') : p ∈ L ∨ p = (b, k) := by
  by_cases e : k ∈ L.map (·.2)
  · rw [h.1 e] at hp
    exact .inl hp
  · rcases List.mem_cons.mp ((h.2 e).mem_iff.mp hp) with z | z
    · exact .inr z
    · exact .inl z
def spPatterns (K : PySem.W.Frag) (C : Addr) : Sp := fun vs H Q _ => ∃ (x : Addr) (ss : List Int) (ds : List Dt), vs = [.ref x] ∧ Hb K C H x ss ds ∧ SizesOk ss ∧ Rows ss ds ∧
  ∀ (p : Addr) (xs : List V) (qs : List (List Int)) (H' : Hp), Same H H' → H' p = some (.tup xs) → DhAll K H' xs (qs.map ctD) → SortedOf qs (showsD ss.length ds) → Q (.ref p) H'
theorem tups_dh {H : Hp} : ∀ {L : List (Addr × List Int)}, TupsAt K H L → DhAll K H (L.map fun q => V.ref q.1) ((L.map (·.2)).map ctD)
  | [], _ => .nil
  | p :: L, h => .cons (dh_ct (h p (List.mem_cons_self ..))) (tups_dh fun z hz => h z (List.mem_cons_of_mem _ hz))
theorem ok_patterns (T : Txt K mg) : FnOk P w K mg base CX0 2 T.f_patterns T.d_patterns ["habit"] (spPatterns K T.c_Habit) := by
  refine T.F_patterns.ok sc_patterns (fun vs H Q E h => ?_) (fun cdv A outer s H vs Q E hr h => ?_)
  · obtain ⟨_, _, _, rfl, _⟩ := h
    rfl
  · obtain ⟨x, ss, ds, rfl, hh, ok, rw', q⟩ := h
    obtain ⟨dx, u1, u2, hx, g1, g2⟩ := hh.ex
    have hl5 := ok.facts.2.1
    obtain ⟨sa, rfl, hsa⟩ := ct_inv g1
    obtain ⟨ra, rs, rfl, hra, hrs⟩ := g2.tup_inv
    refine ⟨_, (pss_cons (ps_setSc2 (i := 1) (K := K) (P := P) (w := w) (own := [("row", 2), ("shown", 3), ("part", 4)]) (vs1 := [3, 4]) rfl hr.units sc_patterns.nd rfl rfl (sw_trueS rfl rfl rfl (by decide +kernel)) (pi_tupK K (pe_fld (pv 0) rfl)) (blkOk_by (N := N_patterns) (sc := defScope s_patterns) (by decide +kernel)) (by decide) (fun _ _ _ _ _ => (pg_name (i := 2) sc_patterns.nd rfl (.inl rfl))) (fun _ _ _ _ _ => (pi_tupK K (pv 2))) (fun _ _ _ _ _ => (pg_tupK K (n := 2) rfl (pgs_cons (pg_name (i := 3) sc_patterns.nd rfl (.inl rfl)) (pgs_cons (pg_name (i := 4) sc_patterns.nd rfl (.inl rfl)) pgs_nil)))) (fun _ _ _ _ _ => (pv 3)))
      (pss_cons (ps_expr (pe_saddT (K := K) (P := P) (w := w) hr.units (pv 1) (pa_cons (pe_call (ok_all_columns T) hr (by rfl) T.g_all_columns T.F_all_columns.kp T.b_all_columns .nil pass0 (pa_cons (pe_callB (call_lenK K) (by rfl) T.z_len PySem.boot_len (pa_cons (pe_fld (pv 0) rfl) pa_nil)) pa_nil)) pa_nil)))
      (pss_one (ps_ret (pe_callTy (call_tupleK K) (by rfl) T.z_tuple (by decide +kernel) (pa_cons (pe_callB (call_sortSU (K := K) (P := P) (w := w) rfl hr.units) (by rfl) T.z_sorted (by decide +kernel) (pa_cons (pv 1) pa_nil)) pa_nil)))))), ?_⟩
    refine ⟨_, rfl, x, _, dx, _, _, rfl, hx, T.l_Habit, T.a_rows, rfl, ra, rfl, ⟨rs, hra⟩, fun D nD => ?_⟩
    refine ⟨fun i m H' => m + i = rs.length ∧ SetMade K P w H H' D ((ds.take i).flatMap keysD), ⟨rs.length, rfl, same_new nD, [], upd_same, (fun p hp => by cases hp), List.nodup_nil, fun q => by rw [List.take_zero]; exact Iff.rfl⟩, ?_⟩
    rintro i m H' ⟨em, sm, L0, hD, hL0, nd0, mem0⟩
    by_cases hi : i < rs.length
    · refine .inr ⟨⟨rs, rs[i], (Ext.of sm).sqT hra, List.getElem?_eq_getElem hi⟩, fun H' => SetMade K P w H H' D ((ds.take (i + 1)).flatMap keysD), fun H' h => ⟨m - 1, by omega, by omega, h⟩, ?_⟩
      rintro y H2 ⟨rfl, hy⟩
      have hy := hy rs ((Ext.of sm).sqT hra)
      obtain ⟨d, hd, hyd⟩ := hrs.get hy
      obtain ⟨row, er, hitems⟩ := isRow_inv (rw'.row d (List.mem_of_getElem? hd))
      rw [er] at hyd
      obtain ⟨wa, ws, rfl, hwa, hws⟩ := hyd.tup_inv
      have hwl := hws.length
      have etake : ds.take (i + 1) = ds.take i ++ [d] := by
        rw [List.take_add_one, hd]
        rfl
      have ekd : keysD d = row.map fun e => e.p1.ints := by
        rw [er]
        show (row.map fun e => (e.p1.ints, e.p2.zz)).map (·.1) = _
        rw [List.map_map]
        rfl
      have keysub : ∀ q ∈ (ds.take i).flatMap keysD ++ keysD d, Asc ss.length (-1) q := fun q hq => by
        rcases List.mem_append.mp hq with hq | hq
        · obtain ⟨d', hd', hq⟩ := List.mem_flatMap.mp hq
          exact keys_asc (rw'.row d' (List.mem_of_mem_take hd')) q hq
        · exact keys_asc (rw'.row d (List.mem_of_getElem? hd)) q hq
      refine ⟨rfl, ?_⟩
      refine ⟨_, rfl, wa, rfl, ⟨ws, (Ext.of sm).sqT hwa⟩, ?_⟩
      refine ⟨fun j k G => k + j = ws.length ∧ SetMade K P w H G D ((ds.take i).flatMap keysD ++ (row.take j).map fun e => e.p1.ints), ⟨ws.length, rfl, sm, L0, hD, hL0, nd0, fun q => by rw [List.take_zero, List.map_nil, List.append_nil]; exact mem0 q⟩, ?_⟩
      rintro j k G ⟨ek, sg, L, hG, hL, nd, mem⟩
      by_cases hj : j < ws.length
      · refine .inr ⟨⟨ws, ws[j], (Ext.of sg).sqT hwa, List.getElem?_eq_getElem hj⟩, fun G => SetMade K P w H G D ((ds.take i).flatMap keysD ++ (row.take (j + 1)).map fun e => e.p1.ints), fun G h => ⟨k - 1, by omega, by omega, h⟩, ?_⟩
        rintro y2 G2 ⟨rfl, hy2⟩
        have hy2 := hy2 ws ((Ext.of sg).sqT hwa)
        obtain ⟨e, he, hye⟩ := hws.get hy2
        obtain ⟨p, hp, hp1, _⟩ := hitems e (List.mem_of_getElem? he)
        rw [hp] at hye
        obtain ⟨b, ys, rfl, hb, hys⟩ := hye.tup_inv
        obtain ⟨w1, w2, rfl, k1, k2⟩ := dh_two hys
        obtain ⟨pa, rfl, hpa⟩ := ct_inv k1
        refine ⟨b, _, rfl, (Ext.of sg).sqT hb, rfl, _, _, rfl, _, _, rfl, rfl, rfl, ?_⟩
        have hpaG := (Ext.of sg).sqT hpa
        have few := few_pats hl5 nd fun q hq => keysub q (by
          rcases List.mem_append.mp ((mem q).mp hq) with z | z
          · exact List.mem_append_left _ z
          · refine List.mem_append_right _ ?_
            rw [ekd]
            obtain ⟨e', he', rfl⟩ := List.mem_map.mp z
            exact List.mem_map.mpr ⟨e', List.mem_of_mem_take he', rfl⟩)
        rw [List.length_map] at few
        refine ⟨_, rfl, pa, p, L, rfl, hpaG, hG, fun z hz => (Ext.of sg).sqT (hL z hz), by omega, fun L' pi => ?_⟩
        obtain ⟨nd', mem'⟩ := put_nodup pi nd
        refine ⟨Same.put nD sg, L', upd_same, fun z hz => ?_, nd', fun q => ?_⟩
        · rcases put_mem pi hz with u | u
          · exact hL z u
          · rw [u]
            exact hpa
        · rw [mem' q, mem q, List.take_add_one, he]
          simp only [Option.toList, List.map_append, List.map_cons, List.map_nil, List.mem_append, List.mem_singleton, hp1, ints_ct]
          exact or_assoc
      · refine .inl ⟨⟨ws, (Ext.of sg).sqT hwa, by omega⟩, sg, L, hG, hL, nd, fun q => ?_⟩
        rw [mem q, etake, List.flatMap_append, List.flatMap_cons, List.flatMap_nil, List.append_nil, ekd, show row.take j = row from List.take_of_length_le (by omega)]
    · refine .inl ⟨⟨rs, (Ext.of sm).sqT hra, by omega⟩, ?_⟩
      have hrl := hrs.length
      rw [List.take_of_length_le (by omega)] at mem0
      refine ⟨_, rfl, ⟨D, L0, rfl, hD⟩, ?_⟩
      refine ⟨_, rfl, x, _, dx, _, _, rfl, sm _ _ hx, T.l_Habit, T.a_sizes, rfl, sa, _, rfl, .inr ((Ext.of sm).sqT hsa), ss.length, by rw [List.length_map]; rfl, by omega, fun b H2 s2 hb => ?_⟩
      have sm2 := sm.trans s2
      have few := few_pats hl5 nd0 fun q hq => shows_asc rw' q (List.mem_cons_of_mem _ ((mem0 q).mp hq))
      rw [List.length_map] at few
      have hD2 := s2 _ _ hD
      refine ⟨D, b, rgI ss.length, L0, rfl, rfl, hD2, fun z hz => (Ext.of sm2).sqT (hL0 z hz), SqT.of hb, by omega, fun L' pi => ?_⟩
      obtain ⟨nd', mem'⟩ := put_nodup pi nd0
      have nb : b ≠ D := ne_of hb hD2 (fun e => by cases e)
      have sm3 : Same H (upd H2 D (SetTO P w D L')) := Same.put nD sm2
      have hb3 : (upd H2 D (SetTO P w D L')) b = some (.tup ((rgI ss.length).map V.int)) := by
        rw [upd_ne nb]
        exact hb
      have hL3 : TupsAt K (upd H2 D (SetTO P w D L')) L' := fun z hz => by
        rcases put_mem pi hz with u | u
        · exact (Ext.of sm3).sqT (hL0 z u)
        · rw [u]
          exact SqT.of hb3
      have hD3 : (upd H2 D (SetTO P w D L')) D = some (SetTO P w D L') := upd_same
      generalize upd H2 D (SetTO P w D L') = H3 at sm3 hb3 hL3 hD3 ⊢
      refine ⟨_, rfl, D, L', rfl, hD3, hL3, fun L2 p2 pm few2 pw np2 => ?_⟩
      have s4 : Same H3 (upd H3 p2 (.lst (L2.map fun q => V.ref q.1))) := same_new np2
      have h4 : (upd H3 p2 (.lst (L2.map fun q => V.ref q.1))) p2 = some (.lst (L2.map fun q => V.ref q.1)) := upd_same
      generalize upd H3 p2 (.lst (L2.map fun q => V.ref q.1)) = H4 at s4 h4 ⊢
      refine ⟨p2, _, rfl, .inl ⟨SqL.of h4, fun l nl => ?_⟩⟩
      have s5 := (sm3.trans s4).trans (same_new (o := HO.tup (L2.map fun q => V.ref q.1)) nl)
      refine q l _ (L2.map (·.2)) _ s5 upd_same (tups_dh fun z hz => (Ext.of (s4.trans (same_new nl))).sqT (hL3 z (pm.mem_iff.mp hz))) ⟨List.pairwise_map.mpr pw, fun k => ?_⟩
      rw [(pm.map (·.2)).mem_iff, mem' k, mem0 k]
      show _ ↔ k ∈ rgI ss.length :: _
      rw [List.mem_cons]
      exact or_comm

end
end Fm
namespace Fm
open PySem PySem.Spec PyProof.Rows L2
section
variable {P : Program} {w : World} {K : PySem.W.Frag} {mg : Str → Option Value} {base : Heap}

/-! ### what the law's own sums come to -/
theorem flat_nodup {n : Nat} : ∀ {l : List (List Int)}, l.Nodup → (l.flatMap (ext n)).Nodup
  | [], _ => List.nodup_nil
  | c :: l, h => by
    obtain ⟨h1, h2⟩ := List.nodup_cons.mp h
    rw [List.flatMap_cons]
    refine List.nodup_append.mpr ⟨?_, flat_nodup h2, fun a ha b hb e => ?_⟩
    · unfold ext
      refine List.pairwise_map.mpr (List.nodup_range.imp fun {x y} hne e => hne ?_)
      have := List.append_cancel_left e
      have := List.cons.inj this
      omega
    · obtain ⟨w, _, rfl⟩ := List.mem_map.mp ha
      obtain ⟨c', hc', hb⟩ := List.mem_flatMap.mp hb
      obtain ⟨w', _, rfl⟩ := List.mem_map.mp hb
      have z := (List.append_inj' e rfl).1
      rw [z] at h1
      exact h1 hc'
theorem allC_nodup (ss : List Int) : (allC ss).Nodup := by
  have key : ∀ (ss : List Int) (acc : List (List Int)), acc.Nodup → (ss.foldl stepC acc).Nodup := by
    intro ss
    induction ss with
    | nil => intro acc h; exact h
    | cons s ss ih => intro acc h; exact ih _ (flat_nodup h)
  exact key ss _ (List.nodup_cons.mpr ⟨fun h => (by cases h), List.nodup_nil⟩)
theorem nodup_ix {α : Type} {l : List α} (nd : l.Nodup) {i j : Nat} {x : α} (h1 : l[i]? = some x) (h2 : l[j]? = some x) : i = j := by
  obtain ⟨hi, e1⟩ := List.getElem?_eq_some_iff.mp h1
  obtain ⟨hj, e2⟩ := List.getElem?_eq_some_iff.mp h2
  have key := List.pairwise_iff_getElem.mp nd
  rcases Nat.lt_trichotomy i j with h | h | h
  · exact (key i j hi hj h (e1.trans e2.symm)).elim
  · exact h
  · exact (key j i hj hi h (e2.trans e1.symm)).elim
theorem place_ix {ss c : List Int} (ok : SizesOk ss) {i : Nat} (h : (allC ss)[i]? = some c) : (placeZ ss c).toNat = i := by
  obtain ⟨_, e⟩ := place_all ok (mem_allC.mp (List.mem_of_getElem? h))
  exact nodup_ix (allC_nodup ss) e h
theorem zip_keys {B : Int} : ∀ (qs : List (List Int)) (ms : List Int), qs.length = ms.length → (List.zipWith (itD B) qs ms).map (fun d => d.p1.ints) = qs
  | [], _, _ => by rw [List.zipWith_nil_left] <;> rfl
  | q :: qs, m :: ms, h => by
    rw [List.zipWith_cons_cons, List.map_cons, zip_keys qs ms (by simpa using h)]
    show (ctD q).ints :: qs = q :: qs
    rw [ints_ct]
/-- how much q has -/
def lookM (qs : List (List Int)) (ms : List Int) (q : List Int) : Int := match qs, ms with
  | k :: qs, m :: ms => if k = q then m else lookM qs ms q
  | _, _ => 0
theorem look_share {B : Int} (h0 : 0 < B) (q : List Int) : ∀ (qs : List (List Int)) (ms : List Int), shareIn (List.zipWith (itD B) qs ms) q = lowZ (lookM qs ms q) B
  | [], _ => (low_zero h0).symm
  | _ :: _, [] => (low_zero h0).symm
  | k :: qs, m :: ms => by
    rw [List.zipWith_cons_cons]
    unfold shareIn lookM
    rw [List.find?_cons]
    have e : (itD B k m).p1.ints = k := ints_ct k
    have ih := look_share h0 q qs ms
    unfold shareIn at ih
    by_cases hk : k = q
    · rw [if_pos hk, e, decide_eq_true hk]
      rfl
    · rw [if_neg hk, e, decide_eq_false hk]
      exact ih
theorem look_none {q : List Int} : ∀ {qs : List (List Int)} {ms : List Int}, q ∉ qs → lookM qs ms q = 0
  | [], _, _ => rfl
  | _ :: _, [], _ => rfl
  | k :: qs, m :: ms, h => by
    unfold lookM
    rw [if_neg fun e => h (by rw [e]; exact List.mem_cons_self ..), look_none fun z => h (List.mem_cons_of_mem _ z)]
theorem look_nn {q : List Int} : ∀ {qs : List (List Int)} {ms : List Int}, (∀ m ∈ ms, 1 ≤ m) → 0 ≤ lookM qs ms q
  | [], _, _ => Int.le_refl 0
  | _ :: _, [], _ => Int.le_refl 0
  | k :: qs, m :: ms, h => by
    unfold lookM
    split
    · have := h m (List.mem_cons_self ..)
      omega
    · exact look_nn fun z hz => h z (List.mem_cons_of_mem _ hz)
theorem foldl_acc : ∀ (l : List Int) (s : Int), l.foldl (· + ·) s = s + sumI l
  | [], s => by
    show s = s + 0
    omega
  | x :: l, s => by
    show l.foldl (· + ·) (s + x) = s + l.foldl (· + ·) (0 + x)
    rw [foldl_acc l (s + x), foldl_acc l (0 + x)]
    omega
theorem sumI_cons (x : Int) (l : List Int) : sumI (x :: l) = x + sumI l := by
  show l.foldl (· + ·) (0 + x) = _
  rw [foldl_acc l (0 + x)]
  omega
theorem sum_at_one {k : List Int} {m : Int} {f : List Int → Int} (hf : f k = 0) : ∀ {all : List (List Int)}, all.Nodup → k ∈ all → sumI (all.map fun q => if k = q then m else f q) = m + sumI (all.map f)
  | [], _, h => by cases h
  | q :: all, nd, h => by
    obtain ⟨n1, n2⟩ := List.nodup_cons.mp nd
    rw [List.map_cons, List.map_cons, sumI_cons, sumI_cons]
    by_cases e : k = q
    · have z : all.map (fun q => if k = q then m else f q) = all.map f := List.map_congr_left fun x hx => by
        rw [if_neg]
        intro e2
        rw [← e, e2] at n1
        exact n1 hx
      rw [z, if_pos e, ← e, hf]
      omega
    · rw [if_neg e, sum_at_one hf n2 ((List.mem_cons.mp h).resolve_left e)]
      omega
theorem sum_zeros : ∀ all : List (List Int), sumI (all.map fun _ => (0 : Int)) = 0
  | [] => rfl
  | _ :: all => by
    rw [List.map_cons, sumI_cons, sum_zeros all] <;> rfl
theorem sum_look {all : List (List Int)} (nd : all.Nodup) : ∀ {qs : List (List Int)} {ms : List Int}, qs.length = ms.length → qs.Nodup → (∀ q ∈ qs, q ∈ all) → sumI (all.map (lookM qs ms)) = sumI ms
  | [], [], _, _, _ => by
    have : all.map (lookM [] []) = all.map fun _ => (0 : Int) := List.map_congr_left fun _ _ => rfl
    rw [this]
    exact sum_zeros all
  | k :: qs, m :: ms, hl, hn, hs => by
    obtain ⟨n1, n2⟩ := List.nodup_cons.mp hn
    have e : all.map (lookM (k :: qs) (m :: ms)) = all.map fun q => if k = q then m else lookM qs ms q := List.map_congr_left fun _ _ => rfl
    rw [e, sum_at_one (look_none n1) nd (hs k (List.mem_cons_self ..)), sum_look nd (by simpa using hl) n2 fun q hq => hs q (List.mem_cons_of_mem _ hq), sumI_cons]
  | [], _ :: _, hl, _, _ => by cases hl
  | _ :: _, [], hl, _, _ => by cases hl
/-- the shares over all patterns -/
def toldL (row : List Dt) (all : List (List Int)) : List (Int × Int) := all.map (shareIn row)
theorem told_sum {B : Int} (h0 : 0 < B) {all qs : List (List Int)} {ms : List Int} (nd : all.Nodup) (hl : qs.length = ms.length) (hn : qs.Nodup) (hs : ∀ q ∈ qs, q ∈ all) (h1 : ∀ m ∈ ms, 1 ≤ m) (hB : sumI ms = B) : sumZ (toldL (List.zipWith (itD B) qs ms) all) = (1, 1) := by
  have e : toldL (List.zipWith (itD B) qs ms) all = (all.map (lookM qs ms)).map fun m => lowZ m B := by
    unfold toldL
    rw [List.map_map]
    exact List.map_congr_left fun q _ => look_share h0 q qs ms
  rw [e]
  refine sum_low h0 (fun m hm => ?_) (by rw [sum_look nd hl hn hs, hB])
  obtain ⟨q, _, rfl⟩ := List.mem_map.mp hm
  exact look_nn h1
theorem share_cases (row : List Dt) (q : List Int) : (shareIn row q = (0, 1) ∧ q ∉ row.map fun d => d.p1.ints) ∨ ∃ e ∈ row, e.p1.ints = q ∧ shareIn row q = e.p2.zz := by
  unfold shareIn
  cases h : row.find? fun d => decide (d.p1.ints = q) with
  | none =>
    refine .inl ⟨rfl, fun z => ?_⟩
    obtain ⟨d, hd, e⟩ := List.mem_map.mp z
    have := List.find?_eq_none.mp h d hd
    simp [e] at this
  | some d =>
    have h1 := List.mem_of_find?_eq_some h
    have h2 := List.find?_some h
    exact .inr ⟨d, h1, by simpa using h2, rfl⟩
theorem told_frs {n : Int} {row : List Dt} {all : List (List Int)} (hr : (Dt.tup row).isRow n = true) (hw : Wf (.tup row)) (l4 : row.length ≤ 4) (nd : all.Nodup) : Frs (toldL row all) := by
  refine ⟨fun p hp => ?_, ?_⟩
  · obtain ⟨q, _, rfl⟩ := List.mem_map.mp hp
    rcases share_cases row q with ⟨e, _⟩ | ⟨d, hd, _, e⟩
    · exact .inl e
    · rw [e]
      have wd := (hw.items).2 d hd
      have rg : rowGo n none (0, 1) row = true := hr
      rw [rowGo_eq] at rg
      simp only [Bool.and_eq_true] at rg
      have a2 := List.all_eq_true.mp rg.2.1 d hd
      rw [Bool.and_eq_true] at a2
      obtain ⟨x, y, rfl⟩ := pair_inv (List.all_eq_true.mp rg.1 d hd)
      exact .inr (shr_fr a2.2 ((wd.items).2 y (by simp)))
  · have e : nzs (toldL row all) = ((all.filter fun q => decide (shareIn row q ≠ (0, 1))).map (shareIn row)) := by
      unfold nzs toldL
      rw [List.filter_map]
      rfl
    rw [e, List.length_map]
    have z := nodup_len (all.filter fun q => decide (shareIn row q ≠ (0, 1))) (row.map fun d => d.p1.ints) (nd.filter _) fun q hq => by
      have h2 := (List.mem_filter.mp hq).2
      rcases share_cases row q with ⟨e, _⟩ | ⟨d, hd, e1, _⟩
      · rw [e] at h2
        simp at h2
      · exact List.mem_map.mpr ⟨d, hd, e1⟩
    rw [List.length_map] at z
    omega

end
end Fm
namespace Fm
open PySem PySem.Spec PyProof.Rows L2
section
variable {P : Program} {w : World} {K : PySem.W.Frag} {mg : Str → Option Value} {base : Heap}

/-! ### the law k04: what stands -/
/-- a row and its data -/
def RowD (K : PySem.W.Frag) (H : Hp) (n : Int) (x : V) (d : Dt) : Prop := ∃ (a : Addr) (o : Obj) (ws : List V) (ps : List Dt) (B : Int) (qs : List (List Int)) (ms : List Int), x = .ref a ∧ d = .tup ps ∧ H a = some (.frz o (.tup ws)) ∧ o.dict = none ∧ DhAll K H ws ps ∧ ps.length ≤ 4 ∧
  0 < B ∧ qs.length = ms.length ∧ ps = List.zipWith (itD B) qs ms ∧ sumI ms = B ∧ (∀ m ∈ ms, 1 ≤ m) ∧ qs.Nodup ∧ ∀ q ∈ qs, Asc n (-1) q
theorem RowD.ext {H H' : Hp} {n : Int} {x : V} {d : Dt} (e : Ext H H') : RowD K H n x d → RowD K H' n x d := fun ⟨a, o, ws, ps, B, qs, ms, h1, h2, h3, h4, h5, h6⟩ => ⟨a, o, ws, ps, B, qs, ms, h1, h2, e.frz h3, h4, h5.ext e, h6⟩
theorem rows_data {H : Hp} {n : Nat} : ∀ {xs : List V}, (∀ x ∈ xs, RowV K H n x) → ∃ ds, DhAll K H xs ds ∧ (∀ d ∈ ds, d.isRow n = true) ∧ (∀ d ∈ ds, Wf d) ∧ ∀ (i : Nat) x d, xs[i]? = some x → ds[i]? = some d → RowD K H n x d
  | [], _ => ⟨[], .nil, (fun d hd => by cases hd), (fun d hd => by cases hd), fun i x d h => by simp at h⟩
  | x :: xs, h => by
    obtain ⟨ps, h1, h2, h3, ⟨_, h4, _⟩, ⟨a, o, ws, e1, e2, e3, e4⟩, B, qs, ms, b1, b2, b3, b4, b5, b6, b7⟩ := h x (List.mem_cons_self ..)
    obtain ⟨ds, k1, k2, k3, k4⟩ := rows_data (xs := xs) fun y hy => h y (List.mem_cons_of_mem _ hy)
    refine ⟨.tup ps :: ds, .cons h1 k1, fun d hd => ?_, fun d hd => ?_, fun i y d hy hd => ?_⟩
    · rcases List.mem_cons.mp hd with e | e
      · rw [e]; exact h3
      · exact k2 d e
    · rcases List.mem_cons.mp hd with e | e
      · rw [e]; exact h2
      · exact k3 d e
    · cases i with
      | zero =>
        simp only [List.getElem?_cons_zero, Option.some.injEq] at hy hd
        subst hy hd
        exact ⟨a, o, ws, ps, B, qs, ms, e1, rfl, e2, e3, e4, h4, b1, b2, b3, b4, fun m hm => (b5 m hm).1, b6, b7⟩
      | succ i =>
        simp only [List.getElem?_cons_succ] at hy hd
        exact k4 i y d hy hd
/-- the pairs of a row -/
theorem prs_of {H : Hp} {n : Int} : ∀ {ws : List V} {ps : List Dt}, DhAll K H ws ps → (∀ e ∈ ps, ∃ p, e = .tup [ctD p, frD e.p2.zz] ∧ e.p1 = ctD p ∧ Asc n (-1) p) →
    ∃ M : Prs, M.map (fun m => V.ref m.1) = ws ∧ PrsAt K H M ∧ M.map (fun m => m.2.2.1) = ps.map (fun e => e.p1.ints) ∧ ∀ H', Same H H' → ∀ (q : List Int) (z : V), Dh K H' z (frD (0, 1)) → Dh K H' ((((M.map (·.2)).find? fun p => decide (p.2.1 = q)).map (·.2.2)).getD z) (frD (shareIn ps q))
  | _, _, .nil, _ => ⟨[], rfl, (fun m hm => by cases hm), rfl, fun H' _ q z hz => hz⟩
  | _, _, .cons (d := d) h t, hp => by
    obtain ⟨M, e1, e2, e3, e4⟩ := prs_of t fun e he => hp e (List.mem_cons_of_mem _ he)
    obtain ⟨p, hd, hd1, _⟩ := hp d (List.mem_cons_self ..)
    rw [hd] at h
    obtain ⟨b, ys, rfl, hb, hys⟩ := h.tup_inv
    obtain ⟨w1, w2, rfl, k1, k2⟩ := dh_two hys
    obtain ⟨pa, rfl, hpa⟩ := ct_inv k1
    refine ⟨(b, pa, p, w2) :: M, by rw [List.map_cons, e1], fun m hm => ?_, by rw [List.map_cons, List.map_cons, e3, hd1, ints_ct], fun H' s q z hz => ?_⟩
    · rcases List.mem_cons.mp hm with u | u
      · rw [u]
        exact ⟨hb, hpa⟩
      · exact e2 m u
    · have ih := e4 H' s q z hz
      rw [List.map_cons, List.find?_cons]
      unfold shareIn
      rw [List.find?_cons, hd1, ints_ct]
      show Dh K H' (((match decide (p = q) with | true => some (pa, p, w2) | false => (List.map (fun m : Addr × Addr × List Int × V => m.2) M).find? fun u : Addr × List Int × V => decide (u.2.1 = q)).map fun u : Addr × List Int × V => u.2.2).getD z) _
      by_cases e : p = q
      · rw [decide_eq_true e]
        exact k2.ext (.of s)
      · rw [decide_eq_false e]
        unfold shareIn at ih
        exact ih
/-- what stands through a turn -/
structure BB (K : PySem.W.Frag) (C h c a r x dx ev : Addr) (ss : List Int) (ds : List Dt) (rs exs : List V) (qs : List (List Int)) (H : Hp) : Prop where
  hand : HandOk H h c
  sz : SqT K H a (ss.map V.int)
  rt : SqT K H r rs
  rd : DhAll K H rs ds
  rv : ∀ (i : Nat) y d, rs[i]? = some y → ds[i]? = some d → RowD K H ss.length y d
  ins : H x = some (.ins C dx (hfs (.ref a) (.ref r)))
  ev : H ev = some (.lst exs)
  exs : DhAll K H exs (qs.map ctD)
theorem BB.same {C h c a r x dx ev : Addr} {ss : List Int} {ds : List Dt} {rs exs : List V} {qs : List (List Int)} {H H' : Hp} (y : BB K C h c a r x dx ev ss ds rs exs qs H) (s : Same H H') : BB K C h c a r x dx ev ss ds rs exs qs H' :=
  ⟨y.hand.same s, (Ext.of s).sqT y.sz, (Ext.of s).sqT y.rt, y.rd.ext (.of s), fun i z d h1 h2 => (y.rv i z d h1 h2).ext (.of s), s _ _ y.ins, s _ _ y.ev, y.exs.ext (.of s)⟩
theorem BB.hb {C h c a r x dx ev : Addr} {ss : List Int} {ds : List Dt} {rs exs : List V} {qs : List (List Int)} {H : Hp} (y : BB K C h c a r x dx ev ss ds rs exs qs H) : Hb K C H x ss ds := ⟨dx, _, _, y.ins, dh_ct y.sz, .tup y.rt y.rd⟩
/-- the dict of what was shown so far; B: the heap ahead of it -/
structure Shn (K : PySem.W.Frag) (P : Program) (w : World) (B H : Hp) (sd kb : Addr) (n : Nat) (S : List (List Int)) : Prop where
  same : Same B H
  key : H kb = some (.tup ((rgI n).map V.int))
  ex : ∃ L : List (Addr × List Int), H sd = some (DTO P w sd (KeyF L)) ∧ (∀ p ∈ L, p = (kb, rgI n) ∨ SqT K B p.1 (p.2.map V.int)) ∧ (L.map (·.2)).Nodup ∧ ∀ q, q ∈ L.map (·.2) ↔ q ∈ rgI n :: S
theorem Shn.go {B H H' : Hp} {sd kb : Addr} {n : Nat} {S : List (List Int)} (y : Shn K P w B H sd kb n S) (s : Same H H') : Shn K P w B H' sd kb n S := by
  obtain ⟨h1, h2, L, h3, h4⟩ := y
  exact ⟨h1.trans s, s _ _ h2, L, s _ _ h3, h4⟩
theorem fr_list {H : Hp} {xs : List V} {l : List (Int × Int)} (h : DhAll K H xs (l.map frD)) : DhAll K H xs ((l.map fun p => [p.1, p.2]).map ctD) := by
  rw [List.map_map]
  exact h
theorem eqv_ctT (c d : List (List Int)) : PyData.eqv (.tuple (c.map ctP)) (.tuple (d.map ctP)) = decide (c = d) := by
  rw [PyData.eqv]
  exact eqv_all (f := fun c => ctP c) eqv_ct c d
theorem shaped_ctT (cs : List (List Int)) : SeqAt.shaped (.tuple (cs.map ctP)) = true := by
  obtain ⟨h1, h2⟩ := lay_all (f := fun c => ctP c) (n := 1) lay_ct cs
  exact shaped_of (n := 2) ⟨h1, Nat.succ_le_succ h2⟩ (by decide)
theorem dp_ctT {H : Hp} {a : Addr} {xs : List V} {cs : List (List Int)} (s : SqT K H a xs) (h : DhAll K H xs (cs.map ctD)) : Dp K H (.ref a) (.tuple (cs.map ctP)) := .tup s (dp_ctAll cs h)
theorem sqT_put {H : Hp} {a d : Addr} {xs : List V} {φ : Heap → Prop} {o : HO} (hd : H d = some (.ext φ)) (h : SqT K H a xs) : SqT K (upd H d o) a xs := by
  rcases h with (h | ⟨u, h⟩) | h
  · exact .inl (.inl (by rw [upd_ne (ne_of h hd fun e => by cases e)]; exact h))
  · exact .inl (.inr ⟨u, by rw [upd_ne (ne_of h hd fun e => by cases e)]; exact h⟩)
  · exact .inr h
/-- the contents, gone through -/
structure Cts (K : PySem.W.Frag) (H : Hp) (cp : Addr) (cs : List V) (ss : List Int) : Prop where
  lst : H cp = some (.lst cs)
  at' : ∀ (i : Nat) y, cs[i]? = some y → ∃ c b, (allC ss)[i]? = some c ∧ y = .ref b ∧ SqT K H b (c.map V.int)
theorem Cts.go {H H' : Hp} {cp : Addr} {cs : List V} {ss : List Int} (y : Cts K H cp cs ss) (s : Same H H') : Cts K H' cp cs ss := ⟨s _ _ y.lst, fun i z hz => by
  obtain ⟨c, b, h1, h2, h3⟩ := y.at' i z hz
  exact ⟨c, b, h1, h2, (Ext.of s).sqT h3⟩⟩
theorem Cts.put {H : Hp} {cp d : Addr} {cs : List V} {ss : List Int} {φ : Heap → Prop} {o : HO} (y : Cts K H cp cs ss) (hd : H d = some (.ext φ)) : Cts K (upd H d o) cp cs ss := ⟨by rw [upd_ne (ne_of y.lst hd fun e => by cases e)]; exact y.lst, fun i z hz => by
  obtain ⟨c, b, h1, h2, h3⟩ := y.at' i z hz
  exact ⟨c, b, h1, h2, sqT_put hd h3⟩⟩
theorem cts_of {H : Hp} {cp : Addr} {cs : List V} {ss : List Int} (h : H cp = some (.lst cs)) (hd : DhAll K H cs ((allC ss).map ctD)) : Cts K H cp cs ss := ⟨h, fun i z hz => by
  obtain ⟨d, e, hzd⟩ := hd.get hz
  obtain ⟨c, hc, rfl⟩ := map_at e
  obtain ⟨b, rfl, hb⟩ := ct_inv hzd
  exact ⟨c, b, hc, rfl, hb⟩⟩

end
end Fm
namespace Fm
open PySem PySem.Spec PyProof.Rows L2
section
variable {P : Program} {w : World} {K : PySem.W.Frag} {mg : Str → Option Value} {base : Heap}

/-! ### cells picked, boxes judged -/
def picks (ps c : List Int) : List Int := ps.map fun p => c.getD p.toNat 0
theorem picks_len (ps c : List Int) : (picks ps c).length = ps.length := List.length_map _
theorem pick_at {ps c : List Int} {i : Nat} {p : Int} (h : ps[i]? = some p) (hr : InR ps c.length) : atI (c.map V.int) p = some (.int (c.getD p.toNat 0)) ∧ (picks ps c).take (i + 1) = (picks ps c).take i ++ [c.getD p.toNat 0] := by
  obtain ⟨h0, h1⟩ := hr p (List.mem_of_getElem? h)
  have hl : p.toNat < c.length := by omega
  have e : c[p.toNat]? = some (c.getD p.toNat 0) := by
    rw [List.getD_eq_getElem?_getD, List.getElem?_eq_getElem hl]
    rfl
  refine ⟨at_of (j := p.toNat) (by omega) ?_, ?_⟩
  · rw [List.getElem?_map, e]
    rfl
  · have e2 : (picks ps c)[i]? = some (c.getD p.toNat 0) := by
      unfold picks
      rw [List.getElem?_map, h]
      rfl
    rw [List.take_add_one, e2]
    rfl
/-- [t[x] for x in ps] -/
theorem lc_pick {H : Hp} {σ : L2.St} {Q : VK} {a b : Addr} {ps cs : List Int} {kx kc : Nat} {tp : TE} (htp : ∀ R : VK, R (.ref a) H → tp σ H R) (ha : SqT K H a (ps.map V.int)) (hb : SqT K H b (cs.map V.int)) (hr : InR ps cs.length) (hl : ps.length ≤ 1000)
    (hw : ∀ x, wipe ((wipe σ [kx]).set kx (some x)) [kx] = wipe σ [kx]) (hc : ∀ x : V, ((wipe σ [kx]).set kx (some x))[kc]? = some (some (.ref b))) (hx : ∀ x : V, ((wipe σ [kx]).set kx (some x))[kx]? = some (some x))
    (q : ∀ D H', H D = none → Same H H' → H' D = some (.lst ((picks ps cs).map V.int)) → Q (.ref D) H') :
    tLc (iTup K tp) (gName kx) tYes (tOp (rIxT K) (tVar kc) (tVar kx)) [kx] σ H Q := by
  refine htp _ ⟨a, rfl, ⟨_, ha⟩, fun D hD => lc_tup (K := K) (xs := ps.map V.int) (fun i H' => Same H H' ∧ H' D = some (.lst (((picks ps cs).take i).map V.int))) ⟨same_new hD, upd_same⟩ (fun i H' _ p => (Ext.of p.1).sqT ha) ?_ ?_⟩
  · rintro i x H' hi ⟨sm, hDl⟩
    obtain ⟨p, rfl, hp⟩ := int_at hi
    obtain ⟨e1, e2⟩ := pick_at hp hr
    refine ⟨hw _, ?_⟩
    dsimp only [tYes]
    rw [if_pos rfl]
    refine ⟨_, hc _, _, hx _, b, _, p, _, rfl, rfl, (Ext.of sm).sqT hb, e1, _, hDl, ?_, fun c o e => ?_, ?_⟩
    · rw [List.length_map, List.length_take]
      exact sz_small (by have := picks_len ps cs; omega)
    · rw [upd_ne (ne_of_none e hD)]
      exact sm _ _ e
    · rw [upd_same, e2, List.map_append]
      rfl
  · rintro H' ⟨sm, hDl⟩
    rw [List.length_map, ← picks_len ps cs, List.take_length] at hDl
    exact q D H' hD sm hDl
def spPick (K : PySem.W.Frag) : Sp := fun vs H Q _ => ∃ (ps cs : List Int) (v1 v2 : V), vs = [v1, v2] ∧ Dh K H v1 (ctD ps) ∧ Dh K H v2 (ctD cs) ∧ InR ps cs.length ∧ ps.length ≤ 1000 ∧ ∀ v H', Same H H' → Dh K H' v (ctD (picks ps cs)) → Q v H'
theorem ok_worths_at (T : Txt K mg) : FnOk P w K mg base CX0 1 T.f_worths_at T.d_worths_at ["pattern", "content"] (spPick K) := by
  refine T.F_worths_at.ok sc_worths_at (fun vs H Q E h => ?_) (fun cdv A outer s H vs Q E hr h => ?_)
  · obtain ⟨_, _, _, _, rfl, _⟩ := h
    rfl
  · obtain ⟨ps, cs, v1, v2, rfl, h1, h2, hin, hl, q⟩ := h
    obtain ⟨a, rfl, ha⟩ := ct_inv h1
    obtain ⟨b, rfl, hb⟩ := ct_inv h2
    refine ⟨_, (pss_one (ps_ret (pe_callTy (call_tupleK K) (by rfl) T.z_tuple (by decide +kernel) (pa_cons (pe_lc (own := [("column", 2)]) rfl sc_worths_at.nd (pi_tupK K (pv 0)) (blkOk_by (N := N_worths_at) (sc := defScope s_worths_at) (by decide +kernel)) (fun _ _ _ _ _ => (pg_name (i := 2) sc_worths_at.nd rfl (.inl rfl))) (fun _ _ _ _ _ => pts_nil) (fun _ _ _ _ _ => (pe_ix (ix_tupK K) (pv 1) (pv 2) (fun _ _ => rfl)))) pa_nil)))), ?_⟩
    dsimp only [tRet, tCB, tCons]
    refine lc_pick (K := K) (kx := 2) (kc := 1) (tp := tVar 0) (σ := [some (.ref a), some (.ref b), none]) (fun R hR => ⟨_, rfl, hR⟩) ha hb hin hl (fun _ => rfl) (fun _ => rfl) (fun _ => rfl) fun D H' hD sm hDl => ?_
    exact ⟨D, _, rfl, .inl ⟨SqL.of hDl, fun l hl2 => q _ _ (sm.trans (same_new hl2)) (dh_ct (SqT.of upd_same))⟩⟩

/-! ### the least unlike pair -/
theorem lex_snoc {a b : List Int} (h : HT.lexLt a b = true) (hl : a.length = b.length) (x y : Int) : HT.lexLt (a ++ [x]) (b ++ [y]) = true := by
  induction a generalizing b with
  | nil =>
    cases b with
    | nil => rw [lex_irr] at h; cases h
    | cons _ _ => simp at hl
  | cons u a ih =>
    cases b with
    | nil => simp at hl
    | cons v b =>
      rw [List.cons_append, List.cons_append, HT.lexLt_cons]
      rw [HT.lexLt_cons] at h
      by_cases e : u = v
      · simp only [e] at h ⊢
        have z := ih (by simpa using h) (by simpa using hl)
        simpa using z
      · simpa [e] using h
theorem lex_same {a : List Int} {x y : Int} (h : x < y) : HT.lexLt (a ++ [x]) (a ++ [y]) = true := by
  induction a with
  | nil =>
    show HT.lexLt [x] [y] = true
    rw [lexLt_dec]
    exact decide_eq_true (List.cons_lt_cons_iff.mpr (.inl h))
  | cons u a ih =>
    rw [List.cons_append, List.cons_append, HT.lexLt_cons]
    simpa using ih
theorem flat_asc {n k : Nat} : ∀ {l : List (List Int)}, l.Pairwise (fun a b => HT.lexLt a b = true) → (∀ c ∈ l, c.length = k) → (l.flatMap (ext n)).Pairwise fun a b => HT.lexLt a b = true
  | [], _, _ => .nil
  | c :: l, h, hk => by
    obtain ⟨h1, h2⟩ := List.pairwise_cons.mp h
    rw [List.flatMap_cons]
    refine List.pairwise_append.mpr ⟨?_, flat_asc h2 fun d hd => hk d (List.mem_cons_of_mem _ hd), fun a ha b hb => ?_⟩
    · unfold ext
      refine List.pairwise_map.mpr ((List.pairwise_lt_range (n := n)).imp fun {x y} hxy => lex_same (by omega))
    · obtain ⟨x, _, rfl⟩ := List.mem_map.mp ha
      obtain ⟨c', hc', hb⟩ := List.mem_flatMap.mp hb
      obtain ⟨y, _, rfl⟩ := List.mem_map.mp hb
      exact lex_snoc (h1 c' hc') (by rw [hk c (List.mem_cons_self ..), hk c' (List.mem_cons_of_mem _ hc')]) _ _
theorem allC_asc (ss : List Int) : (allC ss).Pairwise fun a b => HT.lexLt a b = true := by
  have key : ∀ (ss : List Int) (acc : List (List Int)) (k : Nat), acc.Pairwise (fun a b => HT.lexLt a b = true) → (∀ c ∈ acc, c.length = k) → (ss.foldl stepC acc).Pairwise fun a b => HT.lexLt a b = true := by
    intro ss
    induction ss with
    | nil => intro acc k h _; exact h
    | cons s ss ih =>
      intro acc k h hk
      refine ih _ (k + 1) (flat_asc h hk) fun c hc => ?_
      obtain ⟨c', hc', hc⟩ := List.mem_flatMap.mp hc
      obtain ⟨y, _, rfl⟩ := List.mem_map.mp hc
      rw [List.length_append, hk c' hc']
      rfl
  exact key ss [[]] 0 (List.pairwise_cons.mpr ⟨fun z hz => (by cases hz), .nil⟩) fun c hc => by
    rw [List.mem_singleton.mp hc]
    rfl
theorem allC_lt {ss : List Int} {i j : Nat} {a b : List Int} (h1 : (allC ss)[i]? = some a) (h2 : (allC ss)[j]? = some b) : HT.lexLt a b = decide (i < j) := by
  obtain ⟨hi, e1⟩ := List.getElem?_eq_some_iff.mp h1
  obtain ⟨hj, e2⟩ := List.getElem?_eq_some_iff.mp h2
  have key := List.pairwise_iff_getElem.mp (allC_asc ss)
  rcases Nat.lt_trichotomy i j with h | h | h
  · have z := key i j hi hj h
    rw [e1, e2] at z
    rw [z, decide_eq_true h]
  · subst h
    rw [h1] at h2
    cases h2
    rw [lex_irr, decide_eq_false (Nat.lt_irrefl _)]
  · have z := key j i hj hi h
    rw [e1, e2] at z
    rw [decide_eq_false (by omega)]
    cases hz : HT.lexLt a b with
    | false => rfl
    | true => exact (lex_asym z hz).elim
section
variable {n : Nat} {W : Nat → List Int} {Z : Nat → Int × Int}
def BadU (n : Nat) (W : Nat → List Int) (Z : Nat → Int × Int) (i j : Nat) : Prop := i < j ∧ j < n ∧ W i = W j ∧ Z i ≠ Z j
def IsU (n : Nat) (W : Nat → List Int) (Z : Nat → Int × Int) : Option (Nat × Nat) → Prop
  | none => ∀ i j, ¬ BadU n W Z i j
  | some (i, j) => BadU n W Z i j ∧ ∀ i' j', BadU n W Z i' j' → i < i' ∨ (i = i' ∧ j ≤ j')
theorem isU_one : ∀ {r r' : Option (Nat × Nat)}, IsU n W Z r → IsU n W Z r' → r = r'
  | none, none, _, _ => rfl
  | none, some (i, j), h, h' => (h i j h'.1).elim
  | some (i, j), none, h, h' => (h' i j h.1).elim
  | some (i, j), some (i', j'), h, h' => by
    have a := h.2 i' j' h'.1
    have b := h'.2 i j h.1
    have e1 : i = i' := by omega
    have e2 : j = j' := by omega
    rw [e1, e2]
def First (W : Nat → List Int) (f j : Nat) : Prop := f ≤ j ∧ W f = W j ∧ ∀ g, g < f → W g ≠ W j
theorem first_ex (W : Nat → List Int) (j : Nat) : ∃ f, First W f j := by
  obtain ⟨k, h1, h2, h3⟩ := st_least (p := fun f => W f = W j) j rfl
  exact ⟨k, h1, h2, fun g hg => h3 g hg⟩
theorem first_one {f f' j : Nat} (h : First W f j) (h' : First W f' j) : f = f' := by
  rcases Nat.lt_trichotomy f f' with z | z | z
  · exact (h'.2.2 f z h.2.1).elim
  · exact z
  · exact (h.2.2 f' z h'.2.1).elim
/-- behind the first k contents -/
def LU (W : Nat → List Int) (Z : Nat → Int × Int) (k : Nat) : Option (Nat × Nat) → Prop
  | none => ∀ j f, j < k → First W f j → Z f = Z j
  | some (i, j) => j < k ∧ First W i j ∧ Z i ≠ Z j ∧ ∀ j' f', j' < k → First W f' j' → Z f' ≠ Z j' → i < f' ∨ (i = f' ∧ j ≤ j')
theorem lu_end : ∀ {r : Option (Nat × Nat)}, LU W Z n r → IsU n W Z r
  | none, h => fun i j ⟨h1, h2, h3, h4⟩ => by
    obtain ⟨f, hf⟩ := first_ex W j
    have a := h j f h2 hf
    have hi : First W f i := by
      refine ⟨?_, hf.2.1.trans h3.symm, fun g hg e => hf.2.2 g hg (e.trans h3)⟩
      rcases Nat.lt_or_ge i f with z | z
      · exact (hf.2.2 i z h3).elim
      · exact z
    have b := h i f (by omega) hi
    exact h4 (b.symm.trans a)
  | some (i, j), ⟨h1, h2, h3, h4⟩ => by
    have hij : i < j := by
      rcases Nat.lt_or_ge i j with z | z
      · exact z
      · have : i = j := by have := h2.1; omega
        rw [this] at h3
        exact (h3 rfl).elim
    refine ⟨⟨hij, h1, h2.2.1, h3⟩, fun i' j' ⟨k1, k2, k3, k4⟩ => ?_⟩
    obtain ⟨f, hf⟩ := first_ex W j'
    have hi : First W f i' := by
      refine ⟨?_, hf.2.1.trans k3.symm, fun g hg e => hf.2.2 g hg (e.trans k3)⟩
      rcases Nat.lt_or_ge i' f with z | z
      · exact (hf.2.2 i' z k3).elim
      · exact z
    by_cases e : Z f = Z j'
    · have ne : Z f ≠ Z i' := fun z => k4 (z.symm.trans e)
      have a := h4 i' f (by omega) hi ne
      have : f ≠ i' := fun z => ne (by rw [z])
      have := hi.1
      omega
    · have a := h4 j' f k2 hf e
      have := hi.1
      rcases a with a | ⟨a, b⟩
      · omega
      · rcases Nat.lt_or_ge f i' with z | z
        · omega
        · omega
theorem lu_keep {k f : Nat} (hf : First W f k) : ∀ {r : Option (Nat × Nat)}, LU W Z k r → (Z f = Z k ∨ ∃ i j, r = some (i, j) ∧ i ≤ f) → LU W Z (k + 1) r
  | none, h, e => fun j f' hj hf' => by
    rcases Nat.lt_or_ge j k with z | z
    · exact h j f' z hf'
    · have : j = k := by omega
      subst this
      rw [first_one hf' hf]
      rcases e with e | ⟨_, _, e, _⟩
      · exact e
      · cases e
  | some (i, j), ⟨h1, h2, h3, h4⟩, e => by
    refine ⟨by omega, h2, h3, fun j' f' hj hf' hne => ?_⟩
    rcases Nat.lt_or_ge j' k with z | z
    · exact h4 j' f' z hf' hne
    · have : j' = k := by omega
      subst this
      rw [first_one hf' hf] at hne ⊢
      rcases e with e | ⟨i', j'', e, e'⟩
      · exact (hne e).elim
      · cases e
        omega
theorem lu_put {k f : Nat} (hf : First W f k) (hne : Z f ≠ Z k) : ∀ {r : Option (Nat × Nat)}, LU W Z k r → (∀ i j, r = some (i, j) → f < i) → LU W Z (k + 1) (some (f, k))
  | none, h, _ => ⟨by omega, hf, hne, fun j' f' hj hf' hne' => by
    rcases Nat.lt_or_ge j' k with z | z
    · exact (hne' (h j' f' z hf')).elim
    · have : j' = k := by omega
      subst this
      exact .inr ⟨first_one hf hf', Nat.le_refl _⟩⟩
  | some (i, j), ⟨h1, h2, h3, h4⟩, e => ⟨by omega, hf, hne, fun j' f' hj hf' hne' => by
    have := e i j rfl
    rcases Nat.lt_or_ge j' k with z | z
    · have := h4 j' f' z hf' hne'
      omega
    · have : j' = k := by omega
      subst this
      exact .inr ⟨first_one hf hf', Nat.le_refl _⟩⟩
end

end
end Fm
namespace Fm
open PySem PySem.Spec PyProof.Rows L2
section
variable {P : Program} {w : World} {K : PySem.W.Frag} {mg : Str → Option Value} {base : Heap}

/-! ### unlike_pair_in -/
def WW (ss p : List Int) (i : Nat) : List Int := picks p ((allC ss).getD i [])
def ZZ (parts : List (Int × Int)) (i : Nat) : Int × Int := parts.getD i (0, 1)
def UnlV (K : PySem.W.Frag) (H : Hp) (ss : List Int) : Option (Nat × Nat) → V → Prop
  | none, v => v = .non
  | some (i, j), v => ∃ (a ca cb : Addr) (c d : List Int), v = .ref a ∧ SqT K H a [.ref ca, .ref cb] ∧ (allC ss)[i]? = some c ∧ (allC ss)[j]? = some d ∧ SqT K H ca (c.map V.int) ∧ SqT K H cb (d.map V.int)
theorem UnlV.go {H H' : Hp} {ss : List Int} (s : Same H H') : ∀ {r : Option (Nat × Nat)} {v : V}, UnlV K H ss r v → UnlV K H' ss r v
  | none, _, h => h
  | some (_, _), _, ⟨a, ca, cb, c, d, h1, h2, h3, h4, h5, h6⟩ => ⟨a, ca, cb, c, d, h1, (Ext.of s).sqT h2, h3, h4, (Ext.of s).sqT h5, (Ext.of s).sqT h6⟩
theorem UnlV.put {H : Hp} {ss : List Int} {f : Addr} {φ : Heap → Prop} {o : HO} (hf : H f = some (.ext φ)) : ∀ {r : Option (Nat × Nat)} {v : V}, UnlV K H ss r v → UnlV K (upd H f o) ss r v
  | none, _, h => h
  | some (_, _), _, ⟨a, ca, cb, c, d, h1, h2, h3, h4, h5, h6⟩ => ⟨a, ca, cb, c, d, h1, sqT_put hf h2, h3, h4, sqT_put hf h5, sqT_put hf h6⟩
def ValAt (K : PySem.W.Frag) (H : Hp) (v : V) (c : List Int) (z : Int × Int) : Prop := ∃ t ca pa, v = .ref t ∧ SqT K H t [.ref ca, .ref pa] ∧ SqT K H ca (c.map V.int) ∧ SqT K H pa [.int z.1, .int z.2]
theorem ValAt.go {H H' : Hp} {v : V} {c : List Int} {z : Int × Int} (s : Same H H') : ValAt K H v c z → ValAt K H' v c z := fun ⟨t, ca, pa, h1, h2, h3, h4⟩ => ⟨t, ca, pa, h1, (Ext.of s).sqT h2, (Ext.of s).sqT h3, (Ext.of s).sqT h4⟩
theorem ValAt.put {H : Hp} {f : Addr} {φ : Heap → Prop} {o : HO} {v : V} {c : List Int} {z : Int × Int} (hf : H f = some (.ext φ)) : ValAt K H v c z → ValAt K (upd H f o) v c z := fun ⟨t, ca, pa, h1, h2, h3, h4⟩ => ⟨t, ca, pa, h1, sqT_put hf h2, sqT_put hf h3, sqT_put hf h4⟩
/-- the dict of the first ones, behind k contents -/
structure Fst (K : PySem.W.Frag) (P : Program) (w : World) (H : Hp) (fd : Addr) (ss : List Int) (W : Nat → List Int) (Z : Nat → Int × Int) (k : Nat) (L : List (Addr × List Int × V)) : Prop where
  dict : H fd = some (DTO P w fd (ValF L))
  keys : ∀ p ∈ L, SqT K H p.1 (p.2.1.map V.int)
  len : L.length ≤ k
  non : ∀ q, (∀ j, j < k → W j ≠ q) → findT L q = none
  has : ∀ j, j < k → ∃ f v c, First W f j ∧ findT L (W j) = some v ∧ (allC ss)[f]? = some c ∧ ValAt K H v c (Z f)
theorem Fst.go {H H' : Hp} {fd : Addr} {ss : List Int} {W : Nat → List Int} {Z : Nat → Int × Int} {k : Nat} {L : List (Addr × List Int × V)} (y : Fst K P w H fd ss W Z k L) (s : Same H H') : Fst K P w H' fd ss W Z k L :=
  ⟨s _ _ y.dict, fun p hp => (Ext.of s).sqT (y.keys p hp), y.len, y.non, fun j hj => by
    obtain ⟨f, v, c, h1, h2, h3, h4⟩ := y.has j hj
    exact ⟨f, v, c, h1, h2, h3, h4.go s⟩⟩
theorem Fst.more {H : Hp} {fd : Addr} {ss : List Int} {W : Nat → List Int} {Z : Nat → Int × Int} {k : Nat} {L : List (Addr × List Int × V)} (y : Fst K P w H fd ss W Z k L) (h : ∃ f v c, First W f k ∧ findT L (W k) = some v ∧ (allC ss)[f]? = some c ∧ ValAt K H v c (Z f)) : Fst K P w H fd ss W Z (k + 1) L :=
  ⟨y.dict, y.keys, Nat.le_succ_of_le y.len, fun q hq => y.non q fun j hj => hq j (by omega), fun j hj => by
    rcases Nat.lt_or_ge j k with u | u
    · exact y.has j u
    · have : j = k := by omega
      subst this
      exact h⟩
theorem findT_app {L : List (Addr × List Int × V)} {b : Addr} {q q' : List Int} {v : V} : findT (L ++ [(b, q, v)]) q' = (findT L q').or (if q = q' then some v else none) := by
  unfold findT
  rw [List.find?_append]
  cases h : L.find? fun p => decide (p.2.1 = q') with
  | some p => rfl
  | none => by_cases e : q = q' <;> simp [e]
theorem frD_inv {H : Hp} {v : V} {p : Int × Int} (h : Dh K H v (frD p)) : ∃ a, v = .ref a ∧ SqT K H a [.int p.1, .int p.2] := ct_inv h
theorem Fst.new {H : Hp} {fd b : Addr} {ss : List Int} {W : Nat → List Int} {Z : Nat → Int × Int} {k : Nat} {L : List (Addr × List Int × V)} {v : V} {c : List Int} (y : Fst K P w H fd ss W Z k L) (hb : SqT K H b ((W k).map V.int)) (hn : findT L (W k) = none) (hf : First W k k) (hc : (allC ss)[k]? = some c) (hv : ValAt K H v c (Z k)) :
    Fst K P w (upd H fd (DTO P w fd (ValF (L ++ [(b, W k, v)])))) fd ss W Z (k + 1) (L ++ [(b, W k, v)]) :=
  ⟨upd_same, fun p hp => by
    rcases List.mem_append.mp hp with u | u
    · exact sqT_put y.dict (y.keys p u)
    · rw [List.mem_singleton.mp u]
      exact sqT_put y.dict hb, by rw [List.length_append]; exact Nat.succ_le_succ y.len, fun q hq => by
    rw [findT_app, y.non q fun j hj => hq j (by omega), if_neg (hq k (by omega))] <;> rfl, fun j hj => by
    rcases Nat.lt_or_ge j k with u | u
    · obtain ⟨f, v', c', h1, h2, h3, h4⟩ := y.has j u
      exact ⟨f, v', c', h1, by rw [findT_app, h2] <;> rfl, h3, h4.put y.dict⟩
    · have : j = k := by omega
      subst this
      exact ⟨j, v, c, hf, by rw [findT_app, hn, if_pos rfl] <;> rfl, hc, hv.put y.dict⟩⟩
def spUnl (K : PySem.W.Frag) : Sp := fun vs H Q _ => ∃ (a l : Addr) (ss p : List Int) (pvv : V) (ys : List V) (parts : List (Int × Int)), vs = [.ref a, pvv, .ref l] ∧ SqT K H a (ss.map V.int) ∧ SizesOk ss ∧ Dh K H pvv (ctD p) ∧ Asc ss.length (-1) p ∧ SqL K H l ys ∧ DhAll K H ys (parts.map frD) ∧
  parts.length = (allC ss).length ∧ ∀ (v : V) (H' : Hp) (r : Option (Nat × Nat)), Same H H' → IsU (allC ss).length (WW ss p) (ZZ parts) r → UnlV K H' ss r v → Q v H'
theorem ok_unlike_pair_in (T : Txt K mg) : FnOk P w K mg base CX0 2 T.f_unlike_pair_in T.d_unlike_pair_in ["sizes", "pattern", "parts"] (spUnl K) := by
  refine T.F_unlike_pair_in.ok sc_unlike_pair_in (fun vs H Q E h => ?_) (fun cdv A outer s H vs Q E hr h => ?_)
  · obtain ⟨_, _, _, _, _, _, _, rfl, _⟩ := h
    rfl
  · obtain ⟨a, l, ss, p, pvv, ys, parts, rfl, ha, ok, hp, asc, hl, hys, hpl, q⟩ := h
    obtain ⟨l1, h5, _⟩ := ok.facts
    have hplen := asc.len (by omega)
    refine ⟨_, (pss_cons (ps_set (i := 3) sc_unlike_pair_in.nd rfl (.inl rfl) (pe_dnewT (P := P) (w := w)))
      (pss_cons (ps_set (i := 4) sc_unlike_pair_in.nd rfl (.inl rfl) pe_non)
      (pss_cons (ps_for PassesOwn.never rfl (pi_zip (by rfl) T.z_zip (pa_cons (pe_call (ok_all_contents T) hr (by rfl) T.g_all_contents T.F_all_contents.kp T.b_all_contents .nil pass0 (pa_cons (pv 0) pa_nil)) (pa_cons (pv 2) pa_nil))) (pg_tupK K (n := 2) rfl (pgs_cons (pg_name (i := 5) sc_unlike_pair_in.nd rfl (.inl rfl)) (pgs_cons (pg_name (i := 6) sc_unlike_pair_in.nd rfl (.inl rfl)) pgs_nil))) (pss_cons (ps_asg (pe_dsetT (K := K) (P := P) (w := w) hr.units (pv 3) (pe_call (ok_worths_at T) hr (by rfl) T.g_worths_at T.F_worths_at.kp T.b_worths_at .nil pass0 (pa_cons (pv 1) (pa_cons (pv 5) pa_nil))) (pe_tup (pa_cons (pv 5) (pa_cons (pv 6) pa_nil))) ⟨rfl, by rfl, by rfl, by rfl⟩) (pg_tupK K (n := 2) rfl (pgs_cons (pg_name (i := 7) sc_unlike_pair_in.nd rfl (.inl rfl)) (pgs_cons (pg_name (i := 8) sc_unlike_pair_in.nd rfl (.inl rfl)) pgs_nil))))
      (pss_one (ps_if (PW.pt (pw_and (pt_cmpR (op_neK K hr.units) (pv 8) (pv 6) (nomark _)) (pw_and1 (PW.pt (pw_or (pt_cmpR op_isN (pv 4) pe_non (nomark _)) (pw_or1 (pt_cmpR (op_ltTK (K := K) hr.units0) (pv 7) (pe_ix (ix_tupK K) (pv 4) pe_int (fun _ _ => rfl)) (nomark _)))))))) (pss_one (ps_set (i := 4) sc_unlike_pair_in.nd rfl (.inl rfl) (pe_tup (pa_cons (pv 7) (pa_cons (pv 5) pa_nil))))) pss_nil))))
      (pss_one (ps_ret (pv 4)))))), ?_⟩
    refine fun fd nfd => ?_
    have s1 : Same H (upd H fd (DTO P w fd (ValF []))) := same_new nfd
    refine ⟨_, rfl, a, ss, rfl, (Ext.of s1).sqT ha, ok, fun cp cs H1 ncp s2 hcp hcs => ?_⟩
    have hfd1 := s2 _ _ (upd_same (H := H) (a := fd) (o := DTO P w fd (ValF [])))
    have ct1 := cts_of hcp hcs
    have hcl : cs.length = (allC ss).length := by rw [hcs.length, List.length_map]
    have hyl : ys.length = (allC ss).length := by rw [hys.length, List.length_map, hpl]
    have l1024 := (allC_all ok).1
    have s12 := s1.trans s2
    refine ⟨_, rfl, cp, l, cs, ys, rfl, SqL.of hcp, s12.seq hl, RZ.for_zipL (K := K) (by rw [hcl, hyl]) (fun k σ H' => ∃ (lv : V) (y5 y6 y7 y8 : Option V) (L : List (Addr × List Int × V)) (r : Option (Nat × Nat)), σ = [some (.ref a), some pvv, some (.ref l), some (.ref fd), some lv, y5, y6, y7, y8] ∧ Same H H' ∧ Cts K H' cp cs ss ∧ Fst K P w H' fd ss (WW ss p) (ZZ parts) k L ∧ LU (WW ss p) (ZZ parts) k r ∧ UnlV K H' ss r lv)
      ⟨.non, none, none, none, none, [], none, rfl, s12, ct1, ⟨hfd1, (fun p hp => by cases hp), Nat.le_refl _, fun _ _ => rfl, fun j hj => absurd hj (Nat.not_lt_zero _)⟩, fun j f hj => absurd hj (Nat.not_lt_zero _), rfl⟩
      (fun k σ H' ⟨_, _, _, _, _, _, _, _, sm, ct, _⟩ => ⟨SqL.of ct.lst, sm.seq hl⟩) ?_ ?_⟩
    · rintro k cv yv T0 σ H2 hck hyk ⟨lv, y5, y6, y7, y8, L, r, rfl, sm, ct, fs, lu, uv⟩ nT
      obtain ⟨c, cb, hc, rfl, hcb⟩ := ct.at' k cv hck
      obtain ⟨z', hz', hyv⟩ := (hys.ext (.of sm)).get hyk
      obtain ⟨z, hz, rfl⟩ := map_at hz'
      obtain ⟨pa, rfl, hpa⟩ := frD_inv hyv
      have sT : Same H2 (upd H2 T0 (.tup [.ref cb, .ref pa])) := same_new nT
      have hT : (upd H2 T0 (.tup [.ref cb, .ref pa])) T0 = some (.tup [.ref cb, .ref pa]) := upd_same
      have sm3 := sm.trans sT
      have ct3 := ct.go sT
      have fs3 := fs.go sT
      have uv3 := uv.go sT
      have hcb3 := (Ext.of sT).sqT hcb
      have hpa3 := (Ext.of sT).sqT hpa
      generalize upd H2 T0 (.tup [.ref cb, .ref pa]) = H3 at sT hT sm3 ct3 fs3 uv3 hcb3 hpa3 ⊢
      clear sm ct fs uv hcb hpa hyv nT sT
      have eW : WW ss p k = picks p c := by
        unfold WW
        rw [List.getD_eq_getElem?_getD, hc]
        rfl
      have eZ : ZZ parts k = z := by
        unfold ZZ
        rw [List.getD_eq_getElem?_getD, hz]
        rfl
      have hcl' : c.length = ss.length := (mem_allC.mp (List.mem_of_getElem? hc)).len
      refine ⟨T0, _, rfl, SqT.of hT, rfl, _, _, rfl, _, _, rfl, rfl, ?_⟩
      refine ⟨_, rfl, ⟨fd, _, rfl, fs3.dict⟩, _, rfl, _, rfl, p, c, _, _, rfl, hp.ext (.of sm3), dh_ct hcb3, fun x hx => by have := asc.mem x hx; omega, by omega, fun wv H4 s4 hw => ?_⟩
      obtain ⟨wb, rfl, hwb⟩ := ct_inv hw
      refine ⟨_, rfl, _, rfl, by show 2 ≤ sizeLine; decide, fun t nt => ?_⟩
      have s5 := s4.trans (same_new (o := HO.tup [V.ref cb, V.ref pa]) nt)
      have ht : (upd H4 t (.tup [.ref cb, .ref pa])) t = some (.tup [.ref cb, .ref pa]) := upd_same
      have hwb5 := (Ext.new (o := HO.tup [V.ref cb, V.ref pa]) nt).sqT hwb
      generalize upd H4 t (.tup [.ref cb, .ref pa]) = H5 at s5 ht hwb5 ⊢
      have fs5 := fs3.go s5
      have hkc := (List.getElem?_eq_some_iff.mp hck).1
      have ct5 := ct3.go s5
      have uv5 := uv3.go s5
      have sm5 := sm3.trans s5
      have hcb5 := (Ext.of s5).sqT hcb3
      have hpa5 := (Ext.of s5).sqT hpa3
      clear fs3 ct3 uv3 hcb3 hpa3 sm3 s4 s5 hwb hw nt hT
      obtain ⟨f, hf⟩ := first_ex (WW ss p) k
      refine ⟨fd, wb, L, picks p c, rfl, rfl, fs5.dict, fs5.keys, hwb5, by have := fs5.len; omega, fun v hv => ?_, fun hn => ?_⟩
      · -- the worths have come
        have hfk : f < k := by
          rcases Nat.lt_or_ge f k with u | u
          · exact u
          · have e0 := fs5.non (picks p c) fun j hj e => hf.2.2 j (by omega) (by rw [e, eW])
            rw [hv] at e0
            cases e0
        obtain ⟨f', v', c', hf', hv', hc', hval⟩ := fs5.has f hfk
        have ef : f' = f := by
          have z1 : First (WW ss p) f f := ⟨Nat.le_refl _, rfl, fun g hg e => hf.2.2 g hg (e.trans hf.2.1)⟩
          exact first_one hf' z1
        subst ef
        have ev : v' = v := by
          rw [hf.2.1, eW, hv] at hv'
          cases hv'
          rfl
        subst ev
        obtain ⟨t', ca, pa', rfl, g1, g2, g3⟩ := hval
        refine ⟨t', _, rfl, g1, rfl, _, _, rfl, _, _, rfl, rfl, ?_⟩
        have fs6 : Fst K P w H5 fd ss (WW ss p) (ZZ parts) (k + 1) L := fs5.more ⟨f', .ref t', c', hf, by rw [eW]; exact hv, hc', t', ca, pa', rfl, g1, g2, g3⟩
        refine ⟨_, rfl, _, rfl, ctP [(ZZ parts f').1, (ZZ parts f').2], ctP [z.1, z.2], dp_ct (dh_ct (c := [(ZZ parts f').1, (ZZ parts f').2]) g3), dp_ct (dh_ct (c := [z.1, z.2]) hpa5), shaped_ct _, shaped_ct _, _, rfl, ?_⟩
        rw [eqv_fr]
        by_cases e : ZZ parts f' = z
        · rw [decide_eq_true e]
          refine iteF ?_
          exact ⟨lv, _, _, _, _, L, r, rfl, sm5, ct5, fs6, lu_keep hf lu (.inl (by rw [e, eZ])), uv5⟩
        · rw [decide_eq_false e]
          refine iteT ?_
          have ne : ZZ parts f' ≠ ZZ parts k := by rw [eZ]; exact e
          have put : ∀ (i0 : ∀ i j, r = some (i, j) → f' < i), ∀ u, H5 u = none → ∃ (lv : V) (y5 y6 y7 y8 : Option V) (L : List (Addr × List Int × V)) (r : Option (Nat × Nat)), ([some (.ref a), some pvv, some (.ref l), some (.ref fd), some (.ref u), some (.ref cb), some (.ref pa), some (.ref ca), some (.ref pa')] : L2.St) = [some (.ref a), some pvv, some (.ref l), some (.ref fd), some lv, y5, y6, y7, y8] ∧
              Same H (upd H5 u (.tup [.ref ca, .ref cb])) ∧ Cts K (upd H5 u (.tup [.ref ca, .ref cb])) cp cs ss ∧ Fst K P w (upd H5 u (.tup [.ref ca, .ref cb])) fd ss (WW ss p) (ZZ parts) (k + 1) L ∧ LU (WW ss p) (ZZ parts) (k + 1) r ∧ UnlV K (upd H5 u (.tup [.ref ca, .ref cb])) ss r lv := fun i0 u nu => by
            have su : Same H5 (upd H5 u (.tup [.ref ca, .ref cb])) := same_new nu
            exact ⟨.ref u, _, _, _, _, L, some (f', k), rfl, sm5.trans su, ct5.go su, fs6.go su, lu_put hf ne lu i0, u, ca, cb, c', c, rfl, SqT.of upd_same, hc', hc, (Ext.of su).sqT g2, (Ext.of su).sqT hcb5⟩
          cases r with
          | none =>
            have e1 : lv = .non := uv5
            subst e1
            refine ⟨_, rfl, rfl, _, rfl, iteT ?_⟩
            exact ⟨_, rfl, _, rfl, by show 2 ≤ sizeLine; decide, fun u nu => put (fun i j e => by cases e) u nu⟩
          | some ij =>
            obtain ⟨i, j⟩ := ij
            obtain ⟨la, lca, lcb, ci, dj, rfl, u1, u2, u3, u4, u5⟩ := id uv5
            refine ⟨_, rfl, rfl, _, rfl, ?_⟩
            rw [decide_eq_false (show ¬ V.ref la = V.non from fun z => by cases z)]
            refine iteF ?_
            refine ⟨_, rfl, _, rfl, la, _, 0, _, rfl, rfl, u1, atI_nat (j := 0) rfl, ca, lca, c', ci, rfl, rfl, g2, u4, _, rfl, ?_⟩
            rw [allC_lt hc' u2]
            by_cases lt : f' < i
            · rw [decide_eq_true lt]
              refine iteT ?_
              exact ⟨_, rfl, _, rfl, by show 2 ≤ sizeLine; decide, fun u nu => put (fun i' j' e => by cases e; exact lt) u nu⟩
            · rw [decide_eq_false lt]
              refine iteF ?_
              exact ⟨_, _, _, _, _, L, some (i, j), rfl, sm5, ct5, fs6, lu_keep hf lu (.inr ⟨i, j, rfl, by omega⟩), uv5⟩
      · -- the worths are new
        have efk : f = k := by
          rcases Nat.lt_or_ge f k with u | u
          · obtain ⟨_, v', _, _, hv', _⟩ := fs5.has f u
            rw [hf.2.1, eW, hn] at hv'
            cases hv'
          · have := hf.1
            omega
        subst efk
        have hbW : SqT K H5 wb ((WW ss p f).map V.int) := by rw [eW]; exact hwb5
        have fs6 := fs5.new (v := .ref t) hbW (by rw [eW]; exact hn) hf hc ⟨t, cb, pa, rfl, SqT.of ht, hcb5, by rw [eZ]; exact hpa5⟩
        rw [eW] at fs6
        have ct6 := ct5.put (o := DTO P w fd (ValF (L ++ [(wb, picks p c, .ref t)]))) fs5.dict
        have uv6 := uv5.put (o := DTO P w fd (ValF (L ++ [(wb, picks p c, .ref t)]))) fs5.dict
        have ht6 := sqT_put (K := K) (o := DTO P w fd (ValF (L ++ [(wb, picks p c, .ref t)]))) fs5.dict (SqT.of ht)
        have hpa6 := sqT_put (o := DTO P w fd (ValF (L ++ [(wb, picks p c, .ref t)]))) fs5.dict hpa5
        have sm6 : Same H (upd H5 fd (DTO P w fd (ValF (L ++ [(wb, picks p c, .ref t)])))) := Same.put nfd sm5
        generalize upd H5 fd (DTO P w fd (ValF (L ++ [(wb, picks p c, .ref t)]))) = H6 at fs6 ct6 uv6 ht6 hpa6 sm6 ⊢
        refine ⟨t, _, rfl, ht6, rfl, _, _, rfl, _, _, rfl, rfl, ?_⟩
        refine ⟨_, rfl, _, rfl, ctP [z.1, z.2], ctP [z.1, z.2], dp_ct (dh_ct (c := [z.1, z.2]) hpa6), dp_ct (dh_ct (c := [z.1, z.2]) hpa6), shaped_ct _, shaped_ct _, _, rfl, ?_⟩
        rw [eqv_ct, decide_eq_true rfl]
        refine iteF ?_
        exact ⟨lv, _, _, _, _, _, r, rfl, sm6, ct6, fs6, lu_keep hf lu (.inl rfl), uv6⟩
    · rintro σ H' ⟨lv, y5, y6, y7, y8, L, r, rfl, sm, ct, fs, lu, uv⟩
      rw [hcl] at lu
      exact ⟨_, rfl, q lv H' r sm (lu_end lu) uv⟩

end
end Fm
namespace Fm
open PySem PySem.Spec PyProof.Rows L2
section
variable {P : Program} {w : World} {K : PySem.W.Frag} {mg : Str → Option Value} {base : Heap}

/-! ### unfair -/
theorem pw_adj {r : List Int → List Int → Bool} (tr : ∀ a b c, r a b = true → r b c = true → r a c = true) : ∀ {l : List (List Int)}, adj r l = true → l.Pairwise fun a b => r a b = true
  | [], _ => .nil
  | [_], _ => List.pairwise_cons.mpr ⟨fun _ h => (by cases h), .nil⟩
  | a :: b :: l, h => by
    have h' : (r a b && adj r (b :: l)) = true := h
    rw [Bool.and_eq_true] at h'
    have ih := pw_adj tr h'.2
    refine List.pairwise_cons.mpr ⟨fun c hc => ?_, ih⟩
    rcases List.mem_cons.mp hc with e | e
    · rw [e]
      exact h'.1
    · exact tr a b c h'.1 ((List.pairwise_cons.mp ih).1 c e)
theorem adj_map {α : Type} {r : List Int → List Int → Bool} {f : α → List Int} : ∀ {l : List α}, adj (fun x y => r (f x) (f y)) l = adj r (l.map f)
  | [] => rfl
  | [_] => rfl
  | a :: b :: l => by
    show (r (f a) (f b) && adj _ (b :: l)) = (r (f a) (f b) && adj r ((b :: l).map f))
    rw [adj_map (l := b :: l)]
theorem lex_tr (a b c : List Int) (h1 : HT.lexLt a b = true) (h2 : HT.lexLt b c = true) : HT.lexLt a c = true := by
  rw [lexLt_dec] at *
  exact decide_eq_true (List.lt_trans (of_decide_eq_true h1) (of_decide_eq_true h2))
theorem row_asc {n : Int} {ps : List Dt} (h : (Dt.tup ps).isRow n = true) : (ps.map fun e => e.p1.ints).Pairwise fun a b => HT.lexLt a b = true := by
  have rg : rowGo n none (0, 1) ps = true := h
  rw [rowGo_eq] at rg
  simp only [Bool.and_eq_true] at rg
  have a := rg.2.2.1.2
  unfold ltE at a
  rw [adj_map (r := HT.lexLt) (f := fun d : Dt => d.p1.ints)] at a
  exact pw_adj lex_tr a
theorem asc_nodup {l : List (List Int)} (h : l.Pairwise fun a b => HT.lexLt a b = true) : l.Nodup := h.imp fun {a b} hab e => by
  rw [e, lex_irr] at hab
  cases hab
/-- the dict of a row: B the heap that knows the row -/
def DictAt (K : PySem.W.Frag) (P : Program) (w : World) (B H : Hp) (v : V) (ps : List Dt) : Prop := ∃ (dd : Addr) (M : Prs), v = .ref dd ∧ H dd = some (DTO P w dd (ValF (M.map (·.2)))) ∧ PrsAt K B M ∧ M.map (fun m => m.2.2.1) = ps.map (fun e => e.p1.ints) ∧
  ∀ H', Same B H' → ∀ (q : List Int) (z : V), Dh K H' z (frD (0, 1)) → Dh K H' ((((M.map (·.2)).find? fun p => decide (p.2.1 = q)).map (·.2.2)).getD z) (frD (shareIn ps q))
theorem DictAt.go {B H H' : Hp} {v : V} {ps : List Dt} (s : Same H H') : DictAt K P w B H v ps → DictAt K P w B H' v ps := fun ⟨dd, M, h1, h2, h3⟩ => ⟨dd, M, h1, s _ _ h2, h3⟩
theorem DictAt.put {B H : Hp} {D : Addr} {xs : List V} {o : HO} {v : V} {ps : List Dt} (hD : H D = some (.lst xs)) : DictAt K P w B H v ps → DictAt K P w B (upd H D o) v ps := fun ⟨dd, M, h1, h2, h3⟩ => ⟨dd, M, h1, (by
  rw [upd_ne]
  · exact h2
  · intro e
    subst e
    rw [hD] at h2
    cases h2), h3⟩
def partsOf (ds : List Dt) (p : List Int) : List (Int × Int) := ds.map fun d => shareIn d.dues p
def UnfP (ss : List Int) (ds : List Dt) (qs : List (List Int)) : Option (List Int × Nat × Nat) → Prop
  | none => ∀ p ∈ qs, IsU (allC ss).length (WW ss p) (ZZ (partsOf ds p)) none
  | some (p, i, j) => ∃ k : Nat, qs[k]? = some p ∧ IsU (allC ss).length (WW ss p) (ZZ (partsOf ds p)) (some (i, j)) ∧ ∀ k' p', k' < k → qs[k']? = some p' → IsU (allC ss).length (WW ss p') (ZZ (partsOf ds p')) none
def UnfV (K : PySem.W.Frag) (H : Hp) (ss : List Int) : Option (List Int × Nat × Nat) → V → Prop
  | none, v => v = .non
  | some (p, i, j), v => ∃ (a pa ca cb : Addr) (c d : List Int), v = .ref a ∧ SqT K H a [.ref pa, .ref ca, .ref cb] ∧ SqT K H pa (p.map V.int) ∧ (allC ss)[i]? = some c ∧ (allC ss)[j]? = some d ∧ SqT K H ca (c.map V.int) ∧ SqT K H cb (d.map V.int)
def spUnfair (K : PySem.W.Frag) (C : Addr) : Sp := fun vs H Q _ => ∃ (x : Addr) (ss : List Int) (ds : List Dt), vs = [.ref x] ∧ Hb K C H x ss ds ∧ SizesOk ss ∧ Rows ss ds ∧
  ∀ (v : V) (H' : Hp) (r : Option (List Int × Nat × Nat)) (qs : List (List Int)), Same H H' → SortedOf qs (showsD ss.length ds) → UnfP ss ds qs r → UnfV K H' ss r v → Q v H'
theorem ok_unfair (T : Txt K mg) : FnOk P w K mg base CX0 3 T.f_unfair T.d_unfair ["habit"] (spUnfair K T.c_Habit) := by
  refine T.F_unfair.ok sc_unfair (fun vs H Q E h => ?_) (fun cdv A outer s H vs Q E hr h => ?_)
  · obtain ⟨_, _, _, rfl, _⟩ := h
    rfl
  · obtain ⟨x, ss, ds, rfl, hh, ok, rows, q⟩ := h
    obtain ⟨dx, u1, u2, hx, g1, g2⟩ := hh.ex
    have h5 := ok.facts.2.1
    obtain ⟨sa, rfl, hsa⟩ := ct_inv g1
    obtain ⟨ra, rs, rfl, hra, hrs⟩ := g2.tup_inv
    have hrl := hrs.length
    have l1024 := (allC_all ok).1
    have hdl := rows.len
    refine ⟨_, (pss_cons (ps_setLc (i := 1) (own := [("row", 4)]) rfl sc_unfair.nd rfl rfl (sw_true rfl rfl rfl (by decide +kernel)) (pi_tupK K (pe_fld (pv 0) rfl)) (blkOk_by (N := N_unfair) (sc := defScope s_unfair) (by decide +kernel)) (fun _ _ _ _ _ => (pg_name (i := 4) sc_unfair.nd rfl (.inl rfl))) (fun _ _ _ _ _ => pts_nil) (fun _ _ _ _ _ => (pe_dcT (K := K) (P := P) (w := w) (own := [("shown", 5), ("part", 6)]) rfl hr.units sc_unfair.nd (pi_tupK K (pv 4)) (blkOk_nf (N := N_unfair) (by decide +kernel) (by decide +kernel) (by decide +kernel) (by decide +kernel) (by decide +kernel)) (fun _ _ _ _ _ => (pg_tupK K (n := 2) rfl (pgs_cons (pg_name (i := 5) sc_unfair.nd rfl (.inl rfl)) (pgs_cons (pg_name (i := 6) sc_unfair.nd rfl (.inl rfl)) pgs_nil)))) (fun _ _ _ _ _ => (pv 5)) (fun _ _ _ _ _ => (pv 6)))))
      (pss_cons (ps_for PassesOwn.never rfl (pi_tupK K (pe_call (ok_patterns T) hr (by rfl) T.g_patterns T.F_patterns.kp T.b_patterns .nil pass0 (pa_cons (pv 0) pa_nil))) (pg_name (i := 2) sc_unfair.nd rfl (.inr rfl)) (pss_cons (ps_set (i := 3) sc_unfair.nd rfl (.inl rfl) (pe_call (ok_unlike_pair_in T) hr (by rfl) T.g_unlike_pair_in T.F_unlike_pair_in.kp T.b_unlike_pair_in .nil pass0 (pa_cons (pe_fld (pv 0) rfl) (pa_cons (pv 2) (pa_cons (pe_lc (own := [("row", 4)]) rfl sc_unfair.nd (pi_listK K (pv 1)) (blkOk_by (N := N_unfair) (sc := defScope s_unfair) (by decide +kernel)) (fun _ _ _ _ _ => (pg_name (i := 4) sc_unfair.nd rfl (.inl rfl))) (fun _ _ _ _ _ => pts_nil) (fun _ _ _ _ _ => (pe_dgetT (K := K) (P := P) (w := w) hr.units (pv 4) (pv 2) (pe_glob (by rfl) T.g_ZERO (show L2.RelV (.ref T.v_ZERO) _ from rfl)) ⟨rfl, by rfl, by rfl, by rfl⟩))) pa_nil)))))
      (pss_one (ps_if (pt_cmpR op_notN (pv 3) pe_non (nomark _)) (pss_one (ps_ret (pe_tup (pa_cons (pv 2) (pa_cons (pe_ix (ix_tupK K) (pv 3) pe_int (fun _ _ => rfl)) (pa_cons (pe_ix (ix_tupK K) (pv 3) pe_int (fun _ _ => rfl)) pa_nil)))))) pss_nil))))
      (pss_one (ps_ret pe_non)))), ?_⟩
    refine ⟨_, rfl, x, _, dx, _, _, rfl, hx, T.l_Habit, T.a_rows, rfl, ra, rfl, ⟨rs, hra⟩, fun D nD => lc_tup (K := K) (xs := rs) (fun i H' => ∃ acc, Same H H' ∧ H' D = some (.lst acc) ∧ acc.length = i ∧ ∀ (k : Nat) v d, acc[k]? = some v → ds[k]? = some d → DictAt K P w H H' v d.dues)
      ⟨[], same_new nD, upd_same, rfl, fun k v d h => by simp at h⟩ (fun i H' _ ⟨_, sm, _⟩ => (Ext.of sm).sqT hra) ?_ ?_⟩
    · rintro i y H1 hy ⟨acc, sm, hD, hal, hac⟩
      obtain ⟨d, hd, hyd⟩ := hrs.get hy
      obtain ⟨ps, er, hitems⟩ := isRow_inv (rows.row d (List.mem_of_getElem? hd))
      rw [er] at hyd
      obtain ⟨wa, ws, rfl, hwa, hws⟩ := hyd.tup_inv
      obtain ⟨M, hM1, hM2, hM3, hM4⟩ := prs_of hws hitems
      have hMn : (M.map fun m => m.2.2.1).Nodup := by
        rw [hM3]
        have := row_asc (n := ss.length) (by rw [← er]; exact rows.row d (List.mem_of_getElem? hd))
        exact asc_nodup this
      have hix := (List.getElem?_eq_some_iff.mp hy).1
      refine ⟨rfl, ?_⟩
      dsimp only [tYes]
      rw [if_pos rfl]
      refine ⟨_, rfl, wa, rfl, ⟨ws, (Ext.of sm).sqT hwa⟩, fun D2 nD2 => ?_⟩
      have hwl : ws.length = M.length := by rw [← hM1, List.length_map]
      have hM32 : M.length ≤ 32 := by
        have z := few_pats (n := ss.length) h5 (l := M.map fun m => m.2.2.1) hMn fun p hp => by
          rw [hM3] at hp
          obtain ⟨e, he, rfl⟩ := List.mem_map.mp hp
          obtain ⟨p, _, h1, h2⟩ := hitems e he
          rw [h1, ints_ct]
          exact h2
        rwa [List.length_map] at z
      refine ⟨fun j m H' => m + j = ws.length ∧ Same H1 H' ∧ H' D2 = some (DTO P w D2 (ValF ((M.take j).map (·.2)))), ⟨ws.length, rfl, same_new nD2, by rw [List.take_zero]; exact upd_same⟩, ?_⟩
      rintro j m H2 ⟨em, s2, hD2⟩
      by_cases hj : j < ws.length
      · have hjM : j < M.length := by omega
        refine .inr ⟨⟨ws, ws[j], (Ext.of (sm.trans s2)).sqT hwa, List.getElem?_eq_getElem hj⟩, fun H' => Same H1 H' ∧ H' D2 = some (DTO P w D2 (ValF ((M.take (j + 1)).map (·.2)))), fun H' h => ⟨m - 1, by omega, by omega, h⟩, ?_⟩
        rintro y H3 ⟨rfl, hy3⟩
        have hy3 := hy3 ws ((Ext.of (sm.trans s2)).sqT hwa)
        have hyM : y = .ref (M[j]).1 := by
          rw [← hM1, List.getElem?_map, List.getElem?_eq_getElem hjM] at hy3
          exact (Option.some.inj hy3).symm
        subst hyM
        obtain ⟨k1, k2⟩ := hM2 M[j] (List.getElem_mem hjM)
        have sH := Ext.of (sm.trans s2)
        refine ⟨_, _, rfl, sH.sqT k1, rfl, _, _, rfl, _, _, rfl, rfl, ?_⟩
        refine ⟨rfl, _, rfl, _, rfl, _, M[j].2.2.1, _, rfl, sH.sqT k2, hD2, fun p hp => ?_, fun p hp e => ?_, by rw [List.length_map, List.length_take]; omega, Same.put nD2 s2, ?_⟩
        · obtain ⟨m', hm', rfl⟩ := List.mem_map.mp hp
          exact sH.sqT (hM2 m' (List.mem_of_mem_take hm')).2
        · obtain ⟨m', hm', rfl⟩ := List.mem_map.mp hp
          obtain ⟨k, hk, ek⟩ := List.mem_iff_getElem.mp hm'
          rw [List.length_take] at hk
          rw [List.getElem_take] at ek
          have q1 : (M.map fun m => m.2.2.1)[k]'(by rw [List.length_map]; omega) = (M.map fun m => m.2.2.1)[j]'(by rw [List.length_map]; exact hjM) := by
            rw [List.getElem_map, List.getElem_map, ek]
            exact e
          have := (List.getElem_inj hMn).mp q1
          omega
        · rw [upd_same, List.take_add_one, List.getElem?_eq_getElem hjM, List.map_append]
          rfl
      · have ej : M.take j = M := List.take_of_length_le (by omega)
        rw [ej] at hD2
        refine .inl ⟨⟨ws, (Ext.of (sm.trans s2)).sqT hwa, by omega⟩, ?_⟩
        have hD' := s2 _ _ hD
        refine ⟨acc, hD', sz_small (by omega), acc ++ [.ref D2], Same.put nD (sm.trans s2), upd_same, by rw [List.length_append, hal]; rfl, fun k v d' hk hd' => ?_⟩
        rcases Nat.lt_or_ge k acc.length with u | u
        · rw [List.getElem?_append_left u] at hk
          exact ((hac k v d' hk hd').go s2).put hD'
        · rw [List.getElem?_append_right u] at hk
          have ek : k = i := by
            have := (List.getElem?_eq_some_iff.mp hk).1
            have : ([V.ref D2]).length = 1 := rfl
            omega
          subst ek
          have ev : v = .ref D2 := by
            rw [show k - acc.length = 0 by omega] at hk
            exact (Option.some.inj hk).symm
          subst ev
          rw [hd] at hd'
          have := Option.some.inj hd'
          subst this
          rw [er]
          exact DictAt.put hD' ⟨D2, M, rfl, hD2, hM2, hM3, hM4⟩
    · rintro H1 ⟨acc, sm, hD, hal, hac⟩
      have hL : ∀ {k : Nat} {d : Dt}, ds[k]? = some d → ∃ v, acc[k]? = some v ∧ DictAt K P w H H1 v d.dues := fun {k d} hd => by
        have hk := (List.getElem?_eq_some_iff.mp hd).1
        have hk' : k < acc.length := by omega
        exact ⟨acc[k], List.getElem?_eq_getElem hk', hac k _ d (List.getElem?_eq_getElem hk') hd⟩
      refine ⟨_, rfl, x, ss, ds, rfl, hh.ext (.of sm), ok, rows, fun pp xs qs H2 s2 hp hxs so => ?_⟩
      have s12 := sm.trans s2
      have hD2 := s2 _ _ hD
      have hxl := hxs.length
      rw [List.length_map] at hxl
      have qasc : ∀ q ∈ qs, Asc ss.length (-1) q := fun q hq => shows_asc rows q ((so.2 q).mp hq)
      refine ⟨pp, rfl, ⟨xs, SqT.of hp⟩, for_tup (K := K) (xs := xs) (fun k σ H' => ∃ (y2 y3 : Option V), σ = [some (.ref x), some (.ref D), y2, y3, none, none, none] ∧ Same H2 H' ∧ ∀ k' p', k' < k → qs[k']? = some p' → IsU (allC ss).length (WW ss p') (ZZ (partsOf ds p')) none)
        ⟨none, none, rfl, Same.refl _, fun k' p' h => absurd h (Nat.not_lt_zero _)⟩ (fun k σ H' _ ⟨_, _, _, s', _⟩ => SqT.of (s' _ _ hp)) ?_ ?_⟩
      · rintro k v σ H3 hk ⟨y2, y3, rfl, s3, no⟩
        obtain ⟨d0, hd0, hvd⟩ := (hxs.ext (.of s3)).get hk
        obtain ⟨p, hpq, rfl⟩ := map_at hd0
        obtain ⟨pa, rfl, hpa⟩ := ct_inv hvd
        have s13 := s12.trans s3
        have hD3 := s3 _ _ hD2
        have asc := qasc p (List.mem_of_getElem? hpq)
        refine ⟨_, rfl, x, _, dx, _, _, rfl, s13 _ _ hx, T.l_Habit, T.a_sizes, rfl, _, rfl, _, rfl, D, rfl, ⟨acc, SqL.of hD3⟩, fun D3 nD3 => lc_list (K := K) (xs := acc) (fun j H' => ∃ ac3, Same H3 H' ∧ H' D3 = some (.lst ac3) ∧ ac3.length = j ∧ DhAll K H' ac3 ((ds.take j).map fun d => frD (shareIn d.dues p)))
          ⟨[], same_new nD3, upd_same, rfl, by rw [List.take_zero]; exact .nil⟩ (fun j H' _ ⟨_, s', _⟩ => SqL.of (s' _ _ hD3)) ?_ ?_⟩
        · rintro j z H' hz ⟨ac3, s', hD3', hal3, had3⟩
          have hjl := (List.getElem?_eq_some_iff.mp hz).1
          have hjd : j < ds.length := by omega
          obtain ⟨v', hv', dv⟩ := hL (List.getElem?_eq_getElem hjd)
          rw [hz] at hv'
          have := Option.some.inj hv'
          subst this
          have s2' := (s2.trans s3).trans s'
          obtain ⟨dd, M, rfl, hdd, hM2, _, hM4⟩ := dv.go s2'
          have sH := s13.trans s'
          refine ⟨rfl, ?_⟩
          dsimp only [tYes]
          rw [if_pos rfl]
          refine ⟨_, rfl, ⟨dd, _, rfl, hdd⟩, _, rfl, dd, pa, M.map (·.2), p, rfl, rfl, hdd, fun m' hm' => ?_, (Ext.of s').sqT hpa, ?_⟩
          · obtain ⟨m, hm, rfl⟩ := List.mem_map.mp hm'
            exact (Ext.of sH).sqT (hM2 m hm).2
          · have hv := hM4 _ sH p (.ref T.v_ZERO) (dh_ct (c := [0, 1]) (T.k_ZERO _))
            generalize ((((M.map (·.2)).find? fun m => decide (m.2.1 = p)).map (·.2.2)).getD (V.ref T.v_ZERO)) = v at hv ⊢
            refine ⟨ac3, hD3', sz_small (by omega), ac3 ++ [v], Same.put nD3 s', upd_same, by rw [List.length_append, hal3]; rfl, ?_⟩
            have ep := Ext.put (ys := ac3 ++ [v]) hD3'
            rw [List.take_add_one, List.getElem?_eq_getElem hjd, List.map_append]
            exact (had3.ext ep).snoc (hv.ext ep)
        · rintro H4 ⟨ac3, s4, hD4, hal3, had3⟩
          rw [List.take_of_length_le (by omega)] at had3
          have s14 := s13.trans s4
          have had3' : DhAll K H4 ac3 ((partsOf ds p).map frD) := by
            unfold partsOf
            rw [List.map_map]
            exact had3
          refine ⟨sa, D3, ss, p, .ref pa, ac3, partsOf ds p, rfl, (Ext.of s14).sqT hsa, ok, dh_ct ((Ext.of s4).sqT hpa), asc, SqL.of hD4, had3', by unfold partsOf; rw [List.length_map]; exact hdl, fun v H5 r s5 isu uv => ?_⟩
          have s35 := s4.trans s5
          have s25 := s3.trans s35
          cases r with
          | none =>
            have e1 : v = .non := uv
            subst e1
            refine ⟨_, rfl, rfl, _, rfl, ?_⟩
            rw [decide_eq_true rfl]
            refine iteF ?_
            refine ⟨_, _, rfl, s25, fun k' p' hk' hp' => ?_⟩
            rcases Nat.lt_or_ge k' k with u | u
            · exact no k' p' u hp'
            · have e : k' = k := by omega
              subst e
              rw [hpq] at hp'
              have := Option.some.inj hp'
              subst this
              exact isu
          | some ij =>
            obtain ⟨i, j⟩ := ij
            obtain ⟨la, ca, cb, c, d, rfl, u1, u2, u3, u4, u5⟩ := id uv
            refine ⟨_, rfl, rfl, _, rfl, ?_⟩
            rw [decide_eq_false (show ¬ V.ref la = V.non from fun z => by cases z)]
            refine iteT ?_
            refine ⟨_, rfl, _, rfl, la, _, 0, _, rfl, rfl, u1, atI_nat (j := 0) rfl, _, rfl, la, _, 1, _, rfl, rfl, u1, atI_nat (j := 1) rfl, by show 3 ≤ sizeLine; decide, fun t nt => ?_⟩
            have st : Same H5 (upd H5 t (.tup [.ref pa, .ref ca, .ref cb])) := same_new nt
            refine q _ _ (some (p, i, j)) qs (((s12.trans s25).trans st)) so ⟨k, hpq, isu, no⟩ ⟨t, pa, ca, cb, c, d, rfl, SqT.of upd_same, (Ext.of (s35.trans st)).sqT hpa, u2, u3, (Ext.of st).sqT u4, (Ext.of st).sqT u5⟩
      · rintro σ H3 ⟨y2, y3, rfl, s3, no⟩
        refine q .non H3 none qs (s12.trans s3) so (fun p hp => ?_) rfl
        obtain ⟨k, hk, e⟩ := List.mem_iff_getElem.mp hp
        exact no k p (by omega) (by rw [← e]; exact List.getElem?_eq_getElem hk)

end
end Fm
namespace Fm
open PySem PySem.Spec PyProof.Rows L2
section
variable {P : Program} {w : World} {K : PySem.W.Frag} {mg : Str → Option Value} {base : Heap}

theorem hab_ty (T : Txt K mg) {H : Hp} {x : Addr} {dx : Addr} {fs : List (Str × V)} (h : H x = some (.ins T.c_Habit dx fs)) : TyX K H (.ref x) (.ref T.c_Habit) := .base (.ins h T.l_Habit T.h_Habit T.h2_Habit T.h3_Habit T.h4_Habit)
/-! ### is_fair -/
def spFair (K : PySem.W.Frag) (C : Addr) : Sp := fun vs H Q _ => ∃ (x : Addr) (ss : List Int) (ds : List Dt), vs = [.ref x] ∧ Hb K C H x ss ds ∧ SizesOk ss ∧ Rows ss ds ∧
  ∀ (b : Bool) (H' : Hp) (r : Option (List Int × Nat × Nat)) (qs : List (List Int)), Same H H' → SortedOf qs (showsD ss.length ds) → UnfP ss ds qs r → b = r.isNone → Q (.bl b) H'
theorem ok_is_fair (T : Txt K mg) : FnOk P w K mg base CX0 4 T.f_is_fair T.d_is_fair ["habit"] (spFair K T.c_Habit) := by
  refine T.F_is_fair.ok sc_is_fair (fun vs H Q E h => ?_) (fun cdv A outer s H vs Q E hr h => ?_)
  · obtain ⟨_, _, _, rfl, _⟩ := h
    rfl
  · obtain ⟨x, ss, ds, rfl, hh, ok, rows, q⟩ := h
    refine ⟨_, (pss_one (ps_ret (pe_and (pe_callB (call_isiK' K) (by rfl) T.z_isinstance (by decide +kernel) (pa_cons (pv 0) (pa_cons (pe_glob (by rfl) T.g_Habit (show L2.RelV (.ref T.c_Habit) _ from rfl)) pa_nil))) (pe_one (pe_cmpR op_isN (pe_call (ok_unfair T) hr (by rfl) T.g_unfair T.F_unfair.kp T.b_unfair .nil pass0 (pa_cons (pv 0) pa_nil)) pe_non (nomark _)))))), ?_⟩
    obtain ⟨dx, u1, u2, hx, g1, g2⟩ := hh.ex
    refine ⟨_, rfl, _, _, _, _, _, rfl, .own _, hab_ty T hx, T.kk_Habit, _, rfl, ?_⟩
    rw [if_pos rfl]
    refine ⟨_, rfl, x, ss, ds, rfl, hh, ok, rows, fun v H' r qs sm so up uv => ⟨rfl, ?_⟩⟩
    refine q _ H' r qs sm so up ?_
    cases r with
    | none =>
      have e1 : v = .non := uv
      rw [e1]
      exact decide_eq_true rfl
    | some pij =>
      obtain ⟨p, i, j⟩ := pij
      obtain ⟨a, _, _, _, _, _, rfl, _⟩ := uv
      exact decide_eq_false fun z => by cases z

def boxD (ps ws : List Int) : Dt := .tup [ctD ps, ctD ws]
abbrev boxP (ps ws : List Int) : PyData := .tuple [ctP ps, ctP ws]
theorem lay_box (ps ws : List Int) : (boxP ps ws).canLay0 = true ∧ (boxP ps ws).depth ≤ 2 := by
  obtain ⟨h1, h2⟩ := lay_all (f := fun c => ctP c) (n := 1) lay_ct [ps, ws]
  exact ⟨h1, Nat.succ_le_succ h2⟩
theorem shaped_box (ps ws : List Int) : SeqAt.shaped (boxP ps ws) = true := shaped_of (lay_box ps ws) (by decide)
theorem eqv_box (a b c d : List Int) : PyData.eqv (boxP a b) (boxP c d) = decide (a = c ∧ b = d) := by
  have q := eqv_all (f := fun c => ctP c) eqv_ct [a, b] [c, d]
  rw [PyData.eqv]
  refine Eq.trans q ?_
  by_cases e1 : a = c <;> by_cases e2 : b = d <;> simp [e1, e2]
theorem box_inv {K : PySem.W.Frag} {H : Hp} {v : V} {ps ws : List Int} (h : Dh K H v (boxD ps ws)) : ∃ a v1 v2, v = .ref a ∧ SqT K H a [v1, v2] ∧ Dh K H v1 (ctD ps) ∧ Dh K H v2 (ctD ws) := by
  obtain ⟨a, xs, rfl, s, t⟩ := h.tup_inv
  obtain ⟨v1, v2, rfl, h1, h2⟩ := dh_two t
  exact ⟨a, v1, v2, rfl, s, h1, h2⟩
theorem dp_box {K : PySem.W.Frag} {H : Hp} {v : V} {ps ws : List Int} (h : Dh K H v (boxD ps ws)) : Dp K H v (boxP ps ws) := by
  obtain ⟨a, v1, v2, rfl, s, h1, h2⟩ := box_inv h
  exact .tup s (.cons (dp_ct h1) (.cons (dp_ct h2) .nil))
def spLBox (K : PySem.W.Frag) : Sp := fun vs H Q _ => ∃ (ps c : List Int) (v1 v2 : V), vs = [v1, v2] ∧ Dh K H v1 (ctD ps) ∧ Dh K H v2 (ctD c) ∧ InR ps c.length ∧ ps.length ≤ 1000 ∧ ∀ v H', Same H H' → Dh K H' v (boxD ps (picks ps c)) → Q v H'
theorem ok_law_box (T : Txt K mg) : FnOk P w K mg base CX0 1 T.f_law_box T.d_law_box ["pattern", "content"] (spLBox K) := by
  refine T.F_law_box.ok sc_law_box (fun vs H Q E h => ?_) (fun cdv A outer s H vs Q E hr h => ?_)
  · obtain ⟨_, _, _, _, rfl, _⟩ := h
    rfl
  · obtain ⟨ps, c, v1, v2, rfl, h1, h2, hin, hl, q⟩ := h
    obtain ⟨a, rfl, ha⟩ := ct_inv h1
    obtain ⟨b, rfl, hb⟩ := ct_inv h2
    refine ⟨_, (pss_one (ps_ret (pe_tup (pa_cons (pv 0) (pa_cons (pe_callTy (call_tupleK K) (by rfl) T.z_tuple (by decide +kernel) (pa_cons (pe_lc (own := [("c", 2)]) rfl sc_law_box.nd (pi_tupK K (pv 0)) (blkOk_by (N := N_law_box) (sc := defScope s_law_box) (by decide +kernel)) (fun _ _ _ _ _ => (pg_name (i := 2) sc_law_box.nd rfl (.inl rfl))) (fun _ _ _ _ _ => pts_nil) (fun _ _ _ _ _ => (pe_ix (ix_tupK K) (pv 1) (pv 2) (fun _ _ => rfl)))) pa_nil)) pa_nil))))), ?_⟩
    refine ⟨_, rfl, ?_⟩
    dsimp only [tCB, tCons]
    refine lc_pick (K := K) (kx := 2) (kc := 1) (tp := tVar 0) (σ := [some (.ref a), some (.ref b), none]) (fun R hR => ⟨_, rfl, hR⟩) ha hb hin hl (fun _ => rfl) (fun _ => rfl) (fun _ => rfl) fun D H' hD sm hDl => ?_
    refine ⟨D, _, rfl, .inl ⟨SqL.of hDl, fun l nl => ⟨by show 2 ≤ sizeLine; decide, fun r nr => ?_⟩⟩⟩
    have s1 : Same H' (upd H' l (.tup ((picks ps c).map V.int))) := same_new nl
    have s2 : Same (upd H' l (.tup ((picks ps c).map V.int))) (upd (upd H' l (.tup ((picks ps c).map V.int))) r (.tup [.ref a, .ref l])) := same_new nr
    exact q _ _ (sm.trans (s1.trans s2)) (.tup (SqT.of upd_same) (.cons (h1.ext (.of (sm.trans (s1.trans s2)))) (.cons (dh_ct (SqT.of (s2 _ _ upd_same))) .nil)))
def spIsIn (K : PySem.W.Frag) : Sp := fun vs H Q _ => ∃ (ps ws c : List Int) (v1 v2 : V), vs = [v1, v2] ∧ Dh K H v1 (boxD ps ws) ∧ Dh K H v2 (ctD c) ∧ InR ps c.length ∧ ps.length ≤ 1000 ∧ ∀ H', Same H H' → Q (.bl (decide (picks ps c = ws))) H'
theorem ok_law_is_in (T : Txt K mg) : FnOk P w K mg base CX0 2 T.f_law_is_in T.d_law_is_in ["box", "content"] (spIsIn K) := by
  refine T.F_law_is_in.ok sc_law_is_in (fun vs H Q E h => ?_) (fun cdv A outer s H vs Q E hr h => ?_)
  · obtain ⟨_, _, _, _, _, rfl, _⟩ := h
    rfl
  · obtain ⟨ps, ws, c, v1, v2, rfl, h1, h2, hin, hl, q⟩ := h
    obtain ⟨b, w1, w2, rfl, hb, h3, h4⟩ := box_inv h1
    refine ⟨_, (pss_one (ps_ret (pe_cmpR (op_eqK K hr.units) (pe_call (ok_law_box T) hr (by rfl) T.g_law_box T.F_law_box.kp T.b_law_box .nil pass0 (pa_cons (pe_ix (ix_tupK K) (pv 0) pe_int (fun _ _ => rfl)) (pa_cons (pv 1) pa_nil))) (pv 0) (nomark _)))), ?_⟩
    refine ⟨_, rfl, b, _, 0, _, rfl, rfl, hb, atI_nat (j := 0) rfl, _, rfl, ps, c, _, _, rfl, h3, h2, hin, hl, fun v H' sm hv => ?_⟩
    refine ⟨_, rfl, _, _, dp_box hv, dp_box (h1.ext (.of sm)), shaped_box _ _, shaped_box _ _, ?_⟩
    have e : PyData.eqv (boxP ps (picks ps c)) (boxP ps ws) = decide (picks ps c = ws) := by
      rw [eqv_box]
      simp
    rw [e]
    exact q H' sm
end
end Fm
namespace Fm
open PySem PySem.Spec PyProof.Rows L2
section
variable {P : Program} {w : World} {K : PySem.W.Frag} {mg : Str → Option Value} {base : Heap}

/-! ### _law_unfair -/
/-- what a dict of a row tells with None for what is not in it -/
def OptV (K : PySem.W.Frag) (H : Hp) (z : Int × Int) (v : V) : Prop := (v = .non ∧ z = (0, 1)) ∨ (Dh K H v (frD z) ∧ z ≠ (0, 1))
theorem OptV.ext {H H' : Hp} {z : Int × Int} {v : V} (e : Ext H H') : OptV K H z v → OptV K H' z v := fun h => h.imp id fun ⟨a, b⟩ => ⟨a.ext e, b⟩
theorem fr_ne {a b : Int × Int} : (([a.1, a.2] : List Int) = [b.1, b.2]) ↔ a = b := by
  obtain ⟨a1, a2⟩ := a
  obtain ⟨b1, b2⟩ := b
  simp
theorem optv_ne {H : Hp} {a b : Int × Int} {x y : V} (h1 : OptV K H a x) (h2 : OptV K H b y) : ∃ d e, Dp K H x d ∧ Dp K H y e ∧ SeqAt.shaped d = true ∧ SeqAt.shaped e = true ∧ (!PyData.eqv d e) = decide (a ≠ b) := by
  rcases h1 with ⟨rfl, rfl⟩ | ⟨h1, n1⟩ <;> rcases h2 with ⟨rfl, rfl⟩ | ⟨h2, n2⟩
  · exact ⟨.none, .none, .non, .non, rfl, rfl, rfl⟩
  · refine ⟨.none, ctP [b.1, b.2], .non, dp_ct (c := [b.1, b.2]) h2, rfl, shaped_ct _, ?_⟩
    rw [decide_eq_true (show ((0, 1) : Int × Int) ≠ b from fun e => n2 e.symm)]
    rfl
  · refine ⟨ctP [a.1, a.2], .none, dp_ct (c := [a.1, a.2]) h1, .non, shaped_ct _, rfl, ?_⟩
    rw [decide_eq_true n1]
    rfl
  · refine ⟨ctP [a.1, a.2], ctP [b.1, b.2], dp_ct (c := [a.1, a.2]) h1, dp_ct (c := [b.1, b.2]) h2, shaped_ct _, shaped_ct _, ?_⟩
    rw [eqv_ct]
    by_cases e : a = b
    · rw [e]
      simp
    · have e' : ¬ ([a.1, a.2] : List Int) = [b.1, b.2] := fun z => e (fr_ne.mp z)
      simp [e, e']
theorem row_pos {n : Int} {ps : List Dt} (h : (Dt.tup ps).isRow n = true) : ∀ e ∈ ps, e.p2.zz ≠ (0, 1) := fun e he => by
  have rg : rowGo n none (0, 1) ps = true := h
  rw [rowGo_eq] at rg
  simp only [Bool.and_eq_true] at rg
  have a := List.all_eq_true.mp rg.2.1 e he
  rw [Bool.and_eq_true, shr_eq, Bool.and_eq_true] at a
  exact of_decide_eq_true a.2.2
def RowF (K : PySem.W.Frag) (H : Hp) (v : V) (d : Dt) : Prop := ∃ (a : Addr) (o : Obj) (ys : List V), v = .ref a ∧ H a = some (.frz o (.tup ys)) ∧ o.dict = none ∧ DhAll K H ys d.dues
end
end Fm
namespace Fm
open PySem PySem.Spec PyProof.Rows L2
section
variable {P : Program} {w : World} {K : PySem.W.Frag} {mg : Str → Option Value} {base : Heap}

/-! ### _law_shares -/
theorem BoxAt.ext {H H' : Hp} {b : Addr} {q : List Int × List Int} (e : Ext H H') : BoxAt K H b q → BoxAt K H' b q := fun ⟨pa, wa, h1, h2, h3⟩ => ⟨pa, wa, e.sqT h1, e.sqT h2, e.sqT h3⟩
theorem box_at {H : Hp} {v : V} {ps ws : List Int} (h : Dh K H v (boxD ps ws)) : ∃ b, v = .ref b ∧ BoxAt K H b (ps, ws) := by
  obtain ⟨a, v1, v2, rfl, s, h1, h2⟩ := box_inv h
  obtain ⟨pa, rfl, hp⟩ := ct_inv h1
  obtain ⟨wa, rfl, hw⟩ := ct_inv h2
  exact ⟨a, rfl, pa, wa, s, hp, hw⟩
theorem box_dh {H : Hp} {b : Addr} {q : List Int × List Int} : BoxAt K H b q → Dh K H (.ref b) (boxD q.1 q.2) := fun ⟨_, _, s, h1, h2⟩ => .tup s (.cons (dh_ct h1) (.cons (dh_ct h2) .nil))
/-- a share of a box: m of B, m at most what the pattern may have -/
def ShV (K : PySem.W.Frag) (ss : List Int) (H : Hp) (B : Int) (ks : List (List Int)) (ms : List Int) (e : Addr × (List Int × List Int) × V) : Prop := ∃ (i : Nat) (mo m : Int) (a : Addr), (ks[i]? = some e.2.1.1 ∧ ∃ c, IsCt ss c ∧ e.2.1.2 = picks e.2.1.1 c) ∧ ms[i]? = some mo ∧ 0 ≤ m ∧ m ≤ mo ∧ e.2.2 = .ref a ∧ SqT K H a [.int (lowZ m B).1, .int (lowZ m B).2]
structure ShAt (K : PySem.W.Frag) (P : Program) (w : World) (ss : List Int) (B : Int) (H : Hp) (f : Addr) (L : BoxL) (ks : List (List Int)) (ms : List Int) : Prop where
  dict : H f = some (DBO P w f L)
  box : BoxesAt K H L
  nd : (L.map (·.2.1)).Nodup
  val : ∀ e ∈ L, ShV K ss H B ks ms e
theorem ShAt.go {ss : List Int} {B : Int} {H H' : Hp} {f : Addr} {L : BoxL} {ks : List (List Int)} {ms : List Int} (x : ShAt K P w ss B H f L ks ms) (e : Ext H H') (hf : H' f = some (DBO P w f L)) : ShAt K P w ss B H' f L ks ms := ⟨hf, fun p hp => (x.box p hp).ext e, x.nd, fun p hp => by
  obtain ⟨i, mo, m, a, h1, h2, h3, h4, h5, h6⟩ := x.val p hp
  exact ⟨i, mo, m, a, h1, h2, h3, h4, h5, e.sqT h6⟩⟩
theorem ShAt.more {ss : List Int} {B : Int} {H : Hp} {f : Addr} {L : BoxL} {ks : List (List Int)} {ms : List Int} {mo : Int} (x : ShAt K P w ss B H f L ks ms) : ShAt K P w ss B H f L ks (ms ++ [mo]) := ⟨x.dict, x.box, x.nd, fun p hp => by
  obtain ⟨i, mo, m, a, h1, h2, h3, h4, h5, h6⟩ := x.val p hp
  exact ⟨i, mo, m, a, h1, by rw [List.getElem?_append_left (List.getElem?_eq_some_iff.mp h2).1]; exact h2, h3, h4, h5, h6⟩⟩
theorem findB_none {L : BoxL} {q : List Int × List Int} (h : findB L q = none) : q ∉ L.map (·.2.1) := fun hm => by
  obtain ⟨e, he, rfl⟩ := List.mem_map.mp hm
  unfold findB at h
  rw [Option.map_eq_none_iff] at h
  exact List.find?_eq_none.mp h e he (decide_eq_true rfl)
theorem ShAt.put {ss : List Int} {B : Int} {H : Hp} {f b : Addr} {L : BoxL} {ks : List (List Int)} {ms : List Int} {q : List Int × List Int} {v : V} (x : ShAt K P w ss B H f L ks ms) (hb : BoxAt K H b q) (hn : findB L q = none) (hv : ShV K ss H B ks ms (b, q, v)) : ShAt K P w ss B (upd H f (DBO P w f (L ++ [(b, q, v)]))) f (L ++ [(b, q, v)]) ks ms := by
  have sp : ∀ {a : Addr} {xs : List V}, SqT K H a xs → SqT K (upd H f (DBO P w f (L ++ [(b, q, v)]))) a xs := fun h => sqT_put x.dict h
  refine ⟨upd_same, fun p hp => ?_, ?_, fun p hp => ?_⟩
  · have z : BoxAt K H p.1 p.2.1 := by
      rcases List.mem_append.mp hp with hp | hp
      · exact x.box p hp
      · rw [List.mem_singleton.mp hp]
        exact hb
    obtain ⟨pa, wa, h1, h2, h3⟩ := z
    exact ⟨pa, wa, sp h1, sp h2, sp h3⟩
  · rw [List.map_append]
    refine List.nodup_append.mpr ⟨x.nd, by simp, fun y hy z hz e => ?_⟩
    have ez : z = q := by simpa using hz
    rw [e, ez] at hy
    exact findB_none hn hy
  · have z : ShV K ss H B ks ms p := by
      rcases List.mem_append.mp hp with hp | hp
      · exact x.val p hp
      · rw [List.mem_singleton.mp hp]
        exact hv
    obtain ⟨i, mo, m, a, h1, h2, h3, h4, h5, h6⟩ := z
    exact ⟨i, mo, m, a, h1, h2, h3, h4, h5, sp h6⟩
def KeysOk (n : Nat) (ks : List (List Int)) : Prop := ks.Pairwise (fun x y => HT.lexLt x y = true) ∧ ks.length ≤ 4 ∧ ∀ p ∈ ks, Asc n (-1) p ∧ p.length < n
def MostOk (B : Int) (ms : List Int) : Prop := 1 ≤ B ∧ B ≤ 12 ∧ (∀ m ∈ ms, 0 ≤ m) ∧ sumI ms ≤ B
def spLSh (K : PySem.W.Frag) (P : Program) (w : World) : Sp := fun vs H Q _ => ∃ (h c a : Addr) (ss : List Int), vs = [.ref h, .ref a] ∧ HandOk H h c ∧ SqT K H a (ss.map V.int) ∧ SizesOk ss ∧
  ∀ (f : Addr) (H' : Hp) (B : Int) (L : BoxL) (ks : List (List Int)) (ms : List Int), Keep h c H H' → f ≠ h → KeysOk ss.length ks → MostOk B ms → ks.length = ms.length → ShAt K P w ss B H' f L ks ms → L.length ≤ 4096 → Q (.ref f) H'
theorem sumI_nn : ∀ {ms : List Int}, (∀ m ∈ ms, 0 ≤ m) → 0 ≤ sumI ms
  | [], _ => Int.le_refl _
  | m :: ms, h => by
    rw [sumI_cons]
    have a := h m (List.mem_cons_self ..)
    have b := sumI_nn (ms := ms) fun z hz => h z (List.mem_cons_of_mem _ hz)
    omega
theorem b12_le {B : Int} (h : B ≤ 12) : B ≤ (top300 : Int) := Int.le_trans h (by decide +kernel)
theorem e_share {h c : Addr} {mo : Int} {z1 z2 z3 z4 z5 z6 z8 z9 z10 : Option V} {H : Hp} {Q : VK} (hx : HandOk H h c) (m0 : 0 ≤ mo) (mb : mo ≤ 100) (q : ∀ m H2, Keep h c H H2 → 0 ≤ m → m ≤ mo → Q (.int m) H2) :
    tIf (tTest (tOp (rI0 fun i j => V.bl (decide (j < i))) (tCall (spDraw K) [] E0 (tCons (tVar 0) (tCons (tC (V.int 3)) tNil))) (tC (V.int 0)))) (tCall (spDraw K) [] E0 (tCons (tVar 0) (tCons (tOp (rI0 fun i j => V.int (i + j)) (tVar 7) (tC (V.int 1))) tNil))) (tVar 7)
      [some (.ref h), z1, z2, z3, z4, z5, z6, some (.int mo), z8, z9, z10] H Q := by
  refine ⟨_, rfl, h, c, 3, rfl, hx, by decide, by decide, fun g H1 g0 g1 k1 => ⟨_, _, rfl, rfl, _, rfl, ?_⟩⟩
  by_cases e : (0 : Int) < g
  · rw [decide_eq_true e]
    refine iteT ?_
    exact ⟨_, rfl, _, rfl, _, _, rfl, rfl, h, c, mo + 1, rfl, k1.hand, by omega, by omega, fun m H2 h0 h1 k2 => q m H2 (k1.trans k2) h0 (by omega)⟩
  · rw [decide_eq_false e]
    refine iteF ?_
    exact ⟨_, rfl, q mo H1 k1 m0 (Int.le_refl _)⟩
theorem ok_law_shares (T : Txt K mg) : FnOk P w K mg base CX0 3 T.f_law_shares T.d_law_shares ["hand", "sizes"] (spLSh K P w) := by
  refine T.F_law_shares.ok sc_law_shares (fun vs H Q E h => ?_) (fun cdv A outer s H vs Q E hr h => ?_)
  · obtain ⟨_, _, _, _, rfl, _⟩ := h
    rfl
  · obtain ⟨h, c, a, ss, rfl, hx, ha, ok, q⟩ := h
    obtain ⟨l1, h5, _⟩ := ok.facts
    have l1024 := (allC_all ok).1
    refine ⟨_, (pss_cons (ps_set (i := 2) sc_law_shares.nd rfl (.inr rfl) (pe_lc (own := [("pattern", 6)]) rfl sc_law_shares.nd (pi_listK K (pe_call (ok_law_patterns T) (hr.mono (by decide)) (by rfl) T.g_law_patterns T.F_law_patterns.kp T.b_law_patterns .nil pass0 (pa_cons (pe_callB (call_lenK K) (by rfl) T.z_len PySem.boot_len (pa_cons (pv 1) pa_nil)) pa_nil))) (blkOk_by (N := N_law_shares) (sc := defScope s_law_shares) (by decide +kernel)) (fun _ _ _ _ _ => (pg_name (i := 6) sc_law_shares.nd rfl (.inl rfl))) (fun _ _ _ _ _ => (pts_one (pt_cmpR op_lt (pe_callB (call_lenK K) (by rfl) T.z_len PySem.boot_len (pa_cons (pv 6) pa_nil)) (pe_callB (call_lenK K) (by rfl) T.z_len PySem.boot_len (pa_cons (pv 1) pa_nil)) (nomark _)))) (fun _ _ _ _ _ => (pv 6))))
      (pss_cons (ps_set (i := 3) sc_law_shares.nd rfl (.inl rfl) (pe_op op_add pe_int (pe_call (ok_law_draw T) (hr.mono (by decide)) (by rfl) T.g_law_draw T.F_law_draw.kp T.b_law_draw .nil pass0 (pa_cons (pv 0) (pa_cons pe_int pa_nil)))))
      (pss_cons (ps_set (i := 4) sc_law_shares.nd rfl (.inl rfl) (pv 3))
      (pss_cons (ps_set (i := 5) sc_law_shares.nd rfl (.inl rfl) (pe_dnewB (P := P) (w := w)))
      (pss_cons (ps_for PassesOwn.never rfl (pi_listK K (pe_callB (call_sortSU (K := K) (P := P) (w := w) rfl hr.units) (by rfl) T.z_sorted (by decide +kernel) (pa_cons (pe_callTy (call_setOfTK (K := K) (P := P) (w := w) rfl hr.units) (by rfl) T.z_set (by decide +kernel) (pa_cons (pe_lc (own := [("k", 10)]) rfl sc_law_shares.nd (pi_range1 (by rfl) T.z_range (pa_cons (pe_op op_add pe_int (pe_call (ok_law_draw T) (hr.mono (by decide)) (by rfl) T.g_law_draw T.F_law_draw.kp T.b_law_draw .nil pass0 (pa_cons (pv 0) (pa_cons pe_int pa_nil)))) pa_nil)) (blkOk_by (N := N_law_shares) (sc := defScope s_law_shares) (by decide +kernel)) (fun _ _ _ _ _ => (pg_name (i := 10) sc_law_shares.nd rfl (.inl rfl))) (fun _ _ _ _ _ => pts_nil) (fun _ _ _ _ _ => (pe_call (ok_law_some T) hr (by rfl) T.g_law_some T.F_law_some.kp T.b_law_some .nil pass0 (pa_cons (pv 0) (pa_cons (pv 2) pa_nil))))) pa_nil)) pa_nil))) (pg_name (i := 6) sc_law_shares.nd rfl (.inl rfl)) (pss_cons (ps_set (i := 7) sc_law_shares.nd rfl (.inl rfl) (pe_call (ok_law_draw T) (hr.mono (by decide)) (by rfl) T.g_law_draw T.F_law_draw.kp T.b_law_draw .nil pass0 (pa_cons (pv 0) (pa_cons (pe_op op_add (pv 4) pe_int) pa_nil))))
      (pss_cons (ps_set (i := 4) sc_law_shares.nd rfl (.inl rfl) (pe_op op_sub (pv 4) (pv 7)))
      (pss_one (ps_for PassesOwn.never rfl (pi_listK K (pe_call (ok_law_contents T) (hr.mono (by decide)) (by rfl) T.g_law_contents T.F_law_contents.kp T.b_law_contents .nil pass0 (pa_cons (pv 1) pa_nil))) (pg_name (i := 8) sc_law_shares.nd rfl (.inl rfl)) (pss_cons (ps_set (i := 9) sc_law_shares.nd rfl (.inl rfl) (pe_call (ok_law_box T) (hr.mono (by decide)) (by rfl) T.g_law_box T.F_law_box.kp T.b_law_box .nil pass0 (pa_cons (pv 6) (pa_cons (pv 8) pa_nil))))
      (pss_one (ps_if (pt_cmpR (op_notinB (K := K) (P := P) (w := w) hr.units) (pv 9) (pv 5) (by rfl)) (pss_one (ps_dputB (K := K) (P := P) (w := w) hr.units (pv 5) (pv 9) (pe_call (ok_law_low T) (hr.mono (by decide)) (by rfl) T.g_law_low T.F_law_low.kp T.b_law_low .nil pass0 (pa_cons (pe_ifExp (pt_cmpR op_gt (pe_call (ok_law_draw T) (hr.mono (by decide)) (by rfl) T.g_law_draw T.F_law_draw.kp T.b_law_draw .nil pass0 (pa_cons (pv 0) (pa_cons pe_int pa_nil))) pe_int (nomark _)) (pe_call (ok_law_draw T) (hr.mono (by decide)) (by rfl) T.g_law_draw T.F_law_draw.kp T.b_law_draw .nil pass0 (pa_cons (pv 0) (pa_cons (pe_op op_add (pv 7) pe_int) pa_nil))) (pv 7)) (pa_cons (pv 3) pa_nil))) rfl)) pss_nil))))))))
      (pss_one (ps_ret (pv 5)))))))), ?_⟩
    refine ⟨_, rfl, a, ss.map V.int, rfl, .inr ha, ss.length, by rw [List.length_map]; rfl, h5, fun pp xs qs H1 np s1 hpp hxs pat => ?_⟩
    have hql : xs.length ≤ 32 := by
      rw [hxs.length, List.length_map, pat.len]
      exact (pow5 h5).2
    refine ⟨pp, rfl, ⟨xs, SqL.of hpp⟩, fun D nD => lc_list (K := K) (xs := xs) (fun j H' => ∃ (acc : List V) (ps : List (List Int)), Same H1 H' ∧ H' D = some (.lst acc) ∧ DhAll K H' acc (ps.map ctD) ∧ acc.length ≤ j ∧ (∀ p ∈ ps, Asc ss.length (-1) p ∧ p.length < ss.length) ∧ ([] ∈ qs.take j → 0 < acc.length))
      ⟨[], [], same_new nD, upd_same, .nil, Nat.le_refl _, (fun p hp => by cases hp), fun hm => by rw [List.take_zero] at hm; cases hm⟩ (fun j H' _ ⟨_, _, s', _⟩ => SqL.of (s' _ _ hpp)) ?_ ?_⟩
    · rintro j x H2 hx2 ⟨acc, ps, s2, hD, hac, hal, hps, h0⟩
      obtain ⟨d0, hd0, hxd⟩ := (hxs.ext (.of s2)).get hx2
      obtain ⟨p, hp, rfl⟩ := map_at hd0
      obtain ⟨pa, rfl, hpa⟩ := ct_inv hxd
      have asc := (pat.all p).mp (List.mem_of_getElem? hp)
      have hjl := (List.getElem?_eq_some_iff.mp hx2).1
      refine ⟨rfl, _, rfl, pa, _, rfl, .inr hpa, _, rfl, a, _, rfl, .inr ((Ext.of (s1.trans s2)).sqT ha), _, _, rfl, rfl, _, rfl, ?_⟩
      rw [List.length_map, List.length_map]
      by_cases e : p.length < ss.length
      · rw [decide_eq_true (show (p.length : Int) < (ss.length : Int) by omega)]
        refine iteT ?_
        have ep := Ext.put (ys := acc ++ [.ref pa]) hD
        refine ⟨_, rfl, acc, hD, sz_small (by omega), acc ++ [.ref pa], ps ++ [p], Same.put nD s2, upd_same, ?_, by rw [List.length_append]; show acc.length + 1 ≤ j + 1; omega, fun z hz => ?_, fun _ => by rw [List.length_append]; show 0 < acc.length + 1; omega⟩
        · rw [List.map_append]
          exact (hac.ext ep).snoc (hxd.ext ep)
        · rcases List.mem_append.mp hz with hz | hz
          · exact hps z hz
          · rw [List.mem_singleton.mp hz]
            exact ⟨asc, e⟩
      · rw [decide_eq_false (show ¬ (p.length : Int) < (ss.length : Int) by omega)]
        refine iteF ?_
        refine ⟨acc, ps, s2, hD, hac, by omega, hps, fun hm => h0 ?_⟩
        rw [List.take_add_one, hp] at hm
        rcases List.mem_append.mp hm with hm | hm
        · exact hm
        · have e2 : p = [] := (List.mem_singleton.mp hm).symm
          rw [e2] at e
          exact absurd (show 0 < ss.length by omega) e
    · rintro H2 ⟨acc, ps, s2, hD, hac, hal, hps, h0⟩
      have h1 : 0 < acc.length := h0 (by
        have e := hxs.length
        rw [List.length_map] at e
        rw [List.take_of_length_le (by omega)]
        exact (pat.all []).mpr True.intro)
      have s12 := s1.trans s2
      have x2 := hx.same s12
      have nDh : D ≠ h := ((hx.same s1).ne nD).1
      refine ⟨_, rfl, h, c, 12, rfl, x2, by decide, by decide, fun d H3 d0 d1 k3 => ⟨1, d, rfl, rfl, ?_⟩⟩
      have k03 := (Keep.of hx s12).trans k3
      refine ⟨_, rfl, fun f nf => ?_⟩
      have sf : Same H3 (upd H3 f (DBO P w f [])) := same_new nf
      have kf : Keep h c H (upd H3 f (DBO P w f [])) := k03.same sf
      have hf : (upd H3 f (DBO P w f [])) f = some (DBO P w f []) := upd_same
      have nfh : f ≠ h := (k03.hand.ne nf).1
      have hD4 := sf _ _ (k3.rest _ _ nDh hD)
      have hac4 := (hac.ext (Keep.ext x2 k3)).ext (Ext.of sf)
      have hfH : H f = none := Keep.free hx k03 nf
      generalize upd H3 f (DBO P w f []) = H4 at sf kf hf hD4 hac4 ⊢
      generalize hB : (1 : Int) + d = B
      have B1 : 1 ≤ B := by omega
      have B12 : B ≤ 12 := by omega
      refine ⟨_, rfl, h, c, 4, rfl, kf.hand, by decide, by decide, fun e H5 e0 e1 k5 => ?_⟩
      refine ⟨1, e, rfl, rfl, _, rfl, by omega, by omega, fun D2 nD2 => lc_range (lo := 0) (n := (1 + e).toNat) (fun i H' => ∃ ks : List (Addr × List Int), Keep h c H5 H' ∧ H' D2 = some (.lst (ks.map fun p => V.ref p.1)) ∧ (∀ p ∈ ks, SqT K H' p.1 (p.2.map V.int) ∧ Asc ss.length (-1) p.2 ∧ p.2.length < ss.length) ∧ ks.length = i)
        ⟨[], Keep.of k5.hand (same_new nD2), upd_same, (fun p hp => by cases hp), rfl⟩ ?_ ?_⟩
      · rintro i H' hi ⟨ks, k, hDl, hks, hkl⟩
        have ndh : D2 ≠ h := (k5.hand.ne nD2).1
        have k6 := k5.trans k
        refine ⟨rfl, ?_⟩
        dsimp only [tYes]
        rw [if_pos rfl]
        refine ⟨_, rfl, _, rfl, h, c, D, acc, rfl, k6.hand, nDh, k6.rest _ _ nDh hD4, h1, by omega, fun x H6 hxm k7 => ?_⟩
        obtain ⟨ix, hix, ex⟩ := List.mem_iff_getElem.mp hxm
        obtain ⟨d9, hd9, hxd9⟩ := (hac4.ext (Keep.ext kf.hand (k6.trans k7))).get (List.getElem?_eq_getElem hix)
        obtain ⟨ct, hct, rfl⟩ := map_at hd9
        rw [ex] at hxd9
        obtain ⟨b, rfl, hb⟩ := ct_inv hxd9
        have hok := hps ct (List.mem_of_getElem? hct)
        have hD6 := k7.rest _ _ ndh hDl
        have ep : Ext H6 (upd H6 D2 (.lst ((ks.map fun p => V.ref p.1) ++ [V.ref b]))) := Ext.put hD6
        refine ⟨_, hD6, ?_, ks ++ [(b, ct)], Keep.put k5.hand (k.trans k7) nD2, ?_, ?_, ?_⟩
        · rw [List.length_map]
          exact sz_small (by omega)
        · rw [upd_same, List.map_append]
          rfl
        · intro p hp
          rcases List.mem_append.mp hp with hp | hp
          · exact ⟨ep.sqT ((Keep.ext k.hand k7).sqT (hks p hp).1), (hks p hp).2⟩
          · rw [List.mem_singleton.mp hp]
            exact ⟨ep.sqT hb, hok⟩
        · rw [List.length_append, hkl]
          rfl
      · rintro H6 ⟨ks, k6, hDl, hks, hkl⟩
        refine ⟨D2, ks, rfl, SqL.of hDl, fun p hp => (hks p hp).1, by omega, fun sa L0 nsa hsub hall => ?_⟩
        have sA : Same H6 (upd H6 sa (SetTO P w sa L0)) := same_new nsa
        refine ⟨sa, L0, rfl, upd_same, fun p hp => (Ext.of sA).sqT (hks p (hsub p hp)).1, fun L' kp perm hlt pw nkp => ?_⟩
        have sB : Same H6 (upd (upd H6 sa (SetTO P w sa L0)) kp (.lst (L'.map fun q => V.ref q.1))) := sA.trans (same_new nkp)
        have hkp : (upd (upd H6 sa (SetTO P w sa L0)) kp (.lst (L'.map fun q => V.ref q.1))) kp = some (.lst (L'.map fun q => V.ref q.1)) := upd_same
        have hL' : ∀ q ∈ L', SqT K (upd (upd H6 sa (SetTO P w sa L0)) kp (.lst (L'.map fun q => V.ref q.1))) q.1 (q.2.map V.int) := fun q hq => (Ext.of sB).sqT (hks q (hsub q (perm.mem_iff.mp hq))).1
        have hLk : ∀ q ∈ L', Asc ss.length (-1) q.2 ∧ q.2.length < ss.length := fun q hq => (hks q (hsub q (perm.mem_iff.mp hq))).2
        have kpn : kp ≠ h := ((k6.hand.same sA).ne nkp).1
        have kB := (k5.trans k6).same sB
        have keys : KeysOk ss.length (L'.map (·.2)) := by
          have z0 : (L'.map (·.2)).Pairwise fun x y => HT.lexLt x y = true := List.pairwise_map.mpr pw
          refine ⟨z0, ?_, fun p hp => ?_⟩
          · have y := nodup_len (L'.map (·.2)) (ks.map (·.2)) (asc_nodup z0) fun e he => by
              obtain ⟨q, hq, rfl⟩ := List.mem_map.mp he
              exact List.mem_map.mpr ⟨q, hsub q (perm.mem_iff.mp hq), rfl⟩
            simp only [List.length_map] at y ⊢
            omega
          · obtain ⟨q, hq, rfl⟩ := List.mem_map.mp hp
            exact hLk q hq
        have hf7 := kB.rest _ _ nfh hf
        generalize upd (upd H6 sa (SetTO P w sa L0)) kp (.lst (L'.map fun q => V.ref q.1)) = H7 at sB hkp hL' kB hf7 ⊢
        have k07 := kf.trans kB
        have l4 : L'.length ≤ 4 := by
          have := keys.2.1
          rwa [List.length_map] at this
        refine ⟨kp, rfl, ⟨_, SqL.of hkp⟩, for_list (K := K) (a := kp) (xs := L'.map fun q => V.ref q.1) (fun i σ H' => ∃ (left : Int) (y6 y7 y8 y9 : Option V) (ms : List Int) (L : BoxL), σ = [some (.ref h), some (.ref a), some (.ref D), some (.int B), some (.int left), some (.ref f), y6, y7, y8, y9, none] ∧ Keep h c H H' ∧ H' kp = some (.lst (L'.map fun q => V.ref q.1)) ∧ (∀ q ∈ L', SqT K H' q.1 (q.2.map V.int)) ∧
            ms.length = i ∧ (∀ m ∈ ms, 0 ≤ m) ∧ 0 ≤ left ∧ sumI ms + left = B ∧ ShAt K P w ss B H' f L (L'.map (·.2)) ms ∧ L.length ≤ i * 1024)
          ⟨B, none, none, none, none, [], [], by rw [← hB]; rfl, k07, hkp, hL', rfl, (fun m hm => by cases hm), by omega, by show (0 : Int) + B = B; omega, ⟨hf7, (fun p hp => by cases hp), List.nodup_nil, fun e he => by cases he⟩, Nat.zero_le _⟩ (fun i σ H' _ ⟨_, _, _, _, _, _, _, _, _, e, _⟩ => SqL.of e) ?_ ?_⟩
        · rintro i x σ H8 hxi ⟨left, y6, y7, y8, y9, ms, L, rfl, k8, hkp8, hL8, hml, hm0, l0, hsum, sh, hll⟩
          rw [List.getElem?_map] at hxi
          obtain ⟨qq, hqq, rfl⟩ := Option.map_eq_some_iff.mp hxi
          have hqm := List.mem_of_getElem? hqq
          have hil := (List.getElem?_eq_some_iff.mp hqq).1
          have sm0 : 0 ≤ sumI ms := sumI_nn hm0
          refine ⟨_, rfl, _, rfl, _, _, rfl, rfl, h, c, left + 1, rfl, k8.hand, by omega, by omega, fun mo H9 m0 m1 k9 => ?_⟩
          refine ⟨_, rfl, _, rfl, _, _, rfl, rfl, ?_⟩
          have k09 := k8.trans k9
          refine ⟨_, rfl, a, ss, rfl, (Keep.ext hx k09).sqT ha, ok, fun cp cs H10 ncp s10 hcp hcs => ?_⟩
          have k010 := k09.same s10
          have hkp10 := s10 _ _ (k9.rest _ _ kpn hkp8)
          have e810 : Ext H8 H10 := (Keep.ext k8.hand k9).trans (Ext.of s10)
          have hf10 := s10 _ _ (k9.rest _ _ nfh sh.dict)
          have sh10 := (sh.go e810 hf10).more (mo := mo)
          have hcl : cs.length = (allC ss).length := by rw [hcs.length, List.length_map]
          refine ⟨cp, rfl, ⟨cs, SqL.of hcp⟩, for_list (K := K) (a := cp) (xs := cs) (fun j σ H' => ∃ (y8 y9 : Option V) (L : BoxL), σ = [some (.ref h), some (.ref a), some (.ref D), some (.int B), some (.int (left - mo)), some (.ref f), some (.ref qq.1), some (.int mo), y8, y9, none] ∧ Keep h c H H' ∧ H' kp = some (.lst (L'.map fun q => V.ref q.1)) ∧ (∀ q ∈ L', SqT K H' q.1 (q.2.map V.int)) ∧ Cts K H' cp cs ss ∧
              ShAt K P w ss B H' f L (L'.map (·.2)) (ms ++ [mo]) ∧ L.length ≤ i * 1024 + j)
            ⟨y8, y9, L, rfl, k010, hkp10, fun q hq => e810.sqT (hL8 q hq), cts_of hcp hcs, sh10, hll⟩ (fun j σ H' _ ⟨_, _, _, _, _, _, _, ct, _⟩ => SqL.of ct.lst) ?_ ?_⟩
          · rintro j cv σ H11 hcj ⟨y8, y9, L1, rfl, k11, hkp11, hL11, ct11, sh11, hl1⟩
            obtain ⟨cj, cb, hcq, rfl, hcb⟩ := ct11.at' j _ hcj
            have hjl := (List.getElem?_eq_some_iff.mp hcj).1
            have hlen : cj.length = ss.length := (mem_allC.mp (List.mem_of_getElem? hcq)).len
            have hkq := hLk qq hqm
            refine ⟨_, rfl, _, rfl, qq.2, cj, _, _, rfl, dh_ct (hL11 qq hqm), dh_ct hcb, fun z hz => by have := hkq.1.mem z hz; omega, by omega, fun bv H12 s12 hbv => ?_⟩
            obtain ⟨b, rfl, hba⟩ := box_at hbv
            have k12 := k11.same s12
            have sh12 := sh11.go (Ext.of s12) (s12 _ _ sh11.dict)
            have hkp12 := s12 _ _ hkp11
            have ct12 := ct11.go s12
            refine ⟨_, rfl, _, rfl, b, f, (qq.2, picks qq.2 cj), L1, rfl, rfl, sh12.dict, sh12.box, hba, _, rfl, ?_⟩
            cases hfb : findB L1 (qq.2, picks qq.2 cj) with
            | some u =>
              refine iteF ?_
              exact ⟨_, _, L1, rfl, k12, hkp12, fun q hq => (Ext.of s12).sqT (hL11 q hq), ct12, sh12, by omega⟩
            | none =>
              refine iteT ?_
              refine e_share k12.hand m0 (by omega) fun m H13 k13 hm1 hm2 => ?_
              refine ⟨_, rfl, m, B, rfl, by omega, b12_le B12, hm1, fun v H14 s14 hv => ?_⟩
              have e1214 : Ext H12 H14 := (Keep.ext k12.hand k13).trans (Ext.of s14)
              have k014 := (k12.trans k13).same s14
              have sh14 := sh12.go e1214 (s14 _ _ (k13.rest _ _ nfh sh12.dict))
              have hba14 := hba.ext e1214
              obtain ⟨va, rfl, hva⟩ := fr_inv hv
              have cpn : cp ≠ h := (k09.hand.ne ncp).1
              have hkp14 := s14 _ _ (k13.rest _ _ kpn hkp12)
              have ct14 : Cts K H14 cp cs ss := ⟨s14 _ _ (k13.rest _ _ cpn ct12.lst), fun ii z hz => by
                obtain ⟨c2, b2, t1, t2, t3⟩ := ct12.at' ii z hz
                exact ⟨c2, b2, t1, t2, e1214.sqT t3⟩⟩
              refine ⟨_, rfl, _, rfl, f, b, (qq.2, picks qq.2 cj), L1, rfl, rfl, sh14.dict, sh14.box, hba14, hfb, by omega, ?_⟩
              refine ⟨_, _, _, rfl, Keep.put hx k014 hfH, ?_, fun q hq => sqT_put sh14.dict (((Ext.of s12).trans e1214).sqT (hL11 q hq)), ct14.put sh14.dict, sh14.put hba14 hfb ⟨i, mo, m, va, ⟨?_, cj, mem_allC.mp (List.mem_of_getElem? hcq), rfl⟩, ?_, hm1, hm2, rfl, hva⟩, by rw [List.length_append]; show L1.length + 1 ≤ _; omega⟩
              · rw [upd_ne (ne_of hkp14 sh14.dict fun e => by cases e)]
                exact hkp14
              · show (L'.map (·.2))[i]? = some qq.2
                rw [List.getElem?_map, hqq]
                rfl
              · rw [List.getElem?_append_right (by omega), hml, Nat.sub_self]
                rfl
          · rintro σ H11 ⟨y8, y9, L1, rfl, k11, hkp11, hL11, ct11, sh11, hl1⟩
            refine ⟨_, _, _, _, _, _, L1, rfl, k11, hkp11, hL11, by rw [List.length_append, hml]; rfl, fun m hm => ?_, by omega, by rw [sumI_snoc]; omega, sh11, by omega⟩
            rcases List.mem_append.mp hm with hm | hm
            · exact hm0 m hm
            · rw [List.mem_singleton.mp hm]
              exact m0
        · rintro σ H8 ⟨left, y6, y7, y8, y9, ms, L, rfl, k8, hkp8, hL8, hml, hm0, l0, hsum, sh, hll⟩
          rw [List.length_map] at hml hll
          exact ⟨_, rfl, q f H8 B L (L'.map (·.2)) ms k8 nfh keys ⟨B1, B12, hm0, by omega⟩ (by rw [List.length_map, hml]) sh (by omega)⟩

end
end Fm
namespace Fm
open PySem PySem.Spec PyProof.Rows L2
section
variable {P : Program} {w : World} {K : PySem.W.Frag} {mg : Str → Option Value} {base : Heap}

/-! ### shares, read -/
section
variable {X : Cx}
def tDGetBR (K : PySem.W.Frag) (P : Program) (w : World) (td ty : TE) : TE := fun σ H Q => td σ H fun x H1 => ty σ H1 fun y H2 => ∃ (a b : Addr) (q : List Int × List Int) (L : BoxL) (v : V), x = .ref a ∧ y = .ref b ∧ Rd H2 a (DBO P w a L) ∧ BoxesAt K H2 L ∧ BoxAt K H2 b q ∧ findB L q = some v ∧ Q v H2
theorem pe_dgetBR {o i : Expr} {pos : Pos} {td ty : TE} (hu : X.A.units + 64 < cLine) (ho : PE X o td) (hi : PE X i ty) (hs : NoSl i) (eK : X.K = K := by rfl) (eP : X.prog = P := by rfl) (ew : X.w = w := by rfl) : PE X (.Subscript o i pos) (tDGetBR K P w td ty) := by
  subst eK eP ew
  refine ⟨fun pins s σ H Q I h => ?_⟩
  refine subD_of PySem.F.slot_dict_getitem.lookup hs (thn (ho.run pins s σ H _ I h) fun u s1 ⟨x, H1, I1, rx, q1⟩ => thn (hi.run pins s1 σ H1 _ I1 q1) fun iv s2 ⟨y, H2, I2, ry, a, b, q, L, v, ex, ey, ha, hL, hb, hv, q2⟩ => ?_)
  subst ex ey
  cases rx
  cases ry
  obtain ⟨xs, hF, hd⟩ := Inv.dbo I2 ha
  have dd := boxes_full I2 hF hd hL
  have rl := hF.find q
  rw [hv] at rl
  cases hz : atKey xs (bk q) with
  | none =>
    rw [hz] at rl
    exact (show False from rl).elim
  | some p =>
    rw [hz] at rl
    exact ⟨dd.typeIs, wpAny_getItem_heap (knd := NK X.prog X.w) (show X.A.units + 1 + 8 < cLine by omega) (Inv.boxKey I2 hb) dd hz ⟨_, H2, I2.tok _, rl, q2⟩⟩
end
theorem made_row10 {n : Nat} {B : Int} {qs : List (List Int)} {ms : List Int} (hn : n ≤ 5) (hl : qs.length = ms.length) (hq : ∀ q ∈ qs, Asc n (-1) q) (hp : qs.Pairwise fun x y => HT.lexLt x y = true) (h1 : ∀ m ∈ ms, 1 ≤ m ∧ m ≤ B) (hs : sumI ms = B) (hB : B ≤ 100) (h0 : 0 < B) (h4 : qs.length ≤ 10) :
    Wf (.tup (List.zipWith (itD B) qs ms)) ∧ (Dt.tup (List.zipWith (itD B) qs ms)).isRow n = true ∧ ∀ e ∈ List.zipWith (itD B) qs ms, e.p2.zz.2 ≤ 100 := by
  have mem : ∀ d ∈ List.zipWith (itD B) qs ms, ∃ q m, q ∈ qs ∧ m ∈ ms ∧ d = itD B q m := fun d hd => by
    obtain ⟨i, hi, rfl⟩ := List.mem_iff_getElem.mp hd
    rw [List.length_zipWith] at hi
    rw [List.getElem_zipWith]
    exact ⟨_, _, List.getElem_mem _, List.getElem_mem _, rfl⟩
  refine ⟨.tup (by rw [List.length_zipWith]; omega) fun d hd => ?_, ?_, fun d hd => ?_⟩
  rotate_left 2
  · obtain ⟨q, m, e1, e2, rfl⟩ := mem d hd
    have f := low_fr (n := 1) (B := B.toNat) (t := m) h0 (by omega) (by have := (h1 m e2).1; omega) (by have := (h1 m e2).2; omega)
    have z : (lowZ m B).2 ≤ 100 := by have := f.bot; omega
    exact z
  · obtain ⟨q, m, e1, e2, rfl⟩ := mem d hd
    exact itD_wf hn (hq q e1) (h1 m e2).1 (h1 m e2).2 hB
  · show rowGo n none (0, 1) _ = true
    rw [rowGo_eq]
    have a1 : (List.zipWith (itD B) qs ms).all Dt.isPair = true := List.all_eq_true.mpr fun d hd => by
      obtain ⟨q, m, _, _, rfl⟩ := mem d hd
      rfl
    have a2 : ((List.zipWith (itD B) qs ms).all fun d => d.p1.isPat n && d.p2.isShr) = true := List.all_eq_true.mpr fun d hd => by
      obtain ⟨q, m, e1, e2, rfl⟩ := mem d hd
      show ((ctD q).isPat n && (frD (lowZ m B)).isShr) = true
      rw [(hq q e1).isPat, itD_shr (h1 m e2).1 (h1 m e2).2]
      rfl
    have a3 : hdOk none (List.zipWith (itD B) qs ms) = true := by
      cases List.zipWith (itD B) qs ms <;> rfl
    have key : ∀ (qs : List (List Int)) (ms : List Int), qs.length = ms.length → (List.zipWith (itD B) qs ms).map (fun d => d.p1.ints) = qs ∧ (List.zipWith (itD B) qs ms).map (fun d => d.p2.zz) = ms.map fun m => lowZ m B := by
      intro qs
      induction qs with
      | nil =>
        intro ms h
        have : ms = [] := List.eq_nil_of_length_eq_zero h.symm
        subst this
        exact ⟨rfl, rfl⟩
      | cons q qs ih =>
        intro ms h
        match ms, h with
        | m :: ms, h =>
          obtain ⟨i1, i2⟩ := ih ms (by simpa using h)
          refine ⟨?_, ?_⟩
          · rw [List.zipWith_cons_cons, List.map_cons, i1]
            show (ctD q).ints :: qs = q :: qs
            rw [ints_ct]
          · rw [List.zipWith_cons_cons, List.map_cons, i2]
            rfl
    obtain ⟨k1, k2⟩ := key qs ms hl
    have a4 : adj ltE (List.zipWith (itD B) qs ms) = true := by
      refine adj_pw ?_
      have z : ((List.zipWith (itD B) qs ms).map fun d => d.p1.ints).Pairwise fun x y => HT.lexLt x y = true := by rw [k1]; exact hp
      exact List.pairwise_map.mp z
    have a5 : ((List.zipWith (itD B) qs ms).map fun d => d.p2.zz).foldl plusZ (0, 1) = (1, 1) := by
      rw [k2]
      exact sum_low h0 (fun m hm => by have := (h1 m hm).1; omega) hs
    rw [a1, a2, a3, a4, a5]
    rfl

structure ShG (K : PySem.W.Frag) (B : Int) (H : Hp) (L : BoxL) (ks : List (List Int)) (ms : List Int) (g : List Int × List Int → Int) : Prop where
  box : BoxesAt K H L
  nd : (L.map (·.2.1)).Nodup
  val : ∀ e ∈ L, ∃ a, e.2.2 = .ref a ∧ SqT K H a [.int (lowZ (g e.2.1) B).1, .int (lowZ (g e.2.1) B).2]
  bd : ∀ e ∈ L, 0 ≤ g e.2.1 ∧ ∃ (i : Nat) (mo : Int), ks[i]? = some e.2.1.1 ∧ ms[i]? = some mo ∧ g e.2.1 ≤ mo
  off : ∀ q, q ∉ L.map (·.2.1) → g q = 0
theorem ShG.ext {B : Int} {H H' : Hp} {L : BoxL} {ks : List (List Int)} {ms : List Int} {g : List Int × List Int → Int} (e : Ext H H') (x : ShG K B H L ks ms g) : ShG K B H' L ks ms g := ⟨fun p hp => (x.box p hp).ext e, x.nd, fun p hp => by
  obtain ⟨a, h1, h2⟩ := x.val p hp
  exact ⟨a, h1, e.sqT h2⟩, x.bd, x.off⟩
theorem sh_fn {ss : List Int} {B : Int} {H : Hp} {ks : List (List Int)} {ms : List Int} : ∀ {L : BoxL}, (L.map (·.2.1)).Nodup → (∀ e ∈ L, ShV K ss H B ks ms e) → ∃ g : List Int × List Int → Int, (∀ e ∈ L, ∃ a, e.2.2 = .ref a ∧ SqT K H a [.int (lowZ (g e.2.1) B).1, .int (lowZ (g e.2.1) B).2]) ∧
    (∀ e ∈ L, 0 ≤ g e.2.1 ∧ ∃ (i : Nat) (mo : Int), ks[i]? = some e.2.1.1 ∧ ms[i]? = some mo ∧ g e.2.1 ≤ mo) ∧ ∀ q, q ∉ L.map (·.2.1) → g q = 0
  | [], _, _ => ⟨fun _ => 0, (fun e he => by cases he), (fun e he => by cases he), fun _ _ => rfl⟩
  | e :: L, nd, h => by
    rw [List.map_cons, List.nodup_cons] at nd
    obtain ⟨g, g1, g2, g3⟩ := sh_fn (L := L) nd.2 fun z hz => h z (List.mem_cons_of_mem _ hz)
    obtain ⟨i, mo, m, a, h1, h2, h3, h4, h5, h6⟩ := h e (List.mem_cons_self ..)
    have hne : ∀ z ∈ L, z.2.1 ≠ e.2.1 := fun z hz y => nd.1 (y ▸ List.mem_map_of_mem (f := fun z => z.2.1) hz)
    refine ⟨fun q => if q = e.2.1 then m else g q, fun z hz => ?_, fun z hz => ?_, fun q hq => ?_⟩
    · rcases List.mem_cons.mp hz with y | y
      · rw [y]
        simp only [if_pos]
        exact ⟨a, h5, h6⟩
      · simp only [if_neg (hne z y)]
        exact g1 z y
    · rcases List.mem_cons.mp hz with y | y
      · rw [y]
        simp only [if_pos]
        exact ⟨h3, i, mo, h1.1, h2, h4⟩
      · simp only [if_neg (hne z y)]
        exact g2 z y
    · rw [List.map_cons] at hq
      have n1 : q ≠ e.2.1 := fun y => hq (y ▸ List.mem_cons_self ..)
      simp only [if_neg n1]
      exact g3 q fun y => hq (List.mem_cons_of_mem _ y)
theorem ShAt.fn {ss : List Int} {B : Int} {H : Hp} {f : Addr} {L : BoxL} {ks : List (List Int)} {ms : List Int} (x : ShAt K P w ss B H f L ks ms) : ∃ g, ShG K B H L ks ms g := by
  obtain ⟨g, g1, g2, g3⟩ := sh_fn x.nd x.val
  exact ⟨g, x.box, x.nd, g1, g2, g3⟩
theorem findB_some {L : BoxL} (nd : (L.map (·.2.1)).Nodup) : ∀ {p}, p ∈ L → findB L p.2.1 = some p.2.2 := by
  induction L with
  | nil => intro p hp; cases hp
  | cons e L ih =>
    intro p hp
    rw [List.map_cons, List.nodup_cons] at nd
    unfold findB
    rw [List.find?_cons]
    rcases List.mem_cons.mp hp with y | y
    · rw [y, decide_eq_true rfl]
      rfl
    · have n1 : ¬ e.2.1 = p.2.1 := fun z => nd.1 (z ▸ List.mem_map_of_mem (f := fun z => z.2.1) y)
      rw [decide_eq_false n1]
      exact ih nd.2 y
theorem low_sgn {m B : Int} (h0 : 0 < B) (hm : 0 ≤ m) : (0 < (lowZ m B).1 ↔ 0 < m) := by
  obtain ⟨h1, _⟩ := low_parts (t := m) h0
  have g0 := gz_pos (t := m) h0
  constructor
  · intro h
    rw [h1]
    exact Int.mul_pos g0 h
  · intro h
    rcases Int.lt_trichotomy (lowZ m B).1 0 with z | z | z
    · have := Int.mul_neg_of_pos_of_neg g0 z
      omega
    · rw [z, Int.mul_zero] at h1
      omega
    · exact z
/-- what is left, of a sum that is told low -/
theorem low_rest {s B : Int} (h0 : 0 < B) (hs : 0 ≤ s) : lowZ ((lowZ s B).2 - (lowZ s B).1) (lowZ s B).2 = lowZ (B - s) B := by
  obtain ⟨h1, h2⟩ := low_parts (t := s) h0
  have g0 := gz_pos (t := s) h0
  rw [← low_mul (a := (lowZ s B).2 - (lowZ s B).1) (b := (lowZ s B).2) g0, Int.mul_sub, ← h1, ← h2]
theorem sum_le {f : List Int → Int} : ∀ {ks : List (List Int)} {ms : List Int}, ks.length = ms.length → (∀ (i : Nat) k m, ks[i]? = some k → ms[i]? = some m → f k ≤ m) → sumI (ks.map f) ≤ sumI ms
  | [], [], _, _ => Int.le_refl _
  | k :: ks, m :: ms, hl, h => by
    rw [List.map_cons, sumI_cons, sumI_cons]
    have a := h 0 k m rfl rfl
    have b := sum_le (f := f) (ks := ks) (ms := ms) (by simpa using hl) fun i k m h1 h2 => h (i + 1) k m h1 h2
    omega

end
end Fm
namespace Fm
open PySem PySem.Spec PyProof.Rows L2
section
variable {P : Program} {w : World} {K : PySem.W.Frag} {mg : Str → Option Value} {base : Heap}

/-! ### sorted rows -/
def itPD (B : Int) (p : List Int × Int) : PyData := .tuple [ctP p.1, ctP [(lowZ p.2 B).1, (lowZ p.2 B).2]]
theorem dp_it {H : Hp} {v : V} {B : Int} {p : List Int × Int} (h : Dh K H v (itD B p.1 p.2)) : Dp K H v (itPD B p) := by
  obtain ⟨a, xs, rfl, s, t⟩ := h.tup_inv
  obtain ⟨v1, v2, rfl, h1, h2⟩ := dh_two t
  exact .tup s (.cons (dp_ct h1) (.cons (dp_ct (c := [(lowZ p.2 B).1, (lowZ p.2 B).2]) h2) .nil))
theorem its_data {H : Hp} {B : Int} : ∀ {xs : List V} {R : List (List Int × Int)}, DhAll K H xs (R.map fun p => itD B p.1 p.2) → ∃ cs : List (V × (List Int × Int)), cs.map (·.1) = xs ∧ cs.map (·.2) = R ∧ ∀ b ∈ cs, Dh K H b.1 (itD B b.2.1 b.2.2)
  | [], [], _ => ⟨[], rfl, rfl, fun b hb => by cases hb⟩
  | x :: xs, c :: qs, h => by
    rw [List.map_cons] at h
    cases h with
    | cons h t =>
      obtain ⟨bs, e, e2, hb⟩ := its_data t
      refine ⟨(x, c) :: bs, by rw [List.map_cons, e], by rw [List.map_cons, e2], fun b hm => ?_⟩
      rcases List.mem_cons.mp hm with z | z
      · rw [z]
        exact h
      · exact hb b z
  | x :: xs, [], h => by cases h
  | [], c :: qs, h => by cases h
theorem its_of {H : Hp} {B : Int} : ∀ {cs : List (V × (List Int × Int))}, (∀ b ∈ cs, Dh K H b.1 (itD B b.2.1 b.2.2)) → DhAll K H (cs.map (·.1)) ((cs.map (·.2)).map fun p => itD B p.1 p.2)
  | [], _ => .nil
  | b :: S, h => .cons (h b (List.mem_cons_self ..)) (its_of fun z hz => h z (List.mem_cons_of_mem _ hz))
theorem sort_items {H : Hp} {a : Addr} {xs : List V} {B : Int} {R : List (List Int × Int)} {Q : VK} (hs : SqL K H a xs) (hd : DhAll K H xs (R.map fun p => itD B p.1 p.2)) (nd : (R.map (·.1)).Nodup)
    (q : ∀ p ys (S : List (List Int × Int)), H p = none → DhAll K H ys (S.map fun p => itD B p.1 p.2) → S.Perm R → (S.map (·.1)).Pairwise (fun a b => HT.lexLt a b = true) → Q (.ref p) (upd H p (.lst ys))) : rSortTs K [.ref a] H Q := by
  obtain ⟨cs, e, e2, hb⟩ := its_data hd
  have e1 : (cs.map fun b => (b.1, itPD B b.2)).map (·.1) = xs := by
    rw [List.map_map, ← e]
    rfl
  have ndc : (cs.map fun b => b.2.1).Nodup := by
    rw [← e2, List.map_map] at nd
    exact nd
  refine ⟨a, cs.map fun b => (b.1, itPD B b.2), rfl, by rw [e1]; exact hs, fun b hm => ?_, ?_, fun p np => ?_⟩
  · obtain ⟨z, hz, rfl⟩ := List.mem_map.mp hm
    refine ⟨dp_it (hb z hz), ⟨_, rfl⟩, ?_⟩
    obtain ⟨h1, h2⟩ := lay_all (f := fun c => ctP c) (n := 1) lay_ct [z.2.1, [(lowZ z.2.2 B).1, (lowZ z.2.2 B).2]]
    have h3 : (itPD B z.2).depth ≤ 2 := Nat.succ_le_succ h2
    exact Nat.le_trans h3 (by decide)
  · intro d hd d' hd'
    obtain ⟨b, hm, rfl⟩ := List.mem_map.mp hd
    obtain ⟨b', hm', rfl⟩ := List.mem_map.mp hd'
    obtain ⟨z, hz, rfl⟩ := List.mem_map.mp hm
    obtain ⟨z', hz', rfl⟩ := List.mem_map.mp hm'
    show (PySem.W.alikeAll (z.2.1.map PyData.int) (z'.2.1.map PyData.int) && (PySem.W.alikeAll ([(lowZ z.2.2 B).1, (lowZ z.2.2 B).2].map PyData.int) ([(lowZ z'.2.2 B).1, (lowZ z'.2.2 B).2].map PyData.int) && true)) = true
    rw [PySem.W.alike_ints, PySem.W.alike_ints]
    rfl
  · have key := List.map_mergeSort (r := fun a b : V × (List Int × Int) => decide (a.2.1 ≤ b.2.1)) (s := PySem.W.dataLe false (fun b : V × PyData => b.2)) (f := fun b => (b.1, itPD B b.2)) (l := cs) fun b hm b' hm' => by
      rw [PySem.W.dataLe_eq]
      show _ = !PySem.W.dataLt (itPD B b'.2) (itPD B b.2)
      unfold itPD
      have al : ∀ c d : List Int, PySem.W.alike (ctP c) (ctP d) = true := fun c d => PySem.W.alike_ints c d
      rw [PySem.W.dataLt_pair (al _ _) (al _ _), eqv_ct]
      by_cases e : b'.2.1 = b.2.1
      · obtain ⟨i, hi, ei⟩ := List.mem_iff_getElem.mp hm
        obtain ⟨j, hj, ej⟩ := List.mem_iff_getElem.mp hm'
        have hij : j = i := nodup_ix ndc (i := j) (j := i) (x := b.2.1) (by rw [List.getElem?_map, List.getElem?_eq_getElem hj, ej]; exact congrArg some e) (by rw [List.getElem?_map, List.getElem?_eq_getElem hi, ei]; rfl)
        subst hij
        have eb : b' = b := ej.symm.trans ei
        rw [eb, eqv_ct]
        simp
      · rw [decide_eq_false e, if_neg (by decide)]
        exact (le_pats _ _).symm
    rw [← key]
    have pm := List.mergeSort_perm cs fun a b : V × (List Int × Int) => decide (a.2.1 ≤ b.2.1)
    have z := q p ((cs.mergeSort fun a b : V × (List Int × Int) => decide (a.2.1 ≤ b.2.1)).map (·.1)) ((cs.mergeSort fun a b : V × (List Int × Int) => decide (a.2.1 ≤ b.2.1)).map (·.2)) np (its_of fun b hm => hb b (pm.mem_iff.mp hm)) (by rw [← e2]; exact pm.map _) (by
      rw [List.map_map]
      have k2 := List.map_mergeSort (r := fun a b : V × (List Int × Int) => decide (a.2.1 ≤ b.2.1)) (s := fun a b : List Int => decide (a ≤ b)) (f := fun b => b.2.1) (l := cs) fun b _ b' _ => rfl
      have k3 : (cs.mergeSort fun a b : V × (List Int × Int) => decide (a.2.1 ≤ b.2.1)).map ((fun p : List Int × Int => p.1) ∘ fun b : V × (List Int × Int) => b.2) = (cs.map fun b => b.2.1).mergeSort fun a b => decide (a ≤ b) := k2
      rw [k3]
      exact sorted_pats ndc)
    rw [List.map_map]
    exact z
theorem look_mem {q : List Int} {m : Int} : ∀ {S : List (List Int × Int)}, (S.map (·.1)).Nodup → (q, m) ∈ S → lookM (S.map (·.1)) (S.map (·.2)) q = m
  | s :: S, nd, h => by
    rw [List.map_cons, List.nodup_cons] at nd
    show (if s.1 = q then s.2 else lookM (S.map (·.1)) (S.map (·.2)) q) = m
    rcases List.mem_cons.mp h with e | e
    · rw [← e, if_pos rfl]
    · rw [if_neg (fun z : s.1 = q => nd.1 (by rw [z]; exact List.mem_map.mpr ⟨(q, m), e, rfl⟩))]
      exact look_mem nd.2 e
theorem zip_its {B : Int} : ∀ S : List (List Int × Int), List.zipWith (itD B) (S.map (·.1)) (S.map (·.2)) = S.map fun p => itD B p.1 p.2
  | [] => rfl
  | s :: S => by
    rw [List.map_cons, List.map_cons, List.map_cons, List.zipWith_cons_cons, zip_its S]
theorem sum_perm {l m : List Int} (h : l.Perm m) : sumI l = sumI m := by
  induction h with
  | nil => rfl
  | cons x _ ih => rw [sumI_cons, sumI_cons, ih]
  | swap x y l =>
    rw [sumI_cons, sumI_cons, sumI_cons, sumI_cons]
    omega
  | trans _ _ a b => rw [a, b]

end
end Fm
namespace Fm
open PySem PySem.Spec PyProof.Rows L2
section
variable {P : Program} {w : World} {K : PySem.W.Frag} {mg : Str → Option Value} {base : Heap}

/-! ### what a row of shares is -/
theorem asc_at {n : Int} : ∀ {ps : List Int} {l : Int}, Asc n l ps → (ps.length : Int) + l + 1 = n → ∀ (i : Nat) (z : Int), ps[i]? = some z → z = l + 1 + i
  | c :: r, l, ⟨h1, h2, h3⟩, hl, i, z, hz => by
    have h4 := h3.lenA h2
    rw [List.length_cons] at hl
    have ec : c = l + 1 := by omega
    cases i with
    | zero =>
      have e : c = z := by simpa using hz
      omega
    | succ i =>
      have := asc_at h3 (by omega) i z (by simpa using hz)
      omega

theorem asc_full {n : Nat} {k : List Int} (h : Asc n (-1) k) (hl : ¬ k.length < n) : k = rgI n := by
  have h2 := h.len (by omega)
  refine List.ext_getElem (by unfold rgI; rw [List.length_map, List.length_range]; omega) fun i h3 h4 => ?_
  have z := asc_at h (by omega) i k[i] (List.getElem?_eq_getElem h3)
  have l : (rgI n).length = n := by unfold rgI; rw [List.length_map, List.length_range]
  have e : (rgI n)[i]? = some ((i : Nat) : Int) := by
    unfold rgI
    rw [List.getElem?_map, List.getElem?_range (by omega)]
    rfl
  rw [List.getElem?_eq_getElem h4] at e
  have e := Option.some.inj e
  omega
theorem nd_val {α β : Type} : ∀ {l : List (α × β)}, (l.map (·.1)).Nodup → ∀ {k : α} {m m' : β}, (k, m) ∈ l → (k, m') ∈ l → m = m'
  | p :: l, nd, k, m, m', h, h' => by
    rw [List.map_cons, List.nodup_cons] at nd
    rcases List.mem_cons.mp h with e | e <;> rcases List.mem_cons.mp h' with e' | e'
    · rw [← e] at e'
      exact (Prod.mk.inj e').2.symm
    · exact (nd.1 (by rw [← e]; exact List.mem_map.mpr ⟨_, e', rfl⟩)).elim
    · exact (nd.1 (by rw [← e']; exact List.mem_map.mpr ⟨_, e, rfl⟩)).elim
    · exact nd_val nd.2 e e'
def restS (B : Int) (g : List Int × List Int → Int) (ks : List (List Int)) (c : List Int) : Int := B - sumI (ks.map fun k => g (k, picks k c))
structure RowS (n : Nat) (B : Int) (g : List Int × List Int → Int) (ks : List (List Int)) (c : List Int) (S : List (List Int × Int)) : Prop where
  pw : (S.map (·.1)).Pairwise fun a b => HT.lexLt a b = true
  mem : ∀ k m, (k, m) ∈ S ↔ (k.length < n ∧ 0 < m ∧ m = g (k, picks k c)) ∨ (k = rgI n ∧ 0 < m ∧ m = restS B g ks c)
theorem RowS.one {n : Nat} {B : Int} {g : List Int × List Int → Int} {ks : List (List Int)} {c : List Int} {S S' : List (List Int × Int)} (h : RowS n B g ks c S) (h' : RowS n B g ks c S') : S = S' := by
  have mm : ∀ k m, (k, m) ∈ S ↔ (k, m) ∈ S' := fun k m => (h.mem k m).trans (h'.mem k m).symm
  have ek : S.map (·.1) = S'.map (·.1) := by
    have o1 : SortedOf (S.map (·.1)) (S.map (·.1)) := ⟨h.pw, fun _ => Iff.rfl⟩
    have o2 : SortedOf (S'.map (·.1)) (S.map (·.1)) := ⟨h'.pw, fun q => by
      constructor
      · intro z
        obtain ⟨⟨k, m⟩, hp, rfl⟩ := List.mem_map.mp z
        exact List.mem_map.mpr ⟨(k, m), (mm k m).mpr hp, rfl⟩
      · intro z
        obtain ⟨⟨k, m⟩, hp, rfl⟩ := List.mem_map.mp z
        exact List.mem_map.mpr ⟨(k, m), (mm k m).mp hp, rfl⟩⟩
    exact o1.one o2 fun _ => Iff.rfl
  have el : S.length = S'.length := by
    have := congrArg List.length ek
    rwa [List.length_map, List.length_map] at this
  refine List.ext_getElem el fun i h1 h2 => ?_
  have e1 : S[i].1 = S'[i].1 := by
    have := congrArg (fun l => l[i]?) ek
    simpa [List.getElem?_map, List.getElem?_eq_getElem h1, List.getElem?_eq_getElem h2] using this
  have m1 : (S[i].1, S[i].2) ∈ S' := (mm _ _).mp (List.getElem_mem h1)
  have m2 : (S[i].1, S'[i].2) ∈ S' := by
    rw [e1]
    exact List.getElem_mem h2
  exact Prod.ext e1 (nd_val (asc_nodup h'.pw) m1 m2)

/-! ### _law_row_of -/
structure RofI (K : PySem.W.Frag) (B : Int) (L : BoxL) (g : List Int × List Int → Int) (c : List Int) (i : Nat) (H : Hp) (acc : List V) (R : List (List Int × Int)) : Prop where
  dh : DhAll K H acc (R.map fun p => itD B p.1 p.2)
  nd : (R.map (·.1)).Nodup
  it : ∀ p ∈ R, 0 < p.2 ∧ p.2 = g (p.1, picks p.1 c) ∧ (p.1, picks p.1 c) ∈ (L.take i).map (·.2.1)
  all : ∀ k, (k, picks k c) ∈ (L.take i).map (·.2.1) → 0 < g (k, picks k c) → k ∈ R.map (·.1)
theorem RofI.ext {B : Int} {L : BoxL} {g : List Int × List Int → Int} {c : List Int} {i : Nat} {H H' : Hp} {acc : List V} {R : List (List Int × Int)} (e : Ext H H') (x : RofI K B L g c i H acc R) : RofI K B L g c i H' acc R := ⟨x.dh.ext e, x.nd, x.it, x.all⟩
theorem RofI.skip {B : Int} {L : BoxL} {g : List Int × List Int → Int} {c : List Int} {i : Nat} {H : Hp} {acc : List V} {R : List (List Int × Int)} {e : Addr × (List Int × List Int) × V} (he : L[i]? = some e) (x : RofI K B L g c i H acc R) (no : ¬ (picks e.2.1.1 c = e.2.1.2 ∧ 0 < g e.2.1)) : RofI K B L g c (i + 1) H acc R := by
  have et : (L.take (i + 1)).map (·.2.1) = (L.take i).map (·.2.1) ++ [e.2.1] := by
    rw [List.take_add_one, he, List.map_append]
    rfl
  refine ⟨x.dh, x.nd, fun p hp => ?_, fun k hk hg => ?_⟩
  · obtain ⟨h1, h2, h3⟩ := x.it p hp
    exact ⟨h1, h2, by rw [et]; exact List.mem_append_left _ h3⟩
  · rw [et] at hk
    rcases List.mem_append.mp hk with h | h
    · exact x.all k h hg
    · have h := List.mem_singleton.mp h
      exact absurd ⟨by rw [← h], by rw [← h]; exact hg⟩ no
theorem RofI.put {B : Int} {L : BoxL} {g : List Int × List Int → Int} {c : List Int} {i : Nat} {H : Hp} {acc : List V} {R : List (List Int × Int)} {e : Addr × (List Int × List Int) × V} {v : V} (nd : (L.map (·.2.1)).Nodup) (he : L[i]? = some e) (x : RofI K B L g c i H acc R) (h1 : picks e.2.1.1 c = e.2.1.2) (h2 : 0 < g e.2.1)
    (hv : Dh K H v (itD B e.2.1.1 (g e.2.1))) : RofI K B L g c (i + 1) H (acc ++ [v]) (R ++ [(e.2.1.1, g e.2.1)]) := by
  have et : (L.take (i + 1)).map (·.2.1) = (L.take i).map (·.2.1) ++ [e.2.1] := by
    rw [List.take_add_one, he, List.map_append]
    rfl
  have ee : (e.2.1.1, picks e.2.1.1 c) = e.2.1 := by rw [h1]
  have hn : e.2.1 ∉ (L.take i).map (·.2.1) := fun hm => by
    have z : ((L.take (i + 1)).map (·.2.1)).Nodup := by
      rw [List.map_take]
      exact List.Sublist.nodup (List.take_sublist _ _) nd
    rw [et] at z
    exact (List.nodup_append.mp z).2.2 _ hm _ (List.mem_singleton.mpr rfl) rfl
  refine ⟨?_, ?_, fun p hp => ?_, fun k hk hg => ?_⟩
  · rw [List.map_append]
    exact x.dh.snoc hv
  · rw [List.map_append]
    refine List.nodup_append.mpr ⟨x.nd, by simp, fun y hy z hz z2 => ?_⟩
    have z3 : z = e.2.1.1 := by simpa using hz
    rw [z2, z3] at hy
    obtain ⟨p, hp, e1⟩ := List.mem_map.mp hy
    have h3 := (x.it p hp).2.2
    rw [e1, ee] at h3
    exact hn h3
  · rcases List.mem_append.mp hp with hp | hp
    · obtain ⟨h1, h2, h3⟩ := x.it p hp
      exact ⟨h1, h2, by rw [et]; exact List.mem_append_left _ h3⟩
    · rw [List.mem_singleton.mp hp]
      refine ⟨h2, by rw [ee], ?_⟩
      show (e.2.1.1, picks e.2.1.1 c) ∈ _
      rw [ee, et]
      exact List.mem_append_right _ (List.mem_singleton.mpr rfl)
  · rw [List.map_append]
    rw [et] at hk
    rcases List.mem_append.mp hk with h | h
    · exact List.mem_append_left _ (x.all k h hg)
    · have h := List.mem_singleton.mp h
      refine List.mem_append_right _ (List.mem_singleton.mpr ?_)
      show k = e.2.1.1
      rw [← h]
/-- a row made of shares -/
def RofV (K : PySem.W.Frag) (H : Hp) (n : Nat) (B : Int) (g : List Int × List Int → Int) (ks : List (List Int)) (c : List Int) (v : V) : Prop := ∃ (t : Addr) (o : Obj) (ys : List V) (ps : List Dt), v = .ref t ∧ H t = some (.frz o (.tup ys)) ∧ o.dict = none ∧ DhAll K H ys ps ∧ Wf (.tup ps) ∧ (Dt.tup ps).isRow n = true ∧
  (∀ q, q.length < n → shareIn ps q = lowZ (g (q, picks q c)) B) ∧ ∃ S, ps = S.map (fun p => itD B p.1 p.2) ∧ RowS n B g ks c S
def spRof (K : PySem.W.Frag) (P : Program) (w : World) : Sp := fun vs H Q _ => ∃ (a f : Addr) (cv : V) (ss c : List Int) (o : Obj) (B : Int) (L : BoxL) (ks : List (List Int)) (ms : List Int) (g : List Int × List Int → Int), vs = [.ref a, .ref f, cv] ∧ SqT K H a (ss.map V.int) ∧ SizesOk ss ∧ H f = some (.frz o (DBO P w f L)) ∧
  ShG K B H L ks ms g ∧ KeysOk ss.length ks ∧ MostOk B ms ∧ ks.length = ms.length ∧ Dh K H cv (ctD c) ∧ c.length = ss.length ∧ ∀ v H', Same H H' → RofV K H' ss.length B g ks c v → Q v H'
theorem ok_law_row_of (T : Txt K mg) : FnOk P w K mg base CX0 4 T.f_law_row_of T.d_law_row_of ["sizes", "shares", "content"] (spRof K P w) := by
  refine T.F_law_row_of.ok sc_law_row_of (fun vs H Q E h => ?_) (fun cdv A outer s H vs Q E hr h => ?_)
  · obtain ⟨_, _, _, _, _, _, _, _, _, _, _, rfl, _⟩ := h
    rfl
  · obtain ⟨a, f, cv, ss, c, o, B, L, ks, ms, g, rfl, ha, ok, hf, sg, keys, most, hkm, hcv, hcl, q⟩ := h
    obtain ⟨l1, h5, _⟩ := ok.facts
    obtain ⟨B1, B12, m0, msum⟩ := most
    obtain ⟨kpw, k4, kok⟩ := keys
    refine ⟨_, (pss_cons (ps_set (i := 3) sc_law_row_of.nd rfl (.inl rfl) (pe_lst pa_nil))
      (pss_cons (ps_for PassesOwn.never rfl (pi_keysB (P := P) (w := w) (pv 1)) (pg_name (i := 4) sc_law_row_of.nd rfl (.inl rfl)) (pss_one (ps_if (PW.pt (pw_and (pt_val (pe_call (ok_law_is_in T) (hr.mono (by decide)) (by rfl) T.g_law_is_in T.F_law_is_in.kp T.b_law_is_in .nil pass0 (pa_cons (pv 4) (pa_cons (pv 2) pa_nil)))) (pw_and1 (pt_cmpR op_gt (pe_ix (ix_tupK K) (pe_dgetBR (K := K) (P := P) (w := w) hr.units (pv 1) (pv 4) (fun _ _ => rfl)) pe_int (fun _ _ => rfl)) pe_int (nomark _))))) (pss_one (ps_expr (pe_bm PySem.F.plainAttrs_list PySem.F.slot_list_append PySem.F.type_list_append mt_append (pv 3) (pa_cons (pe_tup (pa_cons (pe_ix (ix_tupK K) (pv 4) pe_int (fun _ _ => rfl)) (pa_cons (pe_dgetBR (K := K) (P := P) (w := w) hr.units (pv 1) (pv 4) (fun _ _ => rfl)) pa_nil))) pa_nil)))) pss_nil)))
      (pss_cons (ps_set (i := 5) sc_law_row_of.nd rfl (.inl rfl) (pe_call (ok_law_sum T) hr (by rfl) T.g_law_sum T.F_law_sum.kp T.b_law_sum .nil pass0 (pa_cons (pe_lc (own := [("pair", 7)]) rfl sc_law_row_of.nd (pi_listK K (pv 3)) (blkOk_by (N := N_law_row_of) (sc := defScope s_law_row_of) (by decide +kernel)) (fun _ _ _ _ _ => (pg_name (i := 7) sc_law_row_of.nd rfl (.inl rfl))) (fun _ _ _ _ _ => pts_nil) (fun _ _ _ _ _ => (pe_ix (ix_tupK K) (pv 7) pe_int (fun _ _ => rfl)))) pa_nil)))
      (pss_cons (ps_set (i := 6) sc_law_row_of.nd rfl (.inl rfl) (pe_call (ok_law_low T) (hr.mono (by decide)) (by rfl) T.g_law_low T.F_law_low.kp T.b_law_low .nil pass0 (pa_cons (pe_op op_sub (pe_ix (ix_tupK K) (pv 5) pe_int (fun _ _ => rfl)) (pe_ix (ix_tupK K) (pv 5) pe_int (fun _ _ => rfl))) (pa_cons (pe_ix (ix_tupK K) (pv 5) pe_int (fun _ _ => rfl)) pa_nil))))
      (pss_cons (ps_if (pt_cmpR op_gt (pe_ix (ix_tupK K) (pv 6) pe_int (fun _ _ => rfl)) pe_int (nomark _)) (pss_one (ps_expr (pe_bm PySem.F.plainAttrs_list PySem.F.slot_list_append PySem.F.type_list_append mt_append (pv 3) (pa_cons (pe_tup (pa_cons (pe_tupRg rfl (by rfl) T.z_tuple (prg_1 (by rfl) T.z_range (pe_callB (call_lenK K) (by rfl) T.z_len PySem.boot_len (pa_cons (pv 0) pa_nil)))) (pa_cons (pv 6) pa_nil))) pa_nil)))) pss_nil)
      (pss_one (ps_ret (pe_callTy (call_tupF (K := K)) (by rfl) T.z_tuple (by decide +kernel) (pa_cons (pe_callB (call_sortTsK (K := K) hr.units) (by rfl) T.z_sorted (by decide +kernel) (pa_cons (pv 3) pa_nil)) pa_nil))))))))), ?_⟩
    refine ⟨by show 0 ≤ sizeLine; decide, fun r nr => ?_⟩
    have s1 : Same H (upd H r (.lst [])) := same_new nr
    have hr1 : (upd H r (.lst [])) r = some (.lst []) := upd_same
    generalize upd H r (.lst []) = H1 at s1 hr1 ⊢
    refine ⟨_, rfl, f, o, L, rfl, s1 _ _ hf, fun i m σ H' => m + i = L.length ∧ ∃ (y4 : Option V) (acc : List V) (R : List (List Int × Int)), σ = [some (.ref a), some (.ref f), some cv, some (.ref r), y4, none, none, none] ∧ Same H H' ∧ H' r = some (.lst acc) ∧ RofI K B L g c i H' acc R,
      ⟨L.length, rfl, none, [], [], rfl, s1, hr1, .nil, List.nodup_nil, (fun p hp => by cases hp), fun k hk => by rw [List.take_zero] at hk; cases hk⟩, ?_⟩
    rintro i m σ H2 ⟨em, y4, acc, R, rfl, s2, hr2, ri⟩
    have sg2 := sg.ext (.of s2)
    have kR : ∀ p ∈ R, p.1 ∈ ks := fun p hp => by
      have h3 := (ri.it p hp).2.2
      obtain ⟨e, he, e1⟩ := List.mem_map.mp h3
      obtain ⟨_, ix, mo, h4, _⟩ := sg.bd e (List.mem_of_mem_take he)
      rw [e1] at h4
      exact List.mem_of_getElem? h4
    have rl4 : R.length ≤ 4 := by
      have z := nodup_len (R.map (·.1)) ks ri.nd fun k hk => by
        obtain ⟨p, hp, rfl⟩ := List.mem_map.mp hk
        exact kR p hp
      rw [List.length_map] at z
      omega
    have hal : acc.length = R.length := by rw [ri.dh.length, List.length_map]
    by_cases hi : i < L.length
    · refine .inr ⟨⟨s2 _ _ hf, hi⟩, fun σ H' => ∃ (y4 : Option V) (acc : List V) (R : List (List Int × Int)), σ = [some (.ref a), some (.ref f), some cv, some (.ref r), y4, none, none, none] ∧ Same H H' ∧ H' r = some (.lst acc) ∧ RofI K B L g c (i + 1) H' acc R, fun σ' H' p' => ⟨m - 1, by omega, by omega, p'⟩, ?_⟩
      rintro y H3 ⟨rfl, e, he, rfl⟩
      have hem := List.mem_of_getElem? he
      obtain ⟨g0, ix, mo, g1, g2, g3⟩ := sg.bd e hem
      have hko := kok _ (List.mem_of_getElem? g1)
      have hbe := sg2.box e hem
      obtain ⟨va, hva, hsv⟩ := sg2.val e hem
      refine ⟨_, rfl, _, rfl, e.2.1.1, e.2.1.2, c, _, _, rfl, box_dh hbe, hcv.ext (.of s2), fun z hz => by have := hko.1.mem z hz; omega, by omega, fun H4 s4 => ⟨_, rfl, ?_⟩⟩
      have s24 := s2.trans s4
      by_cases e1 : picks e.2.1.1 c = e.2.1.2
      · rw [decide_eq_true e1]
        refine iteT ?_
        have sg4 := sg.ext (.of s24)
        have fb := findB_some sg.nd hem
        refine ⟨_, rfl, _, rfl, f, e.1, e.2.1, L, e.2.2, rfl, rfl, .inr ⟨o, s24 _ _ hf⟩, sg4.box, sg4.box e hem, fb, va, _, 0, _, hva, rfl, (Ext.of s4).sqT hsv, atI_nat (j := 0) rfl, _, _, rfl, rfl, _, rfl, ?_⟩
        by_cases e2 : 0 < g e.2.1
        · rw [decide_eq_true ((low_sgn (by omega) g0).mpr e2)]
          refine iteT ?_
          obtain ⟨pa, wa, b1, b2, b3⟩ := sg4.box e hem
          have hr4 := s4 _ _ hr2
          refine ⟨_, rfl, .inl ⟨rfl, _, SqL.of hr4⟩, _, rfl, e.1, _, 0, _, rfl, rfl, b1, atI_nat (j := 0) rfl, _, rfl, _, rfl, f, e.1, e.2.1, L, e.2.2, rfl, rfl, .inr ⟨o, s24 _ _ hf⟩, sg4.box, sg4.box e hem, fb, by show 2 ≤ sizeLine; decide, fun t nt => ?_⟩
          have st := same_new (o := HO.tup [V.ref pa, e.2.2]) nt
          have ht : (upd H4 t (.tup [V.ref pa, e.2.2])) t = some (.tup [V.ref pa, e.2.2]) := upd_same
          generalize upd H4 t (.tup [V.ref pa, e.2.2]) = H5 at st ht ⊢
          have hr5 := st _ _ hr4
          refine ⟨r, _, _, rfl, rfl, hr5, sz_small (by omega), ?_⟩
          have ep := Ext.put (ys := acc ++ [.ref t]) hr5
          have s45 := s4.trans st
          refine ⟨_, acc ++ [.ref t], R ++ [(e.2.1.1, g e.2.1)], rfl, Same.put nr (s2.trans s45), upd_same, ((ri.ext (.of s45)).ext ep).put sg.nd he e1 e2 ?_⟩
          refine .tup (ep.sqT (SqT.of ht)) (.cons (dh_ct (ep.sqT ((Ext.of st).sqT b2))) (.cons ?_ .nil))
          rw [hva]
          exact dh_ct (c := [_, _]) (ep.sqT ((Ext.of s45).sqT hsv))
        · rw [decide_eq_false (fun z => e2 ((low_sgn (by omega) g0).mp z))]
          refine iteF ?_
          exact ⟨_, acc, R, rfl, s24, s4 _ _ hr2, (ri.ext (.of s4)).skip he fun z => e2 z.2⟩
      · rw [decide_eq_false e1]
        refine iteF ?_
        exact iteF ⟨_, acc, R, rfl, s24, s4 _ _ hr2, (ri.ext (.of s4)).skip he fun z => e1 z.1⟩
    · refine .inl ⟨⟨s2 _ _ hf, by omega⟩, ?_⟩
      have et : L.take i = L := List.take_of_length_le (by omega)
      obtain ⟨dh, nd, it, all⟩ := ri
      rw [et] at it all
      have B0 : 0 < B := by omega
      have hpos : ∀ z ∈ R.map (·.2), 0 ≤ z := fun z hz => by
        obtain ⟨p, hp, rfl⟩ := List.mem_map.mp hz
        have := (it p hp).1
        omega
      have S0 : 0 ≤ sumI (R.map (·.2)) := sumI_nn hpos
      have SB : sumI (R.map (·.2)) ≤ B := by
        have z1 := sum_look (all := ks) (asc_nodup kpw) (qs := R.map (·.1)) (ms := R.map (·.2)) (by rw [List.length_map, List.length_map]) nd fun k hk => by
          obtain ⟨p, hp, rfl⟩ := List.mem_map.mp hk
          exact kR p hp
        have z2 := sum_le (f := lookM (R.map (·.1)) (R.map (·.2))) (ks := ks) (ms := ms) hkm fun ix k mo h1 h2 => by
          by_cases hk : k ∈ R.map (·.1)
          · obtain ⟨p, hp, rfl⟩ := List.mem_map.mp hk
            rw [look_mem nd (show (p.1, p.2) ∈ R from hp)]
            obtain ⟨_, e2, e3⟩ := it p hp
            obtain ⟨e, he, e4⟩ := List.mem_map.mp e3
            obtain ⟨_, iy, mo', g1, g2, g3⟩ := sg.bd e he
            rw [e4] at g1 g3
            have hxy : ix = iy := nodup_ix (asc_nodup kpw) h1 g1
            rw [← hxy, h2] at g2
            cases g2
            rw [e2]
            exact g3
          · rw [look_none hk]
            exact m0 mo (List.mem_of_getElem? h2)
        omega
      have mB : ∀ p ∈ R, p.2 ≤ B := fun p hp => by
        have key : ∀ (l : List Int), (∀ z ∈ l, 0 ≤ z) → ∀ z ∈ l, z ≤ sumI l := by
          intro l
          induction l with
          | nil => intro _ z hz; cases hz
          | cons y l ih =>
            intro h z hz
            rw [sumI_cons]
            have n1 := h y (List.mem_cons_self ..)
            have n2 := sumI_nn (ms := l) fun z hz => h z (List.mem_cons_of_mem _ hz)
            rcases List.mem_cons.mp hz with e | e
            · omega
            · have := ih (fun z hz => h z (List.mem_cons_of_mem _ hz)) z e
              omega
        have := key _ hpos p.2 (List.mem_map_of_mem (f := fun p : List Int × Int => p.2) hp)
        omega
      have Rok : ∀ p ∈ R, Asc ss.length (-1) p.1 ∧ p.1.length < ss.length := fun p hp => kok _ (kR p hp)
      have lookR : ∀ k, k.length < ss.length → (k, g (k, picks k c)) ∈ R ∨ (k ∉ R.map (·.1) ∧ g (k, picks k c) = 0) := fun k hk => by
        by_cases hm : k ∈ R.map (·.1)
        · obtain ⟨p, hp, rfl⟩ := List.mem_map.mp hm
          refine .inl ?_
          rw [← (it p hp).2.1]
          exact hp
        · refine .inr ⟨hm, ?_⟩
          by_cases hL : (k, picks k c) ∈ L.map (·.2.1)
          · have n1 : ¬ 0 < g (k, picks k c) := fun z => hm (all k hL z)
            obtain ⟨e, he, e1⟩ := List.mem_map.mp hL
            have := (sg.bd e he).1
            rw [e1] at this
            omega
          · exact sg.off _ hL
      have hS : sumI (R.map (·.2)) = sumI (ks.map fun k => g (k, picks k c)) := by
        rw [← sum_look (all := ks) (asc_nodup kpw) (qs := R.map (·.1)) (ms := R.map (·.2)) (by rw [List.length_map, List.length_map]) nd fun k hk => by
          obtain ⟨p, hp, rfl⟩ := List.mem_map.mp hk
          exact kR p hp]
        congr 1
        refine List.map_congr_left fun k hk => ?_
        rcases lookR k (kok k hk).2 with h | ⟨h, e⟩
        · rw [look_mem nd h]
        · rw [look_none h, e]
      have noA : ∀ m, (rgI ss.length, m) ∉ R := fun m hm => by
        have := (Rok _ hm).2
        unfold rgI at this
        rw [List.length_map, List.length_range] at this
        omega
      have fin : ∀ (acc' : List V) (R' : List (List Int × Int)) (H6 : Hp), Same H H6 → H6 r = some (.lst acc') → DhAll K H6 acc' (R'.map fun p => itD B p.1 p.2) → (R'.map (·.1)).Nodup → (∀ p ∈ R', Asc ss.length (-1) p.1 ∧ 1 ≤ p.2 ∧ p.2 ≤ B) → sumI (R'.map (·.2)) = B → R'.length ≤ 5 →
          (∀ k, k.length < ss.length → (k, g (k, picks k c)) ∈ R' ∨ (k ∉ R'.map (·.1) ∧ g (k, picks k c) = 0)) → (∀ m, (rgI ss.length, m) ∈ R' ↔ (0 < m ∧ m = restS B g ks c)) → rSortTs K [.ref r] H6 fun x H7 => rTupF K [x] H7 Q := by
        intro acc' R' H6 s6 hr6 dh6 nd6 ok6 sum6 l6 look6 all6
        refine sort_items (SqL.of hr6) dh6 nd6 fun p ys S np hdS pm pwS => ?_
        have sp : Same H6 (upd H6 p (.lst ys)) := same_new np
        refine ⟨p, ys, rfl, SqL.of upd_same, fun t ob nt hob => ?_⟩
        have st := same_new (o := HO.frz ob (.tup ys)) nt
        have hmem : ∀ z ∈ S, z ∈ R' := fun z hz => pm.mem_iff.mp hz
        obtain ⟨wf, row, _⟩ := made_row10 (n := ss.length) (B := B) (qs := S.map (·.1)) (ms := S.map (·.2)) h5 (by rw [List.length_map, List.length_map]) (fun k hk => by
          obtain ⟨z, hz, rfl⟩ := List.mem_map.mp hk
          exact (ok6 z (hmem z hz)).1) pwS (fun m hm => by
          obtain ⟨z, hz, rfl⟩ := List.mem_map.mp hm
          exact (ok6 z (hmem z hz)).2) ((sum_perm (pm.map _)).trans sum6) (by omega) B0 (by rw [List.length_map, pm.length_eq]; omega)
        have ndS : (S.map (·.1)).Nodup := asc_nodup pwS
        rw [zip_its] at wf row
        refine q _ _ ((s6.trans sp).trans st) ⟨t, ob, ys, _, rfl, upd_same, hob, hdS.ext (.of (sp.trans st)), wf, row, fun k hk => ?_, S, rfl, pwS, fun k m => ⟨fun hm => ?_, fun h => ?_⟩⟩
        rotate_left
        · have hR := hmem _ hm
          obtain ⟨a1, a2, a3⟩ := ok6 _ hR
          by_cases hk : k.length < ss.length
          · refine .inl ⟨hk, by omega, ?_⟩
            rcases look6 k hk with h | ⟨h, _⟩
            · exact nd_val nd6 hR h
            · exact (h (List.mem_map.mpr ⟨(k, m), hR, rfl⟩)).elim
          · have e := asc_full a1 hk
            refine .inr ⟨e, (all6 m).mp ?_⟩
            rw [← e]
            exact hR
        · rcases h with ⟨hk, m0, e⟩ | ⟨e, h⟩
          · rcases look6 k hk with h | ⟨_, h⟩
            · rw [e]
              exact pm.mem_iff.mpr h
            · omega
          · rw [e]
            exact pm.mem_iff.mpr ((all6 m).mpr h)
        rw [← zip_its, look_share B0]
        rcases look6 k hk with h | ⟨h, e⟩
        · rw [look_mem ndS (pm.mem_iff.mpr h)]
        · rw [e, look_none fun z => h (by
            obtain ⟨y, hy, e1⟩ := List.mem_map.mp z
            exact List.mem_map.mpr ⟨y, hmem y hy, e1⟩)]
      refine ⟨_, rfl, r, rfl, ⟨acc, SqL.of hr2⟩, fun D nD => lc_list (K := K) (xs := acc) (fun j H' => ∃ ac2, Same H2 H' ∧ H' D = some (.lst ac2) ∧ ac2.length = j ∧ DhAll K H' ac2 ((R.take j).map fun p => frD (lowZ p.2 B)))
        ⟨[], same_new nD, upd_same, rfl, by rw [List.take_zero]; exact .nil⟩ (fun j H' _ ⟨_, s', _⟩ => SqL.of (s' _ _ hr2)) ?_ ?_⟩
      · rintro j x H3 hx ⟨ac2, s3, hD, hal2, had⟩
        obtain ⟨d, hd, hxd⟩ := (dh.ext (.of s3)).get hx
        obtain ⟨p, hp, rfl⟩ := map_at hd
        obtain ⟨xa, xys, rfl, hxa, hxt⟩ := hxd.tup_inv
        obtain ⟨v1, v2, rfl, g1, g2⟩ := dh_two hxt
        have hjl := (List.getElem?_eq_some_iff.mp hx).1
        refine ⟨rfl, ?_⟩
        dsimp only [tYes]
        rw [if_pos rfl]
        refine ⟨_, rfl, xa, _, 1, _, rfl, rfl, hxa, atI_nat (j := 1) rfl, ac2, hD, sz_small (by omega), ac2 ++ [v2], Same.put nD s3, upd_same, by rw [List.length_append, hal2]; rfl, ?_⟩
        have ep := Ext.put (ys := ac2 ++ [v2]) hD
        rw [List.take_add_one, hp, List.map_append]
        exact (had.ext ep).snoc (g2.ext ep)
      · rintro H3 ⟨ac2, s3, hD, hal2, had⟩
        rw [List.take_of_length_le (by omega)] at had
        have b30 : (12 : Int) ≤ (B30 : Int) := by decide +kernel
        have frs : Frs (R.map fun p => lowZ p.2 B) := ⟨fun z hz => by
          obtain ⟨p, hp, rfl⟩ := List.mem_map.mp hz
          have h1 := (it p hp).1
          have h2 := mB p hp
          exact .inr (low_fr B0 (by omega) (by omega) (by omega)), by
          have z := List.length_filter_le (fun p : Int × Int => decide (p ≠ (0, 1))) (R.map fun p => lowZ p.2 B)
          rw [List.length_map] at z
          unfold nzs
          omega⟩
        refine ⟨D, ac2, R.map fun p => lowZ p.2 B, rfl, SqL.of hD, by rw [List.map_map]; exact had, frs, fun v H4 s4 hv => ?_⟩
        have hsum : sumZ (R.map fun p => lowZ p.2 B) = lowZ (sumI (R.map (·.2))) B := by
          have z := foldl_low B0 (ms := R.map (·.2)) (s := 0) (Int.le_refl 0) hpos
          rw [low_zero B0, List.map_map] at z
          exact z
        rw [hsum] at hv
        obtain ⟨va, rfl, hva⟩ := fr_inv hv
        obtain ⟨f1, f2, f3, f4⟩ := low_fr (n := 1) (B := B30) (t := sumI (R.map (·.2))) B0 (by omega) S0 (by omega)
        have b300 : (B30 : Int) ≤ (top300 : Int) := by decide +kernel
        refine ⟨_, rfl, va, _, 1, _, rfl, rfl, hva, atI_nat (j := 1) rfl, _, rfl, va, _, 0, _, rfl, rfl, hva, atI_nat (j := 0) rfl, _, _, rfl, rfl, _, rfl, va, _, 1, _, rfl, rfl, hva, atI_nat (j := 1) rfl, _, _, rfl, f1, by omega, by omega, fun v2 H5 s5 hv2 => ?_⟩
        rw [low_rest B0 S0] at hv2
        obtain ⟨wa, rfl, hwa⟩ := fr_inv hv2
        have s25 := (s3.trans s4).trans s5
        have s05 := s2.trans s25
        have hr5 := s25 _ _ hr2
        have dh5 := dh.ext (.of s25)
        refine ⟨_, rfl, wa, _, 0, _, rfl, rfl, hwa, atI_nat (j := 0) rfl, _, _, rfl, rfl, _, rfl, ?_⟩
        by_cases e : 0 < B - sumI (R.map (·.2))
        · rw [decide_eq_true ((low_sgn B0 (by omega)).mpr e)]
          refine iteT ?_
          refine ⟨_, rfl, .inl ⟨rfl, _, SqL.of hr5⟩, _, rfl, a, ss.map V.int, rfl, .inr ((Ext.of s05).sqT ha), _, rfl, ?_, fun u nu => ?_⟩
          · rw [List.length_map]
            exact RgOk.of_le (by decide) (by omega) (by decide) (by omega)
          · have su := same_new (o := HO.tup (rgV 0 ((ss.map V.int).length : Int))) nu
            have hu : (upd H5 u (.tup (rgV 0 ((ss.map V.int).length : Int)))) u = some (.tup ((rgI ss.length).map V.int)) := by
              rw [upd_same, List.length_map, rgV_I]
            generalize upd H5 u (.tup (rgV 0 ((ss.map V.int).length : Int))) = H6 at su hu ⊢
            refine ⟨_, rfl, by show 2 ≤ sizeLine; decide, fun t nt => ?_⟩
            have st := same_new (o := HO.tup [V.ref u, V.ref wa]) nt
            have ht : (upd H6 t (.tup [V.ref u, V.ref wa])) t = some (.tup [V.ref u, V.ref wa]) := upd_same
            generalize upd H6 t (.tup [V.ref u, V.ref wa]) = H7 at st ht ⊢
            have s57 := su.trans st
            have hr7 := s57 _ _ hr5
            refine ⟨r, _, _, rfl, rfl, hr7, sz_small (by omega), ?_⟩
            have ep := Ext.put (ys := acc ++ [.ref t]) hr7
            refine ⟨_, rfl, fin (acc ++ [.ref t]) (R ++ [(rgI ss.length, B - sumI (R.map (·.2)))]) _ (Same.put nr (s05.trans s57)) upd_same ?_ ?_ (fun p hp => ?_) ?_ ?_ (fun k hk => ?_) fun m => ?_⟩
            rotate_left 6
            · unfold restS
              rw [← hS, List.mem_append, List.mem_singleton]
              constructor
              · rintro (z | z)
                · exact (noA m z).elim
                · have := (Prod.mk.inj z).2
                  exact ⟨by omega, this⟩
              · rintro ⟨_, z⟩
                exact .inr (by rw [z])
            · rw [List.map_append]
              refine ((dh5.ext (.of s57)).ext ep).snoc ?_
              exact .tup (ep.sqT (SqT.of ht)) (.cons (dh_ct (ep.sqT ((Ext.of st).sqT (SqT.of hu)))) (.cons (dh_ct (c := [_, _]) (ep.sqT ((Ext.of s57).sqT hwa))) .nil))
            · rw [List.map_append]
              refine List.nodup_append.mpr ⟨nd, by simp, fun y hy z hz e2 => ?_⟩
              have z3 : z = rgI ss.length := by simpa using hz
              obtain ⟨p, hp, e3⟩ := List.mem_map.mp hy
              have := (Rok p hp).2
              rw [e3, e2, z3] at this
              unfold rgI at this
              rw [List.length_map, List.length_range] at this
              omega
            · rcases List.mem_append.mp hp with hp | hp
              · exact ⟨(Rok p hp).1, by have := (it p hp).1; omega, mB p hp⟩
              · rw [List.mem_singleton.mp hp]
                exact ⟨asc_rg _, by show 1 ≤ B - sumI (R.map (·.2)); omega, by show B - sumI (R.map (·.2)) ≤ B; omega⟩
            · rw [List.map_append]
              show sumI (R.map (·.2) ++ [B - sumI (R.map (·.2))]) = B
              rw [sumI_snoc]
              omega
            · rw [List.length_append]
              show R.length + 1 ≤ 5
              omega
            · rcases lookR k hk with h | ⟨h, e2⟩
              · exact .inl (List.mem_append_left _ h)
              · refine .inr ⟨fun hm => ?_, e2⟩
                rw [List.map_append] at hm
                rcases List.mem_append.mp hm with hm | hm
                · exact h hm
                · have z3 : k = rgI ss.length := by simpa using hm
                  rw [z3] at hk
                  unfold rgI at hk
                  rw [List.length_map, List.length_range] at hk
                  omega
        · rw [decide_eq_false (fun z => e ((low_sgn B0 (by omega)).mp z))]
          refine iteF ?_
          refine ⟨_, rfl, fin acc R H5 s05 hr5 dh5 nd (fun p hp => ⟨(Rok p hp).1, by have := (it p hp).1; omega, mB p hp⟩) (by omega) (by omega) lookR fun m => ⟨fun z => (noA m z).elim, fun z => ?_⟩⟩
          unfold restS at z
          rw [← hS] at z
          omega

end
end Fm
namespace Fm
open PySem PySem.Spec PyProof.Rows L2
section
variable {P : Program} {w : World} {K : PySem.W.Frag} {mg : Str → Option Value} {base : Heap}

/-! ### both ways, the same triple; rows of shares are fair -/
theorem pw_ix {qs : List (List Int)} (h : qs.Pairwise fun a b => HT.lexLt a b = true) {k k' : Nat} {p p' : List Int} (h1 : qs[k]? = some p) (h2 : qs[k']? = some p') (lt : HT.lexLt p p' = true) : k < k' := by
  obtain ⟨i1, e1⟩ := List.getElem?_eq_some_iff.mp h1
  obtain ⟨i2, e2⟩ := List.getElem?_eq_some_iff.mp h2
  rcases Nat.lt_trichotomy k k' with z | z | z
  · exact z
  · subst z
    rw [h1] at h2
    cases h2
    rw [lex_irr] at lt
    cases lt
  · have y := List.pairwise_iff_getElem.mp h k' k i2 i1 z
    rw [e1, e2] at y
    exact (lex_asym lt y).elim
theorem share_none {n : Nat} {ds : List Dt} {p : List Int} (h : p ∉ showsD n ds) : ∀ i, ZZ (partsOf ds p) i = (0, 1) := fun i => by
  unfold ZZ partsOf
  rw [List.getD_eq_getElem?_getD, List.getElem?_map]
  cases hd : ds[i]? with
  | none => rfl
  | some d =>
    show shareIn d.dues p = (0, 1)
    rcases share_cases d.dues p with ⟨e, _⟩ | ⟨e, he, h1, _⟩
    · exact e
    · refine absurd ?_ h
      unfold showsD
      refine List.mem_cons_of_mem _ (List.mem_flatMap.mpr ⟨d, List.mem_of_getElem? hd, ?_⟩)
      show p ∈ keysD d
      have ek : keysD d = d.dues.map fun e => e.p1.ints := by
        cases d with
        | tup row =>
          show (row.map fun e => (e.p1.ints, e.p2.zz)).map (·.1) = _
          rw [List.map_map]
          rfl
        | _ => rfl
      rw [ek]
      exact List.mem_map.mpr ⟨e, he, h1⟩
theorem unf_one {ss : List Int} {ds : List Dt} {qs qs' : List (List Int)} (rows : Rows ss ds) (so : SortedOf qs (showsD ss.length ds)) (pa : PatsAll ss.length qs') : ∀ {r r' : Option (List Int × Nat × Nat)}, UnfP ss ds qs r → UnfP ss ds qs' r' → r = r' := by
  have inA : ∀ p ∈ qs, p ∈ qs' := fun p hp => (pa.all p).mpr (shows_asc rows p ((so.2 p).mp hp))
  have inS : ∀ p i j, IsU (allC ss).length (WW ss p) (ZZ (partsOf ds p)) (some (i, j)) → p ∈ qs := fun p i j h => by
    refine (so.2 p).mpr ?_
    by_cases hp : p ∈ showsD ss.length ds
    · exact hp
    · exact absurd ((share_none hp i).trans (share_none hp j).symm) h.1.2.2.2
  have at' : ∀ {l : List (List Int)} {p : List Int}, p ∈ l → ∃ k, l[k]? = some p := fun hp => by
    obtain ⟨k, hk, e⟩ := List.mem_iff_getElem.mp hp
    exact ⟨k, by rw [← e]; exact List.getElem?_eq_getElem hk⟩
  intro r r' h h'
  cases r with
  | none =>
    cases r' with
    | none => rfl
    | some t =>
      obtain ⟨p, i, j⟩ := t
      obtain ⟨k, hk, hu, _⟩ := h'
      exact (h p (inS p i j hu) i j hu.1).elim
  | some t =>
    obtain ⟨p, i, j⟩ := t
    obtain ⟨k, hk, hu, hl⟩ := h
    cases r' with
    | none => exact (h' p (inA p (List.mem_of_getElem? hk)) i j hu.1).elim
    | some t' =>
      obtain ⟨p', i', j'⟩ := t'
      obtain ⟨k', hk', hu', hl'⟩ := h'
      have ep : p = p' := by
        have tri : HT.lexLt p p' = true ∨ p = p' ∨ HT.lexLt p' p = true := by
          rw [lexLt_dec, lexLt_dec]
          by_cases z : p < p'
          · exact .inl (decide_eq_true z)
          · by_cases y : p' < p
            · exact .inr (.inr (decide_eq_true y))
            · exact .inr (.inl (List.le_antisymm (List.not_lt.mp y) (List.not_lt.mp z)))
        rcases tri with z | z | z
        · obtain ⟨k2, hk2⟩ := at' (inA p (List.mem_of_getElem? hk))
          exact (hl' k2 p (pw_ix pa.asc hk2 hk' z) hk2 i j hu.1).elim
        · exact z
        · obtain ⟨k2, hk2⟩ := at' (inS p' i' j' hu')
          exact (hl k2 p' (pw_ix so.1 hk2 hk z) hk2 i' j' hu'.1).elim
      subst ep
      have := isU_one hu hu'
      cases this
      rfl
theorem picks_all {n : Nat} {p c d : List Int} (h : Asc n (-1) p) (hp : p.length = n) (hc : c.length = n) (hd : d.length = n) (e : picks p c = picks p d) : c = d := by
  refine List.ext_getElem (by omega) fun i h1 h2 => ?_
  have hi : i < p.length := by omega
  have z := asc_at h (by omega) i p[i] (List.getElem?_eq_getElem hi)
  have y := congrArg (fun l => l[i]?) e
  unfold picks at y
  simp only [List.getElem?_map, List.getElem?_eq_getElem hi, Option.map_some, Option.some.injEq] at y
  have en : p[i].toNat = i := by omega
  rw [en, List.getD_eq_getElem?_getD, List.getD_eq_getElem?_getD, List.getElem?_eq_getElem h1, List.getElem?_eq_getElem h2] at y
  exact y
theorem fair_rows {ss : List Int} {ds : List Dt} {qs : List (List Int)} {B : Int} {g : List Int × List Int → Int} (rows : Rows ss ds) (so : SortedOf qs (showsD ss.length ds))
    (hr : ∀ (i : Nat) c d, (allC ss)[i]? = some c → ds[i]? = some d → ∀ q : List Int, q.length < ss.length → shareIn d.dues q = lowZ (g (q, picks q c)) B) : ∀ {r : Option (List Int × Nat × Nat)}, UnfP ss ds qs r → r = none
  | none, _ => rfl
  | some (p, i, j), ⟨k, hk, hu, _⟩ => by
    obtain ⟨h1, h2, h3, h4⟩ := hu.1
    have asc := shows_asc rows p ((so.2 p).mp (List.mem_of_getElem? hk))
    have hiN : i < (allC ss).length := by omega
    have ci := List.getElem?_eq_getElem hiN
    have cj := List.getElem?_eq_getElem h2
    generalize (allC ss)[i] = c at ci
    generalize (allC ss)[j] = d at cj
    have eW : ∀ {k : Nat} {c : List Int}, (allC ss)[k]? = some c → WW ss p k = picks p c := fun {k c} h => by
      unfold WW
      rw [List.getD_eq_getElem?_getD, h]
      rfl
    rw [eW ci, eW cj] at h3
    have len : ∀ {k : Nat} {c : List Int}, (allC ss)[k]? = some c → c.length = ss.length := fun h => (mem_allC.mp (List.mem_of_getElem? h)).len
    by_cases hl : p.length < ss.length
    · refine absurd ?_ h4
      have eZ : ∀ {k : Nat} {c : List Int}, (allC ss)[k]? = some c → ZZ (partsOf ds p) k = lowZ (g (p, picks p c)) B := fun {k c} h => by
        have hk := (List.getElem?_eq_some_iff.mp h).1
        have hd : k < ds.length := by
          rw [rows.len]
          exact hk
        rw [← hr k c _ h (List.getElem?_eq_getElem hd) p hl]
        unfold ZZ partsOf
        rw [List.getD_eq_getElem?_getD, List.getElem?_map, List.getElem?_eq_getElem hd]
        rfl
      rw [eZ ci, eZ cj, h3]
    · have h5 := asc.len (by omega)
      have e := picks_all asc (by omega) (len ci) (len cj) h3
      rw [e] at ci
      have := nodup_ix (allC_nodup ss) ci cj
      omega

end
end Fm
namespace Fm
open PySem PySem.Spec PyProof.Rows L2
section
variable {P : Program} {w : World} {K : PySem.W.Frag} {mg : Str → Option Value} {base : Heap}

/-! ### _law_some of a tuple -/
def spSomeT (K : PySem.W.Frag) : Sp := fun vs H Q _ => ∃ (h c p : Addr) (xs : List V), vs = [.ref h, .ref p] ∧ HandOk H h c ∧ SqT K H p xs ∧ 0 < xs.length ∧ xs.length < 1000000 ∧ ∀ x H', x ∈ xs → Keep h c H H' → Q x H'
theorem ok_law_someT (T : Txt K mg) : FnOk P w K mg base CX0 2 T.f_law_some T.d_law_some ["hand", "things"] (spSomeT K) := by
  refine T.F_law_some.ok sc_law_some (fun vs H Q E h => ?_) (fun cdv A outer s H vs Q E hr h => ?_)
  · obtain ⟨_, _, _, _, rfl, _⟩ := h
    rfl
  · obtain ⟨h, c, p, xs, rfl, hx, hp, l0, l1, q⟩ := h
    refine ⟨_, (pss_one (ps_ret (pe_ix (ix_tupK K) (pv 1) (pe_call (ok_law_draw T) hr (by rfl) T.g_law_draw T.F_law_draw.kp T.b_law_draw .nil pass0 (pa_cons (pv 0) (pa_cons (pe_callB (call_lenK K) (by rfl) T.z_len PySem.boot_len (pa_cons (pv 1) pa_nil)) pa_nil))) (fun _ _ => rfl)))), ?_⟩
    refine ⟨_, rfl, _, rfl, _, rfl, p, _, rfl, .inr hp, h, c, _, rfl, hx, by omega, by omega, fun d H' d0 d1 k => ?_⟩
    have hd : d.toNat < xs.length := by omega
    exact ⟨p, xs, d, xs[d.toNat], rfl, rfl, (Keep.ext hx k).sqT hp, at_of (j := d.toNat) (by omega) (List.getElem?_eq_getElem hd), q _ H' (List.getElem_mem hd) k⟩
/-- two ways, one rest: prove the rest once -/
theorem pass2 {h c : Addr} {X : Hp → Prop} {Z : Prop} (rest : ∀ H', HandOk H' h c → X H') (f : (∀ H', HandOk H' h c → X H') → Z) : Z := f rest
/-- a row, as a habit wants it -/
def RowW (K : PySem.W.Frag) (H : Hp) (n : Nat) (v : V) : Prop := ∃ (t : Addr) (o : Obj) (ys : List V) (ps : List Dt), v = .ref t ∧ H t = some (.frz o (.tup ys)) ∧ o.dict = none ∧ DhAll K H ys ps ∧ Wf (.tup ps) ∧ (Dt.tup ps).isRow n = true
theorem RowW.ext {H H' : Hp} {n : Nat} {v : V} (e : Ext H H') : RowW K H n v → RowW K H' n v := fun ⟨t, o, ys, ps, h1, h2, h3, h4, h5, h6⟩ => ⟨t, o, ys, ps, h1, e.frz h2, h3, h4.ext e, h5, h6⟩
theorem RofV.row {H : Hp} {n : Nat} {B : Int} {g : List Int × List Int → Int} {ks : List (List Int)} {c : List Int} {v : V} : RofV K H n B g ks c v → RowW K H n v := fun ⟨t, o, ys, ps, h1, h2, h3, h4, h5, h6, _⟩ => ⟨t, o, ys, ps, h1, h2, h3, h4, h5, h6⟩
theorem RowV.row {H : Hp} {n : Nat} {v : V} : RowV K H n v → RowW K H n v := fun ⟨ps, _, wf, hr, _, ⟨a, o, xs, h1, h2, h3, h4⟩, _⟩ => ⟨a, o, xs, ps, h1, h2, h3, h4, wf, hr⟩
theorem roww_data {H : Hp} {n : Nat} : ∀ {xs : List V}, (∀ x ∈ xs, RowW K H n x) → ∃ ds : List Dt, DhAll K H xs ds ∧ (∀ d ∈ ds, Wf d ∧ d.isRow n = true) ∧ ∀ (k : Nat) x d, xs[k]? = some x → ds[k]? = some d → RowF K H x d
  | [], _ => ⟨[], .nil, (fun d hd => by cases hd), fun k x d h => by simp at h⟩
  | x :: xs, h => by
    obtain ⟨ds, h1, h2, h3⟩ := roww_data (xs := xs) fun y hy => h y (List.mem_cons_of_mem _ hy)
    obtain ⟨t, o, ys, ps, rfl, g2, g3, g4, g5, g6⟩ := h x (List.mem_cons_self ..)
    refine ⟨.tup ps :: ds, .cons (.tup (.inl (.inr ⟨o, g2⟩)) g4) h1, fun d hd => ?_, fun k y d hy hd => ?_⟩
    · rcases List.mem_cons.mp hd with e | e
      · rw [e]
        exact ⟨g5, g6⟩
      · exact h2 d e
    · cases k with
      | zero =>
        cases (show V.ref t = y by simpa using hy)
        cases (show Dt.tup ps = d by simpa using hd)
        exact ⟨t, o, ys, rfl, g2, g3, g4⟩
      | succ k => exact h3 k y d (by simpa using hy) (by simpa using hd)
theorem RofV.ext {H H' : Hp} {n : Nat} {B : Int} {g : List Int × List Int → Int} {ks : List (List Int)} {c : List Int} {v : V} (e : Ext H H') : RofV K H n B g ks c v → RofV K H' n B g ks c v := fun ⟨t, o, ys, ps, h1, h2, h3, h4, h5, h6, h7⟩ => ⟨t, o, ys, ps, h1, e.frz h2, h3, h4.ext e, h5, h6, h7⟩
theorem pick_all {α β : Type} {R : Nat → α → β → Prop} : ∀ {xs : List α}, (∀ (k : Nat) x, xs[k]? = some x → ∃ d, R k x d) → ∃ ds : List β, ds.length = xs.length ∧ ∀ (k : Nat) x d, xs[k]? = some x → ds[k]? = some d → R k x d := fun {xs} => by
  induction xs generalizing R with
  | nil => exact fun _ => ⟨[], rfl, fun k x d h => by simp at h⟩
  | cons x xs ih =>
    intro h
    obtain ⟨d, hd⟩ := h 0 x rfl
    obtain ⟨ds, h1, h2⟩ := ih (R := fun k => R (k + 1)) fun k y hy => h (k + 1) y (by simpa using hy)
    refine ⟨d :: ds, by simp [h1], fun k y e hy he => ?_⟩
    cases k with
    | zero =>
      cases (show x = y by simpa using hy)
      cases (show d = e by simpa using he)
      exact hd
    | succ k => exact h2 k y e (by simpa using hy) (by simpa using he)
theorem dhAll_of {H : Hp} : ∀ {xs : List V} {ds : List Dt}, ds.length = xs.length → (∀ (k : Nat) x d, xs[k]? = some x → ds[k]? = some d → Dh K H x d) → DhAll K H xs ds
  | [], [], _, _ => .nil
  | x :: xs, d :: ds, hl, h => .cons (h 0 x d rfl rfl) (dhAll_of (by simpa using hl) fun k y e hy he => h (k + 1) y e (by simpa using hy) (by simpa using he))
theorem row_move {H H' : Hp} {n : Int} (mv : ∀ {a : Addr} {xs : List V}, SqT K H a xs → SqT K H' a xs) : ∀ {ys : List V} {ps : List Dt}, DhAll K H ys ps → (∀ e ∈ ps, ∃ p, e = .tup [ctD p, frD e.p2.zz] ∧ e.p1 = ctD p ∧ Asc n (-1) p) → DhAll K H' ys ps
  | _, _, .nil, _ => .nil
  | _, _, .cons (d := d) h t, hp => by
    refine .cons ?_ (row_move mv t fun e he => hp e (List.mem_cons_of_mem _ he))
    obtain ⟨p, hd, _, _⟩ := hp d (List.mem_cons_self ..)
    rw [hd] at h ⊢
    obtain ⟨b, ys, rfl, hb, hys⟩ := h.tup_inv
    obtain ⟨v1, v2, rfl, g1, g2⟩ := dh_two hys
    obtain ⟨a1, rfl, s1⟩ := ct_inv g1
    obtain ⟨a2, rfl, s2⟩ := fr_inv g2
    exact .tup (mv hb) (.cons (dh_ct (mv s1)) (.cons (dh_ct (c := [_, _]) (mv s2)) .nil))
theorem RofV.move {H H' : Hp} {n : Nat} {B : Int} {g : List Int × List Int → Int} {ks : List (List Int)} {c : List Int} {v : V} (mv : ∀ {a : Addr} {xs : List V}, SqT K H a xs → SqT K H' a xs) (mf : ∀ {a : Addr} {o : Obj} {xs : List V}, H a = some (.frz o (.tup xs)) → H' a = some (.frz o (.tup xs))) : RofV K H n B g ks c v → RofV K H' n B g ks c v := fun ⟨t, o, ys, ps, h1, h2, h3, h4, h5, h6, h7⟩ => by
  obtain ⟨ps', e, hi⟩ := isRow_inv h6
  cases e
  exact ⟨t, o, ys, ps, h1, mf h2, h3, row_move mv h4 hi, h5, h6, h7⟩
/-- the data of the row of a content -/
def RD (n : Nat) (B : Int) (g : List Int × List Int → Int) (ks : List (List Int)) (c : List Int) (d : Dt) : Prop := (∀ q : List Int, q.length < n → shareIn d.dues q = lowZ (g (q, picks q c)) B) ∧ ∃ S : List (List Int × Int), d = .tup (S.map fun p => itD B p.1 p.2) ∧ RowS n B g ks c S
def RDs (ss : List Int) (B : Int) (g : List Int × List Int → Int) (ks : List (List Int)) (ds : List Dt) : Prop := ∀ (i : Nat) c d, (allC ss)[i]? = some c → ds[i]? = some d → RD ss.length B g ks c d
theorem RDs.one {ss : List Int} {B : Int} {g : List Int × List Int → Int} {ks : List (List Int)} {ds es : List Dt} (h1 : Rows ss ds) (h2 : Rows ss es) (a : RDs ss B g ks ds) (b : RDs ss B g ks es) : ds = es := by
  have l1 := h1.len
  have l2 := h2.len
  refine List.ext_getElem (by omega) fun i h3 h4 => ?_
  have hc := List.getElem?_eq_getElem (l := allC ss) (i := i) (by omega)
  obtain ⟨_, S, e, r⟩ := a i _ _ hc (List.getElem?_eq_getElem h3)
  obtain ⟨_, S', e', r'⟩ := b i _ _ hc (List.getElem?_eq_getElem h4)
  rw [e, e', r.one r']
/-- rows of shares, as data -/
theorem rof_data {H : Hp} {ss : List Int} {B : Int} {g : List Int × List Int → Int} {ks : List (List Int)} {acc : List V} (hl : acc.length = (allC ss).length) (h : ∀ (k : Nat) v cc, acc[k]? = some v → (allC ss)[k]? = some cc → RofV K H ss.length B g ks cc v) : ∃ ds : List Dt, DhAll K H acc ds ∧ (∀ d ∈ ds, Wf d) ∧ Rows ss ds ∧ RDs ss B g ks ds := by
  obtain ⟨ds, h1, h2⟩ := pick_all (R := fun k v d => ∃ c, (allC ss)[k]? = some c ∧ Dh K H v d ∧ Wf d ∧ d.isRow ss.length = true ∧ RD ss.length B g ks c d) (xs := acc) fun k v hv => by
    have hk := (List.getElem?_eq_some_iff.mp hv).1
    have hc := List.getElem?_eq_getElem (l := allC ss) (i := k) (by omega)
    obtain ⟨t, o, ys, ps, rfl, g2, g3, g4, g5, g6, g7, S, g8, g9⟩ := h k v _ hv hc
    exact ⟨.tup ps, _, hc, .tup (.inl (.inr ⟨o, g2⟩)) g4, g5, g6, g7, S, by rw [g8], g9⟩
  have hi : ∀ (i : Nat) d, ds[i]? = some d → ∃ v, acc[i]? = some v := fun i d hd => by
    have := (List.getElem?_eq_some_iff.mp hd).1
    exact ⟨acc[i]'(by omega), List.getElem?_eq_getElem (by omega)⟩
  refine ⟨ds, dhAll_of h1 fun k x d hx hd => ?_, fun d hd => ?_, ⟨by omega, fun d hd => ?_⟩, fun i c d hc hd => ?_⟩
  · obtain ⟨_, _, z, _⟩ := h2 k x d hx hd
    exact z
  · obtain ⟨i, hi', e⟩ := List.mem_iff_getElem.mp hd
    have hd' : ds[i]? = some d := by rw [← e]; exact List.getElem?_eq_getElem hi'
    obtain ⟨v, hv⟩ := hi i d hd'
    obtain ⟨_, _, _, z, _⟩ := h2 i v d hv hd'
    exact z
  · obtain ⟨i, hi', e⟩ := List.mem_iff_getElem.mp hd
    have hd' : ds[i]? = some d := by rw [← e]; exact List.getElem?_eq_getElem hi'
    obtain ⟨v, hv⟩ := hi i d hd'
    obtain ⟨_, _, _, _, z, _⟩ := h2 i v d hv hd'
    exact z
  · obtain ⟨v, hv⟩ := hi i d hd
    obtain ⟨c', hc', _, _, _, z⟩ := h2 i v d hv hd
    rw [hc] at hc'
    cases hc'
    exact z

end
end Fm
namespace Fm
open PySem PySem.Spec PyProof.Rows L2
section
variable {P : Program} {w : World} {K : PySem.W.Frag} {mg : Str → Option Value} {base : Heap}

/-! ### shares left, shares compared, boxes judged right -/
theorem nat1100 {x : Int} (h : x.natAbs ≤ 100000) : x.natAbs < 2 ^ 1100 := by
  have h6 := pow_1100
  have y : 100000 ≤ 1000 * top300 := by decide +kernel
  omega
/-- 1 and a share that is taken away -/
def spPlusM (K : PySem.W.Frag) : Sp := fun vs H Q _ => ∃ (a c : Addr) (t b : Int), vs = [.ref a, .ref c] ∧ SqT K H a [.int 1, .int 1] ∧ SqT K H c [.int (-t), .int b] ∧ 0 < b ∧ b ≤ 1000 ∧ 0 ≤ t ∧ t ≤ b ∧ ∀ v H', Same H H' → Dh K H' v (frD (lowZ (b - t) b)) → Q v H'
theorem ok_plusM (T : Txt K mg) : FnOk P w K mg base CX0 2 T.f_plus T.d_plus ["one", "other"] (spPlusM K) := by
  refine T.F_plus.ok sc_plus (fun vs H Q E h => ?_) (fun cdv A outer s H vs Q E hr h => ?_)
  · obtain ⟨_, _, _, _, rfl, _⟩ := h
    rfl
  · obtain ⟨a, c, t, b, rfl, ha, hc, b0, b1, t0, t1, q⟩ := h
    have w1 : (1 : Int).natAbs < 2 ^ 1100 := nat1100 (by decide)
    have w2 : b.natAbs < 2 ^ 1100 := nat1100 (by omega)
    have w3 : (-t).natAbs < 2 ^ 1100 := nat1100 (by omega)
    have b300 : (1000 : Int) ≤ (top300 : Int) := by decide +kernel
    refine ⟨_, (pss_one (ps_ret (pe_call (ok_fraction T) hr (by rfl) T.g_fraction T.F_fraction.kp T.b_fraction .nil pass0 (pa_cons (pe_op op_add (pe_op op_mulW (pe_ix (ix_tupK K) (pv 0) pe_int (fun _ _ => rfl)) (pe_ix (ix_tupK K) (pv 1) pe_int (fun _ _ => rfl))) (pe_op op_mulW (pe_ix (ix_tupK K) (pv 1) pe_int (fun _ _ => rfl)) (pe_ix (ix_tupK K) (pv 0) pe_int (fun _ _ => rfl)))) (pa_cons (pe_op op_mulW (pe_ix (ix_tupK K) (pv 0) pe_int (fun _ _ => rfl)) (pe_ix (ix_tupK K) (pv 1) pe_int (fun _ _ => rfl))) pa_nil))))), ?_⟩
    refine ⟨_, rfl, a, _, 0, _, rfl, rfl, ha, atI_nat (j := 0) rfl, _, rfl, c, _, 1, _, rfl, rfl, hc, atI_nat (j := 1) rfl, _, _, rfl, rfl, wide_of w1 w2, ?_⟩
    refine ⟨_, rfl, c, _, 0, _, rfl, rfl, hc, atI_nat (j := 0) rfl, _, rfl, a, _, 1, _, rfl, rfl, ha, atI_nat (j := 1) rfl, _, _, rfl, rfl, wide_of w3 w1, _, _, rfl, rfl, ?_⟩
    refine ⟨_, rfl, a, _, 1, _, rfl, rfl, ha, atI_nat (j := 1) rfl, _, rfl, c, _, 1, _, rfl, rfl, hc, atI_nat (j := 1) rfl, _, _, rfl, rfl, wide_of w1 w2, ?_⟩
    have e1 : (1 : Int) * b + -t * 1 = b - t := by omega
    have e2 : (1 : Int) * b = b := by omega
    refine ⟨_, _, rfl, by omega, by omega, by omega, fun v H' s hv => q v H' s ?_⟩
    rw [e1, e2] at hv
    exact hv
def spMinus (K : PySem.W.Frag) : Sp := fun vs H Q _ => ∃ (a c : Addr) (t b : Int), vs = [.ref a, .ref c] ∧ SqT K H a [.int 1, .int 1] ∧ SqT K H c [.int t, .int b] ∧ 0 < b ∧ b ≤ 1000 ∧ 0 ≤ t ∧ t ≤ b ∧ ∀ v H', Same H H' → Dh K H' v (frD (lowZ (b - t) b)) → Q v H'
theorem ok_minus (T : Txt K mg) : FnOk P w K mg base CX0 3 T.f_minus T.d_minus ["one", "other"] (spMinus K) := by
  refine T.F_minus.ok sc_minus (fun vs H Q E h => ?_) (fun cdv A outer s H vs Q E hr h => ?_)
  · obtain ⟨_, _, _, _, rfl, _⟩ := h
    rfl
  · obtain ⟨a, c, t, b, rfl, ha, hc, b0, b1, t0, t1, q⟩ := h
    refine ⟨_, (pss_one (ps_ret (pe_call (ok_plusM T) hr (by rfl) T.g_plus T.F_plus.kp T.b_plus .nil pass0 (pa_cons (pv 0) (pa_cons (pe_tup (pa_cons (pe_un un_neg (pe_ix (ix_tupK K) (pv 1) pe_int (fun _ _ => rfl))) (pa_cons (pe_ix (ix_tupK K) (pv 1) pe_int (fun _ _ => rfl)) pa_nil))) pa_nil))))), ?_⟩
    refine ⟨_, rfl, _, rfl, c, _, 0, _, rfl, rfl, hc, atI_nat (j := 0) rfl, _, rfl, _, rfl, c, _, 1, _, rfl, rfl, hc, atI_nat (j := 1) rfl, by show 2 ≤ sizeLine; decide, fun p np => ?_⟩
    have s1 := same_new (o := HO.tup [V.int (-t), V.int b]) np
    exact ⟨a, p, t, b, rfl, (Ext.of s1).sqT ha, SqT.of upd_same, b0, b1, t0, t1, fun v H' s hv => q v H' (s1.trans s) hv⟩
/-- is 1 below a share? never -/
def spBelow (K : PySem.W.Frag) : Sp := fun vs H Q _ => ∃ (a c : Addr) (t b : Int), vs = [.ref a, .ref c] ∧ SqT K H a [.int 1, .int 1] ∧ SqT K H c [.int t, .int b] ∧ 0 < b ∧ b ≤ 1000 ∧ 0 ≤ t ∧ t ≤ b ∧ Q (.bl false) H
theorem ok_below (T : Txt K mg) : FnOk P w K mg base CX0 1 T.f_below T.d_below ["one", "other"] (spBelow K) := by
  refine T.F_below.ok sc_below (fun vs H Q E h => ?_) (fun cdv A outer s H vs Q E hr h => ?_)
  · obtain ⟨_, _, _, _, rfl, _⟩ := h
    rfl
  · obtain ⟨a, c, t, b, rfl, ha, hc, b0, b1, t0, t1, q⟩ := h
    have w1 : (1 : Int).natAbs < 2 ^ 1100 := nat1100 (by decide)
    have w2 : b.natAbs < 2 ^ 1100 := nat1100 (by omega)
    have w3 : t.natAbs < 2 ^ 1100 := nat1100 (by omega)
    refine ⟨_, (pss_one (ps_ret (pe_cmpR op_lt (pe_op op_mulW (pe_ix (ix_tupK K) (pv 0) pe_int (fun _ _ => rfl)) (pe_ix (ix_tupK K) (pv 1) pe_int (fun _ _ => rfl))) (pe_op op_mulW (pe_ix (ix_tupK K) (pv 1) pe_int (fun _ _ => rfl)) (pe_ix (ix_tupK K) (pv 0) pe_int (fun _ _ => rfl))) (nomark _)))), ?_⟩
    refine ⟨_, rfl, a, _, 0, _, rfl, rfl, ha, atI_nat (j := 0) rfl, _, rfl, c, _, 1, _, rfl, rfl, hc, atI_nat (j := 1) rfl, _, _, rfl, rfl, wide_of w1 w2, ?_⟩
    refine ⟨_, rfl, c, _, 0, _, rfl, rfl, hc, atI_nat (j := 0) rfl, _, rfl, a, _, 1, _, rfl, rfl, ha, atI_nat (j := 1) rfl, _, _, rfl, rfl, wide_of w3 w1, _, _, rfl, rfl, ?_⟩
    show Q (V.bl (decide ((1 : Int) * b < t * 1))) H
    rw [decide_eq_false (show ¬ (1 : Int) * b < t * 1 by omega)]
    exact q
/-- a box of a part pattern, right -/
def BoxOk (ss : List Int) (q : List Int × List Int) : Prop := Asc ss.length (-1) q.1 ∧ ∃ c, IsCt ss c ∧ q.2 = picks q.1 c
def spBoxOf (K : PySem.W.Frag) : Sp := fun vs H Q _ => ∃ (a b : Addr) (ss : List Int) (q : List Int × List Int), vs = [.ref a, .ref b] ∧ SqT K H a (ss.map V.int) ∧ ss.length ≤ 5 ∧ BoxAt K H b q ∧ BoxOk ss q ∧ ∀ H', Same H H' → Q (.bl true) H'
theorem box_cont {ss : List Int} {q : List Int × List Int} (h : BoxOk ss q) : IsCt (picks q.1 ss) q.2 := by
  obtain ⟨asc, c, hc, e⟩ := h
  obtain ⟨cl, cb⟩ := isCt_iff.mp hc
  refine isCt_iff.mpr ⟨by rw [e]; unfold picks; rw [List.length_map, List.length_map], fun i x s hx hs => ?_⟩
  rw [e] at hx
  unfold picks at hx hs
  rw [List.getElem?_map] at hx hs
  obtain ⟨k, hk, rfl⟩ := Option.map_eq_some_iff.mp hx
  rw [hk] at hs
  have hs' : ss.getD k.toNat 0 = s := Option.some.inj hs
  have hk2 := asc.inR k (List.mem_of_getElem? hk)
  have k1 : k.toNat < ss.length := by omega
  refine cb k.toNat _ _ ?_ (by rw [List.getElem?_eq_getElem k1, ← hs', List.getD_eq_getElem?_getD, List.getElem?_eq_getElem k1]; rfl)
  rw [List.getElem?_eq_getElem (by omega), List.getD_eq_getElem?_getD, List.getElem?_eq_getElem (by omega)]
  rfl
theorem ok_is_box_of (T : Txt K mg) : FnOk P w K mg base CX0 3 T.f_is_box_of T.d_is_box_of ["sizes", "thing"] (spBoxOf K) := by
  refine T.F_is_box_of.ok sc_is_box_of (fun vs H Q E h => ?_) (fun cdv A outer s H vs Q E hr h => ?_)
  · obtain ⟨_, _, _, _, rfl, _⟩ := h
    rfl
  · obtain ⟨a, b, ss, q', rfl, ha, h5, hb, hok, q⟩ := h
    have hd := box_dh hb
    have hct := box_cont hok
    obtain ⟨asc, _⟩ := hok
    have hl : q'.1.length ≤ 1000 := by
      have := asc.len (by omega)
      omega
    obtain ⟨pa, wa, hbt, hpa, hwa⟩ := hb
    refine ⟨_, (pss_cons (ps_if (pt_not (pt_val (pe_call (ok_is_pair T) (hr.mono (by decide)) (by rfl) T.g_is_pair T.F_is_pair.kp T.b_is_pair .nil pass0 (pa_cons (pv 1) pa_nil)))) (pss_one (ps_ret pe_bl)) pss_nil)
      (pss_cons (ps_asg (pv 1) (pg_tupK K (n := 2) rfl (pgs_cons (pg_name (i := 2) sc_is_box_of.nd rfl (.inl rfl)) (pgs_cons (pg_name (i := 3) sc_is_box_of.nd rfl (.inl rfl)) pgs_nil))))
      (pss_cons (ps_if (pt_not (pt_val (pe_call (ok_is_pattern T) hr (by rfl) T.g_is_pattern T.F_is_pattern.kp T.b_is_pattern .nil pass0 (pa_cons (pe_callB (call_lenK K) (by rfl) T.z_len PySem.boot_len (pa_cons (pv 0) pa_nil)) (pa_cons (pv 2) pa_nil))))) (pss_one (ps_ret pe_bl)) pss_nil)
      (pss_one (ps_ret (pe_call (ok_is_content T) hr (by rfl) T.g_is_content T.F_is_content.kp T.b_is_content .nil pass0 (pa_cons (pe_lc (own := [("column", 4)]) rfl sc_is_box_of.nd (pi_tupK K (pv 2)) (blkOk_by (N := N_is_box_of) (sc := defScope s_is_box_of) (by decide +kernel)) (fun _ _ _ _ _ => (pg_name (i := 4) sc_is_box_of.nd rfl (.inl rfl))) (fun _ _ _ _ _ => pts_nil) (fun _ _ _ _ _ => (pe_ix (ix_tupK K) (pv 0) (pv 4) (fun _ _ => rfl)))) (pa_cons (pv 3) pa_nil)))))))), ?_⟩
    refine ⟨_, rfl, spD_bl (.cons hd .nil) rfl fun H1 s1 => ⟨_, rfl, ?_⟩⟩
    refine iteF ?_
    have e1 := Ext.of s1
    refine ⟨_, rfl, b, _, rfl, e1.sqT hbt, rfl, _, _, rfl, _, _, rfl, rfl, ?_⟩
    refine ⟨_, rfl, a, _, rfl, .inr (e1.sqT ha), _, rfl, spD_bl (.cons (.int _) (.cons (dh_ct (e1.sqT hpa)) .nil)) rfl fun H2 s2 => ⟨_, rfl, ?_⟩⟩
    rw [List.length_map, asc.isPat]
    refine iteF ?_
    have e2 := Ext.of (s1.trans s2)
    dsimp only [tNext, tRet, tCall, tCons]
    refine lc_pick (K := K) (kx := 4) (kc := 0) (tp := tVar 2) (σ := [some (.ref a), some (.ref b), some (.ref pa), some (.ref wa), none]) (fun R hR => ⟨_, rfl, hR⟩) (e2.sqT hpa) (e2.sqT ha) asc.inR hl (fun _ => rfl) (fun _ => rfl) (fun _ => rfl) fun D H3 hD s3 hDl => ?_
    refine ⟨_, rfl, true, D, _, _, ctD q'.2, rfl, SqL.of hDl, dh_ct ((Ext.of ((s1.trans s2).trans s3)).sqT hwa), fun H4 s4 => ?_⟩
    rw [show (ctD q'.2).isCont (picks q'.1 ss) = true from hct]
    exact q H4 (((s1.trans s2).trans s3).trans s4)

end
end Fm
namespace Fm
open PySem PySem.Spec PyProof.Rows L2
section
variable {P : Program} {w : World} {K : PySem.W.Frag} {mg : Str → Option Value} {base : Heap}

/-! ### walks of dicts of boxes; is_part_shares -/
theorem for_itemsB {d : Addr} {o : Obj} {L : BoxL} {g : TG} {tb : TS} {D : Ends} {σ : L2.St} {H : Hp} (Pv : Nat → L2.St → Hp → Prop) (h0 : Pv 0 σ H) (hl : ∀ i σ H, Pv i σ H → H d = some (.frz o (DBO P w d L)))
    (hs : ∀ (i : Nat) p (T : Addr) (σ : L2.St) (H : Hp), L[i]? = some p → Pv i σ H → H T = none → g (.ref T) σ (upd H T (.tup [.ref p.1, p.2.2])) fun σ2 H2 => tb { D with nx := Pv (i + 1), ct := Pv (i + 1), bk := D.nx } σ2 H2)
    (hd : ∀ σ H, Pv L.length σ H → D.nx σ H) :
    ∃ W : Nat → Nat → L2.St → Hp → Prop, (∃ m, W 0 m σ H) ∧ ∀ i m σ H, W i m σ H →
      ((ItiB P w d o L).stop i H ∧ D.nx σ H) ∨ ((ItiB P w d o L).go i H ∧ ∃ N : L2.St → Hp → Prop, (∀ σ' H', N σ' H' → ∃ m', m' < m ∧ W (i + 1) m' σ' H') ∧ ∀ v H', (ItiB P w d o L).yld i H v H' → g v σ H' fun σ2 H2 => tb { D with nx := N, ct := N, bk := D.nx } σ2 H2) := by
  refine ⟨fun i m σ H => i + m = L.length ∧ Pv i σ H, ⟨_, Nat.zero_add _, h0⟩, ?_⟩
  rintro i m σ H ⟨em, p⟩
  cases m with
  | zero =>
    have ei : i = L.length := em
    refine .inl ⟨⟨hl i σ H p, by omega⟩, hd σ H ?_⟩
    rw [← ei]
    exact p
  | succ m =>
    refine .inr ⟨⟨hl i σ H p, by omega⟩, Pv (i + 1), fun σ' H' p' => ⟨m, Nat.lt_succ_self m, by omega, p'⟩, fun v H' y => ?_⟩
    obtain ⟨T, p', h1, rfl, h2, rfl⟩ := y
    exact hs i p' T σ H h1 p h2
theorem low_sh0 {m B : Int} (h0 : 0 < B) (h1 : 0 ≤ m) (h2 : m ≤ B) : (frD (lowZ m B)).isSh0 = true := by
  have f := low_fr (n := 1) (B := B.toNat) (t := m) h0 (by omega) h1 (by omega)
  have g := low_gcd (t := m) h0 h1
  have t2 : (lowZ m B).1 ≤ (lowZ m B).2 := by have := f.top; omega
  have t3 : (lowZ m B).2 ≥ 1 := by have := f.pos; omega
  show ((decide ((lowZ m B).2 ≥ 1) && decide (gz (lowZ m B).1 (lowZ m B).2 = 1)) && (decide (0 ≤ (lowZ m B).1) && decide ((lowZ m B).1 ≤ (lowZ m B).2))) = true
  rw [decide_eq_true t2, decide_eq_true t3, decide_eq_true f.top0, decide_eq_true g]
  rfl
/-- what is right in a dict of shares -/
structure ShOk (K : PySem.W.Frag) (ss : List Int) (B : Int) (H : Hp) (L : BoxL) (g : List Int × List Int → Int) : Prop where
  box : BoxesAt K H L
  val : ∀ e ∈ L, ∃ a, e.2.2 = .ref a ∧ SqT K H a [.int (lowZ (g e.2.1) B).1, .int (lowZ (g e.2.1) B).2]
  ok : ∀ e ∈ L, BoxOk ss e.2.1 ∧ e.2.1.1.length < ss.length ∧ 0 ≤ g e.2.1 ∧ g e.2.1 ≤ B
theorem ShOk.ext {ss : List Int} {B : Int} {H H' : Hp} {L : BoxL} {g : List Int × List Int → Int} (e : Ext H H') (x : ShOk K ss B H L g) : ShOk K ss B H' L g := ⟨fun p hp => (x.box p hp).ext e, fun p hp => by
  obtain ⟨a, h1, h2⟩ := x.val p hp
  exact ⟨a, h1, e.sqT h2⟩, x.ok⟩
theorem box_frz {H : Hp} {a f : Addr} {xs : List V} {od : Obj} {L : BoxL} (hf : H f = some (DBO P w f L)) (h : SqT K H a xs) : SqT K (upd H f (.frz od (DBO P w f L))) a xs := sqT_put hf h
/-- what a lock leaves -/
theorem unlock_same {H H' : Hp} {f : Addr} {od : Obj} {L : BoxL} (hf : H f = some (DBO P w f L)) (s : Same (upd H f (.frz od (DBO P w f L))) H') : Same H (upd H' f (DBO P w f L)) := fun b o e => by
  by_cases hb : b = f
  · subst hb
    rw [upd_same]
    rw [hf] at e
    exact e
  · rw [upd_ne hb]
    refine s _ _ ?_
    rw [upd_ne hb]
    exact e
def spPS (K : PySem.W.Frag) (P : Program) (w : World) : Sp := fun vs H Q _ => ∃ (a f : Addr) (ss : List Int) (B : Int) (L : BoxL) (g : List Int × List Int → Int), vs = [.ref a, .ref f] ∧ SqT K H a (ss.map V.int) ∧ SizesOk ss ∧ H f = some (DBO P w f L) ∧ 0 < B ∧ ShOk K ss B H L g ∧ ∀ H', Same H H' → Q (.bl true) H'
theorem ok_is_part_shares (T : Txt K mg) : FnOk P w K mg base CX0 4 T.f_is_part_shares T.d_is_part_shares ["sizes", "thing"] (spPS K P w) := by
  refine T.F_is_part_shares.ok sc_is_part_shares (fun vs H Q E h => ?_) (fun cdv A outer s H vs Q E hr h => ?_)
  · obtain ⟨_, _, _, _, _, _, rfl, _⟩ := h
    rfl
  · obtain ⟨a, f, ss, B, L, g, rfl, ha, ok, hf, B0, sh, q⟩ := h
    have h5 := ok.facts.2.1
    refine ⟨_, (pss_cons (ps_if (pt_not (pt_val (pe_callB (call_isiB (P := P) (w := w)) (by rfl) T.z_isinstance (by decide +kernel) (pa_cons (pv 1) (pa_cons (pe_bltn (v := .ty "dict") (by rfl) T.z_dict (by decide +kernel) rfl) pa_nil))))) (pss_one (ps_ret pe_bl)) pss_nil)
      (pss_cons (ps_lock (ps_for PassesOwn.never rfl (pi_itemsB (P := P) (w := w) (pv 1)) (pg_tupK K (n := 2) rfl (pgs_cons (pg_name (i := 2) sc_is_part_shares.nd rfl (.inl rfl)) (pgs_cons (pg_name (i := 3) sc_is_part_shares.nd rfl (.inl rfl)) pgs_nil))) (pss_one (ps_if (PW.pt (pw_or (pt_not (pt_val (pe_call (ok_is_box_of T) hr (by rfl) T.g_is_box_of T.F_is_box_of.kp T.b_is_box_of .nil pass0 (pa_cons (pv 0) (pa_cons (pv 2) pa_nil))))) (pw_or (pt_cmpR op_eq (pe_callB (call_lenK K) (by rfl) T.z_len PySem.boot_len (pa_cons (pe_ix (ix_tupK K) (pv 2) pe_int (fun _ _ => rfl)) pa_nil)) (pe_callB (call_lenK K) (by rfl) T.z_len PySem.boot_len (pa_cons (pv 0) pa_nil)) (nomark _)) (pw_or1 (pt_not (pt_val (pe_call (ok_is_share T) hr (by rfl) T.g_is_share T.F_is_share.kp T.b_is_share .nil pass0 (pa_cons (pv 3) pa_nil)))))))) (pss_one (ps_ret pe_bl)) pss_nil))))
      (pss_one (ps_ret pe_bl)))), ?_⟩
    refine ⟨_, rfl, f, L, rfl, .inl hf, _, rfl, iteF ?_⟩
    refine ⟨f, _, hf, True.intro, fun od => ?_⟩
    have ha5 : SqT K (upd H f (.frz od (DBO P w f L))) a (ss.map V.int) := box_frz hf ha
    have sh5 : ShOk K ss B (upd H f (.frz od (DBO P w f L))) L g := ⟨fun p hp => by
      obtain ⟨pa, wa, b1, b2, b3⟩ := sh.box p hp
      exact ⟨pa, wa, box_frz hf b1, box_frz hf b2, box_frz hf b3⟩, fun p hp => by
      obtain ⟨va, v1, v2⟩ := sh.val p hp
      exact ⟨va, v1, box_frz hf v2⟩, sh.ok⟩
    have hf5 : (upd H f (.frz od (DBO P w f L))) f = some (.frz od (DBO P w f L)) := upd_same
    have un : ∀ H', Same (upd H f (.frz od (DBO P w f L))) H' → Same H (upd H' f (DBO P w f L)) := fun H' s => unlock_same hf s
    generalize upd H f (.frz od (DBO P w f L)) = H5 at ha5 sh5 hf5 un ⊢
    refine ⟨_, rfl, f, od, L, rfl, hf5, for_itemsB (fun i σ H' => ∃ y2 y3 : Option V, σ = [some (.ref a), some (.ref f), y2, y3] ∧ Same H5 H')
      ⟨none, none, rfl, Same.refl _⟩ (fun i σ H' ⟨_, _, _, s'⟩ => s' _ _ hf5) ?_ ?_⟩
    · rintro i p Tp σ H6 hp ⟨y2, y3, rfl, s6⟩ nT
      have hpm := List.mem_of_getElem? hp
      have s7 : Same H5 (upd H6 Tp (.tup [.ref p.1, p.2.2])) := s6.trans (same_new nT)
      have ht : SqT K (upd H6 Tp (.tup [.ref p.1, p.2.2])) Tp [.ref p.1, p.2.2] := SqT.of upd_same
      generalize upd H6 Tp (.tup [.ref p.1, p.2.2]) = H7 at s7 ht ⊢
      obtain ⟨bo, lt, g0, g1⟩ := sh.ok p hpm
      refine ⟨Tp, _, rfl, ht, rfl, _, _, rfl, _, _, rfl, rfl, ?_⟩
      have sh7 := sh5.ext (.of s7)
      refine ⟨_, rfl, _, rfl, a, p.1, ss, p.2.1, rfl, (Ext.of s7).sqT ha5, h5, sh7.box p hpm, bo, fun H8 s8 => ⟨_, rfl, iteF ?_⟩⟩
      have s58 := s7.trans s8
      obtain ⟨pa, wa, b1, b2, b3⟩ := (sh5.ext (.of s58)).box p hpm
      refine ⟨_, rfl, p.1, _, 0, _, rfl, rfl, b1, atI_nat (j := 0) rfl, pa, _, rfl, .inr b2, _, rfl, a, _, rfl, .inr ((Ext.of s58).sqT ha5), rfl, _, rfl, ?_⟩
      rw [decide_eq_false (fun z : V.int ((p.2.1.1.map V.int).length : Int) = V.int ((ss.map V.int).length : Int) => by
        have := V.int.inj z
        rw [List.length_map, List.length_map] at this
        omega)]
      refine iteF ?_
      obtain ⟨va, e1, e2⟩ := (sh5.ext (.of s58)).val p hpm
      rw [e1]
      refine ⟨_, rfl, spD_bl (.cons (dh_ct (c := [(lowZ (g p.2.1) B).1, (lowZ (g p.2.1) B).2]) e2) .nil) rfl fun H9 s9 => ⟨_, rfl, ?_⟩⟩
      rw [low_sh0 B0 g0 g1]
      exact iteF ⟨_, _, rfl, s58.trans s9⟩
    · rintro σ H6 ⟨y2, y3, rfl, s6⟩
      exact ⟨s6 _ _ hf5, q _ (un _ s6)⟩

end
end Fm
namespace Fm
open PySem PySem.Spec PyProof.Rows L2
section
variable {P : Program} {w : World} {K : PySem.W.Frag} {mg : Str → Option Value} {base : Heap}

/-! ### filled_row -/
theorem row_fin {H : Hp} {Q : VK} {n : Nat} {B : Int} {r : Addr} {acc : List V} {R : List (List Int × Int)} (hr : H r = some (.lst acc)) (dh : DhAll K H acc (R.map fun p => itD B p.1 p.2)) (nd : (R.map (·.1)).Nodup) (h5 : n ≤ 5) (B0 : 0 < B) (B1 : B ≤ 100)
    (ok : ∀ p ∈ R, Asc n (-1) p.1 ∧ 1 ≤ p.2 ∧ p.2 ≤ B) (sum : sumI (R.map (·.2)) = B) (l10 : R.length ≤ 10)
    (q : ∀ (t : Addr) (o : Obj) (ys : List V) (S : List (List Int × Int)) (H' : Hp), Same H H' → H' t = some (.frz o (.tup ys)) → o.dict = none → DhAll K H' ys (S.map fun p => itD B p.1 p.2) → Wf (.tup (S.map fun p => itD B p.1 p.2)) → (Dt.tup (S.map fun p => itD B p.1 p.2)).isRow n = true → (S.map (·.1)).Pairwise (fun a b => HT.lexLt a b = true) → S.Perm R → Q (.ref t) H') :
    rSortTs K [.ref r] H fun x H7 => rTupF K [x] H7 Q := by
  refine sort_items (SqL.of hr) dh nd fun p ys S np hdS pm pwS => ?_
  have sp : Same H (upd H p (.lst ys)) := same_new np
  refine ⟨p, ys, rfl, SqL.of upd_same, fun t ob nt hob => ?_⟩
  have st := same_new (o := HO.frz ob (.tup ys)) nt
  obtain ⟨wf, row, _⟩ := made_row10 (n := n) (B := B) (qs := S.map (·.1)) (ms := S.map (·.2)) h5 (by rw [List.length_map, List.length_map]) (fun k hk => by
    obtain ⟨z, hz, rfl⟩ := List.mem_map.mp hk
    exact (ok z (pm.mem_iff.mp hz)).1) pwS (fun m hm => by
    obtain ⟨z, hz, rfl⟩ := List.mem_map.mp hm
    exact (ok z (pm.mem_iff.mp hz)).2) ((sum_perm (pm.map _)).trans sum) (by omega) B0 (by rw [List.length_map, pm.length_eq]; omega)
  rw [zip_its] at wf row
  exact q t ob ys S _ (sp.trans st) upd_same hob (hdS.ext (.of (sp.trans st))) wf row pwS pm
/-- a row that is filled up with ALL -/
def FillV (K : PySem.W.Frag) (H : Hp) (n : Nat) (B : Int) (R : List (List Int × Int)) (v : V) : Prop := ∃ (t : Addr) (o : Obj) (ys : List V) (S : List (List Int × Int)), v = .ref t ∧ H t = some (.frz o (.tup ys)) ∧ o.dict = none ∧ DhAll K H ys (S.map fun p => itD B p.1 p.2) ∧ Wf (.tup (S.map fun p => itD B p.1 p.2)) ∧ (Dt.tup (S.map fun p => itD B p.1 p.2)).isRow n = true ∧
  (S.map (·.1)).Pairwise (fun a b => HT.lexLt a b = true) ∧ ∀ k m, (k, m) ∈ S ↔ ((k, m) ∈ R ∧ 0 < m) ∨ (k = rgI n ∧ 0 < m ∧ m = B - sumI (R.map (·.2)))
def spFill (K : PySem.W.Frag) : Sp := fun vs H Q _ => ∃ (a p : Addr) (cv : V) (ss : List Int) (xs : List V) (R : List (List Int × Int)) (B : Int), vs = [.ref a, cv, .ref p] ∧ SqT K H a (ss.map V.int) ∧ SizesOk ss ∧ H p = some (.lst xs) ∧ DhAll K H xs (R.map fun p => itD B p.1 p.2) ∧ (R.map (·.1)).Nodup ∧
  (∀ r ∈ R, Asc ss.length (-1) r.1 ∧ r.1.length < ss.length ∧ 0 ≤ r.2) ∧ sumI (R.map (·.2)) ≤ B ∧ 1 ≤ B ∧ B ≤ 12 ∧ R.length ≤ 4 ∧ ∀ v H', Same H H' → FillV K H' ss.length B R v → Q v H'
theorem sum_part : ∀ (l : List Int), (∀ z ∈ l, 0 ≤ z) → ∀ z ∈ l, z ≤ sumI l
  | [], _, z, hz => by cases hz
  | y :: l, h, z, hz => by
    rw [sumI_cons]
    have n1 := h y (List.mem_cons_self ..)
    have n2 := sumI_nn (ms := l) fun z hz => h z (List.mem_cons_of_mem _ hz)
    rcases List.mem_cons.mp hz with e | e
    · omega
    · have := sum_part l (fun z hz => h z (List.mem_cons_of_mem _ hz)) z e
      omega
theorem low_nz {m B : Int} (h0 : 0 < B) (hm : 0 ≤ m) : ([(lowZ m B).1, (lowZ m B).2] : List Int) = [0, 1] ↔ m = 0 := by
  constructor
  · intro h
    have h1 : (lowZ m B).1 = 0 := by injection h
    rcases Int.lt_or_le 0 m with z | z
    · have := (low_sgn h0 hm).mpr z
      omega
    · omega
  · rintro rfl
    rw [low_zero h0]
theorem sum_pos : ∀ (l : List (List Int × Int)), (∀ r ∈ l, 0 ≤ r.2) → sumI ((l.filter fun r : List Int × Int => decide (r.2 ≠ 0)).map (·.2)) = sumI (l.map (·.2))
  | [], _ => rfl
  | r :: l, h => by
    have ih := sum_pos l fun z hz => h z (List.mem_cons_of_mem _ hz)
    by_cases e : r.2 = 0
    · rw [List.filter_cons_of_neg (by simp [e]), List.map_cons, sumI_cons, ih]
      omega
    · rw [List.filter_cons_of_pos (by simp [e]), List.map_cons, List.map_cons, sumI_cons, sumI_cons, ih]
theorem ok_filled_row (T : Txt K mg) : FnOk P w K mg base CX0 4 T.f_filled_row T.d_filled_row ["sizes", "content", "pairs"] (spFill K) := by
  refine T.F_filled_row.ok sc_filled_row (fun vs H Q E h => ?_) (fun cdv A outer s H vs Q E hr h => ?_)
  · obtain ⟨_, _, _, _, _, _, _, rfl, _⟩ := h
    rfl
  · obtain ⟨a, p, cv, ss, xs, R, B, rfl, ha, ok, hp, hd, nd, hR, hsum, B1, B12, l4, q⟩ := h
    obtain ⟨l1, h5, _⟩ := ok.facts
    have B0 : 0 < B := by omega
    have m0 : ∀ m ∈ R.map (·.2), 0 ≤ m := fun m hm => by
      obtain ⟨r, hr, rfl⟩ := List.mem_map.mp hm
      exact (hR r hr).2.2
    have mB : ∀ r ∈ R, r.2 ≤ B := fun r hr => by
      have := sum_part _ m0 r.2 (List.mem_map_of_mem (f := fun r : List Int × Int => r.2) hr)
      omega
    have hxl : xs.length = R.length := by rw [hd.length, List.length_map]
    refine ⟨_, (pss_cons (ps_set (i := 3) sc_filled_row.nd rfl (.inl rfl) (pe_glob (by rfl) T.g_ZERO (show L2.RelV (.ref T.v_ZERO) _ from rfl)))
      (pss_cons (ps_for PassesOwn.never rfl (pi_listK K (pv 2)) (pg_tupK K (n := 2) rfl (pgs_cons (pg_name (i := 4) sc_filled_row.nd rfl (.inl rfl)) (pgs_cons (pg_name (i := 5) sc_filled_row.nd rfl (.inl rfl)) pgs_nil))) (pss_one (ps_set (i := 3) sc_filled_row.nd rfl (.inl rfl) (pe_call (ok_plus T) (hr.mono (by decide)) (by rfl) T.g_plus T.F_plus.kp T.b_plus .nil pass0 (pa_cons (pv 3) (pa_cons (pv 5) pa_nil))))))
      (pss_cons (ps_if (pt_val (pe_call (ok_below T) (hr.mono (by decide)) (by rfl) T.g_below T.F_below.kp T.b_below .nil pass0 (pa_cons (pe_glob (by rfl) T.g_ONE (show L2.RelV (.ref T.v_ONE) _ from rfl)) (pa_cons (pv 3) pa_nil)))) (pss_one ps_never) pss_nil)
      (pss_cons (ps_set (i := 2) sc_filled_row.nd rfl (.inl rfl) (pe_op op_cat (pv 2) (pe_lst (pa_cons (pe_tup (pa_cons (pe_call (ok_all_columns T) (hr.mono (by decide)) (by rfl) T.g_all_columns T.F_all_columns.kp T.b_all_columns .nil pass0 (pa_cons (pe_callB (call_lenK K) (by rfl) T.z_len PySem.boot_len (pa_cons (pv 0) pa_nil)) pa_nil)) (pa_cons (pe_call (ok_minus T) hr (by rfl) T.g_minus T.F_minus.kp T.b_minus .nil pass0 (pa_cons (pe_glob (by rfl) T.g_ONE (show L2.RelV (.ref T.v_ONE) _ from rfl)) (pa_cons (pv 3) pa_nil))) pa_nil))) pa_nil))))
      (pss_one (ps_ret (pe_callTy (call_tupF (K := K)) (by rfl) T.z_tuple (by decide +kernel) (pa_cons (pe_callB (call_sortTsK (K := K) hr.units) (by rfl) T.z_sorted (by decide +kernel) (pa_cons (pe_lc (own := [("pair", 6)]) rfl sc_filled_row.nd (pi_listK K (pv 2)) (blkOk_by (N := N_filled_row) (sc := defScope s_filled_row) (by decide +kernel)) (fun _ _ _ _ _ => (pg_name (i := 6) sc_filled_row.nd rfl (.inl rfl))) (fun _ _ _ _ _ => (pts_one (pt_cmpR (op_neK K hr.units) (pe_ix (ix_tupK K) (pv 6) pe_int (fun _ _ => rfl)) (pe_glob (by rfl) T.g_ZERO (show L2.RelV (.ref T.v_ZERO) _ from rfl)) (nomark _)))) (fun _ _ _ _ _ => (pv 6))) pa_nil)) pa_nil)))))))), ?_⟩
    refine ⟨_, rfl, p, rfl, ⟨xs, SqL.of hp⟩, for_list (K := K) (a := p) (xs := xs) (fun i σ H' => ∃ (ta : Addr) (y4 y5 : Option V), σ = [some (.ref a), some cv, some (.ref p), some (.ref ta), y4, y5, none] ∧ Same H H' ∧ SqT K H' ta [.int (lowZ (sumI ((R.map (·.2)).take i)) B).1, .int (lowZ (sumI ((R.map (·.2)).take i)) B).2])
      ⟨T.v_ZERO, none, none, rfl, Same.refl H, by rw [List.take_zero, show sumI [] = 0 from rfl, low_zero B0]; exact T.k_ZERO H⟩ (fun i σ H' _ ⟨_, _, _, _, s', _⟩ => SqL.of (s' _ _ hp)) ?_ ?_⟩
    · rintro i x σ H2 hx ⟨ta, y4, y5, rfl, s2, hta⟩
      obtain ⟨d, hd', hxd⟩ := (hd.ext (.of s2)).get hx
      obtain ⟨r, hr', rfl⟩ := map_at hd'
      have hrm := List.mem_of_getElem? hr'
      obtain ⟨b, ys, rfl, hb, hys⟩ := hxd.tup_inv
      obtain ⟨v1, v2, rfl, g1, g2⟩ := dh_two hys
      obtain ⟨wb, rfl, hwb⟩ := fr_inv g2
      have t0 : 0 ≤ sumI ((R.map (·.2)).take i) := sumI_nn fun z hz => m0 z (List.mem_of_mem_take hz)
      have key : ∀ (l : List Int) (i : Nat), (∀ z ∈ l, 0 ≤ z) → sumI (l.take i) ≤ sumI l := by
        intro l
        induction l with
        | nil => intro i _; rw [List.take_nil]; exact Int.le_refl _
        | cons y l ih =>
          intro i h
          have n1 := h y (List.mem_cons_self ..)
          cases i with
          | zero =>
            rw [List.take_zero]
            exact sumI_nn h
          | succ i =>
            rw [List.take_succ_cons, sumI_cons, sumI_cons]
            have := ih i fun z hz => h z (List.mem_cons_of_mem _ hz)
            omega
      have tB := key _ i m0
      have f1 := low_fr (n := 1) (B := 12) (t := sumI ((R.map (·.2)).take i)) B0 (by omega) t0 (by omega)
      have f2 := low_fr (n := 1) (B := 12) (t := r.2) B0 (by omega) (hR r hrm).2.2 (by have := mB r hrm; omega)
      refine ⟨b, _, rfl, hb, rfl, _, _, rfl, _, _, rfl, rfl, ?_⟩
      refine ⟨_, rfl, _, rfl, ta, wb, _, _, 1, 1, 12, 12, rfl, hta, hwb, f1, f2, by decide, by decide +kernel, by decide, by decide, fun v H3 s3 hv => ?_⟩
      rw [plus_low B0 t0 (hR r hrm).2.2] at hv
      obtain ⟨tb, rfl, htb⟩ := fr_inv hv
      refine ⟨tb, _, _, rfl, s2.trans s3, ?_⟩
      have et : (R.map (·.2)).take (i + 1) = (R.map (·.2)).take i ++ [r.2] := by
        rw [List.take_add_one, List.getElem?_map, hr']
        rfl
      rw [et, sumI_snoc]
      exact htb
    · rintro σ H2 ⟨ta, y4, y5, rfl, s2, hta⟩
      rw [List.take_of_length_le (by rw [List.length_map]; omega)] at hta
      have S0 := sumI_nn m0
      obtain ⟨f1, f2, f3, f4⟩ := low_fr (n := 1) (B := 12) (t := sumI (R.map (·.2))) B0 (by omega) S0 (by omega)
      refine ⟨_, rfl, T.v_ONE, ta, _, _, rfl, T.k_ONE _, hta, f1, by omega, f3, by omega, _, rfl, iteF ?_⟩
      dsimp only [tNext, tSeq, tAsg, gName, List.set_cons_succ, List.set_cons_zero]
      refine ⟨_, rfl, _, rfl, a, _, rfl, .inr ((Ext.of s2).sqT ha), ss.length, by rw [List.length_map]; rfl, by omega, fun b H3 s3 hb => ?_⟩
      refine ⟨_, rfl, T.v_ONE, ta, _, _, rfl, T.k_ONE _, (Ext.of s3).sqT hta, f1, by omega, f3, by omega, fun v H4 s4 hv => ?_⟩
      rw [low_rest B0 S0] at hv
      obtain ⟨wa, rfl, hwa⟩ := fr_inv hv
      refine ⟨by show 2 ≤ sizeLine; decide, fun t nt => ⟨by show 1 ≤ sizeLine; decide, fun l nl => ?_⟩⟩
      have s5 : Same H4 (upd H4 t (.tup [.ref b, .ref wa])) := same_new nt
      have ht : (upd H4 t (.tup [.ref b, .ref wa])) t = some (.tup [.ref b, .ref wa]) := upd_same
      generalize upd H4 t (.tup [.ref b, .ref wa]) = H5 at s5 ht nl ⊢
      have s6 : Same H5 (upd H5 l (.lst [.ref t])) := same_new nl
      have hl : (upd H5 l (.lst [.ref t])) l = some (.lst [.ref t]) := upd_same
      generalize upd H5 l (.lst [.ref t]) = H6 at s6 hl ⊢
      have s06 := ((((s2.trans s3).trans s4).trans s5).trans s6)
      refine ⟨p, l, xs, [.ref t], rfl, rfl, s06 _ _ hp, hl, Nat.le_of_lt (sz_small (by show xs.length + 1 ≤ 100000; omega)), fun r nr => ?_⟩
      have s7 : Same H6 (upd H6 r (.lst (xs ++ [.ref t]))) := same_new nr
      have hr7 : (upd H6 r (.lst (xs ++ [.ref t]))) r = some (.lst (xs ++ [.ref t])) := upd_same
      generalize upd H6 r (.lst (xs ++ [.ref t])) = H7 at s7 hr7 ⊢
      have s07 := s06.trans s7
      obtain ⟨R1, eR1⟩ : ∃ R1, R1 = R ++ [(rgI ss.length, B - sumI (R.map (·.2)))] := ⟨_, rfl⟩
      have hR1 : ∀ r ∈ R1, Asc ss.length (-1) r.1 ∧ 0 ≤ r.2 ∧ r.2 ≤ B := fun r hr => by
        rw [eR1] at hr
        rcases List.mem_append.mp hr with hr | hr
        · exact ⟨(hR r hr).1, (hR r hr).2.2, mB r hr⟩
        · rw [List.mem_singleton.mp hr]
          exact ⟨asc_rg _, by show 0 ≤ B - sumI (R.map (·.2)); omega, by show B - sumI (R.map (·.2)) ≤ B; omega⟩
      have hd7 : DhAll K H7 (xs ++ [.ref t]) (R1.map fun p => itD B p.1 p.2) := by
        rw [eR1, List.map_append]
        refine (hd.ext (.of s07)).snoc ?_
        exact .tup (SqT.of ((s6.trans s7) _ _ ht)) (.cons (dh_ct (SqT.of ((((s4.trans s5).trans s6).trans s7) _ _ hb))) (.cons (dh_ct (c := [_, _]) ((Ext.of ((s5.trans s6).trans s7)).sqT hwa)) .nil))
      have nd1 : (R1.map (·.1)).Nodup := by
        rw [eR1, List.map_append]
        refine List.nodup_append.mpr ⟨nd, by simp, fun y hy z hz e2 => ?_⟩
        have z3 : z = rgI ss.length := by simpa using hz
        obtain ⟨r, hr, e3⟩ := List.mem_map.mp hy
        have := (hR r hr).2.1
        rw [e3, e2, z3] at this
        unfold rgI at this
        rw [List.length_map, List.length_range] at this
        omega
      have sum1 : sumI (R1.map (·.2)) = B := by
        rw [eR1, List.map_append]
        show sumI (R.map (·.2) ++ [B - sumI (R.map (·.2))]) = B
        rw [sumI_snoc]
        omega
      have len1 : R1.length ≤ 5 := by
        rw [eR1, List.length_append]
        show R.length + 1 ≤ 5
        omega
      have mem1 : ∀ k m, (k, m) ∈ R1 ↔ (k, m) ∈ R ∨ (k = rgI ss.length ∧ m = B - sumI (R.map (·.2))) := fun k m => by
        rw [eR1, List.mem_append, List.mem_singleton, Prod.mk.injEq]
      have xl1 : (xs ++ [V.ref t]).length = R1.length := by rw [hd7.length, List.length_map]
      clear eR1
      dsimp only [tRet, tCB, tCons]
      refine ⟨_, rfl, r, rfl, ⟨_, SqL.of hr7⟩, fun D nD => lc_list (K := K) (xs := xs ++ [.ref t]) (fun i H' => ∃ acc, Same H7 H' ∧ H' D = some (.lst acc) ∧ acc.length ≤ i ∧ DhAll K H' acc (((R1.take i).filter fun r : List Int × Int => decide (r.2 ≠ 0)).map fun p => itD B p.1 p.2))
        ⟨[], same_new nD, upd_same, Nat.le_refl _, by rw [List.take_zero]; exact .nil⟩ (fun i H' _ ⟨_, s', _⟩ => SqL.of (s' _ _ hr7)) ?_ ?_⟩
      · rintro i x H8 hx ⟨acc, s8, hD, hal, hac⟩
        obtain ⟨d, hd', hxd⟩ := (hd7.ext (.of s8)).get hx
        obtain ⟨r', hr', rfl⟩ := map_at hd'
        obtain ⟨_, r0, rB⟩ := hR1 r' (List.mem_of_getElem? hr')
        have hxd0 := hxd
        obtain ⟨b', ys, rfl, hb', hys⟩ := hxd.tup_inv
        obtain ⟨v1, v2, rfl, g1, g2⟩ := dh_two hys
        have hil := (List.getElem?_eq_some_iff.mp hx).1
        refine ⟨rfl, ?_⟩
        refine ⟨_, rfl, b', _, 1, v2, rfl, rfl, hb', atI_nat (j := 1) rfl, ctP [(lowZ r'.2 B).1, (lowZ r'.2 B).2], ctP [0, 1], dp_ct (c := [_, _]) g2, dp_ct (c := [0, 1]) (dh_ct (c := [0, 1]) (T.k_ZERO _)), shaped_ct _, shaped_ct _, _, rfl, ?_⟩
        rw [eqv_ct]
        by_cases e : r'.2 = 0
        · rw [decide_eq_true ((low_nz B0 r0).mpr e)]
          refine iteF ⟨acc, s8, hD, by omega, ?_⟩
          rw [List.take_add_one, hr', List.filter_append]
          have : (Option.toList (some r')).filter (fun r : List Int × Int => decide (r.2 ≠ 0)) = [] := by simp [e]
          rw [this, List.append_nil]
          exact hac
        · rw [decide_eq_false (fun z => e ((low_nz B0 r0).mp z))]
          refine iteT ?_
          refine ⟨_, rfl, acc, hD, sz_small (by omega), acc ++ [.ref b'], Same.put nD s8, upd_same, by rw [List.length_append]; show acc.length + 1 ≤ i + 1; omega, ?_⟩
          have ep := Ext.put (ys := acc ++ [.ref b']) hD
          rw [List.take_add_one, hr', List.filter_append]
          have : (Option.toList (some r')).filter (fun r : List Int × Int => decide (r.2 ≠ 0)) = [r'] := by simp [e]
          rw [this, List.map_append]
          exact (hac.ext ep).snoc (hxd0.ext ep)
      · rintro H8 ⟨acc, s8, hD, hal, hac⟩
        rw [List.take_of_length_le (by omega)] at hac
        refine row_fin (n := ss.length) (B := B) hD hac ?_ h5 B0 (by omega) (fun r hr => ?_) ?_ ?_ fun tt o ys S H9 s9 htt ho hys wf row pw pm => ?_
        · exact List.Sublist.nodup (List.filter_sublist.map _) nd1
        · obtain ⟨h1, h2⟩ := List.mem_filter.mp hr
          obtain ⟨a1, a2, a3⟩ := hR1 r h1
          have h3 := of_decide_eq_true h2
          exact ⟨a1, by omega, a3⟩
        · rw [sum_pos R1 fun r hr => (hR1 r hr).2.1]
          exact sum1
        · have := List.length_filter_le (fun r : List Int × Int => decide (r.2 ≠ 0)) R1
          omega
        · refine q _ _ ((s07.trans s8).trans s9) ⟨tt, o, ys, S, rfl, htt, ho, hys, wf, row, pw, fun k m => ?_⟩
          rw [pm.mem_iff, List.mem_filter, mem1]
          constructor
          · rintro ⟨h | ⟨e1, e2⟩, h2⟩
            · have h3 : m ≠ 0 := of_decide_eq_true h2
              have := (hR _ h).2.2
              exact .inl ⟨h, by show 0 < m; have : 0 ≤ m := this; omega⟩
            · have h3 : m ≠ 0 := of_decide_eq_true h2
              exact .inr ⟨e1, by omega, e2⟩
          · rintro (⟨h, h2⟩ | ⟨e1, h2, e2⟩)
            · exact ⟨.inl h, decide_eq_true (show m ≠ 0 by omega)⟩
            · exact ⟨.inr ⟨e1, e2⟩, decide_eq_true (show m ≠ 0 by omega)⟩

end
end Fm
namespace Fm
open PySem PySem.Spec PyProof.Rows L2
section
variable {P : Program} {w : World} {K : PySem.W.Frag} {mg : Str → Option Value} {base : Heap}

/-! ### what stands while a dict is locked -/
theorem sqT_frz {H : Hp} {a d : Addr} {xs : List V} {od : Obj} {φ : Heap → Prop} {o : HO} (hd : H d = some (.frz od (.ext φ))) (h : SqT K H a xs) : SqT K (upd H d o) a xs := by
  rcases h with (h | ⟨u, h⟩) | h
  · exact .inl (.inl (by rw [upd_ne (ne_of h hd fun e => by cases e)]; exact h))
  · exact .inl (.inr ⟨u, by rw [upd_ne (ne_of h hd fun e => by cases e)]; exact h⟩)
  · exact .inr h

/-! ### rows, one of them in the place of another -/
theorem cut_memR {xs : List V} {lo hi : Option Int} {x : V} (h : x ∈ cutV xs lo hi) : x ∈ xs := List.mem_of_mem_drop (List.mem_of_mem_take h)
def RwN (K : PySem.W.Frag) (m n : Nat) (H : Hp) (a : Addr) : Prop := ∃ xs : List V, SqT K H a xs ∧ xs.length = n ∧ ∀ x ∈ xs, RowW K H m x
theorem RwN.ext {H H' : Hp} {m n : Nat} {a : Addr} (e : Ext H H') : RwN K m n H a → RwN K m n H' a := fun ⟨xs, h1, h2, h3⟩ => ⟨xs, e.sqT h1, h2, fun x hx => (h3 x hx).ext e⟩
theorem rwn_slice {H : Hp} {a : Addr} {lo hi : Option Int} {m n k : Nat} {Q : VK} (g : RwN K m n H a) (e : ∀ xs : List V, xs.length = n → (cutV xs lo hi).length = k) (q : ∀ r H', Same H H' → RwN K m k H' r → Q (.ref r) H') : rSlA K (.ref a) lo hi H Q := by
  obtain ⟨xs, s, l, g⟩ := g
  have e' := e xs l
  refine ⟨a, xs, rfl, s, fun ⟨h1, h2⟩ => q a H (Same.refl H) ⟨xs, s, ?_, g⟩, fun _ p np => q p _ (same_new np) ⟨_, SqT.of upd_same, e', fun x hx => (g x (cut_memR hx)).ext (.of (same_new np))⟩⟩
  unfold cutV at e'
  rw [h1, h2, List.length_take, List.length_drop] at e'
  omega
theorem rwn_cat {H : Hp} {a b : Addr} {m n k : Nat} {Q : VK} (ga : RwN K m n H a) (gb : RwN K m k H b) (hb : n + k ≤ 50000) (q : ∀ r H', Same H H' → RwN K m (n + k) H' r → Q (.ref r) H') : rCatA K (.ref a) (.ref b) H Q := by
  obtain ⟨xs, sa, la, wa⟩ := ga
  obtain ⟨ys, sb, lb, wb⟩ := gb
  refine ⟨a, b, xs, ys, rfl, rfl, sa, sb, Nat.le_of_lt (sz_small (by omega)), fun e => ?_, fun _ e => ?_, fun _ _ p hp => ?_⟩
  · subst e
    exact q _ H (Same.refl H) ⟨ys, sb, by rw [List.length_nil] at la; omega, wb⟩
  · subst e
    exact q _ H (Same.refl H) ⟨xs, sa, by rw [List.length_nil] at lb; omega, wa⟩
  · refine q _ _ (same_new hp) ⟨_, SqT.of upd_same, by rw [List.length_append]; omega, fun z hz => ?_⟩
    rcases List.mem_append.mp hz with hz | hz
    · exact (wa z hz).ext (.of (same_new hp))
    · exact (wb z hz).ext (.of (same_new hp))
theorem rows_swap {σ : L2.St} {H : Hp} {Q : VK} {kr ka ko : Nat} {ra : Addr} {d : Int} {row : V} {m n : Nat} (h1 : σ[kr]? = some (some (.ref ra))) (h2 : σ[ka]? = some (some (.int d))) (h3 : σ[ko]? = some (some row)) (g : RwN K m n H ra) (gr : RowW K H m row) (d0 : 0 ≤ d) (d1 : d < n) (hn : n ≤ 2000)
    (q : ∀ r H', Same H H' → RwN K m n H' r → Q (.ref r) H') :
    tOp (rCatA K) (tOp (rCatA K) (tSl (rSlA K) (tVar kr) tNoPart (tPart (tVar ka))) (tTup (tCons (tVar ko) tNil))) (tSl (rSlA K) (tVar kr) (tPart (tOp (rI0 fun i j => V.int (i + j)) (tVar ka) (tC (V.int 1)))) tNoPart) σ H Q := by
  obtain ⟨k, rfl⟩ : ∃ k : Nat, d = (k : Int) := ⟨d.toNat, by omega⟩
  have e1 : ∀ xs : List V, xs.length = n → (cutV xs none (some ((k : Nat) : Int))).length = k := fun xs hl => by
    unfold cutV
    rw [HT.sIx_none, HT.sIx_nat, List.length_take, List.length_drop]
    omega
  have e2 : ∀ xs : List V, xs.length = n → (cutV xs (some ((k : Int) + 1)) none).length = n - (k + 1) := fun xs hl => by
    unfold cutV
    rw [HT.sIx_none, show ((k : Int) + 1) = ((k + 1 : Nat) : Int) by omega, HT.sIx_nat, List.length_take, List.length_drop]
    omega
  refine ⟨_, h1, _, h2, _, rfl, rwn_slice g e1 fun a1 G1 s1 g1 => ?_⟩
  refine ⟨_, h3, by show 1 ≤ sizeLine; decide, fun p np => ?_⟩
  have s2 : Same G1 (upd G1 p (.tup [row])) := same_new np
  have gp : RwN K m 1 (upd G1 p (.tup [row])) p := ⟨_, SqT.of upd_same, rfl, fun x hx => by
    rw [List.mem_singleton.mp hx]
    exact gr.ext (.of (s1.trans s2))⟩
  generalize upd G1 p (.tup [row]) = G2 at s2 gp ⊢
  refine rwn_cat (g1.ext (.of s2)) gp (by omega) fun a3 G3 s3 g3 => ?_
  have s13 := (s1.trans s2).trans s3
  refine ⟨_, h1, _, h2, _, _, rfl, rfl, _, rfl, ?_⟩
  show rSlA K (.ref ra) (some ((k : Int) + 1)) none G3 fun y H2 => rCatA K (.ref a3) y H2 Q
  refine rwn_slice (g.ext (.of s13)) e2 fun a4 G4 s4 g4 => ?_
  refine rwn_cat (g3.ext (.of s4)) g4 (by omega) fun a5 G5 s5 g5 => q a5 G5 ((s13.trans s4).trans s5) ?_
  rw [show k + 1 + (n - (k + 1)) = n by omega] at g5
  exact g5
theorem UnfV.go {H H' : Hp} {ss : List Int} (s : Same H H') : ∀ {r : Option (List Int × Nat × Nat)} {v : V}, UnfV K H ss r v → UnfV K H' ss r v
  | none, _, h => h
  | some (_, _, _), _, ⟨a, pa, ca, cb, c, d, h1, h2, h3, h4, h5, h6, h7⟩ => ⟨a, pa, ca, cb, c, d, h1, (Ext.of s).sqT h2, (Ext.of s).sqT h3, h4, h5, (Ext.of s).sqT h6, (Ext.of s).sqT h7⟩
theorem lay_ctT (cs : List (List Int)) : (PyData.tuple (cs.map ctP)).canLay0 = true ∧ (PyData.tuple (cs.map ctP)).depth ≤ 2 := by
  obtain ⟨h1, h2⟩ := lay_all (f := fun c => ctP c) (n := 1) lay_ct cs
  exact ⟨h1, Nat.succ_le_succ h2⟩
theorem unfv_eq {H : Hp} {ss : List Int} : ∀ {r : Option (List Int × Nat × Nat)} {x y : V}, UnfV K H ss r x → UnfV K H ss r y → ∃ d, Dp K H x d ∧ Dp K H y d ∧ SeqAt.shaped d = true ∧ PyData.eqv d d = true
  | none, _, _, h1, h2 => ⟨.none, by rw [show _ = V.non from h1]; exact .non, by rw [show _ = V.non from h2]; exact .non, rfl, rfl⟩
  | some (p, i, j), _, _, ⟨a, pa, ca, cb, c, d, h1, h2, h3, h4, h5, h6, h7⟩, ⟨a', pa', ca', cb', c', d', h1', h2', h3', h4', h5', h6', h7'⟩ => by
    rw [h4] at h4'
    rw [h5] at h5'
    cases h4'
    cases h5'
    subst h1 h1'
    refine ⟨.tuple ([p, c, d].map ctP), .tup h2 (.cons (dp_ct (dh_ct h3)) (.cons (dp_ct (dh_ct h6)) (.cons (dp_ct (dh_ct h7)) .nil))), .tup h2' (.cons (dp_ct (dh_ct h3')) (.cons (dp_ct (dh_ct h6')) (.cons (dp_ct (dh_ct h7')) .nil))), shaped_of (lay_ctT _) (by decide), ?_⟩
    rw [PyData.eqv]
    refine Eq.trans (eqv_all (f := fun c => ctP c) eqv_ct [p, c, d] [p, c, d]) ?_
    simp
theorem allC_pos {ss : List Int} (ok : SizesOk ss) : 0 < (allC ss).length := by
  have h : List.replicate ss.length (0 : Int) ∈ allC ss := mem_allC.mpr (isCt_iff.mpr ⟨List.length_replicate, fun i x s hx hs => by
    obtain ⟨hi, e⟩ := List.getElem?_eq_some_iff.mp hx
    rw [List.getElem_replicate] at e
    have := (ok.facts.2.2 s (List.mem_of_getElem? hs)).1
    omega⟩)
  exact List.length_pos_of_mem h
theorem hab_made (T : Txt K mg) {H : Hp} {R : Hp → Prop} {E : XK} {x dx az ra : Addr} {ss : List Int} {rs : List V} {ds : List Dt} (nx : (upd H dx (.own x)) x = none ∨ H x = none) (nx0 : H x = none) (ndx : H dx = none) (haz : SqT K H az (ss.map V.int)) (ok : SizesOk ss) (hrt : SqT K H ra rs) (hrd : DhAll K H rs ds) (hwf : ∀ d ∈ ds, Wf d) (rows : Rows ss ds)
    (q : ∀ H', Same H H' → Hb K T.c_Habit H' x ss ds → R H') : spHab K T.c_Habit [.ref x, .ref az, .ref ra] (upd (upd H dx (.own x)) x (.ins T.c_Habit dx [])) (fun v H' => v = .non ∧ R H') E := by
  have sA : Same H (upd (upd H dx (.own x)) x (.ins T.c_Habit dx [])) := fun z o e => by
    rw [upd_ne (ne_of_none e nx0), upd_ne (ne_of_none e ndx)]
    exact e
  refine ⟨x, dx, _, _, ss, ds, rfl, upd_same, ok, (dh_ct haz).ext (.of sA), (Dh.tup hrt hrd).ext (.of sA), hwf, rows.len, rows.row, fun H4 hins4 k4 => ⟨rfl, ?_⟩⟩
  have s4 : Same H H4 := fun z o e => k4 z o (ne_of_none e nx0) (sA _ _ e)
  exact q H4 s4 ⟨dx, _, _, hins4, (dh_ct haz).ext (.of s4), (Dh.tup hrt hrd).ext (.of s4)⟩
theorem Cts.keep {H H' : Hp} {h c cp : Addr} {cs : List V} {ss : List Int} (y : Cts K H cp cs ss) (n : cp ≠ h) (hx : HandOk H h c) (k : Keep h c H H') : Cts K H' cp cs ss := ⟨k.rest _ _ n y.lst, fun i z hz => by
  obtain ⟨c', b, h1, h2, h3⟩ := y.at' i z hz
  exact ⟨c', b, h1, h2, (Keep.ext hx k).sqT h3⟩⟩

end
end Fm
namespace Fm
open PySem PySem.Spec PyProof.Rows L2
section
variable {P : Program} {w : World} {K : PySem.W.Frag} {mg : Str → Option Value} {base : Heap}

/-! ### habit_of -/
theorem rowS_share {n : Nat} {B : Int} {g : List Int × List Int → Int} {ks : List (List Int)} {c : List Int} {S : List (List Int × Int)} (h : RowS n B g ks c S) (B0 : 0 < B) (g0 : ∀ q, 0 ≤ g q) : ∀ q : List Int, q.length < n → shareIn (S.map fun p => itD B p.1 p.2) q = lowZ (g (q, picks q c)) B := fun q hq => by
  rw [← zip_its, look_share B0]
  by_cases hg : 0 < g (q, picks q c)
  · rw [look_mem (asc_nodup h.pw) ((h.mem q _).mpr (.inl ⟨hq, hg, rfl⟩))]
  · rw [look_none fun hm => by
      obtain ⟨⟨k, m⟩, hp, e⟩ := List.mem_map.mp hm
      have e : k = q := e
      subst e
      rcases (h.mem k m).mp hp with ⟨_, h1, h2⟩ | ⟨h1, _⟩
      · omega
      · rw [h1] at hq
        unfold rgI at hq
        rw [List.length_map, List.length_range] at hq
        omega]
    have := g0 (q, picks q c)
    rw [show g (q, picks q c) = 0 by omega]
theorem ShG.nn {B : Int} {H : Hp} {L : BoxL} {ks : List (List Int)} {ms : List Int} {g : List Int × List Int → Int} (x : ShG K B H L ks ms g) : ∀ q, 0 ≤ g q := fun q => by
  by_cases h : q ∈ L.map (·.2.1)
  · obtain ⟨e, he, rfl⟩ := List.mem_map.mp h
    exact (x.bd e he).1
  · rw [x.off q h]
    exact Int.le_refl _
def BoxesCt (ss : List Int) (L : BoxL) : Prop := ∀ e ∈ L, ∃ c, IsCt ss c ∧ e.2.1.2 = picks e.2.1.1 c
theorem ShG.shok {ss : List Int} {B : Int} {H : Hp} {L : BoxL} {ks : List (List Int)} {ms : List Int} {g : List Int × List Int → Int} (x : ShG K B H L ks ms g) (keys : KeysOk ss.length ks) (most : MostOk B ms) (ct : BoxesCt ss L) : ShOk K ss B H L g := ⟨x.box, x.val, fun e he => by
  obtain ⟨h0, i, mo, h1, h2, h3⟩ := x.bd e he
  obtain ⟨k1, k2⟩ := keys.2.2 _ (List.mem_of_getElem? h1)
  obtain ⟨_, _, m0, ms⟩ := most
  have := sum_part _ m0 mo (List.mem_of_getElem? h2)
  obtain ⟨c, c1, c2⟩ := ct e he
  exact ⟨⟨k1, c, c1, c2⟩, k2, h0, by omega⟩⟩
/-- the sum over some of the patterns, all that count among them -/
theorem sum_sub {ks ps : List (List Int)} {f : List Int → Int} (nk : ks.Nodup) (np : ps.Nodup) (hs : ∀ p ∈ ps, p ∈ ks) (h0 : ∀ k ∈ ks, k ∉ ps → f k = 0) : sumI (ps.map f) = sumI (ks.map f) := by
  rw [← sum_look nk (qs := ps) (ms := ps.map f) (by rw [List.length_map]) np hs]
  congr 1
  refine List.map_congr_left fun k hk => ?_
  by_cases h : k ∈ ps
  · have key : ∀ {ps : List (List Int)}, ps.Nodup → k ∈ ps → lookM ps (ps.map f) k = f k := by
      intro ps
      induction ps with
      | nil => intro _ h; cases h
      | cons p ps ih =>
        intro nd h
        rw [List.nodup_cons] at nd
        show (if p = k then f p else lookM ps (ps.map f) k) = f k
        by_cases e : p = k
        · rw [if_pos e, e]
        · rw [if_neg e]
          rcases List.mem_cons.mp h with z | z
          · exact (e z.symm).elim
          · exact ih nd.2 z
    exact key np h
  · rw [look_none h, h0 k hk h]
theorem unlock_sqT {H' : Hp} {f a : Addr} {od : Obj} {L : BoxL} {xs : List V} (hf' : H' f = some (.frz od (DBO P w f L))) (h : SqT K H' a xs) : SqT K (upd H' f (DBO P w f L)) a xs := sqT_frz hf' h
theorem findB_mem {L : BoxL} {q : List Int × List Int} {v : V} (h : findB L q = some v) : ∃ e ∈ L, e.2.1 = q ∧ e.2.2 = v := by
  unfold findB at h
  obtain ⟨e, he, rfl⟩ := Option.map_eq_some_iff.mp h
  exact ⟨e, List.mem_of_find?_eq_some he, by have z := List.find?_some he; simpa using z, rfl⟩
theorem ShG.get {B : Int} {H : Hp} {L : BoxL} {ks : List (List Int)} {ms : List Int} {g : List Int × List Int → Int} (x : ShG K B H L ks ms g) (B0 : 0 < B) {z0 : Addr} (hz : SqT K H z0 [.int 0, .int 1]) (q : List Int × List Int) : Dh K H ((findB L q).getD (.ref z0)) (frD (lowZ (g q) B)) := by
  cases h : findB L q with
  | some v =>
    obtain ⟨e, he, rfl, rfl⟩ := findB_mem h
    obtain ⟨a, h1, h2⟩ := x.val e he
    rw [h1]
    exact dh_ct (c := [_, _]) h2
  | none =>
    rw [x.off q (findB_none h), low_zero B0]
    exact dh_ct (c := [0, 1]) hz
theorem fill_rof {n : Nat} {B : Int} {H : Hp} {L : BoxL} {ks ps : List (List Int)} {ms : List Int} {g : List Int × List Int → Int} {H0 : Hp} {cc : List Int} {v : V} (sg : ShG K B H0 L ks ms g) (B0 : 0 < B) (keys : KeysOk n ks) (np : ps.Nodup) (hp : ∀ k, k ∈ ps ↔ k ∈ L.map fun e => e.2.1.1)
    (h : FillV K H n B (ps.map fun k => (k, g (k, picks k cc))) v) : RofV K H n B g ks cc v := by
  obtain ⟨t, o, ys, S, h1, h2, h3, h4, h5, h6, h7, h8⟩ := h
  have ink : ∀ k ∈ ps, k ∈ ks := fun k hk => by
    obtain ⟨e, he, rfl⟩ := List.mem_map.mp ((hp k).mp hk)
    obtain ⟨_, ix, mo, h1, _⟩ := sg.bd e he
    exact List.mem_of_getElem? h1
  have off : ∀ k, k ∉ ps → g (k, picks k cc) = 0 := fun k hk => sg.off _ fun hm => hk ((hp k).mpr (by
    obtain ⟨e, he, e1⟩ := List.mem_map.mp hm
    exact List.mem_map.mpr ⟨e, he, by rw [e1]⟩))
  have es : sumI ((ps.map fun k => (k, g (k, picks k cc))).map (·.2)) = sumI (ks.map fun k => g (k, picks k cc)) := by
    rw [List.map_map]
    exact sum_sub (f := fun k => g (k, picks k cc)) (asc_nodup keys.1) np ink fun k _ hk => off k hk
  have rs : RowS n B g ks cc S := ⟨h7, fun k m => by
    rw [h8 k m, es]
    unfold restS
    constructor
    · rintro (⟨h, m0⟩ | h)
      · obtain ⟨k', hk', e⟩ := List.mem_map.mp h
        cases e
        exact .inl ⟨(keys.2.2 _ (ink _ hk')).2, m0, rfl⟩
      · exact .inr h
    · rintro (⟨hl, m0, e⟩ | h)
      · refine .inl ⟨List.mem_map.mpr ⟨k, ?_, by rw [e]⟩, m0⟩
        by_cases hk : k ∈ ps
        · exact hk
        · have := off k hk
          omega
      · exact .inr h⟩
  exact ⟨t, o, ys, _, h1, h2, h3, h4, h5, h6, rowS_share rs B0 sg.nn, S, rfl, rs⟩
def spHabOf (K : PySem.W.Frag) (P : Program) (w : World) (C : Addr) : Sp := fun vs H Q _ => ∃ (a f : Addr) (ss : List Int) (B : Int) (L : BoxL) (g : List Int × List Int → Int) (ks : List (List Int)) (ms : List Int), vs = [.ref a, .ref f] ∧ SqT K H a (ss.map V.int) ∧ SizesOk ss ∧ H f = some (DBO P w f L) ∧ ShG K B H L ks ms g ∧ KeysOk ss.length ks ∧ MostOk B ms ∧ ks.length = ms.length ∧ BoxesCt ss L ∧
  ∀ (x : Addr) (ds : List Dt) (H' : Hp), Same H H' → Hb K C H' x ss ds → Rows ss ds → RDs ss B g ks ds → (∀ d ∈ ds, Wf d) → Q (.ref x) H'
theorem ok_habit_of (T : Txt K mg) : FnOk P w K mg base CX0 7 T.f_habit_of T.d_habit_of ["sizes", "shares"] (spHabOf K P w T.c_Habit) := by
  refine T.F_habit_of.ok sc_habit_of (fun vs H Q E h => ?_) (fun cdv A outer s H vs Q E hr h => ?_)
  · obtain ⟨_, _, _, _, _, _, _, _, rfl, _⟩ := h
    rfl
  · obtain ⟨a, f, ss, B, L, g, ks, ms, rfl, ha, ok, hf, sg, keys, most, hkm, ct, q⟩ := h
    obtain ⟨l1, h5, _⟩ := ok.facts
    have l1024 := (allC_all ok).1
    have B0 : 0 < B := by have := most.1; omega
    have g0 := sg.nn
    refine ⟨_, (pss_cons (ps_if (pt_not (pt_val (pe_call (ok_is_sizes T) (hr.mono (by decide)) (by rfl) T.g_is_sizes T.F_is_sizes.kp T.b_is_sizes .nil pass0 (pa_cons (pv 0) pa_nil)))) (pss_one ps_never) pss_nil)
      (pss_cons (ps_if (pt_not (pt_val (pe_call (ok_is_part_shares (P := P) (w := w) T) (hr.mono (by decide)) (by rfl) T.g_is_part_shares T.F_is_part_shares.kp T.b_is_part_shares .nil pass0 (pa_cons (pv 0) (pa_cons (pv 1) pa_nil))))) (pss_one ps_never) pss_nil)
      (pss_cons (ps_set (i := 2) sc_habit_of.nd rfl (.inl rfl) (pe_callB (call_sortSU (K := K) (P := P) (w := w) rfl hr.units) (by rfl) T.z_sorted (by decide +kernel) (pa_cons (pe_lock (pe_sc1 (K := K) (P := P) (w := w) (own := [("pattern", 6), ("worths", 7)]) rfl hr.units sc_habit_of.nd (pi_keysB (P := P) (w := w) (pv 1)) (blkOk_nf (N := N_habit_of) (by decide +kernel) (by decide +kernel) (by decide +kernel) (by decide +kernel) (by decide +kernel)) (fun _ _ _ _ _ => (pg_tupK K (n := 2) rfl (pgs_cons (pg_name (i := 6) sc_habit_of.nd rfl (.inl rfl)) (pgs_cons (pg_name (i := 7) sc_habit_of.nd rfl (.inl rfl)) pgs_nil)))) (fun _ _ _ _ _ => (pv 6)))) pa_nil)))
      (pss_cons (ps_set (i := 3) sc_habit_of.nd rfl (.inl rfl) (pe_lst pa_nil))
      (pss_cons (ps_for PassesOwn.never rfl (pi_listK K (pe_call (ok_all_contents T) (hr.mono (by decide)) (by rfl) T.g_all_contents T.F_all_contents.kp T.b_all_contents .nil pass0 (pa_cons (pv 0) pa_nil))) (pg_name (i := 4) sc_habit_of.nd rfl (.inr rfl)) (pss_cons (ps_setLc (i := 5) (own := [("pattern", 6)]) rfl sc_habit_of.nd rfl rfl (sw_true rfl rfl rfl (by decide +kernel)) (pi_listK K (pv 2)) (blkOk_by (N := N_habit_of) (sc := defScope s_habit_of) (by decide +kernel)) (fun _ _ _ _ _ => (pg_name (i := 6) sc_habit_of.nd rfl (.inl rfl))) (fun _ _ _ _ _ => pts_nil) (fun _ _ _ _ _ => (pe_tup (pa_cons (pv 6) (pa_cons (pe_dgetZ (K := K) (P := P) (w := w) hr.units (pv 1) (pe_tup (pa_cons (pv 6) (pa_cons (pe_call (ok_worths_at T) (hr.mono (by decide)) (by rfl) T.g_worths_at T.F_worths_at.kp T.b_worths_at .nil pass0 (pa_cons (pv 6) (pa_cons (pv 4) pa_nil))) pa_nil))) (pe_glob (by rfl) T.g_ZERO (show L2.RelV (.ref T.v_ZERO) _ from rfl)) ⟨rfl, by rfl, by rfl, by rfl⟩) pa_nil)))))
      (pss_one (ps_expr (pe_bm PySem.F.plainAttrs_list PySem.F.slot_list_append PySem.F.type_list_append mt_append (pv 3) (pa_cons (pe_call (ok_filled_row T) (hr.mono (by decide)) (by rfl) T.g_filled_row T.F_filled_row.kp T.b_filled_row .nil pass0 (pa_cons (pv 0) (pa_cons (pv 4) (pa_cons (pv 5) pa_nil)))) pa_nil))))))
      (pss_one (ps_ret (pe_make T.M_Habit (ok_Habit_init T) (hr.mono (by decide)) (by rfl) T.g_Habit T.b_Habit_init .nil pass0 (pa_cons (pv 0) (pa_cons (pe_callTy (call_tupleK K) (by rfl) T.z_tuple (by decide +kernel) (pa_cons (pv 3) pa_nil)) pa_nil)))))))))), ?_⟩
    refine ⟨_, rfl, spD_bl (.cons (dh_ct ha) .nil) rfl fun H1 s1 => ⟨_, rfl, ?_⟩⟩
    rw [show (ctD ss).isSizes = true from ok]
    refine iteF ?_
    refine ⟨_, rfl, _, rfl, a, f, ss, B, L, g, rfl, (Ext.of s1).sqT ha, ok, s1 _ _ hf, B0, (sg.shok keys most ct).ext (.of s1), fun H2 s2 => ⟨_, rfl, iteF ?_⟩⟩
    have s12 := s1.trans s2
    have hf2 := s12 _ _ hf
    have ha2 := (Ext.of s12).sqT ha
    have sg2 := sg.ext (.of s12)
    clear sg ha hf s1 s2
    dsimp only [tNext, tSeq, tAsg, gName, List.set_cons_succ, List.set_cons_zero]
    refine ⟨f, _, hf2, True.intro, fun od => ?_⟩
    have bx : BoxesAt K (upd H2 f (.frz od (DBO P w f L))) L := fun p hp => by
      obtain ⟨pa, wa, b1, b2, b3⟩ := sg2.box p hp
      exact ⟨pa, wa, box_frz hf2 b1, box_frz hf2 b2, box_frz hf2 b3⟩
    have hf5 : (upd H2 f (.frz od (DBO P w f L))) f = some (.frz od (DBO P w f L)) := upd_same
    have un : ∀ H', Same (upd H2 f (.frz od (DBO P w f L))) H' → Same H2 (upd H' f (DBO P w f L)) := fun H' s => unlock_same hf2 s
    generalize upd H2 f (.frz od (DBO P w f L)) = H5 at bx hf5 un ⊢
    have inks : ∀ i, ∀ k ∈ (L.take i).map (fun e => e.2.1.1), k ∈ ks := fun i k hk => by
      obtain ⟨e, he, rfl⟩ := List.mem_map.mp hk
      obtain ⟨_, ix, mo, h1, _⟩ := sg2.bd e (List.mem_of_mem_take he)
      exact List.mem_of_getElem? h1
    refine ⟨_, rfl, f, od, L, rfl, hf5, fun D nD => ⟨fun i m H' => m + i = L.length ∧ SetMade K P w H5 H' D ((L.take i).map fun e => e.2.1.1), ⟨L.length, rfl, same_new nD, [], upd_same, (fun p hp => by cases hp), List.nodup_nil, fun q => by rw [List.take_zero]; exact Iff.rfl⟩, ?_⟩⟩
    rintro i m H6 ⟨em, sm, L0, hD, hL0, nd0, mem0⟩
    have l04 : L0.length ≤ 4 := by
      have z := nodup_len (L0.map (·.2)) ks nd0 fun k hk => inks i k ((mem0 k).mp hk)
      rw [List.length_map] at z
      have := keys.2.1
      omega
    by_cases hi : i < L.length
    · refine .inr ⟨⟨sm _ _ hf5, hi⟩, fun H' => SetMade K P w H5 H' D ((L.take (i + 1)).map fun e => e.2.1.1), fun H' h => ⟨m - 1, by omega, by omega, h⟩, ?_⟩
      rintro y H7 ⟨rfl, e, he, rfl⟩
      obtain ⟨pa, wa, b1, b2, b3⟩ := bx e (List.mem_of_getElem? he)
      have e6 := Ext.of sm
      refine ⟨e.1, _, rfl, e6.sqT b1, rfl, _, _, rfl, _, _, rfl, rfl, rfl, ?_⟩
      refine ⟨_, rfl, pa, e.2.1.1, L0, rfl, e6.sqT b2, hD, fun z hz => e6.sqT (hL0 z hz), by omega, fun L' pi => ?_⟩
      obtain ⟨nd', mem'⟩ := put_nodup pi nd0
      refine ⟨Same.put nD sm, L', upd_same, fun z hz => ?_, nd', fun k => ?_⟩
      · rcases put_mem pi hz with u | u
        · exact hL0 z u
        · rw [u]
          exact b2
      · rw [mem' k, mem0 k, List.take_add_one, he, List.map_append, List.mem_append]
        simp only [Option.toList, List.map_cons, List.map_nil, List.mem_singleton]
    refine .inl ⟨⟨sm _ _ hf5, by omega⟩, sm _ _ hf5, ?_⟩
    rw [List.take_of_length_le (by omega)] at mem0
    have hf6 := sm _ _ hf5
    have Df : D ≠ f := fun z => by
      rw [z, hf6] at hD
      cases hD
    have s6 := un _ sm
    have hD7 : (upd H6 f (DBO P w f L)) D = some (SetTO P w D L0) := by
      rw [upd_ne Df]
      exact hD
    have tp7 : ∀ p ∈ L0, SqT K (upd H6 f (DBO P w f L)) p.1 (p.2.map V.int) := fun p hp => unlock_sqT hf6 ((Ext.of sm).sqT (hL0 p hp))
    generalize upd H6 f (DBO P w f L) = H7 at s6 hD7 tp7 ⊢
    refine ⟨D, L0, rfl, hD7, tp7, fun L' kp pm hlt pw nkp => ?_⟩
    have s8 : Same H7 (upd H7 kp (.lst (L'.map fun q => V.ref q.1))) := same_new nkp
    have hkp : (upd H7 kp (.lst (L'.map fun q => V.ref q.1))) kp = some (.lst (L'.map fun q => V.ref q.1)) := upd_same
    generalize upd H7 kp (.lst (L'.map fun q => V.ref q.1)) = H8 at s8 hkp ⊢
    have s28 := s6.trans s8
    have tps : ∀ p ∈ L', SqT K H8 p.1 (p.2.map V.int) := fun p hp => (Ext.of s8).sqT (tp7 p (pm.mem_iff.mp hp))
    have pw' : (L'.map (·.2)).Pairwise fun x y => HT.lexLt x y = true := List.pairwise_map.mpr pw
    have memP : ∀ k, k ∈ L'.map (·.2) ↔ k ∈ L.map fun e => e.2.1.1 := fun k => ((pm.map (·.2)).mem_iff).trans (mem0 k)
    have len4 : L'.length ≤ 4 := by rw [pm.length_eq]; exact l04
    clear pm hlt pw nkp tp7 hD7 s6 Df hf6 un hD hL0 nd0 mem0 sm em bx hf5 nD
    refine ⟨Nat.zero_le _, fun rr nrr => ?_⟩
    have s9 : Same H8 (upd H8 rr (.lst [])) := same_new nrr
    have hrr : (upd H8 rr (.lst [])) rr = some (.lst []) := upd_same
    have rk : rr ≠ kp := fun z => by
      rw [z, hkp] at nrr
      cases nrr
    have n8 := nrr
    have s29 := s28.trans s9
    generalize upd H8 rr (.lst []) = H9 at s9 s29 hrr ⊢
    refine ⟨_, rfl, a, ss, rfl, (Ext.of s29).sqT ha2, ok, fun cp cs H10 ncp s10 hcp hcs => ?_⟩
    have s210 := s29.trans s10
    have n9 : H8 rr = none := n8
    have hcl : cs.length = (allC ss).length := by rw [hcs.length, List.length_map]
    have ctC := cts_of hcp hcs
    have rc : rr ≠ cp := fun z => by
      rw [z] at hrr
      rw [hrr] at ncp
      cases ncp
    refine ⟨cp, rfl, ⟨cs, SqL.of hcp⟩, for_list (K := K) (a := cp) (xs := cs) (fun j σ H' => ∃ (y4 y5 : Option V) (acc : List V), σ = [some (.ref a), some (.ref f), some (.ref kp), some (.ref rr), y4, y5, none, none] ∧ Same H8 H' ∧ Cts K H' cp cs ss ∧ H' rr = some (.lst acc) ∧ acc.length = j ∧ ∀ (k : Nat) v cc, acc[k]? = some v → (allC ss)[k]? = some cc → RofV K H' ss.length B g ks cc v)
      ⟨none, none, [], rfl, s9.trans s10, ctC, s10 _ _ hrr, rfl, fun k v cc z => by simp at z⟩ (fun j σ H' _ ⟨_, _, _, _, _, ct', _⟩ => SqL.of ct'.lst) ?_ ?_⟩
    · rintro j cv σ H11 hcj ⟨y4, y5, acc, rfl, s11, ct11, hr11, hal, hac⟩
      obtain ⟨cc, cb, hcc, rfl, hcb⟩ := ct11.at' j _ hcj
      have hjl := (List.getElem?_eq_some_iff.mp hcj).1
      have hlen : cc.length = ss.length := (mem_allC.mp (List.mem_of_getElem? hcc)).len
      have s211 := s28.trans s11
      dsimp only [tNext, tSeq, tAsg, gName, List.set_cons_succ, List.set_cons_zero]
      refine ⟨_, rfl, kp, rfl, ⟨_, SqL.of (s11 _ _ hkp)⟩, fun D2 nD2 => lc_list (K := K) (xs := L'.map fun q => V.ref q.1) (fun i H' => ∃ acc2, Same H11 H' ∧ H' D2 = some (.lst acc2) ∧ acc2.length = i ∧ DhAll K H' acc2 ((L'.take i).map fun p => itD B p.2 (g (p.2, picks p.2 cc))))
        ⟨[], same_new nD2, upd_same, rfl, by rw [List.take_zero]; exact .nil⟩ (fun i H' _ ⟨_, s', _⟩ => SqL.of (s' _ _ (s11 _ _ hkp))) ?_ ?_⟩
      · rintro i x H12 hx ⟨acc2, s12', hD2, hal2, hac2⟩
        rw [List.getElem?_map] at hx
        obtain ⟨pp, hpp, rfl⟩ := Option.map_eq_some_iff.mp hx
        have hpm := List.mem_of_getElem? hpp
        have hil := (List.getElem?_eq_some_iff.mp hpp).1
        have hpk : pp.2 ∈ ks := inks L.length pp.2 (by
          rw [List.take_of_length_le (Nat.le_refl _)]
          exact (memP _).mp (List.mem_map_of_mem (f := fun p : Addr × List Int => p.2) hpm))
        obtain ⟨asc, _⟩ := keys.2.2 _ hpk
        have hpl : pp.2.length ≤ 1000 := by
          have := asc.len (by omega)
          omega
        have inR : InR pp.2 cc.length := fun z hz => by
          have := asc.mem z hz
          omega
        have s812 := s11.trans s12'
        have s212 := s28.trans s812
        have hpa := (Ext.of s812).sqT (tps pp hpm)
        refine ⟨rfl, ?_⟩
        dsimp only [tYes]
        rw [if_pos rfl]
        refine ⟨_, rfl, _, rfl, ⟨f, L, rfl, s212 _ _ hf2⟩, _, rfl, _, rfl, _, rfl, pp.2, cc, _, _, rfl, dh_ct hpa, dh_ct ((Ext.of s12').sqT hcb), inR, hpl, fun v H13 s13 hv => ⟨by show 2 ≤ sizeLine; decide, fun kb nkb => ?_⟩⟩
        obtain ⟨wv, rfl, hwv⟩ := ct_inv hv
        have s14 : Same H13 (upd H13 kb (.tup [.ref pp.1, .ref wv])) := same_new nkb
        have hkb : (upd H13 kb (.tup [.ref pp.1, .ref wv])) kb = some (.tup [.ref pp.1, .ref wv]) := upd_same
        generalize upd H13 kb (.tup [.ref pp.1, .ref wv]) = H14 at s14 hkb ⊢
        have s1214 := s13.trans s14
        have s214 := s212.trans s1214
        have sg14 := sg2.ext (.of s214)
        refine ⟨f, kb, L, (pp.2, picks pp.2 cc), rfl, rfl, s214 _ _ hf2, sg14.box, ⟨pp.1, wv, SqT.of hkb, (Ext.of s1214).sqT hpa, (Ext.of s14).sqT hwv⟩, ?_⟩
        have hval := sg14.get B0 (z0 := T.v_ZERO) (T.k_ZERO _) (pp.2, picks pp.2 cc)
        generalize (findB L (pp.2, picks pp.2 cc)).getD (.ref T.v_ZERO) = vv at hval ⊢
        refine ⟨by show 2 ≤ sizeLine; decide, fun t nt => ?_⟩
        have s15 : Same H14 (upd H14 t (.tup [.ref pp.1, vv])) := same_new nt
        have ht : (upd H14 t (.tup [.ref pp.1, vv])) t = some (.tup [.ref pp.1, vv]) := upd_same
        generalize upd H14 t (.tup [.ref pp.1, vv]) = H15 at s15 ht ⊢
        have s1215 := s1214.trans s15
        have hD15 := s1215 _ _ hD2
        have ep := Ext.put (ys := acc2 ++ [.ref t]) hD15
        refine ⟨acc2, hD15, sz_small (by omega), acc2 ++ [.ref t], Same.put nD2 (s12'.trans s1215), upd_same, by rw [List.length_append, hal2]; rfl, ?_⟩
        rw [List.take_add_one, hpp, List.map_append]
        refine ((hac2.ext (.of s1215)).ext ep).snoc ?_
        exact .tup (ep.sqT (SqT.of ht)) (.cons (dh_ct (ep.sqT ((Ext.of s1215).sqT hpa))) (.cons ((hval.ext (.of s15)).ext ep) .nil))
      · rintro H12 ⟨acc2, s12', hD2, hal2, hac2⟩
        rw [List.length_map] at hal2 hac2
        rw [List.take_of_length_le (Nat.le_refl _)] at hac2
        have s812 := s11.trans s12'
        have s212 := s28.trans s812
        have hr12 := s12' _ _ hr11
        have er : (L'.map fun p => itD B p.2 (g (p.2, picks p.2 cc))) = (((L'.map (·.2)).map fun k => (k, g (k, picks k cc))).map fun r => itD B r.1 r.2) := by
          rw [List.map_map, List.map_map]
          rfl
        rw [er] at hac2
        have np := asc_nodup pw'
        have inkp : ∀ k ∈ L'.map (·.2), k ∈ ks := fun k hk => inks L.length k (by
          rw [List.take_of_length_le (Nat.le_refl _)]
          exact (memP _).mp hk)
        have hsum : sumI (((L'.map (·.2)).map fun k => (k, g (k, picks k cc))).map (·.2)) ≤ B := by
          have e1 : (((L'.map (·.2)).map fun k => (k, g (k, picks k cc))).map (·.2)) = (L'.map (·.2)).map fun k => g (k, picks k cc) := by
            rw [List.map_map]
            rfl
          have off : ∀ k ∈ ks, k ∉ L'.map (·.2) → g (k, picks k cc) = 0 := fun k _ hk => sg2.off _ fun hm => hk ((memP k).mpr (by
            obtain ⟨e, he, e1⟩ := List.mem_map.mp hm
            exact List.mem_map.mpr ⟨e, he, by rw [e1]⟩))
          rw [e1, sum_sub (f := fun k => g (k, picks k cc)) (asc_nodup keys.1) np inkp off]
          obtain ⟨_, _, m0, msum⟩ := most
          have z2 := sum_le (f := fun k => g (k, picks k cc)) (ks := ks) (ms := ms) hkm fun ix k mo h1 h2 => by
            by_cases hL : (k, picks k cc) ∈ L.map (·.2.1)
            · obtain ⟨e, he, e4⟩ := List.mem_map.mp hL
              obtain ⟨_, iy, mo', b1, b2, b3⟩ := sg2.bd e he
              rw [e4] at b1 b3
              have hxy : ix = iy := nodup_ix (asc_nodup keys.1) h1 b1
              rw [← hxy, h2] at b2
              cases b2
              exact b3
            · rw [sg2.off _ hL]
              exact m0 mo (List.mem_of_getElem? h2)
          omega
        refine ⟨_, rfl, .inl ⟨rfl, _, SqL.of hr12⟩, _, rfl, _, rfl, _, rfl, a, D2, _, ss, acc2, _, B, rfl, (Ext.of s212).sqT ha2, ok, hD2, hac2, ?_, fun r hr => ?_, hsum, most.1, most.2.1, ?_, fun v H13 s13 hv => ?_⟩
        · rw [List.map_map]
          have e1 : ((fun r : List Int × Int => r.1) ∘ fun k => (k, g (k, picks k cc))) = id := rfl
          rw [e1, List.map_id]
          exact np
        · obtain ⟨k, hk, rfl⟩ := List.mem_map.mp hr
          obtain ⟨a1, a2⟩ := keys.2.2 k (inkp k hk)
          exact ⟨a1, a2, g0 _⟩
        · rw [List.length_map, List.length_map]
          exact len4
        · have rv := fill_rof (ks := ks) sg2 B0 keys np memP hv
          have hr13 := s13 _ _ hr12
          refine ⟨rr, _, _, rfl, rfl, hr13, sz_small (by omega), ?_⟩
          have ep := Ext.put (ys := acc ++ [v]) hr13
          have s1113 := s12'.trans s13
          have ct13 := ct11.go s1113
          refine ⟨_, _, acc ++ [v], rfl, Same.put n8 (s11.trans s1113), ⟨by rw [upd_ne (fun z => rc z.symm)]; exact ct13.lst, fun ii z hz => by
            obtain ⟨c2, b2, t1, t2, t3⟩ := ct13.at' ii z hz
            exact ⟨c2, b2, t1, t2, ep.sqT t3⟩⟩, upd_same, by rw [List.length_append, hal]; rfl, fun k v' c' hk hc' => ?_⟩
          rcases Nat.lt_or_ge k acc.length with u | u
          · rw [List.getElem?_append_left u] at hk
            exact ((hac k v' c' hk hc').ext (.of s1113)).ext ep
          · rw [List.getElem?_append_right u] at hk
            have ek : k = j := by
              have := (List.getElem?_eq_some_iff.mp hk).1
              have : ([v]).length = 1 := rfl
              omega
            subst ek
            rw [show k - acc.length = 0 by omega] at hk
            have ev : v = v' := Option.some.inj hk
            subst ev
            rw [hcc] at hc'
            cases hc'
            exact rv.ext ep
    · rintro σ H11 ⟨y4, y5, acc, rfl, s11, ct11, hr11, hal, hac⟩
      refine ⟨_, rfl, _, rfl, rr, _, rfl, .inl ⟨SqL.of hr11, fun ra nra => ?_⟩⟩
      have s12' : Same H11 (upd H11 ra (.tup acc)) := same_new nra
      have hra : (upd H11 ra (.tup acc)) ra = some (.tup acc) := upd_same
      generalize upd H11 ra (.tup acc) = H12 at s12' hra ⊢
      intro x dx nx ndx nex
      obtain ⟨ds, hrd, hwf, rows, rds⟩ := rof_data (ks := ks) (g := g) (B := B) (acc := acc) (by omega) fun k v c hk hc => (hac k v c hk hc).ext (.of s12')
      have s212 := s28.trans (s11.trans s12')
      refine hab_made T (.inr nx) nx ndx ((Ext.of s212).sqT ha2) ok (SqT.of hra) hrd hwf rows fun H13 s13 hb => ?_
      exact q x ds H13 (s12.trans (s212.trans s13)) hb rows rds hwf

end
end Fm
namespace Fm
open PySem PySem.Spec PyProof.Rows L2
section
variable {P : Program} {w : World} {K : PySem.W.Frag} {mg : Str → Option Value} {base : Heap}

/-! ### box_shares -/
structure Fnd (K : PySem.W.Frag) (P : Program) (w : World) (B : Int) (H : Hp) (f : Addr) (L : BoxL) (g : List Int × List Int → Int) : Prop where
  dict : H f = some (DBO P w f L)
  box : BoxesAt K H L
  nd : (L.map (·.2.1)).Nodup
  val : ∀ e ∈ L, 0 < g e.2.1 ∧ ∃ a, e.2.2 = .ref a ∧ SqT K H a [.int (lowZ (g e.2.1) B).1, .int (lowZ (g e.2.1) B).2]
theorem Fnd.go {B : Int} {H H' : Hp} {f : Addr} {L : BoxL} {g : List Int × List Int → Int} (x : Fnd K P w B H f L g) (e : Ext H H') (hf : H' f = some (DBO P w f L)) : Fnd K P w B H' f L g := ⟨hf, fun p hp => (x.box p hp).ext e, x.nd, fun p hp => by
  obtain ⟨h0, a, h1, h2⟩ := x.val p hp
  exact ⟨h0, a, h1, e.sqT h2⟩⟩
theorem store_keys {L : BoxL} {b : Addr} {q : List Int × List Int} {v : V} : (storeB L b q v).map (·.2.1) = if (findB L q).isSome then L.map (·.2.1) else L.map (·.2.1) ++ [q] := by
  unfold storeB
  by_cases h : (findB L q).isSome = true
  · rw [if_pos h, if_pos h, List.map_map]
    refine List.map_congr_left fun p _ => ?_
    show (if p.2.1 = q then (p.1, p.2.1, v) else p).2.1 = p.2.1
    split <;> rfl
  · rw [if_neg h, if_neg h, List.map_append]
    rfl
theorem store_mem {L : BoxL} {b : Addr} {q : List Int × List Int} {v : V} {e : Addr × (List Int × List Int) × V} (h : e ∈ storeB L b q v) : e ∈ L ∨ (e.2.1 = q ∧ e.2.2 = v ∧ (e.1 = b ∨ ∃ p ∈ L, p.1 = e.1 ∧ p.2.1 = q)) := by
  unfold storeB at h
  by_cases hs : (findB L q).isSome = true
  · rw [if_pos hs] at h
    obtain ⟨p, hp, e1⟩ := List.mem_map.mp h
    by_cases hq : p.2.1 = q
    · rw [if_pos hq] at e1
      subst e1
      exact .inr ⟨hq, rfl, .inr ⟨p, hp, rfl, hq⟩⟩
    · rw [if_neg hq] at e1
      rw [← e1]
      exact .inl hp
  · rw [if_neg hs] at h
    rcases List.mem_append.mp h with h | h
    · exact .inl h
    · rw [List.mem_singleton.mp h]
      exact .inr ⟨rfl, rfl, .inl rfl⟩
theorem findB_isSome {L : BoxL} {q : List Int × List Int} : (findB L q).isSome = true ↔ q ∈ L.map (·.2.1) := by
  constructor
  · intro h
    obtain ⟨v, hv⟩ := Option.isSome_iff_exists.mp h
    obtain ⟨e, he, e1, _⟩ := findB_mem hv
    exact List.mem_map.mpr ⟨e, he, e1⟩
  · intro h
    cases hf : findB L q with
    | some v => rfl
    | none => exact (findB_none hf h).elim
theorem Fnd.put {B : Int} {H : Hp} {f b : Addr} {L : BoxL} {g : List Int × List Int → Int} {q : List Int × List Int} {v : V} (x : Fnd K P w B H f L g) (hb : BoxAt K H b q) (hv : 0 < g q ∧ ∃ a, v = .ref a ∧ SqT K H a [.int (lowZ (g q) B).1, .int (lowZ (g q) B).2]) :
    Fnd K P w B (upd H f (DBO P w f (storeB L b q v))) f (storeB L b q v) g ∧ (∀ z, z ∈ (storeB L b q v).map (·.2.1) ↔ z ∈ L.map (·.2.1) ∨ z = q) ∧ (storeB L b q v).length ≤ L.length + 1 := by
  have sp : ∀ {a : Addr} {xs : List V}, SqT K H a xs → SqT K (upd H f (DBO P w f (storeB L b q v))) a xs := fun h => sqT_put x.dict h
  have spb : ∀ {b : Addr} {q' : List Int × List Int}, BoxAt K H b q' → BoxAt K (upd H f (DBO P w f (storeB L b q v))) b q' := fun ⟨pa, wa, h1, h2, h3⟩ => ⟨pa, wa, sqT_put x.dict h1, sqT_put x.dict h2, sqT_put x.dict h3⟩
  have mem : ∀ z, z ∈ (storeB L b q v).map (·.2.1) ↔ z ∈ L.map (·.2.1) ∨ z = q := fun z => by
    rw [store_keys]
    by_cases h : (findB L q).isSome = true
    · rw [if_pos h]
      refine ⟨.inl, fun y => y.elim id fun y => ?_⟩
      rw [y]
      exact findB_isSome.mp h
    · rw [if_neg h, List.mem_append, List.mem_singleton]
  refine ⟨⟨upd_same, fun p hp => ?_, ?_, fun p hp => ?_⟩, mem, ?_⟩
  · rcases store_mem hp with h | ⟨e1, _, h | ⟨p', hp', e2, e3⟩⟩
    · obtain ⟨pa, wa, h1, h2, h3⟩ := x.box p h
      exact ⟨pa, wa, sp h1, sp h2, sp h3⟩
    · obtain ⟨pa, wa, h1, h2, h3⟩ := hb
      rw [h, e1]
      exact ⟨pa, wa, sp h1, sp h2, sp h3⟩
    · have hbx := x.box p' hp'
      rw [e2, e3] at hbx
      obtain ⟨pa, wa, h1, h2, h3⟩ := hbx
      rw [e1]
      exact ⟨pa, wa, sp h1, sp h2, sp h3⟩
  · rw [store_keys]
    by_cases h : (findB L q).isSome = true
    · rw [if_pos h]
      exact x.nd
    · rw [if_neg h]
      refine List.nodup_append.mpr ⟨x.nd, by simp, fun y hy z hz e => ?_⟩
      have ez : z = q := by simpa using hz
      rw [e, ez] at hy
      exact h (findB_isSome.mpr hy)
  · rcases store_mem hp with h | ⟨e1, e2, _⟩
    · obtain ⟨h0, a, h1, h2⟩ := x.val p h
      exact ⟨h0, a, h1, sp h2⟩
    · obtain ⟨h0, a, h1, h2⟩ := hv
      rw [e1, e2]
      exact ⟨h0, a, h1, sp h2⟩
  · have e := congrArg List.length (store_keys (L := L) (b := b) (q := q) (v := v))
    rw [List.length_map] at e
    rw [e]
    split
    · rw [List.length_map]
      omega
    · rw [List.length_append, List.length_map]
      exact Nat.le_refl _
/-- which boxes count -/
def Occ (ss : List Int) (ks : List (List Int)) (g : List Int × List Int → Int) : Prop := ∀ q : List Int × List Int, 0 ≤ g q ∧ (0 < g q → q.1 ∈ ks ∧ ∃ c, IsCt ss c ∧ q.2 = picks q.1 c)
def spBoxSh (K : PySem.W.Frag) (P : Program) (w : World) (C : Addr) : Sp := fun vs H Q _ => ∃ (x : Addr) (ss : List Int) (ds : List Dt) (B : Int) (g : List Int × List Int → Int) (ks : List (List Int)), vs = [.ref x] ∧ Hb K C H x ss ds ∧ SizesOk ss ∧ Rows ss ds ∧ RDs ss B g ks ds ∧ 0 < B ∧ KeysOk ss.length ks ∧ Occ ss ks g ∧
  ∀ (f : Addr) (L : BoxL) (H' : Hp), H f = none → Same H H' → Fnd K P w B H' f L g → (∀ q, q ∈ L.map (·.2.1) ↔ 0 < g q) → L.length ≤ 40000 → Q (.ref f) H'
theorem ok_box_shares (T : Txt K mg) : FnOk P w K mg base CX0 4 T.f_box_shares T.d_box_shares ["habit"] (spBoxSh K P w T.c_Habit) := by
  refine T.F_box_shares.ok sc_box_shares (fun vs H Q E h => ?_) (fun cdv A outer s H vs Q E hr h => ?_)
  · obtain ⟨_, _, _, _, _, _, rfl, _⟩ := h
    rfl
  · obtain ⟨x, ss, ds, B, g, ks, rfl, hb, ok, rows, rds, B0, keys, occ, q⟩ := h
    obtain ⟨l1, h5, _⟩ := ok.facts
    have l1024 := (allC_all ok).1
    refine ⟨_, (pss_cons (ps_if (pt_cmpR op_notN (pe_call (ok_unfair T) hr (by rfl) T.g_unfair T.F_unfair.kp T.b_unfair .nil pass0 (pa_cons (pv 0) pa_nil)) pe_non (nomark _)) (pss_one ps_never) pss_nil)
      (pss_cons (ps_set (i := 1) sc_box_shares.nd rfl (.inl rfl) (pe_call (ok_all_columns T) (hr.mono (by decide)) (by rfl) T.g_all_columns T.F_all_columns.kp T.b_all_columns .nil pass0 (pa_cons (pe_callB (call_lenK K) (by rfl) T.z_len PySem.boot_len (pa_cons (pe_fld (pv 0) rfl) pa_nil)) pa_nil)))
      (pss_cons (ps_set (i := 2) sc_box_shares.nd rfl (.inl rfl) (pe_dnewB (P := P) (w := w)))
      (pss_cons (ps_for PassesOwn.never rfl (pi_zipM (by rfl) T.z_zip (pa_cons (pe_call (ok_all_contents T) (hr.mono (by decide)) (by rfl) T.g_all_contents T.F_all_contents.kp T.b_all_contents .nil pass0 (pa_cons (pe_fld (pv 0) rfl) pa_nil)) (pa_cons (pe_fld (pv 0) rfl) pa_nil))) (pg_tupK K (n := 2) rfl (pgs_cons (pg_name (i := 3) sc_box_shares.nd rfl (.inl rfl)) (pgs_cons (pg_name (i := 4) sc_box_shares.nd rfl (.inl rfl)) pgs_nil))) (pss_one (ps_for PassesOwn.never rfl (pi_tupK K (pv 4)) (pg_tupK K (n := 2) rfl (pgs_cons (pg_name (i := 5) sc_box_shares.nd rfl (.inl rfl)) (pgs_cons (pg_name (i := 6) sc_box_shares.nd rfl (.inl rfl)) pgs_nil))) (pss_one (ps_if (pt_cmpR (op_neK K hr.units) (pv 5) (pv 1) (nomark _)) (pss_one (ps_dputR (K := K) (P := P) (w := w) hr.units (pv 2) (pe_tup (pa_cons (pv 5) (pa_cons (pe_call (ok_worths_at T) (hr.mono (by decide)) (by rfl) T.g_worths_at T.F_worths_at.kp T.b_worths_at .nil pass0 (pa_cons (pv 5) (pa_cons (pv 3) pa_nil))) pa_nil))) (pv 6) rfl)) pss_nil)))))
      (pss_one (ps_ret (pv 2))))))), ?_⟩
    have e0 : L2.start N_box_shares [V.ref x] = [some (.ref x), none, none, none, none, none, none] := rfl
    rw [e0]
    refine ⟨_, rfl, x, ss, ds, rfl, hb, ok, rows, fun v H1 r qs s1 so up uv => ?_⟩
    have er := fair_rows rows so (fun i c d hc hd => (rds i c d hc hd).1) up
    subst er
    have e1 : v = .non := uv
    subst e1
    refine ⟨rfl, _, rfl, ?_⟩
    rw [decide_eq_true rfl]
    refine iteF ?_
    have hb1 := hb.ext (.of s1)
    obtain ⟨dx, u1, u2, hx, g1, g2⟩ := hb1.ex
    obtain ⟨sa, rfl, hsa⟩ := ct_inv g1
    obtain ⟨ra, rs, rfl, hra, hrs⟩ := g2.tup_inv
    dsimp only [tNext, tSeq, tAsg, gName, List.set_cons_succ, List.set_cons_zero]
    refine ⟨_, rfl, x, _, dx, _, _, rfl, hx, T.l_Habit, T.a_sizes, rfl, sa, _, rfl, .inr hsa, ss.length, by rw [List.length_map]; rfl, by omega, fun ea H2 s2 hea => ?_⟩
    refine fun ff nff => ?_
    have s3 : Same H2 (upd H2 ff (DBO P w ff [])) := same_new nff
    have f0 : Fnd K P w B (upd H2 ff (DBO P w ff [])) ff [] g := ⟨upd_same, (fun p hp => by cases hp), List.nodup_nil, fun e he => by cases he⟩
    have nf : H2 ff = none := nff
    have hea3 := s3 _ _ hea
    generalize upd H2 ff (DBO P w ff []) = H3 at s3 f0 hea3 ⊢
    have s13 := s2.trans s3
    dsimp only [tNext, tSeq, tAsg, gName, List.set_cons_succ, List.set_cons_zero]
    refine ⟨_, rfl, x, _, dx, _, _, rfl, s13 _ _ hx, T.l_Habit, T.a_sizes, rfl, sa, ss, rfl, (Ext.of s13).sqT hsa, ok, fun cp cs H4 ncp s4 hcp hcs => ?_⟩
    have s14 := s13.trans s4
    have hcl : cs.length = (allC ss).length := by rw [hcs.length, List.length_map]
    have hrl : rs.length = (allC ss).length := by rw [hrs.length, rows.len]
    have ct4 := cts_of hcp hcs
    have cf : cp ≠ ff := fun z => by
      rw [z] at ncp
      rw [f0.dict] at ncp
      cases ncp
    obtain ⟨Sx, eSx⟩ : ∃ Sx : Nat → List Int × List Int → Prop, Sx = fun i q => ∃ (j : Nat) (c : List Int), j < i ∧ (allC ss)[j]? = some c ∧ q.1.length < ss.length ∧ 0 < g q ∧ q.2 = picks q.1 c := ⟨_, rfl⟩
    refine ⟨_, rfl, x, _, dx, _, _, rfl, s14 _ _ hx, T.l_Habit, T.a_rows, rfl, true, cp, ra, cs, rs, rfl, SqL.of hcp, (Ext.of s14).sqT hra, for_zipM (K := K) (L := true) (fun i σ H' => ∃ (y3 y4 y5 y6 : Option V) (L : BoxL), σ = [some (.ref x), some (.ref ea), some (.ref ff), y3, y4, y5, y6] ∧ Same H2 H' ∧ Cts K H' cp cs ss ∧ Fnd K P w B H' ff L g ∧ (∀ q, q ∈ L.map (·.2.1) ↔ Sx i q) ∧ L.length ≤ i * 32)
      ⟨none, none, none, none, [], rfl, s3.trans s4, ct4, f0.go (Ext.of s4) (s4 _ _ f0.dict), (fun q => ?_), Nat.zero_le _⟩ (fun i σ H' ⟨_, _, _, _, _, _, s', ct', _⟩ => ⟨SqL.of ct'.lst, (Ext.of (s2.trans s')).sqT hra⟩) ?_ ?_⟩
    · rw [eSx]
      exact ⟨fun h => (by cases h), fun ⟨j, c, h, _⟩ => absurd h (Nat.not_lt_zero _)⟩
    · rintro i xc y Tp σ H5 hxc hy ⟨y3, y4, y5, y6, L, rfl, s5, ct5, fd5, mem5, len5⟩ nT
      obtain ⟨cc, cb, hcc, rfl, hcb0⟩ := ct5.at' i xc hxc
      obtain ⟨d, hd, hyd⟩ := (hrs.ext (Ext.of (s2.trans s5))).get hy
      obtain ⟨hsh, S, eS, rS⟩ := rds i cc d hcc hd
      subst eS
      obtain ⟨wa, ws, rfl, hwa0, hws0⟩ := hyd.tup_inv
      have hcl2 : cc.length = ss.length := (mem_allC.mp (List.mem_of_getElem? hcc)).len
      have hwl : ws.length = S.length := by rw [hws0.length, List.length_map]
      have ascS : ∀ p ∈ S, Asc ss.length (-1) p.1 := fun p hp => by
        rcases (rS.mem p.1 p.2).mp hp with ⟨_, h1, h2⟩ | ⟨h1, _⟩
        · exact (keys.2.2 _ ((occ _).2 (by rw [← h2]; exact h1)).1).1
        · rw [h1]
          exact asc_rg _
      have l32 : S.length ≤ 32 := by
        have z := few_pats h5 (l := S.map (·.1)) (asc_nodup rS.pw) fun k hk => by
          obtain ⟨p, hp, rfl⟩ := List.mem_map.mp hk
          exact ascS p hp
        rwa [List.length_map] at z
      have s6 : Same H5 (upd H5 Tp (.tup [.ref cb, .ref wa])) := same_new nT
      have ht : SqT K (upd H5 Tp (.tup [.ref cb, .ref wa])) Tp [.ref cb, .ref wa] := SqT.of upd_same
      have hiN : i < cs.length := (List.getElem?_eq_some_iff.mp hxc).1
      refine ⟨Tp, _, rfl, ht, rfl, _, _, rfl, _, _, rfl, rfl, ?_⟩
      generalize upd H5 Tp (.tup [.ref cb, .ref wa]) = H6 at s6 ht ⊢
      have s26 := s5.trans s6
      have fd6 := fd5.go (Ext.of s6) (s6 _ _ fd5.dict)
      have hws1 := hws0
      -- what stands since H2, but for the dict
      refine ⟨_, rfl, wa, rfl, ⟨ws, (Ext.of s6).sqT hwa0⟩, for_tup (xs := ws) (fun jj σ H' => ∃ (y5 y6 : Option V) (L : BoxL), σ = [some (.ref x), some (.ref ea), some (.ref ff), some (.ref cb), some (.ref wa), y5, y6] ∧ Same H2 H' ∧ Cts K H' cp cs ss ∧ Fnd K P w B H' ff L g ∧ (∀ q, q ∈ L.map (·.2.1) ↔ Sx i q ∨ ∃ p ∈ S.take jj, p.1.length < ss.length ∧ q = (p.1, picks p.1 cc)) ∧ L.length ≤ i * 32 + jj ∧ SqT K H' wa ws ∧ SqT K H' cb (cc.map V.int) ∧ DhAll K H' ws (S.map fun p => itD B p.1 p.2))
        ⟨y5, y6, L, rfl, s26, ct5.go s6, fd6, (fun q => ?_), by omega, (Ext.of s6).sqT hwa0, (Ext.of s6).sqT hcb0, hws0.ext (.of s6)⟩ (fun jj σ H' _ ⟨_, _, _, _, _, _, _, _, _, h, _⟩ => h) ?_ ?_⟩
      · rw [mem5 q, List.take_zero]
        exact ⟨.inl, fun z => z.elim id fun ⟨p, hp, _⟩ => by cases hp⟩
      · rintro jj v σ H7 hv ⟨y5, y6, L, rfl, s7, ct7, fd7, mem7, len7, hwa, hcb, hws⟩
        obtain ⟨e, he, hve⟩ := hws.get hv
        obtain ⟨p, hp, rfl⟩ := map_at he
        have hpm := List.mem_of_getElem? hp
        have hjl := (List.getElem?_eq_some_iff.mp hv).1
        obtain ⟨b, ys, rfl, hbt, hys⟩ := hve.tup_inv
        obtain ⟨v1, v2, rfl, k1, k2⟩ := dh_two hys
        obtain ⟨pa, rfl, hpa⟩ := ct_inv k1
        obtain ⟨va, rfl, hva⟩ := fr_inv k2
        have asc := ascS p hpm
        have hpl : p.1.length ≤ 1000 := by
          have := asc.len (by omega)
          omega
        have inR : InR p.1 cc.length := fun z hz => by
          have := asc.mem z hz
          omega
        refine ⟨b, _, rfl, hbt, rfl, _, _, rfl, _, _, rfl, rfl, ?_⟩
        have hea7 := s7 _ _ hea
        refine ⟨_, rfl, _, rfl, ctP p.1, ctP (rgI ss.length), dp_ct (dh_ct hpa), dp_ct (dh_ct (SqT.of hea7)), shaped_ct _, shaped_ct _, _, rfl, ?_⟩
        rw [eqv_ct]
        by_cases e : p.1 = rgI ss.length
        · rw [decide_eq_true e]
          refine iteF ⟨_, _, L, rfl, s7, ct7, fd7, fun q => ?_, by omega, hwa, hcb, hws⟩
          rw [mem7 q, List.take_add_one, hp]
          refine or_congr Iff.rfl ⟨fun ⟨p', hp', h⟩ => ⟨p', List.mem_append_left _ hp', h⟩, fun ⟨p', hp', h1, h2⟩ => ?_⟩
          rcases List.mem_append.mp hp' with z | z
          · exact ⟨p', z, h1, h2⟩
          · have z : p' = p := by simpa using z
            rw [z, e] at h1
            unfold rgI at h1
            rw [List.length_map, List.length_range] at h1
            omega
        · rw [decide_eq_false e]
          refine iteT ?_
          obtain ⟨pl, p0, pg⟩ : p.1.length < ss.length ∧ 0 < p.2 ∧ p.2 = g (p.1, picks p.1 cc) := by
            rcases (rS.mem p.1 p.2).mp hpm with h | ⟨h, _⟩
            · exact h
            · exact (e h).elim
          refine ⟨_, rfl, _, rfl, _, rfl, _, rfl, _, rfl, p.1, cc, _, _, rfl, dh_ct hpa, dh_ct hcb, inR, hpl, fun bv H8 s8 hbv => ⟨by show 2 ≤ sizeLine; decide, fun kb nkb => ?_⟩⟩
          obtain ⟨wv, rfl, hwv⟩ := ct_inv hbv
          have s9 : Same H8 (upd H8 kb (.tup [.ref pa, .ref wv])) := same_new nkb
          have hkb : (upd H8 kb (.tup [.ref pa, .ref wv])) kb = some (.tup [.ref pa, .ref wv]) := upd_same
          generalize upd H8 kb (.tup [.ref pa, .ref wv]) = H9 at s9 hkb ⊢
          have s79 := s8.trans s9
          have fd9 := fd7.go (Ext.of s79) (s79 _ _ fd7.dict)
          have hbx : BoxAt K H9 kb (p.1, picks p.1 cc) := ⟨pa, wv, SqT.of hkb, (Ext.of s79).sqT hpa, (Ext.of s9).sqT hwv⟩
          have hva9 := (Ext.of s79).sqT hva
          rw [pg] at hva9
          obtain ⟨fdP, memP, lenP⟩ := fd9.put (v := .ref va) hbx ⟨by rw [← pg]; exact p0, va, rfl, hva9⟩
          refine ⟨ff, kb, (p.1, picks p.1 cc), L, rfl, rfl, fd9.dict, fd9.box, hbx, by omega, _, _, _, rfl, Same.put nf (s7.trans s79), (ct7.go s79).put fd9.dict, fdP, fun q => ?_, by omega, sqT_put fd9.dict ((Ext.of s79).sqT hwa), sqT_put fd9.dict ((Ext.of s79).sqT hcb), ?_⟩
          · rw [memP q, mem7 q, List.take_add_one, hp]
            constructor
            · rintro ((h | ⟨p', hp', h⟩) | h)
              · exact .inl h
              · exact .inr ⟨p', List.mem_append_left _ hp', h⟩
              · exact .inr ⟨p, List.mem_append_right _ (by simp), pl, h⟩
            · rintro (h | ⟨p', hp', h1, h2⟩)
              · exact .inl (.inl h)
              · rcases List.mem_append.mp hp' with z | z
                · exact .inl (.inr ⟨p', z, h1, h2⟩)
                · have z : p' = p := by simpa using z
                  exact .inr (by rw [h2, z])
          · have mv : ∀ {a : Addr} {xs : List V}, SqT K H9 a xs → SqT K (upd H9 ff (DBO P w ff (storeB L kb (p.1, picks p.1 cc) (.ref va)))) a xs := fun h => sqT_put fd9.dict h
            have key : ∀ {vs : List V} {S : List (List Int × Int)}, DhAll K H9 vs (S.map fun p => itD B p.1 p.2) → DhAll K (upd H9 ff (DBO P w ff (storeB L kb (p.1, picks p.1 cc) (.ref va)))) vs (S.map fun p => itD B p.1 p.2) := by
              intro vs S
              induction S generalizing vs with
              | nil => intro h; cases h; exact .nil
              | cons r S ih =>
                intro h
                rw [List.map_cons] at h ⊢
                cases h with
                | cons h1 h2 =>
                  refine .cons ?_ (ih h2)
                  obtain ⟨b1, y1, rfl, t1, t2⟩ := h1.tup_inv
                  obtain ⟨w1, w2, rfl, t3, t4⟩ := dh_two t2
                  obtain ⟨a1, rfl, t5⟩ := ct_inv t3
                  obtain ⟨a2, rfl, t6⟩ := fr_inv t4
                  exact .tup (mv t1) (.cons (dh_ct (mv t5)) (.cons (dh_ct (c := [_, _]) (mv t6)) .nil))
            exact key (hws.ext (.of s79))
      · rintro σ H7 ⟨y5, y6, L, rfl, s7, ct7, fd7, mem7, len7, hwa, hcb, hws⟩
        rw [List.take_of_length_le (by omega)] at mem7
        refine ⟨_, _, _, _, L, rfl, s7, ct7, fd7, fun q => ?_, by omega⟩
        rw [mem7 q, eSx]
        constructor
        · rintro (⟨j, c, h1, h2⟩ | ⟨p, hp, h1, rfl⟩)
          · exact ⟨j, c, by omega, h2⟩
          · rcases (rS.mem p.1 p.2).mp hp with ⟨_, h2, h3⟩ | ⟨h2, _⟩
            · exact ⟨i, cc, by omega, hcc, h1, by rw [← h3]; exact h2, rfl⟩
            · rw [h2] at h1
              unfold rgI at h1
              rw [List.length_map, List.length_range] at h1
              omega
        · rintro ⟨j, c, h1, h2, h3, h4, h5'⟩
          rcases Nat.lt_or_ge j i with z | z
          · exact .inl ⟨j, c, z, h2, h3, h4, h5'⟩
          · have ej : j = i := by omega
            subst ej
            rw [hcc] at h2
            cases h2
            have eq : q = (q.1, picks q.1 cc) := Prod.ext rfl h5'
            refine .inr ⟨(q.1, g q), (rS.mem _ _).mpr (.inl ⟨h3, h4, by rw [← eq]⟩), h3, eq⟩
    · rintro σ H5 ⟨y3, y4, y5, y6, L, rfl, s5, ct5, fd5, mem5, len5⟩
      have hN : min cs.length rs.length = (allC ss).length := by omega
      rw [hN] at mem5 len5
      refine ⟨_, rfl, q ff L H5 (s1.trans s2 |>.free nf) ((s1.trans s2).trans s5) fd5 (fun z => ?_) (by omega)⟩
      rw [mem5 z, eSx]
      constructor
      · rintro ⟨_, _, _, _, _, h, _⟩
        exact h
      · intro h
        obtain ⟨hk, c, hc, e⟩ := (occ z).2 h
        obtain ⟨j, hj, ej⟩ := List.mem_iff_getElem.mp (mem_allC.mpr hc)
        exact ⟨j, c, hj, by rw [← ej]; exact List.getElem?_eq_getElem hj, (keys.2.2 _ hk).2, h, e⟩

end
end Fm
namespace Fm
open PySem PySem.Spec PyProof.Rows L2
section
variable {P : Program} {w : World} {K : PySem.W.Frag} {mg : Str → Option Value} {base : Heap}

/-! ### no two boxes hash alike -/
inductive BT where
  | leaf
  | node (l : BT) (x : Int) (r : BT)
def BT.ins (x : Int) : BT → Option BT
  | .leaf => some (.node .leaf x .leaf)
  | .node l y r => if x < y then (match l.ins x with
      | some l' => some (.node l' y r)
      | none => none) else if y < x then (match r.ins x with
      | some r' => some (.node l y r')
      | none => none) else none
def BT.el : BT → List Int
  | .leaf => []
  | .node l y r => l.el ++ y :: r.el
def BT.Ord : BT → Prop
  | .leaf => True
  | .node l y r => l.Ord ∧ r.Ord ∧ (∀ z ∈ l.el, z < y) ∧ ∀ z ∈ r.el, y < z
theorem BT.ins_ok {x : Int} : ∀ {t t' : BT}, t.Ord → t.ins x = some t' → t'.Ord ∧ x ∉ t.el ∧ ∀ z, z ∈ t'.el ↔ z ∈ t.el ∨ z = x
  | .leaf, t', _, h => by
    cases h
    refine ⟨⟨True.intro, True.intro, (fun z hz => by cases hz), fun z hz => by cases hz⟩, (fun h => by cases h), fun z => ?_⟩
    show z ∈ [] ++ x :: [] ↔ z ∈ [] ∨ z = x
    simp
  | .node l y r, t', ⟨ol, or', hl, hr⟩, h => by
    unfold BT.ins at h
    by_cases h1 : x < y
    · rw [if_pos h1] at h
      cases e : l.ins x with
      | none =>
        rw [e] at h
        cases h
      | some l' =>
        rw [e] at h
        cases h
        obtain ⟨o', n', m'⟩ := BT.ins_ok ol e
        refine ⟨⟨o', or', fun z hz => ?_, hr⟩, fun hm => ?_, fun z => ?_⟩
        · rcases (m' z).mp hz with u | u
          · exact hl z u
          · omega
        · rcases List.mem_append.mp hm with u | u
          · exact n' u
          · rcases List.mem_cons.mp u with u | u
            · omega
            · have := hr x u
              omega
        · show z ∈ l'.el ++ y :: r.el ↔ z ∈ l.el ++ y :: r.el ∨ z = x
          rw [List.mem_append, List.mem_append, m' z]
          constructor
          · rintro ((u | u) | u)
            · exact .inl (.inl u)
            · exact .inr u
            · exact .inl (.inr u)
          · rintro ((u | u) | u)
            · exact .inl (.inl u)
            · exact .inr u
            · exact .inl (.inr u)
    · rw [if_neg h1] at h
      by_cases h2 : y < x
      · rw [if_pos h2] at h
        cases e : r.ins x with
        | none =>
          rw [e] at h
          cases h
        | some r' =>
          rw [e] at h
          cases h
          obtain ⟨o', n', m'⟩ := BT.ins_ok or' e
          refine ⟨⟨ol, o', hl, fun z hz => ?_⟩, fun hm => ?_, fun z => ?_⟩
          · rcases (m' z).mp hz with u | u
            · exact hr z u
            · omega
          · rcases List.mem_append.mp hm with u | u
            · have := hl x u
              omega
            · rcases List.mem_cons.mp u with u | u
              · omega
              · exact n' u
          · show z ∈ l.el ++ y :: r'.el ↔ z ∈ l.el ++ y :: r.el ∨ z = x
            rw [List.mem_append, List.mem_append, List.mem_cons, List.mem_cons, m' z]
            constructor
            · rintro (u | u | u | u)
              · exact .inl (.inl u)
              · exact .inl (.inr (.inl u))
              · exact .inl (.inr (.inr u))
              · exact .inr u
            · rintro ((u | u | u) | u)
              · exact .inl u
              · exact .inr (.inl u)
              · exact .inr (.inr (.inl u))
              · exact .inr (.inr (.inr u))
      · rw [if_neg h2] at h
        cases h
def insAll : List Int → BT → Bool
  | [], _ => true
  | x :: l, t => match t.ins x with
    | some t' => insAll l t'
    | none => false
theorem insAll_ok : ∀ {l : List Int} {t : BT}, t.Ord → insAll l t = true → l.Nodup ∧ ∀ z ∈ l, z ∉ t.el
  | [], _, _, _ => ⟨List.nodup_nil, fun z hz => by cases hz⟩
  | x :: l, t, o, h => by
    unfold insAll at h
    cases e : t.ins x with
    | none =>
      rw [e] at h
      cases h
    | some t' =>
      rw [e] at h
      obtain ⟨o', n', m'⟩ := BT.ins_ok o e
      obtain ⟨h1, h2⟩ := insAll_ok o' h
      refine ⟨List.nodup_cons.mpr ⟨fun hm => h2 x hm ((m' x).mpr (.inr rfl)), h1⟩, fun z hz hm => ?_⟩
      rcases List.mem_cons.mp hz with u | u
      · rw [u] at hm
        exact n' hm
      · exact h2 z u ((m' z).mpr (.inl hm))
/-- the hash of a box -/
def hBx (q : List Int × List Int) : Int := reduceHash (Builtin.Tuple.tupleHashOf [reduceHash (Builtin.Tuple.tupleHashOf (q.1.map hashInt)), reduceHash (Builtin.Tuple.tupleHashOf (q.2.map hashInt))])
theorem hashes_num (w : World) : ∀ c : List Int, NestedKey.hashes w (c.map NestedKey.num) = c.map hashInt
  | [] => rfl
  | x :: c => by
    rw [List.map_cons, List.map_cons, NestedKey.hashes, hashes_num w c]
    rfl
theorem hash_bk (w : World) (q : List Int × List Int) : (bk q).hash w = hBx q := by
  unfold bk hBx
  rw [NestedKey.hash, NestedKey.hashes, NestedKey.hashes, NestedKey.hashes, NestedKey.hash, NestedKey.hash, hashes_num, hashes_num]
def boxes5 : List (List Int × List Int) := (patsOf 5).flatMap fun p => (allC (List.replicate p.length 4)).map fun ws => (p, ws)
theorem boxes5_apart : (boxes5.map hBx).Nodup := by
  have h : insAll (boxes5.map hBx) .leaf = true := by decide +kernel
  exact (insAll_ok (t := .leaf) True.intro h).1

end
end Fm
namespace Fm
open PySem PySem.Spec PyProof.Rows L2
section
variable {P : Program} {w : World} {K : PySem.W.Frag} {mg : Str → Option Value} {base : Heap}

/-! ### keys apart -/
theorem map_nodup {α β : Type} {f : α → β} : ∀ {l : List α}, l.Nodup → (∀ x ∈ l, ∀ y ∈ l, f x = f y → x = y) → (l.map f).Nodup
  | [], _, _ => List.nodup_nil
  | x :: l, nd, h => by
    rw [List.nodup_cons] at nd
    rw [List.map_cons, List.nodup_cons]
    refine ⟨fun hm => ?_, map_nodup nd.2 fun a ha b hb => h a (List.mem_cons_of_mem _ ha) b (List.mem_cons_of_mem _ hb)⟩
    obtain ⟨y, hy, e⟩ := List.mem_map.mp hm
    have := h y (List.mem_cons_of_mem _ hy) x (List.mem_cons_self ..) e
    exact nd.1 (this ▸ hy)
theorem Asc.wider {n m : Int} (h : n ≤ m) : ∀ {l : Int} {p : List Int}, Asc n l p → Asc m l p
  | _, [], _ => True.intro
  | _, _ :: _, ⟨h1, h2, h3⟩ => ⟨h1, by omega, h3.wider h⟩
theorem box_in5 {ss : List Int} {q : List Int × List Int} (ok : SizesOk ss) (h : BoxOk ss q) : q ∈ boxes5 := by
  obtain ⟨_, h5, hm⟩ := ok.facts
  have hc := box_cont h
  obtain ⟨cl, cb⟩ := isCt_iff.mp hc
  have l1 : (picks q.1 ss).length = q.1.length := List.length_map _
  refine List.mem_flatMap.mpr ⟨q.1, mem_pats.mpr (h.1.wider (by omega)), List.mem_map.mpr ⟨q.2, mem_allC.mpr (isCt_iff.mpr ⟨by rw [List.length_replicate]; omega, fun i x s hx hs => ?_⟩), rfl⟩⟩
  obtain ⟨hi, e⟩ := List.getElem?_eq_some_iff.mp hs
  rw [List.getElem_replicate] at e
  rw [List.length_replicate] at hi
  have hi2 : i < (picks q.1 ss).length := by omega
  obtain ⟨x0, x1⟩ := cb i x _ hx (List.getElem?_eq_getElem hi2)
  have hk := h.1.inR q.1[i] (List.getElem_mem hi)
  have k1 : q.1[i].toNat < ss.length := by omega
  have ep : (picks q.1 ss)[i]? = some ss[q.1[i].toNat] := by
    unfold picks
    rw [List.getElem?_map, List.getElem?_eq_getElem hi]
    show some (ss.getD q.1[i].toNat 0) = _
    rw [List.getD_eq_getElem?_getD, List.getElem?_eq_getElem k1]
    rfl
  rw [List.getElem?_eq_getElem hi2] at ep
  have ep := Option.some.inj ep
  have := (hm _ (List.getElem_mem k1)).2
  omega
theorem apart_of {α β : Type} {l : List α} {f : α → β} (nd : (l.map f).Nodup) {x y : α} (hx : x ∈ l) (hy : y ∈ l) (e : f x = f y) : x = y := by
  obtain ⟨i, hi, rfl⟩ := List.mem_iff_getElem.mp hx
  obtain ⟨j, hj, rfl⟩ := List.mem_iff_getElem.mp hy
  have z := nodup_ix nd (i := i) (j := j) (x := f l[i]) (by rw [List.getElem?_map, List.getElem?_eq_getElem hi]; rfl) (by rw [List.getElem?_map, List.getElem?_eq_getElem hj, e]; rfl)
  subst z
  rfl
theorem hash_maps {w : World} : ∀ (L : BoxL), (L.map fun p => (bk p.2.1).hash w) = (L.map (·.2.1)).map hBx
  | [] => rfl
  | p :: L => by rw [List.map_cons, List.map_cons, List.map_cons, hash_maps L, hash_bk]
theorem hash_apart {ss : List Int} (ok : SizesOk ss) {L : BoxL} (nd : (L.map (·.2.1)).Nodup) (h : ∀ e ∈ L, BoxOk ss e.2.1) : (L.map fun p => (bk p.2.1).hash w).Nodup := by
  rw [hash_maps]
  refine map_nodup nd fun x hx y hy exy => ?_
  obtain ⟨a, ha, rfl⟩ := List.mem_map.mp hx
  obtain ⟨b, hb, rfl⟩ := List.mem_map.mp hy
  exact apart_of boxes5_apart (box_in5 ok (h a ha)) (box_in5 ok (h b hb)) exy

end
end Fm
namespace Fm
open PySem PySem.Spec PyProof.Rows L2
section
variable {P : Program} {w : World} {K : PySem.W.Frag} {mg : Str → Option Value} {base : Heap}

/-! ### == of habits -/
/-- what is no habit -/
inductive Oth (K : PySem.W.Frag) (H : Hp) : V → Prop
  | non : Oth K H .non
  | int (i : Int) : Oth K H (.int i)
  | str (x : Str) : Oth K H (.str x)
  | tup {a : Addr} {xs : List V} (h : SqT K H a xs) : Oth K H (.ref a)
theorem Oth.oty (T : Txt K mg) {H : Hp} {y : V} (h : Oth K H y) : ∃ t, OTy K H y t ∧ PySem.W.notFirst K T.c_Habit t = true ∧ TyX K H y t ∧ PySem.W.kitOne K t (.ref T.c_Habit) = some false := by
  have nf : ∀ t : String, PySem.W.subIn K (.type t) (.ref T.c_Habit) = some false → PySem.W.notFirst K T.c_Habit (.type t) = true := fun t e => by
    unfold PySem.W.notFirst
    rw [e]
    simp
  cases h with
  | non => exact ⟨_, .non, nf _ T.so_NoneType, .base .non, T.ko_NoneType⟩
  | int i => exact ⟨_, .int i, nf _ T.so_int, .base (.int i), T.ko_int⟩
  | str x => exact ⟨_, .str x, nf _ T.so_str, .base (.str x), T.ko_str⟩
  | tup h => exact ⟨_, .tup h, nf _ T.so_tuple, tyx_tup h, T.ko_tuple⟩
def spHEq (K : PySem.W.Frag) (C : Addr) : Sp := fun vs H Q _ => ∃ (x : Addr) (y : V) (ss : List Int) (ds : List Dt), vs = [.ref x, y] ∧ Hb K C H x ss ds ∧ Rows ss ds ∧
  ((∃ z ds2, y = .ref z ∧ Hb K C H z ss ds2 ∧ Rows ss ds2 ∧ ∀ H', Same H H' → Q (.bl (decide (keyR ds = keyR ds2))) H') ∨ (Oth K H y ∧ ∀ H', Same H H' → Q (.bl false) H'))
theorem ok_Habit_eq (T : Txt K mg) : FnOk P w K mg base CX0 1 T.f_Habit_eq T.d_Habit_eq ["self", "other"] (spHEq K T.c_Habit) := by
  refine T.F_Habit_eq.ok sc_Habit_eq (fun vs H Q E h => ?_) (fun cdv A outer s H vs Q E hr h => ?_)
  · obtain ⟨_, _, _, _, rfl, _⟩ := h
    rfl
  · obtain ⟨x, y, ss, ds, rfl, hb, hr1, h⟩ := h
    refine ⟨_, (pss_one (ps_ret (pe_and (pe_callB (call_isiK' K) (by rfl) T.z_isinstance (by decide +kernel) (pa_cons (pv 1) (pa_cons (pe_glob (by rfl) T.g_Habit (show L2.RelV (.ref T.c_Habit) _ from rfl)) pa_nil))) (pe_and (pe_cmpR (op_eqK K hr.units) (pe_fld (pv 0) rfl) (pe_fld (pv 1) rfl) (nomark _)) (pe_one (pe_cmpR (op_eqK K hr.units) (pe_fld (pv 0) rfl) (pe_fld (pv 1) rfl) (nomark _))))))), ?_⟩
    rcases h with ⟨z, ds2, rfl, hb2, hr2, q⟩ | ⟨ho, q⟩
    · obtain ⟨dx, u1, u2, hx, g1, g2⟩ := hb.ex
      obtain ⟨dz, w1, w2, hz, k1, k2⟩ := hb2.ex
      refine ⟨_, rfl, _, _, _, _, _, rfl, .own _, hab_ty T hz, T.kk_Habit, _, rfl, iteT ?_⟩
      refine ⟨_, rfl, x, _, dx, _, _, rfl, hx, T.l_Habit, T.a_sizes, rfl, _, rfl, z, _, dz, _, _, rfl, hz, T.l_Habit, T.a_sizes, rfl, ctP ss, ctP ss, dp_ct g1, dp_ct k1, shaped_ct _, shaped_ct _, ?_⟩
      rw [eqv_ct, decide_eq_true rfl]
      refine ⟨_, rfl, iteT ?_⟩
      refine ⟨_, rfl, x, _, dx, _, _, rfl, hx, T.l_Habit, T.a_rows, rfl, _, rfl, z, _, dz, _, _, rfl, hz, T.l_Habit, T.a_rows, rfl, rowsP ds, rowsP ds2, dp_rows g2 hr1.row, dp_rows k2 hr2.row, shaped_rows _, shaped_rows _, ?_⟩
      rw [eqv_rows]
      exact q H (Same.refl H)
    · obtain ⟨t, _, _, ty, kt⟩ := ho.oty T
      refine ⟨_, rfl, _, _, _, _, _, rfl, .own _, ty, kt, _, rfl, iteF ?_⟩
      exact q H (Same.refl H)

end
end Fm
namespace Fm
open PySem PySem.Spec PyProof.Rows L2
section
variable {P : Program} {w : World} {K : PySem.W.Frag} {mg : Str → Option Value} {base : Heap}

/-! ### shares that count -/
theorem box_eq_of {B : Int} {H : Hp} {L1 L2 : BoxL} {g : List Int × List Int → Int} (n1 : (L1.map (·.2.1)).Nodup) (n2 : (L2.map (·.2.1)).Nodup) (mem : ∀ q, q ∈ L1.map (·.2.1) ↔ q ∈ L2.map (·.2.1))
    (v1 : ∀ e ∈ L1, ∃ a, e.2.2 = .ref a ∧ SqT K H a [.int (lowZ (g e.2.1) B).1, .int (lowZ (g e.2.1) B).2]) (v2 : ∀ e ∈ L2, ∃ a, e.2.2 = .ref a ∧ SqT K H a [.int (lowZ (g e.2.1) B).1, .int (lowZ (g e.2.1) B).2]) : BoxEq K H L1 L2 := by
  have pm := (List.perm_ext_iff_of_nodup n1 n2).mpr mem
  have z := pm.length_eq
  rw [List.length_map, List.length_map] at z
  refine ⟨z, fun p hp => ?_⟩
  obtain ⟨v, hv⟩ := Option.isSome_iff_exists.mp (findB_isSome.mpr ((mem p.2.1).mp (List.mem_map_of_mem (f := fun e : Addr × (List Int × List Int) × V => e.2.1) hp)))
  obtain ⟨e, he, e1, e2⟩ := findB_mem hv
  obtain ⟨a, a1, a2⟩ := v1 p hp
  obtain ⟨b, b1, b2⟩ := v2 e he
  refine ⟨v, hv, [(lowZ (g p.2.1) B).1, (lowZ (g p.2.1) B).2], ?_, ?_⟩
  · rw [a1]
    exact dp_ct (dh_ct (c := [_, _]) a2)
  · rw [← e2, b1]
    rw [e1] at b2
    exact dp_ct (dh_ct (c := [_, _]) b2)
theorem ShG.inL {B : Int} {H : Hp} {L : BoxL} {ks : List (List Int)} {ms : List Int} {g : List Int × List Int → Int} (x : ShG K B H L ks ms g) {q : List Int × List Int} (h : 0 < g q) : ∃ e ∈ L, e.2.1 = q := by
  by_cases hq : q ∈ L.map (·.2.1)
  · obtain ⟨e, he, e1⟩ := List.mem_map.mp hq
    exact ⟨e, he, e1⟩
  · have := x.off q hq
    omega
theorem Fnd.shg {B : Int} {H H0 : Hp} {f : Addr} {L L0 : BoxL} {ks : List (List Int)} {ms : List Int} {g : List Int × List Int → Int} (x : Fnd K P w B H f L g) (mem : ∀ q, q ∈ L.map (·.2.1) ↔ 0 < g q) (sg : ShG K B H0 L0 ks ms g) : ShG K B H L ks ms g := ⟨x.box, x.nd, fun e he => (x.val e he).2, fun e he => by
  obtain ⟨h0, _⟩ := x.val e he
  obtain ⟨e0, he0, e1⟩ := sg.inL h0
  rw [← e1]
  exact sg.bd e0 he0, fun q hq => by
  have := sg.nn q
  have h2 : ¬ 0 < g q := fun h => hq ((mem q).mpr h)
  omega⟩
theorem ShG.occ {ss : List Int} {B : Int} {H : Hp} {L : BoxL} {ks : List (List Int)} {ms : List Int} {g : List Int × List Int → Int} (x : ShG K B H L ks ms g) (ct : BoxesCt ss L) : Occ ss ks g := fun q => ⟨x.nn q, fun h => by
  obtain ⟨e, he, rfl⟩ := x.inL h
  obtain ⟨_, i, mo, h1, _⟩ := x.bd e he
  exact ⟨List.mem_of_getElem? h1, ct e he⟩⟩
theorem Fnd.ct {ss : List Int} {B : Int} {H : Hp} {f : Addr} {L : BoxL} {ks : List (List Int)} {g : List Int × List Int → Int} (x : Fnd K P w B H f L g) (oc : Occ ss ks g) : BoxesCt ss L := fun e he => ((oc e.2.1).2 (x.val e he).1).2
theorem Fnd.eq {B : Int} {H : Hp} {f1 f2 : Addr} {L1 L2 : BoxL} {g : List Int × List Int → Int} (x : Fnd K P w B H f1 L1 g) (y : Fnd K P w B H f2 L2 g) (m1 : ∀ q, q ∈ L1.map (·.2.1) ↔ 0 < g q) (m2 : ∀ q, q ∈ L2.map (·.2.1) ↔ 0 < g q) : BoxEq K H L1 L2 :=
  box_eq_of x.nd y.nd (fun q => (m1 q).trans (m2 q).symm) (fun e he => (x.val e he).2) fun e he => (y.val e he).2
theorem ShG.self {B : Int} {H : Hp} {L : BoxL} {ks : List (List Int)} {ms : List Int} {g : List Int × List Int → Int} (x : ShG K B H L ks ms g) : BoxEq K H L L := box_eq_of x.nd x.nd (fun _ => Iff.rfl) x.val x.val
theorem shG_none {H : Hp} : ShG K 1 H [] [] [] (fun _ => 0) := ⟨fun p hp => (by cases hp), List.nodup_nil, fun p hp => (by cases hp), fun p hp => (by cases hp), fun q _ => rfl⟩
theorem ShAt.ct {ss : List Int} {B : Int} {H : Hp} {f : Addr} {L : BoxL} {ks : List (List Int)} {ms : List Int} (x : ShAt K P w ss B H f L ks ms) : BoxesCt ss L := fun e he => by
  obtain ⟨_, _, _, _, ⟨_, h⟩, _⟩ := x.val e he
  exact h
theorem ShG.boxok {ss : List Int} {B : Int} {H : Hp} {L : BoxL} {ks : List (List Int)} {ms : List Int} {g : List Int × List Int → Int} (x : ShG K B H L ks ms g) (keys : KeysOk ss.length ks) (ct : BoxesCt ss L) : ∀ e ∈ L, BoxOk ss e.2.1 := fun e he => by
  obtain ⟨h0, i, mo, h1, h2, h3⟩ := x.bd e he
  obtain ⟨k1, k2⟩ := keys.2.2 _ (List.mem_of_getElem? h1)
  obtain ⟨c, c1, c2⟩ := ct e he
  exact ⟨k1, c, c1, c2⟩
theorem Hb.move {C : Addr} {H H' : Hp} {x : Addr} {ss : List Int} {ds : List Dt} (rows : Rows ss ds) (mv : ∀ {a : Addr} {xs : List V}, SqT K H a xs → SqT K H' a xs) (hx : ∀ dx fs, H x = some (.ins C dx fs) → H' x = some (.ins C dx fs)) (h : Hb K C H x ss ds) : Hb K C H' x ss ds := by
  obtain ⟨dx, v1, v2, h0, h1, h2⟩ := h.ex
  refine ⟨dx, v1, v2, hx _ _ h0, ?_, ?_⟩
  · obtain ⟨a, rfl, s⟩ := ct_inv h1
    exact dh_ct (mv s)
  · obtain ⟨a, xs, rfl, s, ha⟩ := h2.tup_inv
    refine .tup (mv s) ?_
    have key : ∀ {xs : List V} {ds : List Dt}, DhAll K H xs ds → (∀ d ∈ ds, d.isRow ss.length = true) → DhAll K H' xs ds := by
      intro xs ds h
      induction ds generalizing xs with
      | nil =>
        intro _
        cases h
        exact .nil
      | cons d ds ih =>
        intro hr
        cases h with
        | cons h t =>
          refine .cons ?_ (ih t fun e he => hr e (List.mem_cons_of_mem _ he))
          obtain ⟨ps, rfl, hi⟩ := isRow_inv (hr d (List.mem_cons_self ..))
          obtain ⟨b, ys, rfl, sb, hys⟩ := h.tup_inv
          exact .tup (mv sb) (row_move mv hys hi)
    exact key ha rows.row
theorem lc_keysB {d : Addr} {o : Obj} {L : BoxL} {g : TG} {tt : TT} {te : TE} {vs : List Nat} {σ : L2.St} {H1 : Hp} {D : Addr} {Qd : Hp → Prop} (Pv : Nat → Hp → Prop) (h0 : Pv 0 (upd H1 D (.lst []))) (hl : ∀ i H, Pv i H → H d = some (.frz o (DBO P w d L)))
    (hs : ∀ i p H, L[i]? = some p → Pv i H → g (.ref p.1) (wipe σ vs) H fun σ2 H2 => wipe σ2 vs = wipe σ vs ∧ tt σ2 H2 fun b H3 =>
      if b = true then te σ2 H3 fun y H4 => ∃ acc, H4 D = some (.lst acc) ∧ acc.length < sizeLine ∧ Pv (i + 1) (upd H4 D (.lst (acc ++ [y]))) else Pv (i + 1) H3) (hd : ∀ H, Pv L.length H → Qd H) :
    ∃ W : Nat → Nat → Hp → Prop, (∃ m, W 0 m (upd H1 D (.lst []))) ∧ ∀ i m H, W i m H →
      ((ItkB P w d o L).stop i H ∧ Qd H) ∨ ((ItkB P w d o L).go i H ∧ ∃ Nx : Hp → Prop, (∀ H', Nx H' → ∃ m', m' < m ∧ W (i + 1) m' H') ∧ ∀ x H', (ItkB P w d o L).yld i H x H' → g x (wipe σ vs) H' fun σ2 H2 => wipe σ2 vs = wipe σ vs ∧ tt σ2 H2 fun b H3 =>
        if b = true then te σ2 H3 fun y H4 => ∃ acc, H4 D = some (.lst acc) ∧ acc.length < sizeLine ∧ Nx (upd H4 D (.lst (acc ++ [y]))) else Nx H3) := by
  refine ⟨fun i m H => m = L.length - i ∧ i ≤ L.length ∧ Pv i H, ⟨L.length, by simp, Nat.zero_le _, h0⟩, ?_⟩
  rintro i m H ⟨rfl, hi, p⟩
  have q := hl i H p
  by_cases hlt : i < L.length
  · refine .inr ⟨⟨q, hlt⟩, Pv (i + 1), fun H' p' => ⟨L.length - (i + 1), by omega, rfl, hlt, p'⟩, fun x H' y => ?_⟩
    obtain ⟨e, p0, hp, rfl⟩ := y
    subst e
    exact hs i p0 _ hp p
  · have e : i = L.length := by omega
    subst e
    exact .inl ⟨⟨q, Nat.le_refl _⟩, hd H p⟩
/-- those that count -/
def posB (g : List Int × List Int → Int) (L : BoxL) : BoxL := L.filter fun e => decide (0 < g e.2.1)
theorem posB_keys {B : Int} {H : Hp} {L : BoxL} {ks : List (List Int)} {ms : List Int} {g : List Int × List Int → Int} (x : ShG K B H L ks ms g) (q : List Int × List Int) : q ∈ (posB g L).map (·.2.1) ↔ 0 < g q := by
  constructor
  · intro h
    obtain ⟨e, he, rfl⟩ := List.mem_map.mp h
    have z := (List.mem_filter.mp he).2
    exact of_decide_eq_true z
  · intro h
    obtain ⟨e, he, rfl⟩ := x.inL h
    exact List.mem_map.mpr ⟨e, List.mem_filter.mpr ⟨he, decide_eq_true h⟩, rfl⟩
theorem posB_nd {g : List Int × List Int → Int} {L : BoxL} (h : (L.map (·.2.1)).Nodup) : ((posB g L).map (·.2.1)).Nodup := by
  have z : ((posB g L).map (fun e : Addr × (List Int × List Int) × V => e.2.1)).Sublist (L.map fun e => e.2.1) := (List.filter_sublist).map _
  exact z.nodup h
theorem posB_fnd {B : Int} {H : Hp} {d : Addr} {L : BoxL} {ks : List (List Int)} {ms : List Int} {g : List Int × List Int → Int} (hd : H d = some (DBO P w d (posB g L))) (x : ShG K B H L ks ms g) : Fnd K P w B H d (posB g L) g := ⟨hd, fun p hp => x.box p (List.mem_filter.mp hp).1, posB_nd x.nd, fun e he => ⟨of_decide_eq_true (List.mem_filter.mp he).2, x.val e (List.mem_filter.mp he).1⟩⟩
theorem posB_take {g : List Int × List Int → Int} {L : BoxL} {j : Nat} {e : Addr × (List Int × List Int) × V} (he : L[j]? = some e) : posB g (L.take (j + 1)) = posB g (L.take j) ++ if 0 < g e.2.1 then [e] else [] := by
  unfold posB
  rw [List.take_add_one, he, List.filter_append]
  congr 1
  show List.filter _ [e] = _
  by_cases h : 0 < g e.2.1
  · rw [if_pos h, List.filter_cons, if_pos (decide_eq_true h)]
    rfl
  · rw [if_neg h, List.filter_cons, if_neg (by rw [decide_eq_false h]; decide)]
    rfl
theorem sizeGo_len : ∀ (ss : List Int) (m r : Int) (l : List (List Int)), sizeGo m (ss.map Dt.int) = some r → m = (l.length : Int) → r = ((ss.foldl stepC l).length : Int)
  | [], m, r, l, h, e => by
    cases h
    exact e
  | c :: ss, m, r, l, h, e => by
    have h' : (if 2 ≤ c ∧ c ≤ 4 then sizeGo (m * c) (ss.map Dt.int) else none) = some r := h
    by_cases hc : 2 ≤ c ∧ c ≤ 4
    · rw [if_pos hc] at h'
      rw [List.foldl_cons]
      refine sizeGo_len ss (m * c) r _ h' ?_
      unfold stepC
      rw [flat_len, Int.natCast_mul, ← e, Int.toNat_of_nonneg (by omega)]
    · rw [if_neg hc] at h'
      cases h'
theorem allC_256 {ss : List Int} (h : SizesOk ss) : (allC ss).length ≤ 256 := by
  have h' : (if 1 ≤ (ss.map Dt.int).length ∧ (ss.map Dt.int).length ≤ 5 then (match sizeGo 1 (ss.map Dt.int) with
    | some m => decide (m ≤ 256)
    | none => false) else false) = true := h
  split at h'
  · cases e : sizeGo 1 (ss.map Dt.int) with
    | none =>
      rw [e] at h'
      cases h'
    | some m =>
      rw [e] at h'
      have z := sizeGo_len ss 1 m [[]] e rfl
      have y := of_decide_eq_true h'
      have x : (allC ss).length = (ss.foldl stepC [[]]).length := rfl
      omega
  · cases h'
/-- what a habit without shares shows -/
def oneR (n : Nat) : Dt := .tup [itD 1 (rgI n) 1]
theorem row_alone {n : Nat} {c : List Int} : RowS n 1 (fun _ => 0) [] c [(rgI n, 1)] := ⟨List.pairwise_singleton _ _, fun k m => by
  rw [List.mem_singleton]
  have er : restS 1 (fun _ => 0) [] c = 1 := rfl
  rw [er]
  constructor
  · intro h
    cases h
    exact .inr ⟨rfl, by decide, rfl⟩
  · rintro (⟨_, h1, h2⟩ | ⟨h1, _, h2⟩)
    · omega
    · rw [h1, h2]⟩
theorem rows_alone {ss : List Int} {ds : List Dt} (rows : Rows ss ds) (rd : RDs ss 1 (fun _ => 0) [] ds) : ds = List.replicate (allC ss).length (oneR ss.length) := by
  refine List.eq_replicate_iff.mpr ⟨rows.len, fun d hd => ?_⟩
  obtain ⟨i, hi, e⟩ := List.mem_iff_getElem.mp hd
  have hl := rows.len
  obtain ⟨_, S, h1, h2⟩ := rd i _ _ (List.getElem?_eq_getElem (by omega)) (List.getElem?_eq_getElem hi)
  rw [← e, h1, h2.one row_alone]
  rfl
theorem occ_none {ss : List Int} : Occ ss [] (fun _ => 0) := fun q => ⟨Int.le_refl _, fun h => absurd h (Int.lt_irrefl 0)⟩
theorem keys_none {n : Nat} : KeysOk n [] := ⟨List.Pairwise.nil, by decide, fun p hp => by cases hp⟩
theorem most_none : MostOk 1 [] := ⟨by decide, by decide, (fun m hm => by cases hm), by decide⟩
theorem rep_u {σ : L2.St} {H : Hp} {Q : VK} {k j : Nat} {v : V} {ra : Addr} {acc : List V} (h1 : σ[k]? = some (some v)) (h2 : σ[j]? = some (some (.ref ra))) (hra : SqT K H ra acc) (l1 : 1 ≤ acc.length) (l2 : acc.length ≤ 1000) (q : ∀ p H', Same H H' → SqT K H' p (List.replicate acc.length v) → Q (.ref p) H') :
    tOp (rRepU K) (tTup (tCons (tVar k) tNil)) (tCB (rLenK K) (tCons (tVar j) tNil)) σ H Q := by
  refine ⟨_, h1, by show 1 ≤ sizeLine; decide, fun p5 n5 => ⟨_, h2, ra, _, rfl, .inr ((Ext.of (same_new n5)).sqT hra), p5, _, [v], rfl, rfl, SqT.of upd_same, by simp, by omega, by omega, by show 1 ≤ 1000; decide, fun k1 => ?_, fun p6 n6 => ?_⟩⟩
  · refine q p5 _ (same_new n5) ?_
    rw [show acc.length = 1 by omega]
    exact SqT.of upd_same
  · refine q p6 _ ((same_new n5).trans (same_new n6)) ?_
    rw [Int.toNat_natCast, List.flatten_replicate_singleton]
    exact SqT.of upd_same
theorem dhAll_rep {H : Hp} {v : V} {d : Dt} (h : Dh K H v d) : ∀ n : Nat, DhAll K H (List.replicate n v) (List.replicate n d)
  | 0 => .nil
  | n + 1 => .cons h (dhAll_rep h n)

end
end Fm
namespace Fm
open PySem PySem.Spec PyProof.Rows L2
section
variable {P : Program} {w : World} {K : PySem.W.Frag} {mg : Str → Option Value} {base : Heap}

/-! ### the law -/
def spLaw (K : PySem.W.Frag) : Sp := fun vs H Q _ => ∃ (a : Addr) (ns : List Int), vs = [.ref a] ∧ SqL K H a (ns.map V.int) ∧ ns.length ≤ 63 ∧ ∀ H', Q (.bl true) H'
abbrev st14 (a h : Addr) (y2 y3 y4 y5 y6 y7 y8 y9 y10 y11 y12 y13 : Option V) : L2.St := [some (.ref a), some (.ref h), y2, y3, y4, y5, y6, y7, y8, y9, y10, y11, y12, y13]
theorem ok_law (T : Txt K mg) {f : Addr} {fd : FuncData} (F : Fun K "law" "law" s_law f fd) : FnOk P w K mg base CX0 8 f fd ["script"] (spLaw K) := by
  refine F.ok sc_law (fun vs H Q E h => ?_) (fun cdv A outer s H vs Q E hr h => ?_)
  · obtain ⟨_, _, rfl, _⟩ := h
    rfl
  · obtain ⟨a, ns, rfl, hS, hl, q⟩ := h
    refine ⟨_, (pss_cons (ps_set (i := 1) sc_law.nd rfl (.inl rfl) (pe_call (ok_law_hand T) (hr.mono (by decide)) (by rfl) T.g_law_hand T.F_law_hand.kp T.b_law_hand .nil pass0 (pa_cons (pv 0) pa_nil)))
      (pss_cons (ps_for PassesOwn.never rfl (pi_range1 (by rfl) T.z_range (pa_cons pe_int pa_nil)) (pg_name (i := 2) sc_law.nd rfl (.inl rfl)) (pss_cons (ps_set (i := 3) sc_law.nd rfl (.inr rfl) (pe_call (ok_law_sizes T) (hr.mono (by decide)) (by rfl) T.g_law_sizes T.F_law_sizes.kp T.b_law_sizes .nil pass0 (pa_cons (pv 1) pa_nil)))
      (pss_cons (ps_set (i := 4) sc_law.nd rfl (.inr rfl) (pe_call (ok_law_shares (P := P) (w := w) T) (hr.mono (by decide)) (by rfl) T.g_law_shares T.F_law_shares.kp T.b_law_shares .nil pass0 (pa_cons (pv 1) (pa_cons (pv 3) pa_nil))))
      (pss_cons (ps_set (i := 5) sc_law.nd rfl (.inl rfl) (pe_callTy (call_dictCB (K := K) (P := P) (w := w) hr.units) (by rfl) T.z_dict (by decide +kernel) (pa_cons (pv 4) pa_nil)))
      (pss_cons (ps_set (i := 6) sc_law.nd rfl (.inl rfl) (pe_call (ok_habit_of (P := P) (w := w) T) hr (by rfl) T.g_habit_of T.F_habit_of.kp T.b_habit_of .nil pass0 (pa_cons (pv 3) (pa_cons (pv 5) pa_nil))))
      (pss_cons (ps_if (pt_cmpR (op_neB (K := K) (P := P) (w := w) hr.units) (pv 5) (pv 4) (nomark _)) (pss_one (ps_ret pe_bl)) pss_nil)
      (pss_cons (ps_expr (pe_clearB (P := P) (w := w) (pv 5)))
      (pss_cons (ps_set (i := 7) sc_law.nd rfl (.inl rfl) (pe_callTy (call_tupleK K) (by rfl) T.z_tuple (by decide +kernel) (pa_cons (pe_lock (pe_lc (own := [("content", 12)]) rfl sc_law.nd (pi_listK K (pe_call (ok_law_contents T) (hr.mono (by decide)) (by rfl) T.g_law_contents T.F_law_contents.kp T.b_law_contents .nil pass0 (pa_cons (pv 3) pa_nil))) (blkOk_by (N := N_law) (sc := defScope s_law) (by decide +kernel)) (fun _ _ _ _ _ => (pg_name (i := 12) sc_law.nd rfl (.inl rfl))) (fun _ _ _ _ _ => pts_nil) (fun _ _ _ _ _ => (pe_call (ok_law_row_of (P := P) (w := w) T) (hr.mono (by decide)) (by rfl) T.g_law_row_of T.F_law_row_of.kp T.b_law_row_of .nil pass0 (pa_cons (pv 3) (pa_cons (pv 4) (pa_cons (pv 12) pa_nil))))))) pa_nil)))
      (pss_cons (ps_if (PW.pt (pw_or (pt_cmpR (op_neK K hr.units) (pe_fld (pv 6) rfl) (pv 7) (nomark _)) (pw_or (pt_cmpR (op_neK K hr.units) (pe_fld (pv 6) rfl) (pv 3) (nomark _)) (pw_or1 (pt_cmpR (op_neO (ok_Habit_eq T) T.eq_Habit T.fn_Habit_eq T.b_Habit_eq (hr.mono (by decide)) T.ne_Habit T.h4_Habit (K := K)) (pv 6) (pe_make T.M_Habit (ok_Habit_init T) (hr.mono (by decide)) (by rfl) T.g_Habit T.b_Habit_init .nil pass0 (pa_cons (pv 3) (pa_cons (pv 7) pa_nil))) (nomark _)))))) (pss_one (ps_ret pe_bl)) pss_nil)
      (pss_cons (ps_if (PW.pt (pw_or (pt_cmpR op_isnot_bl (pe_call (ok_is_fair T) (hr.mono (by decide)) (by rfl) T.g_is_fair T.F_is_fair.kp T.b_is_fair .nil pass0 (pa_cons (pv 6) pa_nil)) pe_bl (nomark _)) (pw_or1 (pt_cmpR op_notN (pe_call (ok_unfair T) (hr.mono (by decide)) (by rfl) T.g_unfair T.F_unfair.kp T.b_unfair .nil pass0 (pa_cons (pv 6) pa_nil)) pe_non (nomark _))))) (pss_one (ps_ret pe_bl)) pss_nil)
      (pss_cons (ps_set (i := 8) sc_law.nd rfl (.inl rfl) (pe_callTy (call_dictLB (K := K) (P := P) (w := w) rfl hr.units) (by rfl) T.z_dict (by decide +kernel) (pa_cons (pe_lock (pe_lc (own := [("box", 13)]) rfl sc_law.nd (pi_keysB (P := P) (w := w) (pv 4)) (blkOk_by (N := N_law) (sc := defScope s_law) (by decide +kernel)) (fun _ _ _ _ _ => (pg_name (i := 13) sc_law.nd rfl (.inl rfl))) (fun _ _ _ _ _ => (pts_one (pt_cmpR op_gt (pe_ix (ix_tupK K) (pe_dgetBR (K := K) (P := P) (w := w) hr.units (pv 4) (pv 13) (fun _ _ => rfl)) pe_int (fun _ _ => rfl)) pe_int (nomark _)))) (fun _ _ _ _ _ => (pe_tup (pa_cons (pv 13) (pa_cons (pe_dgetBR (K := K) (P := P) (w := w) hr.units (pv 4) (pv 13) (fun _ _ => rfl)) pa_nil)))))) pa_nil)))
      (pss_cons (ps_set (i := 9) sc_law.nd rfl (.inl rfl) (pe_call (ok_box_shares (P := P) (w := w) T) (hr.mono (by decide)) (by rfl) T.g_box_shares T.F_box_shares.kp T.b_box_shares .nil pass0 (pa_cons (pv 6) pa_nil)))
      (pss_cons (ps_if (PW.pt (pw_or (pt_cmpR (op_neB (K := K) (P := P) (w := w) hr.units) (pv 9) (pv 8) (nomark _)) (pw_or (pt_not (pt_val (pe_callB (call_isiB (P := P) (w := w)) (by rfl) T.z_isinstance (by decide +kernel) (pa_cons (pv 9) (pa_cons (pe_bltn (v := .ty "dict") (by rfl) T.z_dict (by decide +kernel) rfl) pa_nil))))) (pw_or1 (pt_cmpR (op_neB (K := K) (P := P) (w := w) hr.units) (pe_call (ok_box_shares (P := P) (w := w) T) (hr.mono (by decide)) (by rfl) T.g_box_shares T.F_box_shares.kp T.b_box_shares .nil pass0 (pa_cons (pe_make T.M_Habit (ok_Habit_init T) (hr.mono (by decide)) (by rfl) T.g_Habit T.b_Habit_init .nil pass0 (pa_cons (pv 3) (pa_cons (pv 7) pa_nil))) pa_nil)) (pv 8) (nomark _)))))) (pss_one (ps_ret pe_bl)) pss_nil)
      (pss_cons (ps_if (PW.pt (pw_or (pt_cmpR (op_neO (ok_Habit_eq T) T.eq_Habit T.fn_Habit_eq T.b_Habit_eq (hr.mono (by decide)) T.ne_Habit T.h4_Habit (K := K)) (pe_call (ok_habit_of (P := P) (w := w) T) hr (by rfl) T.g_habit_of T.F_habit_of.kp T.b_habit_of .nil pass0 (pa_cons (pv 3) (pa_cons (pv 9) pa_nil))) (pv 6) (nomark _)) (pw_or1 (pt_cmpR (op_neO (ok_Habit_eq T) T.eq_Habit T.fn_Habit_eq T.b_Habit_eq (hr.mono (by decide)) T.ne_Habit T.h4_Habit (K := K)) (pe_call (ok_habit_of (P := P) (w := w) T) hr (by rfl) T.g_habit_of T.F_habit_of.kp T.b_habit_of .nil pass0 (pa_cons (pv 3) (pa_cons (pv 8) pa_nil))) (pv 6) (nomark _))))) (pss_one (ps_ret pe_bl)) pss_nil)
      (pss_cons (ps_expr (pe_clearB (P := P) (w := w) (pv 9)))
      (pss_cons (ps_if (pt_cmpR (op_neB (K := K) (P := P) (w := w) hr.units) (pe_call (ok_box_shares (P := P) (w := w) T) (hr.mono (by decide)) (by rfl) T.g_box_shares T.F_box_shares.kp T.b_box_shares .nil pass0 (pa_cons (pv 6) pa_nil)) (pv 8) (nomark _)) (pss_one (ps_ret pe_bl)) pss_nil)
      (pss_cons (ps_set (i := 10) sc_law.nd rfl (.inl rfl) (pe_call (ok_habit_of (P := P) (w := w) T) hr (by rfl) T.g_habit_of T.F_habit_of.kp T.b_habit_of .nil pass0 (pa_cons (pv 3) (pa_cons (pe_dnewB (P := P) (w := w)) pa_nil))))
      (pss_cons (ps_set (i := 11) sc_law.nd rfl (.inl rfl) (pe_tup (pa_cons (pe_tup (pa_cons (pe_tupRg rfl (by rfl) T.z_tuple (prg_1 (by rfl) T.z_range (pe_callB (call_lenK K) (by rfl) T.z_len PySem.boot_len (pa_cons (pv 3) pa_nil)))) (pa_cons (pe_tup (pa_cons pe_int (pa_cons pe_int pa_nil))) pa_nil))) pa_nil)))
      (pss_one (ps_if (PW.pt (pw_or (pt_cmpR (op_neB (K := K) (P := P) (w := w) hr.units) (pe_call (ok_box_shares (P := P) (w := w) T) (hr.mono (by decide)) (by rfl) T.g_box_shares T.F_box_shares.kp T.b_box_shares .nil pass0 (pa_cons (pv 10) pa_nil)) (pe_dnewB (P := P) (w := w)) (nomark _)) (pw_or1 (pt_cmpR (op_neK K hr.units) (pe_fld (pv 10) rfl) (pe_op (op_repU (K := K)) (pe_tup (pa_cons (pv 11) pa_nil)) (pe_callB (call_lenK K) (by rfl) T.z_len PySem.boot_len (pa_cons (pv 7) pa_nil))) (nomark _))))) (pss_one (ps_ret pe_bl)) pss_nil))))))))))))))))))))
      (pss_one (ps_ret pe_bl)))), ?_⟩
    refine ⟨_, rfl, a, ns, rfl, hS, by omega, fun h c H1 nh s1 hx => ?_⟩
    dsimp only [gName]
    refine ⟨3, rfl, by decide, by decide, for_range (lo := 0) (n := 3) (fun i σ H' => ∃ y2 y3 y4 y5 y6 y7 y8 y9 y10 y11 y12 y13 : Option V, σ = st14 a h y2 y3 y4 y5 y6 y7 y8 y9 y10 y11 y12 y13 ∧ HandOk H' h c)
      ⟨none, none, none, none, none, none, none, none, none, none, none, none, rfl, hx⟩ ?_ ?_⟩
    rotate_left
    · rintro σ H' ⟨y2, y3, y4, y5, y6, y7, y8, y9, y10, y11, y12, y13, rfl, hx⟩
      exact q H'
    · clear hx hS nh s1 H1
      rintro i σ H' hi ⟨y2, y3, y4, y5, y6, y7, y8, y9, y10, y11, y12, y13, rfl, hx⟩
      refine ⟨_, rfl, h, c, rfl, hx, fun sz ss H2 k2 ok hsz => ?_⟩
      obtain ⟨az, rfl, haz⟩ := ct_inv hsz
      obtain ⟨l1, h5, _⟩ := ok.facts
      have l1024 := (allC_all ok).1
      refine ⟨_, rfl, _, rfl, h, c, az, ss, rfl, k2.hand, haz, ok, fun f H4 B L ks ms k4 nfh keys most hkm sh hll => ?_⟩
      obtain ⟨g, sg⟩ := sh.fn
      have ct := sh.ct
      have bok := sg.boxok keys ct
      have B0 : 0 < B := by have := most.1; omega
      have haz4 := (Keep.ext k2.hand k4).sqT haz
      have hx4 := k4.hand
      have hf4 := sh.dict
      clear k4 sh haz hsz k2 hx
      refine ⟨_, rfl, f, L, rfl, .inl hf4, sg.box, hash_apart ok sg.nd bok, by omega, fun hd nhd => ?_⟩
      have s45 : Same H4 (upd H4 hd (DBO P w hd L)) := same_new nhd
      have hhd5 : (upd H4 hd (DBO P w hd L)) hd = some (DBO P w hd L) := upd_same
      generalize upd H4 hd (DBO P w hd L) = H5 at s45 hhd5 ⊢
      have hdf : hd ≠ f := fun e => by
        rw [e, hf4] at nhd
        cases nhd
      refine ⟨_, rfl, _, rfl, az, hd, ss, B, L, g, ks, ms, rfl, (Ext.of s45).sqT haz4, ok, hhd5, sg.ext (.of s45), keys, most, hkm, ct, fun x ds H6 s56 hb rows rds hwf => ?_⟩
      have s46 := s45.trans s56
      have sg6 := sg.ext (.of s46)
      refine ⟨_, rfl, _, rfl, hd, f, L, L, rfl, rfl, .inl (s56 _ _ hhd5), .inl (s46 _ _ hf4), sg6.box, sg6.box, sg6.self, _, rfl, iteF ?_⟩
      have hhd6 := s56 _ _ hhd5
      refine ⟨_, rfl, hd, L, rfl, hhd6, by omega, ?_⟩
      have s47 : Same H4 (upd H6 hd (DBO P w hd [])) := fun b o e => by
        rw [upd_ne (ne_of_none e nhd)]
        exact s46 _ _ e
      have hb7 : Hb K T.c_Habit (upd H6 hd (DBO P w hd [])) x ss ds := hb.move rows (fun z => sqT_put hhd6 z) fun dx fs e => by
        rw [upd_ne (ne_of e hhd6 fun z => by cases z)]
        exact e
      clear hb sg6 s46 s56 hhd5 hhd6 s45
      generalize upd H6 hd (DBO P w hd []) = H7 at s47 hb7 ⊢
      clear H6 H5 nhd hdf
      dsimp only [tNext, tSeq, tAsg, gName, List.set_cons_succ, List.set_cons_zero]
      have hf7 := s47 _ _ hf4
      have sg7 := sg.ext (.of s47)
      refine ⟨f, _, hf7, True.intro, fun od => ?_⟩
      have haz8 := box_frz (od := od) hf7 ((Ext.of s47).sqT haz4)
      have sg8 : ShG K B (upd H7 f (.frz od (DBO P w f L))) L ks ms g := ⟨fun p hp => by
          obtain ⟨pa, wa, b1, b2, b3⟩ := sg7.box p hp
          exact ⟨pa, wa, box_frz hf7 b1, box_frz hf7 b2, box_frz hf7 b3⟩, sg7.nd, fun p hp => by
          obtain ⟨va, v1, v2⟩ := sg7.val p hp
          exact ⟨va, v1, box_frz hf7 v2⟩, sg7.bd, sg7.off⟩
      have hf8 : (upd H7 f (.frz od (DBO P w f L))) f = some (.frz od (DBO P w f L)) := upd_same
      have un : ∀ H', Same (upd H7 f (.frz od (DBO P w f L))) H' → Same H7 (upd H' f (DBO P w f L)) := fun H' s => unlock_same hf7 s
      generalize upd H7 f (.frz od (DBO P w f L)) = H8 at haz8 sg8 hf8 un ⊢
      refine ⟨_, rfl, az, ss, rfl, haz8, ok, fun cp cs H9 ncp s89 hcp hcs => ⟨cp, rfl, ⟨cs, SqL.of hcp⟩, fun D nD => ?_⟩⟩
      have ct9 := cts_of hcp hcs
      have hcl : cs.length = (allC ss).length := by rw [hcs.length, List.length_map]
      refine lc_list (K := K) (xs := cs) (fun j H' => ∃ acc, Same H9 H' ∧ H' D = some (.lst acc) ∧ acc.length = j ∧ ∀ (k : Nat) v cc, acc[k]? = some v → (allC ss)[k]? = some cc → RofV K H' ss.length B g ks cc v)
          ⟨[], same_new nD, upd_same, rfl, fun k v cc z => by simp at z⟩ (fun j H' _ ⟨_, s', _⟩ => SqL.of (s' _ _ ct9.lst)) ?_ ?_
      · rintro j v0 H6 hxj ⟨acc, s6, hD, hal, hac⟩
        obtain ⟨cc, cb, hcc, rfl, hcb⟩ := (ct9.go s6).at' j v0 hxj
        have hjl := (List.getElem?_eq_some_iff.mp hxj).1
        have s86 := s89.trans s6
        refine ⟨rfl, ?_⟩
        dsimp only [tYes]
        rw [if_pos rfl]
        refine ⟨_, rfl, _, rfl, _, rfl, az, f, _, ss, cc, od, B, L, ks, ms, g, rfl, (Ext.of s86).sqT haz8, ok, s86 _ _ hf8, sg8.ext (.of s86), keys, most, hkm, dh_ct hcb, (mem_allC.mp (List.mem_of_getElem? hcc)).len, fun v H5 s5 hv => ?_⟩
        have hD7 := s5 _ _ hD
        have ep := Ext.put (ys := acc ++ [v]) hD7
        refine ⟨acc, hD7, sz_small (by omega), acc ++ [v], Same.put nD (s6.trans s5), upd_same, by rw [List.length_append, hal]; rfl, fun k v' c' hk hc' => ?_⟩
        rcases Nat.lt_or_ge k acc.length with u | u
        · rw [List.getElem?_append_left u] at hk
          exact (hac k v' c' hk hc').ext ((Ext.of s5).trans ep)
        · rw [List.getElem?_append_right u] at hk
          have ek : k = j := by
            have := (List.getElem?_eq_some_iff.mp hk).1
            have : ([v]).length = 1 := rfl
            omega
          subst ek
          rw [show k - acc.length = 0 by omega] at hk
          have ev : v = v' := Option.some.inj hk
          subst ev
          rw [hcc] at hc'
          cases hc'
          exact hv.ext ep
      · rintro H6 ⟨acc, s6, hD, hal, hac⟩
        have s86 := s89.trans s6
        have hf6 := s86 _ _ hf8
        have nDf : D ≠ f := fun e => by
          rw [e, hf6] at hD
          cases hD
        have mv : ∀ {b : Addr} {ys : List V}, SqT K H6 b ys → SqT K (upd H6 f (DBO P w f L)) b ys := fun z => sqT_frz hf6 z
        have mf : ∀ {t : Addr} {o : Obj} {ys : List V}, H6 t = some (.frz o (.tup ys)) → (upd H6 f (DBO P w f L)) t = some (.frz o (.tup ys)) := fun {t o ys} z => by
          rw [upd_ne (ne_of z hf6 fun e => by cases e)]
          exact z
        have s77 := un _ s86
        have hD7 : (upd H6 f (DBO P w f L)) D = some (.lst acc) := by
          rw [upd_ne nDf]
          exact hD
        have hac7 : ∀ (k : Nat) v cc, acc[k]? = some v → (allC ss)[k]? = some cc → RofV K (upd H6 f (DBO P w f L)) ss.length B g ks cc v := fun k v cc hk hc => (hac k v cc hk hc).move mv mf
        refine ⟨hf6, D, acc, rfl, .inl ⟨SqL.of hD7, fun ra nra => ?_⟩⟩
        clear mv mf hD7 hac sg8 haz8 hf8 un ct9 hcs hcp ncp
        generalize upd H6 f (DBO P w f L) = H9 at s77 hac7 nra ⊢
        have s10 : Same H9 (upd H9 ra (.tup acc)) := same_new nra
        have hra : (upd H9 ra (.tup acc)) ra = some (.tup acc) := upd_same
        generalize upd H9 ra (.tup acc) = H10 at s10 hra ⊢
        have s710 := s77.trans s10
        have hac10 : ∀ (k : Nat) v cc, acc[k]? = some v → (allC ss)[k]? = some cc → RofV K H10 ss.length B g ks cc v := fun k v cc hk hc => (hac7 k v cc hk hc).ext (.of s10)
        have hal2 : acc.length = (allC ss).length := by omega
        obtain ⟨es, hre, hwe, rowse, rdse⟩ := rof_data hal2 hac10
        have ee : es = ds := RDs.one rowse rows rdse rds
        subst ee
        have s410 := s47.trans s710
        have hb10 := hb7.ext (.of s710)
        have sg10 := sg.ext (.of s410)
        have haz10 := (Ext.of s410).sqT haz4
        have hx10 := hx4.same s410
        have hf10 := s410 _ _ hf4
        have oc := sg.occ ct
        clear hac10 hac7 s10 s77 nra nDf hf6 s86 hD s6 nD hf7 sg7 s47 hb7 s410 s710 rowse rdse hx4 hf4 haz4 sg s89 H9 H8 H7 H4 H6
        have nf : PySem.W.notFirst K T.c_Habit (.ref T.c_Habit) = true := by
          unfold PySem.W.notFirst
          rw [show (Value.ref T.c_Habit == Value.ref T.c_Habit) = true from beq_self_eq_true _]
          rfl
        obtain ⟨dx, u1, u2, hxi, g1, g2⟩ := hb10.ex
        refine ⟨_, rfl, x, _, dx, _, _, rfl, hxi, T.l_Habit, T.a_rows, rfl, _, rfl, rowsP es, rowsP es, dp_rows g2 rows.row, dp_rows (Dh.tup (SqT.of hra) hre) rows.row, shaped_rows _, shaped_rows _, ?_⟩
        rw [eqv_rows, decide_eq_true rfl]
        refine ⟨_, rfl, iteF ?_⟩
        refine ⟨_, rfl, x, _, dx, _, _, rfl, hxi, T.l_Habit, T.a_sizes, rfl, _, rfl, ctP ss, ctP ss, dp_ct g1, dp_ct (dh_ct haz10), shaped_ct _, shaped_ct _, ?_⟩
        rw [eqv_ct, decide_eq_true rfl]
        refine ⟨_, rfl, iteF ?_⟩
        refine ⟨_, rfl, _, rfl, _, rfl, fun x3 dx3 nx3 ndx3 ne3 => ?_⟩
        refine hab_made T (.inr nx3) nx3 ndx3 haz10 ok (SqT.of hra) hre hwe rows fun H11 s11 hb11 => ?_
        obtain ⟨dx4, w1, w2, hx3, _⟩ := hb11.ex
        refine ⟨x, dx, _, _, rfl, s11 _ _ hxi, .ins hx3, nf, x, _, ss, es, rfl, hb10.ext (.of s11), rows, .inl ⟨x3, es, rfl, hb11, rows, fun H12 s12 => ⟨_, rfl, _, rfl, ?_⟩⟩⟩
        rw [decide_eq_true rfl]
        refine iteF ?_
        have s1012 := s11.trans s12
        clear hb11 hx3 nx3 ndx3 ne3
        dsimp only [tNext, tSeq, tAsg, gName, List.set_cons_succ, List.set_cons_zero]
        refine ⟨_, rfl, x, ss, es, rfl, hb10.ext (.of s1012), ok, rows, fun b H13 r qs s13 so up eb => ?_⟩
        have hshare : ∀ (i : Nat) c d, (allC ss)[i]? = some c → es[i]? = some d → ∀ q : List Int, q.length < ss.length → shareIn d.dues q = lowZ (g (q, picks q c)) B := fun i c d hc hd => (rds i c d hc hd).1
        have er := fair_rows rows so hshare up
        subst er
        have eb : b = true := eb
        subst eb
        refine ⟨true, true, rfl, rfl, _, rfl, ?_⟩
        rw [decide_eq_true rfl]
        refine iteF ?_
        have s1013 := s1012.trans s13
        refine ⟨_, rfl, x, ss, es, rfl, hb10.ext (.of s1013), ok, rows, fun v H14 r2 qs2 s14 so2 up2 uv => ?_⟩
        have er2 := fair_rows rows so2 hshare up2
        subst er2
        have e1 : v = .non := uv
        subst e1
        refine ⟨rfl, _, rfl, ?_⟩
        rw [decide_eq_true rfl]
        refine iteF ?_
        have s1014 := s1013.trans s14
        dsimp only [tNext, tSeq, tAsg, gName, List.set_cons_succ, List.set_cons_zero]
        have hb14 := hb10.ext (.of s1014)
        have sg14 := sg10.ext (.of s1014)
        have haz14 := (Ext.of s1014).sqT haz10
        have hx14 := hx10.same s1014
        have hf14 := s1014 _ _ hf10
        have hra14 := s1014 _ _ hra
        have hre14 := hre.ext (.of s1014)
        clear so up so2 up2 eb uv hb10 sg10 haz10 hx10 hf10 hra hre s1014 s14 s13 s1013 s1012 s12 s11 g1 g2 hxi
        refine ⟨f, _, hf14, True.intro, fun od2 => ?_⟩
        have sg15 : ShG K B (upd H14 f (.frz od2 (DBO P w f L))) L ks ms g := ⟨fun p hp => by
          obtain ⟨pa, wa, b1, b2, b3⟩ := sg14.box p hp
          exact ⟨pa, wa, box_frz hf14 b1, box_frz hf14 b2, box_frz hf14 b3⟩, sg14.nd, fun p hp => by
          obtain ⟨va, v1, v2⟩ := sg14.val p hp
          exact ⟨va, v1, box_frz hf14 v2⟩, sg14.bd, sg14.off⟩
        have hf15 : (upd H14 f (.frz od2 (DBO P w f L))) f = some (.frz od2 (DBO P w f L)) := upd_same
        have un : ∀ H', Same (upd H14 f (.frz od2 (DBO P w f L))) H' → Same H14 (upd H' f (DBO P w f L)) := fun H' s => unlock_same hf14 s
        generalize upd H14 f (.frz od2 (DBO P w f L)) = H15 at sg15 hf15 un ⊢
        refine ⟨_, rfl, f, od2, L, rfl, hf15, fun D nD => ?_⟩
        refine lc_keysB (fun j H' => ∃ M : PrB, Same H15 H' ∧ H' D = some (.lst (M.map fun m => V.ref m.1)) ∧ M.map (·.2) = posB g (L.take j) ∧ ∀ m ∈ M, SqT K H' m.1 [.ref m.2.1, m.2.2.2])
          ⟨[], same_new nD, upd_same, rfl, fun m hm => by cases hm⟩ (fun j H' ⟨_, s', _⟩ => s' _ _ hf15) ?_ ?_
        · rintro j e H6 he ⟨M, s6, hD, hM, hM2⟩
          have hem := List.mem_of_getElem? he
          have sg6 := sg15.ext (.of s6)
          obtain ⟨va, hva, hsv⟩ := sg6.val e hem
          have fb := findB_some sg6.nd hem
          have g0 := sg6.nn e.2.1
          have hjl := (List.getElem?_eq_some_iff.mp he).1
          have hMl : M.length ≤ L.length := by
            have z := congrArg List.length hM
            rw [List.length_map] at z
            have := List.length_filter_le (fun e : Addr × (List Int × List Int) × V => decide (0 < g e.2.1)) (L.take j)
            have := List.length_take (i := j) (l := L)
            unfold posB at z
            omega
          refine ⟨rfl, ?_⟩
          refine ⟨_, rfl, _, rfl, f, e.1, e.2.1, L, e.2.2, rfl, rfl, .inr ⟨od2, s6 _ _ hf15⟩, sg6.box, sg6.box e hem, fb, va, _, 0, _, hva, rfl, hsv, atI_nat (j := 0) rfl, _, _, rfl, rfl, _, rfl, ?_⟩
          by_cases e2 : 0 < g e.2.1
          · rw [decide_eq_true ((low_sgn (by omega) g0).mpr e2)]
            dsimp only
            rw [if_pos rfl]
            refine ⟨_, rfl, _, rfl, _, rfl, f, e.1, e.2.1, L, e.2.2, rfl, rfl, .inr ⟨od2, s6 _ _ hf15⟩, sg6.box, sg6.box e hem, fb, by show 2 ≤ sizeLine; decide, fun t nt => ?_⟩
            have st := same_new (o := HO.tup [V.ref e.1, e.2.2]) nt
            have ht : (upd H6 t (.tup [V.ref e.1, e.2.2])) t = some (.tup [V.ref e.1, e.2.2]) := upd_same
            generalize upd H6 t (.tup [V.ref e.1, e.2.2]) = H7 at st ht ⊢
            have hD7 := st _ _ hD
            have ep := Ext.put (ys := M.map (fun m => V.ref m.1) ++ [.ref t]) hD7
            refine ⟨_, hD7, sz_small (by rw [List.length_map]; omega), M ++ [(t, e)], Same.put nD (s6.trans st), ?_, ?_, fun m hm => ?_⟩
            · rw [List.map_append]
              exact upd_same
            · rw [List.map_append, hM, posB_take he, if_pos e2]
              rfl
            · rcases List.mem_append.mp hm with u | u
              · exact ep.sqT ((Ext.of st).sqT (hM2 m u))
              · rw [List.mem_singleton.mp u]
                exact ep.sqT (SqT.of ht)
          · rw [decide_eq_false (fun z => e2 ((low_sgn (by omega) g0).mp z))]
            dsimp only
            rw [if_neg (by decide)]
            refine ⟨M, s6, hD, ?_, hM2⟩
            rw [hM, posB_take he, if_neg e2, List.append_nil]
        · rintro H6 ⟨M, s6, hD, hM, hM2⟩
          rw [List.take_of_length_le (Nat.le_refl _)] at hM
          have hf6 := s6 _ _ hf15
          have nDf : D ≠ f := fun e => by
            rw [e, hf6] at hD
            cases hD
          have mv : ∀ {b : Addr} {ys : List V}, SqT K H6 b ys → SqT K (upd H6 f (DBO P w f L)) b ys := fun z => sqT_frz hf6 z
          have s147 := un _ s6
          have hD7 : (upd H6 f (DBO P w f L)) D = some (.lst (M.map fun m => V.ref m.1)) := by
            rw [upd_ne nDf]
            exact hD
          have hM7 : ∀ m ∈ M, SqT K (upd H6 f (DBO P w f L)) m.1 [.ref m.2.1, m.2.2.2] := fun m hm => mv (hM2 m hm)
          refine ⟨hf6, ?_⟩
          clear mv hM2 un hf15 sg15
          generalize upd H6 f (DBO P w f L) = H7 at s147 hD7 hM7 ⊢
          have sg7 := sg14.ext (.of s147)
          have hMl : M.length ≤ L.length := by
            have z := congrArg List.length hM
            rw [List.length_map] at z
            have := List.length_filter_le (fun e : Addr × (List Int × List Int) × V => decide (0 < g e.2.1)) L
            unfold posB at z
            omega
          have inL : ∀ m ∈ M, m.2 ∈ L := fun m hm => (List.mem_filter.mp (show m.2 ∈ posB g L from hM ▸ List.mem_map_of_mem (f := fun m : Addr × Addr × (List Int × List Int) × V => m.2) hm)).1
          have ndM : (M.map fun m => m.2.2.1).Nodup := by
            have z := posB_nd (g := g) sg7.nd
            rw [← hM, List.map_map] at z
            exact z
          refine ⟨D, M, rfl, SqL.of hD7, fun m hm => ⟨hM7 m hm, sg7.box m.2 (inL m hm)⟩, ndM, by omega, fun du ndu => ?_⟩
          rw [hM]
          have s78 : Same H7 (upd H7 du (DBO P w du (posB g L))) := same_new ndu
          have hdu : (upd H7 du (DBO P w du (posB g L))) du = some (DBO P w du (posB g L)) := upd_same
          generalize upd H7 du (DBO P w du (posB g L)) = H8 at s78 hdu ⊢
          have s148 := s147.trans s78
          have fd8 := posB_fnd hdu (sg14.ext (.of s148))
          have mdu := posB_keys sg14
          have pl : (posB g L).length ≤ 4096 := by
            rw [← hM, List.length_map]
            omega
          have hb8 := hb14.ext (.of s148)
          have sg8 := sg14.ext (.of s148)
          have haz8 := (Ext.of s148).sqT haz14
          have hx8 := hx14.same s148
          have hra8 := s148 _ _ hra14
          have hre8 := hre14.ext (.of s148)
          clear s148 s78 hdu ndu ndM inL hMl sg7 hM7 hD7 s147 nDf hf6 hM hD s6 hb14 sg14 haz14 hx14 hf14 hra14 hre14 nD
          dsimp only
          refine ⟨_, rfl, x, ss, es, B, g, ks, rfl, hb8, ok, rows, rds, B0, keys, oc, fun to Lt H9 nto s89 fdt mt ll => ?_⟩
          have fd9 := fd8.go (.of s89) (s89 _ _ fd8.dict)
          have dx9 : ∃ dx v1 v2, H9 x = some (.ins T.c_Habit dx (hfs v1 v2)) := by
            obtain ⟨dx, u1, u2, hxi, _⟩ := (hb8.ext (.of s89)).ex
            exact ⟨dx, u1, u2, hxi⟩
          obtain ⟨dx9, u91, u92, hxi9⟩ := dx9
          refine ⟨_, rfl, _, rfl, to, du, Lt, posB g L, rfl, rfl, .inl fdt.dict, .inl fd9.dict, fdt.box, fd9.box, fdt.eq fd9 mt mdu, _, rfl, iteF ?_⟩
          refine ⟨_, rfl, to, Lt, rfl, .inl fdt.dict, _, rfl, iteF ?_⟩
          refine ⟨_, rfl, _, rfl, fun x4 dx4 nx4 ndx4 ne4 => ?_⟩
          refine hab_made T (.inr nx4) nx4 ndx4 ((Ext.of s89).sqT haz8) ok (SqT.of (s89 _ _ hra8)) (hre8.ext (.of s89)) hwe rows fun H10 s910 hb4 => ?_
          refine ⟨x4, ss, es, B, g, ks, rfl, hb4, ok, rows, rds, B0, keys, oc, fun t2 L2 H11 nt2 s1011 fd2 m2 ll2 => ?_⟩
          have s911 := s910.trans s1011
          have fd11 := fd9.go (.of s911) (s911 _ _ fd9.dict)
          refine ⟨_, rfl, t2, du, L2, posB g L, rfl, rfl, .inl fd2.dict, .inl fd11.dict, fd2.box, fd11.box, fd2.eq fd11 m2 mdu, _, rfl, iteF ?_⟩
          dsimp only [tNext, tSeq, tAsg, gName, List.set_cons_succ, List.set_cons_zero]
          have s811 := s89.trans s911
          have fdt11 := fdt.go (.of s911) (s911 _ _ fdt.dict)
          clear nx4 ndx4 ne4 hb4 fd2 m2 ll2 nt2
          have sgt := fdt11.shg mt sg8
          refine ⟨_, rfl, _, rfl, az, to, ss, B, Lt, g, ks, ms, rfl, (Ext.of s811).sqT haz8, ok, fdt11.dict, sgt, keys, most, hkm, fdt11.ct oc, fun x5 ds5 H12 s1112 hb5 rows5 rds5 hwf5 => ?_⟩
          have e5 : es = ds5 := RDs.one rows rows5 rds rds5
          subst e5
          have s912 := s911.trans s1112
          obtain ⟨dx5, w5, w6, hx5, _⟩ := hb5.ex
          refine ⟨_, rfl, x5, dx5, _, _, rfl, hx5, .ins (s912 _ _ hxi9), nf, x5, _, ss, es, rfl, hb5, rows, .inl ⟨x, es, rfl, hb8.ext (.of (s811.trans s1112)), rows, fun H13 s1213 => ⟨_, rfl, _, rfl, ?_⟩⟩⟩
          rw [decide_eq_true rfl]
          refine iteF ?_
          have s1113 := s1112.trans s1213
          have s913 := s911.trans s1113
          have s813 := s89.trans s913
          have fd13 := fd9.go (.of s913) (s913 _ _ fd9.dict)
          clear hb5 hx5 rows5 rds5 hwf5
          have sgd := fd13.shg mdu sg8
          refine ⟨_, rfl, _, rfl, az, du, ss, B, posB g L, g, ks, ms, rfl, (Ext.of s813).sqT haz8, ok, fd13.dict, sgd, keys, most, hkm, fd13.ct oc, fun x6 ds6 H14 s1314 hb6 rows6 rds6 hwf6 => ?_⟩
          have e6 : es = ds6 := RDs.one rows rows6 rds rds6
          subst e6
          obtain ⟨dx6, w7, w8, hx6, _⟩ := hb6.ex
          refine ⟨_, rfl, x6, dx6, _, _, rfl, hx6, .ins ((s913.trans s1314) _ _ hxi9), nf, x6, _, ss, es, rfl, hb6, rows, .inl ⟨x, es, rfl, hb8.ext (.of (s813.trans s1314)), rows, fun H15 s1415 => ⟨_, rfl, _, rfl, ?_⟩⟩⟩
          rw [decide_eq_true rfl]
          refine iteF ?_
          have s915 := s913.trans (s1314.trans s1415)
          have s815 := s89.trans s915
          have hto15 := s915 _ _ fdt.dict
          clear hb6 hx6 rows6 rds6 hwf6
          dsimp only [tNext, tSeq, tAsg, gName, List.set_cons_succ, List.set_cons_zero]
          refine ⟨_, rfl, to, Lt, rfl, hto15, by omega, ?_⟩
          have s816 : Same H8 (upd H15 to (DBO P w to [])) := fun b o e => by
            rw [upd_ne (ne_of_none e nto)]
            exact s815 _ _ e
          clear hto15 s915 s815 s913 s813 s1314 s1415 s1213 s1113 s1112 s912 s911 s910 s1011 s811 fdt11 sgt fdt sgd fd13 fd11 fd9 s89 hxi9 nto
          generalize upd H15 to (DBO P w to []) = H16 at s816 ⊢
          have fd16 := fd8.go (.of s816) (s816 _ _ fd8.dict)
          dsimp only [tNext, tSeq, tAsg, gName, List.set_cons_succ, List.set_cons_zero]
          refine ⟨_, rfl, x, ss, es, B, g, ks, rfl, hb8.ext (.of s816), ok, rows, rds, B0, keys, oc, fun t3 L3 H17 nt3 s1617 fd3 m3 ll3 => ?_⟩
          have fd17 := fd16.go (.of s1617) (s1617 _ _ fd16.dict)
          refine ⟨_, rfl, t3, du, L3, posB g L, rfl, rfl, .inl fd3.dict, .inl fd17.dict, fd3.box, fd17.box, fd3.eq fd17 m3 mdu, _, rfl, iteF ?_⟩
          have s817 := s816.trans s1617
          have haz17 := (Ext.of s817).sqT haz8
          have hx17 := hx8.same s817
          have hra17 := s817 _ _ hra8
          clear fd3 m3 ll3 nt3 fd17 fd16 s1617 s816 s817 hb8 sg8 fd8 haz8 hx8 hra8 hre8
          dsimp only [tNext, tSeq, tAsg, gName, List.set_cons_succ, List.set_cons_zero]
          -- the habit without shares
          refine ⟨_, rfl, fun z nz => ?_⟩
          have s1718 : Same H17 (upd H17 z (DBO P w z [])) := same_new nz
          have hz18 : (upd H17 z (DBO P w z [])) z = some (DBO P w z []) := upd_same
          generalize upd H17 z (DBO P w z []) = H18 at s1718 hz18 ⊢
          refine ⟨az, z, ss, 1, [], fun _ => 0, [], [], rfl, (Ext.of s1718).sqT haz17, ok, hz18, shG_none, keys_none, most_none, rfl, (fun e he => by cases he), fun xw dw H19 s1819 hbw roww rdw hwfw => ?_⟩
          have s1719 := s1718.trans s1819
          have haz19 := (Ext.of s1719).sqT haz17
          have hra19 := s1719 _ _ hra17
          have hx19 := hx17.same s1719
          clear hz18 s1819 s1718 s1719 haz17 hra17 hx17 nz
          have edw := rows_alone roww rdw
          subst edw
          refine ⟨_, rfl, az, _, rfl, .inr haz19, ss.length, by rw [List.length_map], RgOk.of_le (by omega) (by omega) (by omega) (by omega), fun p1 n1 => ?_⟩
          rw [rgV_I]
          have s1 : Same H19 (upd H19 p1 (.tup ((rgI ss.length).map V.int))) := same_new n1
          have f1 : (upd H19 p1 (.tup ((rgI ss.length).map V.int))) p1 = some (.tup ((rgI ss.length).map V.int)) := upd_same
          generalize upd H19 p1 (.tup ((rgI ss.length).map V.int)) = G1 at s1 f1 ⊢
          refine ⟨by show 2 ≤ sizeLine; decide, fun p2 n2 => ⟨by show 2 ≤ sizeLine; decide, fun p3 n3 => ⟨by show 1 ≤ sizeLine; decide, fun p4 n4 => ?_⟩⟩⟩
          have s2 : Same G1 (upd G1 p2 (.tup [.int 1, .int 1])) := same_new n2
          have f2 : (upd G1 p2 (.tup [.int 1, .int 1])) p2 = some (.tup [.int 1, .int 1]) := upd_same
          generalize upd G1 p2 (.tup [.int 1, .int 1]) = G2 at s2 f2 n3 n4 ⊢
          have s3 : Same G2 (upd G2 p3 (.tup [.ref p1, .ref p2])) := same_new n3
          have f3 : (upd G2 p3 (.tup [.ref p1, .ref p2])) p3 = some (.tup [.ref p1, .ref p2]) := upd_same
          generalize upd G2 p3 (.tup [.ref p1, .ref p2]) = G3 at s3 f3 n4 ⊢
          have s4 : Same G3 (upd G3 p4 (.tup [.ref p3])) := same_new n4
          have f4 : (upd G3 p4 (.tup [.ref p3])) p4 = some (.tup [.ref p3]) := upd_same
          generalize upd G3 p4 (.tup [.ref p3]) = G at s4 f4 ⊢
          have s14 := (s2.trans s3).trans s4
          have hd0 : Dh K G (.ref p4) (oneR ss.length) := .tup (SqT.of f4) (.cons (.tup (SqT.of (s4 _ _ f3)) (.cons (dh_ct (SqT.of (s14 _ _ f1))) (.cons (by rw [low_one (by decide)]; exact dh_ct (c := [1, 1]) (SqT.of ((s3.trans s4) _ _ f2))) .nil))) .nil)
          have sG := s1.trans s14
          have hbG := hbw.ext (.of sG)
          have hraG := sG _ _ hra19
          have hxG := hx19.same sG
          clear s1 s2 s3 s4 s14 sG f1 f2 f3 f4 n1 n2 n3 n4 hbw haz19 hra19 hx19
          dsimp only [tNext, tSeq, tAsg, gName, List.set_cons_succ, List.set_cons_zero]
          refine ⟨_, rfl, xw, ss, _, 1, fun _ => 0, [], rfl, hbG, ok, roww, rdw, by decide, keys_none, occ_none, fun t4 L4 H20 nt4 sG20 fd4 m4 ll4 => ?_⟩
          have e4 : L4 = [] := List.eq_nil_iff_forall_not_mem.mpr fun e he => absurd (fd4.val e he).1 (Int.lt_irrefl 0)
          subst e4
          intro z2 nz2
          have s21 : Same H20 (upd H20 z2 (DBO P w z2 [])) := same_new nz2
          refine ⟨t4, z2, [], [], rfl, rfl, .inl (s21 _ _ fd4.dict), .inl upd_same, (fun p hp => by cases hp), (fun p hp => by cases hp), ⟨rfl, fun p hp => by cases hp⟩, _, rfl, iteF ?_⟩
          generalize upd H20 z2 (DBO P w z2 []) = H21 at s21 ⊢
          have sG21 := sG20.trans s21
          obtain ⟨dxw, v1, v2, hxw, gg1, gg2⟩ := (hbG.ext (.of sG21)).ex
          refine ⟨_, rfl, xw, _, dxw, _, _, rfl, hxw, T.l_Habit, T.a_rows, rfl, ?_⟩
          refine rep_u (v := .ref p4) (ra := ra) (acc := acc) rfl rfl (SqT.of (sG21 _ _ hraG)) (by have := allC_pos ok; omega) (by have := allC_256 ok; omega) fun p7 H22 s22 hp7 => ?_
          have hrow := dhAll_rep (hd0.ext (.of (sG21.trans s22))) acc.length
          refine ⟨rowsP _, rowsP _, dp_rows (gg2.ext (.of s22)) roww.row, dp_rows (Dh.tup hp7 hrow) (by rw [hal2]; exact roww.row), shaped_rows _, shaped_rows _, ?_⟩
          rw [eqv_rows, hal2, decide_eq_true rfl]
          refine ⟨_, rfl, iteF ?_⟩
          exact ⟨_, _, _, _, _, _, _, _, _, _, _, _, rfl, hxG.same (sG21.trans s22)⟩

end
end Fm
namespace Fm
open PySem PySem.Spec PyProof.Rows L2
section
variable {P : Program} {w : World} {K : PySem.W.Frag} {mg : Str → Option Value} {base : Heap}

/-! ### isinstance and except among the classes of the text -/
theorem kit_own {K : PySem.W.Frag} {D C : Addr} {b : Bool} (hne : D ≠ C) (hdct : PySem.W.hasDictIn K C = true) (ht : PySem.W.typeIn K (.ref C) = some (.type "type")) (h : PySem.W.subIn K (.ref D) (.ref C) = some b) : PySem.W.kitOne K (.ref D) (.ref C) = some b := by
  obtain ⟨cd, hc, _⟩ := PySem.W.any_some hdct
  unfold PySem.W.kitOne
  rw [if_neg fun e => hne (Value.ref.inj (beq_iff_eq.mp e))]
  have e2 : ((PySem.W.clsIn K C).isSome && PySem.W.typeIn K (.ref C) == some (.type "type")) = true := by rw [hc, ht] <;> rfl
  show (if ((PySem.W.clsIn K C).isSome && PySem.W.typeIn K (.ref C) == some (.type "type")) = true then PySem.W.subIn K (.ref D) (.ref C) else none) = some b
  rw [if_pos e2]
  exact h
theorem kit_typ {K : PySem.W.Frag} {C : Addr} {T : String} {b : Bool} (hm : PySem.W.kitMeta T = true) (h : PySem.W.subIn K (.ref C) (.type T) = some b) : PySem.W.kitOne K (.ref C) (.type T) = some b := by
  unfold PySem.W.kitOne
  rw [if_neg fun e => by cases (beq_iff_eq.mp e)]
  show (if PySem.W.kitMeta T = true then PySem.W.subIn K (.ref C) (.type T) else none) = some b
  rw [if_pos hm]
  exact h
theorem oexC_mk {K : PySem.W.Frag} {C N : Addr} {nm q : Str} {bs bm sub : List Value} {sn : List Str} {ab : Bool} {col : Option Bool} {dd : Option Addr} {k0 k1 k2 k3 k5 : Option Value} (l : K.lookup C = some (excClassObj nm q C N bs bm true sn sub ab col dd k0 k1 k2 k3 k5 "ValueError.__new__"))
    (r : PySem.HandSPX.refsVE bm = true) (sa : PySem.W.findIn K (.ref C) "__setattr__" = some (some (.builtin "object.__setattr__"))) (ex : PySem.W.subIn K (.ref C) (.type "BaseException") = some true) (ty : PySem.W.typeIn K (.ref C) = some (.type "type")) (kC : PySem.W.keepIn K (.ref C) = true) : OexC K C :=
  ⟨⟨nm, q, N, bs, bm, sn, sub, ab, col, dd, k0, k1, k2, k3, k5, l, r⟩, sa, ex, ty, kC⟩
theorem sqK_mk {K : PySem.W.Frag} {a : Addr} {o : Obj} {xs : List V} (l : K.lookup a = some o) (h : ∃ its n, o.cls = .type "tuple" ∧ o.data = .seq its n ∧ its.size ≤ sizeLine ∧ Vals xs its.toList) (H : Hp) : SqT K H a xs := by
  obtain ⟨its, n, h1, h2, h3, h4⟩ := h
  exact .inr ⟨o, its, n, l, h1, h2, h3, h4⟩
theorem kit_base {K : PySem.W.Frag} {C : Addr} {T : String} {b : Bool} (hdct : PySem.W.hasDictIn K C = true) (ht : PySem.W.typeIn K (.ref C) = some (.type "type")) (h : PySem.W.subIn K (.type T) (.ref C) = some b) : PySem.W.kitOne K (.type T) (.ref C) = some b := by
  obtain ⟨cd, hc, _⟩ := PySem.W.any_some hdct
  unfold PySem.W.kitOne
  rw [if_neg fun e => by cases (beq_iff_eq.mp e)]
  have e2 : ((PySem.W.clsIn K C).isSome && PySem.W.typeIn K (.ref C) == some (.type "type")) = true := by rw [hc, ht] <;> rfl
  show (if ((PySem.W.clsIn K C).isSome && PySem.W.typeIn K (.ref C) == some (.type "type")) = true then PySem.W.subIn K (.type T) (.ref C) else none) = some b
  rw [if_pos e2]
  exact h

/-! ### what the top has left, the head -/
theorem all_mk {l : PySem.W.OpenLaw} {w : World} {K : PySem.W.Frag} {h : Heap} {mg : Str → Option Value} {fa f1 f2 f3 f4 f5 f6 f7 f8 f9 f10 f11 f12 f13 f14 f15 f16 f17 f18 f19 f20 f21 f22 f23 f24 f25 f26 f27 f28 f29 f30 f31 f32 f33 f34 f35 f36 f37 f38 f39 f40 f41 c_BadHabit c_Habit c_MaskError v_ZERO v_ONE : Addr} (X : K.In h) (G : h.Ns mainGlobals mg) (hfa : mg "law" = some (.ref fa))
    {od1 an1 od2 an2 od3 an3 od4 an4 od5 an5 od6 an6 od7 an7 od8 an8 od9 an9 od10 an10 od11 an11 od12 an12 od13 an13 od14 an14 od15 an15 od16 an16 od17 an17 od18 an18 od19 an19 od20 an20 od21 an21 od22 an22 od23 an23 od24 an24 od25 an25 od26 an26 od27 an27 od28 an28 od29 an29 od30 an30 od31 an31 od32 an32 od33 an33 od34 an34 od35 an35 od36 an36 od37 an37 od38 an38 od39 an39 od40 an40 od41 an41 : Option Addr} {sl1 sl2 sl3 sl4 sl5 sl6 sl7 sl8 sl9 sl10 sl11 sl12 sl13 sl14 sl15 sl16 sl17 sl18 sl19 sl20 sl21 sl22 sl23 sl24 sl25 sl26 sl27 sl28 sl29 sl30 sl31 sl32 sl33 sl34 sl35 sl36 sl37 sl38 sl39 sl40 sl41 : Array (Option Value)} {oc1 kV1 dc1 pm1 cd1 ct1 oc2 kV2 dc2 pm2 cd2 ct2 oc3 kV3 dc3 pm3 cd3 ct3 oc4 kV4 dc4 pm4 cd4 ct4 oc5 kV5 dc5 pm5 cd5 ct5 oc6 kV6 dc6 pm6 cd6 ct6 oc7 kV7 dc7 pm7 cd7 ct7 oc8 kV8 dc8 pm8 cd8 ct8 oc9 kV9 dc9 pm9 cd9 ct9 oc10 kV10 dc10 pm10 cd10 ct10 oc11 kV11 dc11 pm11 cd11 ct11 oc12 kV12 dc12 pm12 cd12 ct12 oc13 kV13 dc13 pm13 cd13 ct13 oc14 kV14 dc14 pm14 cd14 ct14 oc15 kV15 dc15 pm15 cd15 ct15 oc16 kV16 dc16 pm16 cd16 ct16 oc17 kV17 dc17 pm17 cd17 ct17 oc18 kV18 dc18 pm18 cd18 ct18 oc19 kV19 dc19 pm19 cd19 ct19 oc20 kV20 dc20 pm20 cd20 ct20 oc21 kV21 dc21 pm21 cd21 ct21 oc22 kV22 dc22 pm22 cd22 ct22 oc23 kV23 dc23 pm23 cd23 ct23 oc24 kV24 dc24 pm24 cd24 ct24 oc25 kV25 dc25 pm25 cd25 ct25 oc26 kV26 dc26 pm26 cd26 ct26 oc27 kV27 dc27 pm27 cd27 ct27 oc28 kV28 dc28 pm28 cd28 ct28 oc29 kV29 dc29 pm29 cd29 ct29 oc30 kV30 dc30 pm30 cd30 ct30 oc31 kV31 dc31 pm31 cd31 ct31 oc32 kV32 dc32 pm32 cd32 ct32 oc33 kV33 dc33 pm33 cd33 ct33 oc34 kV34 dc34 pm34 cd34 ct34 oc35 kV35 dc35 pm35 cd35 ct35 oc36 kV36 dc36 pm36 cd36 ct36 oc37 kV37 dc37 pm37 cd37 ct37 oc38 kV38 dc38 pm38 cd38 ct38 oc39 kV39 dc39 pm39 cd39 ct39 oc40 kV40 dc40 pm40 cd40 ct40 oc41 kV41 dc41 pm41 cd41 ct41 m_MaskError : Value} {t1 t2 t3 t4 : _}
    (n_BadHabit : PySem.W.nsIn K mainGlobals "BadHabit" = some (some (.ref c_BadHabit)))
    (n_Habit : PySem.W.nsIn K mainGlobals "Habit" = some (some (.ref c_Habit)))
    (n_MaskError : PySem.W.nsIn K mainGlobals "MaskError" = some (some (.ref c_MaskError)))
    (w_gcd : PySem.W.nsIn K mainGlobals "gcd" = some (some (.builtin "math.gcd")))
    (n_ZERO : PySem.W.nsIn K mainGlobals "ZERO" = some (some (.ref v_ZERO)))
    (n_ONE : PySem.W.nsIn K mainGlobals "ONE" = some (some (.ref v_ONE)))
    (a1 : PySem.W.nsIn K mainGlobals "is_whole" = some (some (.ref f1))) (l1 : K.lookup f1 = some ⟨oc1, od1, .func (PySem.W.fnOf "is_whole" "is_whole" (defArgs s_is_whole) (defBody s_is_whole) (defScope s_is_whole) .none kV1 dc1 pm1 an1 cd1 ct1), sl1⟩) (c1 : PySem.W.codeIn K cd1 "is_whole" = true) (k1 : PySem.W.keepIn K (.ref f1) = true)
    (a2 : PySem.W.nsIn K mainGlobals "is_pair" = some (some (.ref f2))) (l2 : K.lookup f2 = some ⟨oc2, od2, .func (PySem.W.fnOf "is_pair" "is_pair" (defArgs s_is_pair) (defBody s_is_pair) (defScope s_is_pair) .none kV2 dc2 pm2 an2 cd2 ct2), sl2⟩) (c2 : PySem.W.codeIn K cd2 "is_pair" = true) (k2 : PySem.W.keepIn K (.ref f2) = true)
    (a3 : PySem.W.nsIn K mainGlobals "is_fraction" = some (some (.ref f3))) (l3 : K.lookup f3 = some ⟨oc3, od3, .func (PySem.W.fnOf "is_fraction" "is_fraction" (defArgs s_is_fraction) (defBody s_is_fraction) (defScope s_is_fraction) .none kV3 dc3 pm3 an3 cd3 ct3), sl3⟩) (c3 : PySem.W.codeIn K cd3 "is_fraction" = true) (k3 : PySem.W.keepIn K (.ref f3) = true)
    (a4 : PySem.W.nsIn K mainGlobals "is_share" = some (some (.ref f4))) (l4 : K.lookup f4 = some ⟨oc4, od4, .func (PySem.W.fnOf "is_share" "is_share" (defArgs s_is_share) (defBody s_is_share) (defScope s_is_share) .none kV4 dc4 pm4 an4 cd4 ct4), sl4⟩) (c4 : PySem.W.codeIn K cd4 "is_share" = true) (k4 : PySem.W.keepIn K (.ref f4) = true)
    (a5 : PySem.W.nsIn K mainGlobals "fraction" = some (some (.ref f5))) (l5 : K.lookup f5 = some ⟨oc5, od5, .func (PySem.W.fnOf "fraction" "fraction" (defArgs s_fraction) (defBody s_fraction) (defScope s_fraction) .none kV5 dc5 pm5 an5 cd5 ct5), sl5⟩) (c5 : PySem.W.codeIn K cd5 "fraction" = true) (k5 : PySem.W.keepIn K (.ref f5) = true)
    (a6 : PySem.W.nsIn K mainGlobals "plus" = some (some (.ref f6))) (l6 : K.lookup f6 = some ⟨oc6, od6, .func (PySem.W.fnOf "plus" "plus" (defArgs s_plus) (defBody s_plus) (defScope s_plus) .none kV6 dc6 pm6 an6 cd6 ct6), sl6⟩) (c6 : PySem.W.codeIn K cd6 "plus" = true) (k6 : PySem.W.keepIn K (.ref f6) = true)
    (a7 : PySem.W.nsIn K mainGlobals "minus" = some (some (.ref f7))) (l7 : K.lookup f7 = some ⟨oc7, od7, .func (PySem.W.fnOf "minus" "minus" (defArgs s_minus) (defBody s_minus) (defScope s_minus) .none kV7 dc7 pm7 an7 cd7 ct7), sl7⟩) (c7 : PySem.W.codeIn K cd7 "minus" = true) (k7 : PySem.W.keepIn K (.ref f7) = true)
    (a8 : PySem.W.nsIn K mainGlobals "below" = some (some (.ref f8))) (l8 : K.lookup f8 = some ⟨oc8, od8, .func (PySem.W.fnOf "below" "below" (defArgs s_below) (defBody s_below) (defScope s_below) .none kV8 dc8 pm8 an8 cd8 ct8), sl8⟩) (c8 : PySem.W.codeIn K cd8 "below" = true) (k8 : PySem.W.keepIn K (.ref f8) = true)
    (a9 : PySem.W.nsIn K mainGlobals "is_sizes" = some (some (.ref f9))) (l9 : K.lookup f9 = some ⟨oc9, od9, .func (PySem.W.fnOf "is_sizes" "is_sizes" (defArgs s_is_sizes) (defBody s_is_sizes) (defScope s_is_sizes) .none kV9 dc9 pm9 an9 cd9 ct9), sl9⟩) (c9 : PySem.W.codeIn K cd9 "is_sizes" = true) (k9 : PySem.W.keepIn K (.ref f9) = true)
    (a10 : PySem.W.nsIn K mainGlobals "is_content" = some (some (.ref f10))) (l10 : K.lookup f10 = some ⟨oc10, od10, .func (PySem.W.fnOf "is_content" "is_content" (defArgs s_is_content) (defBody s_is_content) (defScope s_is_content) .none kV10 dc10 pm10 an10 cd10 ct10), sl10⟩) (c10 : PySem.W.codeIn K cd10 "is_content" = true) (k10 : PySem.W.keepIn K (.ref f10) = true)
    (a11 : PySem.W.nsIn K mainGlobals "is_pattern" = some (some (.ref f11))) (l11 : K.lookup f11 = some ⟨oc11, od11, .func (PySem.W.fnOf "is_pattern" "is_pattern" (defArgs s_is_pattern) (defBody s_is_pattern) (defScope s_is_pattern) .none kV11 dc11 pm11 an11 cd11 ct11), sl11⟩) (c11 : PySem.W.codeIn K cd11 "is_pattern" = true) (k11 : PySem.W.keepIn K (.ref f11) = true)
    (a12 : PySem.W.nsIn K mainGlobals "is_box_of" = some (some (.ref f12))) (l12 : K.lookup f12 = some ⟨oc12, od12, .func (PySem.W.fnOf "is_box_of" "is_box_of" (defArgs s_is_box_of) (defBody s_is_box_of) (defScope s_is_box_of) .none kV12 dc12 pm12 an12 cd12 ct12), sl12⟩) (c12 : PySem.W.codeIn K cd12 "is_box_of" = true) (k12 : PySem.W.keepIn K (.ref f12) = true)
    (a13 : PySem.W.nsIn K mainGlobals "all_columns" = some (some (.ref f13))) (l13 : K.lookup f13 = some ⟨oc13, od13, .func (PySem.W.fnOf "all_columns" "all_columns" (defArgs s_all_columns) (defBody s_all_columns) (defScope s_all_columns) .none kV13 dc13 pm13 an13 cd13 ct13), sl13⟩) (c13 : PySem.W.codeIn K cd13 "all_columns" = true) (k13 : PySem.W.keepIn K (.ref f13) = true)
    (a14 : PySem.W.nsIn K mainGlobals "all_contents" = some (some (.ref f14))) (l14 : K.lookup f14 = some ⟨oc14, od14, .func (PySem.W.fnOf "all_contents" "all_contents" (defArgs s_all_contents) (defBody s_all_contents) (defScope s_all_contents) .none kV14 dc14 pm14 an14 cd14 ct14), sl14⟩) (c14 : PySem.W.codeIn K cd14 "all_contents" = true) (k14 : PySem.W.keepIn K (.ref f14) = true)
    (a15 : PySem.W.nsIn K mainGlobals "worths_at" = some (some (.ref f15))) (l15 : K.lookup f15 = some ⟨oc15, od15, .func (PySem.W.fnOf "worths_at" "worths_at" (defArgs s_worths_at) (defBody s_worths_at) (defScope s_worths_at) .none kV15 dc15 pm15 an15 cd15 ct15), sl15⟩) (c15 : PySem.W.codeIn K cd15 "worths_at" = true) (k15 : PySem.W.keepIn K (.ref f15) = true)
    (a16 : PySem.W.nsIn K mainGlobals "is_habit_row" = some (some (.ref f16))) (l16 : K.lookup f16 = some ⟨oc16, od16, .func (PySem.W.fnOf "is_habit_row" "is_habit_row" (defArgs s_is_habit_row) (defBody s_is_habit_row) (defScope s_is_habit_row) .none kV16 dc16 pm16 an16 cd16 ct16), sl16⟩) (c16 : PySem.W.codeIn K cd16 "is_habit_row" = true) (k16 : PySem.W.keepIn K (.ref f16) = true)
    (a17 : PySem.W.nsIn K mainGlobals "patterns" = some (some (.ref f17))) (l17 : K.lookup f17 = some ⟨oc17, od17, .func (PySem.W.fnOf "patterns" "patterns" (defArgs s_patterns) (defBody s_patterns) (defScope s_patterns) .none kV17 dc17 pm17 an17 cd17 ct17), sl17⟩) (c17 : PySem.W.codeIn K cd17 "patterns" = true) (k17 : PySem.W.keepIn K (.ref f17) = true)
    (a18 : PySem.W.nsIn K mainGlobals "unfair" = some (some (.ref f18))) (l18 : K.lookup f18 = some ⟨oc18, od18, .func (PySem.W.fnOf "unfair" "unfair" (defArgs s_unfair) (defBody s_unfair) (defScope s_unfair) .none kV18 dc18 pm18 an18 cd18 ct18), sl18⟩) (c18 : PySem.W.codeIn K cd18 "unfair" = true) (k18 : PySem.W.keepIn K (.ref f18) = true)
    (a19 : PySem.W.nsIn K mainGlobals "unlike_pair_in" = some (some (.ref f19))) (l19 : K.lookup f19 = some ⟨oc19, od19, .func (PySem.W.fnOf "unlike_pair_in" "unlike_pair_in" (defArgs s_unlike_pair_in) (defBody s_unlike_pair_in) (defScope s_unlike_pair_in) .none kV19 dc19 pm19 an19 cd19 ct19), sl19⟩) (c19 : PySem.W.codeIn K cd19 "unlike_pair_in" = true) (k19 : PySem.W.keepIn K (.ref f19) = true)
    (a20 : PySem.W.nsIn K mainGlobals "is_fair" = some (some (.ref f20))) (l20 : K.lookup f20 = some ⟨oc20, od20, .func (PySem.W.fnOf "is_fair" "is_fair" (defArgs s_is_fair) (defBody s_is_fair) (defScope s_is_fair) .none kV20 dc20 pm20 an20 cd20 ct20), sl20⟩) (c20 : PySem.W.codeIn K cd20 "is_fair" = true) (k20 : PySem.W.keepIn K (.ref f20) = true)
    (a21 : PySem.W.nsIn K mainGlobals "box_shares" = some (some (.ref f21))) (l21 : K.lookup f21 = some ⟨oc21, od21, .func (PySem.W.fnOf "box_shares" "box_shares" (defArgs s_box_shares) (defBody s_box_shares) (defScope s_box_shares) .none kV21 dc21 pm21 an21 cd21 ct21), sl21⟩) (c21 : PySem.W.codeIn K cd21 "box_shares" = true) (k21 : PySem.W.keepIn K (.ref f21) = true)
    (a22 : PySem.W.nsIn K mainGlobals "is_part_shares" = some (some (.ref f22))) (l22 : K.lookup f22 = some ⟨oc22, od22, .func (PySem.W.fnOf "is_part_shares" "is_part_shares" (defArgs s_is_part_shares) (defBody s_is_part_shares) (defScope s_is_part_shares) .none kV22 dc22 pm22 an22 cd22 ct22), sl22⟩) (c22 : PySem.W.codeIn K cd22 "is_part_shares" = true) (k22 : PySem.W.keepIn K (.ref f22) = true)
    (a23 : PySem.W.nsIn K mainGlobals "habit_of" = some (some (.ref f23))) (l23 : K.lookup f23 = some ⟨oc23, od23, .func (PySem.W.fnOf "habit_of" "habit_of" (defArgs s_habit_of) (defBody s_habit_of) (defScope s_habit_of) .none kV23 dc23 pm23 an23 cd23 ct23), sl23⟩) (c23 : PySem.W.codeIn K cd23 "habit_of" = true) (k23 : PySem.W.keepIn K (.ref f23) = true)
    (a24 : PySem.W.nsIn K mainGlobals "filled_row" = some (some (.ref f24))) (l24 : K.lookup f24 = some ⟨oc24, od24, .func (PySem.W.fnOf "filled_row" "filled_row" (defArgs s_filled_row) (defBody s_filled_row) (defScope s_filled_row) .none kV24 dc24 pm24 an24 cd24 ct24), sl24⟩) (c24 : PySem.W.codeIn K cd24 "filled_row" = true) (k24 : PySem.W.keepIn K (.ref f24) = true)
    (a25 : PySem.W.nsIn K mainGlobals "_law_hand" = some (some (.ref f25))) (l25 : K.lookup f25 = some ⟨oc25, od25, .func (PySem.W.fnOf "_law_hand" "_law_hand" (defArgs s_law_hand) (defBody s_law_hand) (defScope s_law_hand) .none kV25 dc25 pm25 an25 cd25 ct25), sl25⟩) (c25 : PySem.W.codeIn K cd25 "_law_hand" = true) (k25 : PySem.W.keepIn K (.ref f25) = true)
    (a26 : PySem.W.nsIn K mainGlobals "_law_draw" = some (some (.ref f26))) (l26 : K.lookup f26 = some ⟨oc26, od26, .func (PySem.W.fnOf "_law_draw" "_law_draw" (defArgs s_law_draw) (defBody s_law_draw) (defScope s_law_draw) .none kV26 dc26 pm26 an26 cd26 ct26), sl26⟩) (c26 : PySem.W.codeIn K cd26 "_law_draw" = true) (k26 : PySem.W.keepIn K (.ref f26) = true)
    (a27 : PySem.W.nsIn K mainGlobals "_law_some" = some (some (.ref f27))) (l27 : K.lookup f27 = some ⟨oc27, od27, .func (PySem.W.fnOf "_law_some" "_law_some" (defArgs s_law_some) (defBody s_law_some) (defScope s_law_some) .none kV27 dc27 pm27 an27 cd27 ct27), sl27⟩) (c27 : PySem.W.codeIn K cd27 "_law_some" = true) (k27 : PySem.W.keepIn K (.ref f27) = true)
    (a28 : PySem.W.nsIn K mainGlobals "_law_sizes" = some (some (.ref f28))) (l28 : K.lookup f28 = some ⟨oc28, od28, .func (PySem.W.fnOf "_law_sizes" "_law_sizes" (defArgs s_law_sizes) (defBody s_law_sizes) (defScope s_law_sizes) .none kV28 dc28 pm28 an28 cd28 ct28), sl28⟩) (c28 : PySem.W.codeIn K cd28 "_law_sizes" = true) (k28 : PySem.W.keepIn K (.ref f28) = true)
    (a29 : PySem.W.nsIn K mainGlobals "_law_contents" = some (some (.ref f29))) (l29 : K.lookup f29 = some ⟨oc29, od29, .func (PySem.W.fnOf "_law_contents" "_law_contents" (defArgs s_law_contents) (defBody s_law_contents) (defScope s_law_contents) .none kV29 dc29 pm29 an29 cd29 ct29), sl29⟩) (c29 : PySem.W.codeIn K cd29 "_law_contents" = true) (k29 : PySem.W.keepIn K (.ref f29) = true)
    (a30 : PySem.W.nsIn K mainGlobals "_law_patterns" = some (some (.ref f30))) (l30 : K.lookup f30 = some ⟨oc30, od30, .func (PySem.W.fnOf "_law_patterns" "_law_patterns" (defArgs s_law_patterns) (defBody s_law_patterns) (defScope s_law_patterns) .none kV30 dc30 pm30 an30 cd30 ct30), sl30⟩) (c30 : PySem.W.codeIn K cd30 "_law_patterns" = true) (k30 : PySem.W.keepIn K (.ref f30) = true)
    (a31 : PySem.W.nsIn K mainGlobals "_law_box" = some (some (.ref f31))) (l31 : K.lookup f31 = some ⟨oc31, od31, .func (PySem.W.fnOf "_law_box" "_law_box" (defArgs s_law_box) (defBody s_law_box) (defScope s_law_box) .none kV31 dc31 pm31 an31 cd31 ct31), sl31⟩) (c31 : PySem.W.codeIn K cd31 "_law_box" = true) (k31 : PySem.W.keepIn K (.ref f31) = true)
    (a32 : PySem.W.nsIn K mainGlobals "_law_is_in" = some (some (.ref f32))) (l32 : K.lookup f32 = some ⟨oc32, od32, .func (PySem.W.fnOf "_law_is_in" "_law_is_in" (defArgs s_law_is_in) (defBody s_law_is_in) (defScope s_law_is_in) .none kV32 dc32 pm32 an32 cd32 ct32), sl32⟩) (c32 : PySem.W.codeIn K cd32 "_law_is_in" = true) (k32 : PySem.W.keepIn K (.ref f32) = true)
    (a33 : PySem.W.nsIn K mainGlobals "_law_low" = some (some (.ref f33))) (l33 : K.lookup f33 = some ⟨oc33, od33, .func (PySem.W.fnOf "_law_low" "_law_low" (defArgs s_law_low) (defBody s_law_low) (defScope s_law_low) .none kV33 dc33 pm33 an33 cd33 ct33), sl33⟩) (c33 : PySem.W.codeIn K cd33 "_law_low" = true) (k33 : PySem.W.keepIn K (.ref f33) = true)
    (a34 : PySem.W.nsIn K mainGlobals "_law_plus" = some (some (.ref f34))) (l34 : K.lookup f34 = some ⟨oc34, od34, .func (PySem.W.fnOf "_law_plus" "_law_plus" (defArgs s_law_plus) (defBody s_law_plus) (defScope s_law_plus) .none kV34 dc34 pm34 an34 cd34 ct34), sl34⟩) (c34 : PySem.W.codeIn K cd34 "_law_plus" = true) (k34 : PySem.W.keepIn K (.ref f34) = true)
    (a35 : PySem.W.nsIn K mainGlobals "_law_sum" = some (some (.ref f35))) (l35 : K.lookup f35 = some ⟨oc35, od35, .func (PySem.W.fnOf "_law_sum" "_law_sum" (defArgs s_law_sum) (defBody s_law_sum) (defScope s_law_sum) .none kV35 dc35 pm35 an35 cd35 ct35), sl35⟩) (c35 : PySem.W.codeIn K cd35 "_law_sum" = true) (k35 : PySem.W.keepIn K (.ref f35) = true)
    (a36 : PySem.W.nsIn K mainGlobals "_law_shares" = some (some (.ref f36))) (l36 : K.lookup f36 = some ⟨oc36, od36, .func (PySem.W.fnOf "_law_shares" "_law_shares" (defArgs s_law_shares) (defBody s_law_shares) (defScope s_law_shares) .none kV36 dc36 pm36 an36 cd36 ct36), sl36⟩) (c36 : PySem.W.codeIn K cd36 "_law_shares" = true) (k36 : PySem.W.keepIn K (.ref f36) = true)
    (a37 : PySem.W.nsIn K mainGlobals "_law_row_of" = some (some (.ref f37))) (l37 : K.lookup f37 = some ⟨oc37, od37, .func (PySem.W.fnOf "_law_row_of" "_law_row_of" (defArgs s_law_row_of) (defBody s_law_row_of) (defScope s_law_row_of) .none kV37 dc37 pm37 an37 cd37 ct37), sl37⟩) (c37 : PySem.W.codeIn K cd37 "_law_row_of" = true) (k37 : PySem.W.keepIn K (.ref f37) = true)
    (a38 : PySem.W.nsIn K mainGlobals "law" = some (some (.ref f38))) (l38 : K.lookup f38 = some ⟨oc38, od38, .func (PySem.W.fnOf "law" "law" (defArgs s_law) (defBody s_law) (defScope s_law) .none kV38 dc38 pm38 an38 cd38 ct38), sl38⟩) (c38 : PySem.W.codeIn K cd38 "law" = true) (k38 : PySem.W.keepIn K (.ref f38) = true)
    (a39 : PySem.W.findIn K (.ref c_BadHabit) "__init__" = some (some (.ref f39))) (l39 : K.lookup f39 = some ⟨oc39, od39, .func (PySem.W.fnOf "__init__" "BadHabit.__init__" (defArgs s_BadHabit_init) (defBody s_BadHabit_init) (defScope s_BadHabit_init) .none kV39 dc39 pm39 an39 cd39 ct39), sl39⟩) (c39 : PySem.W.codeIn K cd39 "BadHabit.__init__" = true) (k39 : PySem.W.keepIn K (.ref f39) = true)
    (a40 : PySem.W.findIn K (.ref c_Habit) "__init__" = some (some (.ref f40))) (l40 : K.lookup f40 = some ⟨oc40, od40, .func (PySem.W.fnOf "__init__" "Habit.__init__" (defArgs s_Habit_init) (defBody s_Habit_init) (defScope s_Habit_init) .none kV40 dc40 pm40 an40 cd40 ct40), sl40⟩) (c40 : PySem.W.codeIn K cd40 "Habit.__init__" = true) (k40 : PySem.W.keepIn K (.ref f40) = true)
    (a41 : PySem.W.findIn K (.ref c_Habit) "__eq__" = some (some (.ref f41))) (l41 : K.lookup f41 = some ⟨oc41, od41, .func (PySem.W.fnOf "__eq__" "Habit.__eq__" (defArgs s_Habit_eq) (defBody s_Habit_eq) (defScope s_Habit_eq) .none kV41 dc41 pm41 an41 cd41 ct41), sl41⟩) (c41 : PySem.W.codeIn K cd41 "Habit.__eq__" = true) (k41 : PySem.W.keepIn K (.ref f41) = true)
    (y_MaskError : PySem.W.typeIn K (.ref c_MaskError) = some m_MaskError)
    (U_MaskError : UpC K c_MaskError m_MaskError)
    (o_BadHabit : OexC K c_BadHabit)
    (t_BadHabit : PySem.W.typeIn K (.ref f39) = some (.type "function"))
    (e_BadHabit : ExcC K c_BadHabit)
    (x_BadHabit : PySem.W.exmOne K (.ref c_BadHabit) (.ref c_MaskError) = some true)
    (q_BadHabit_BadHabit : PySem.W.kitOne K (.ref c_BadHabit) (.ref c_BadHabit) = some true)
    (M_Habit : Mk K c_Habit f40)
    (l_Habit : Cls K c_Habit)
    (a_sizes : PySem.W.findIn K (.ref c_Habit) "sizes" = some none)
    (a_rows : PySem.W.findIn K (.ref c_Habit) "rows" = some none)
    (h_Habit : PySem.W.findIn K (.ref c_Habit) "__class__" = some (some (.builtin "object.__class__")))
    (h2_Habit : PySem.W.specialIn K (.builtin "object.__class__") "__get__" = some (some (.builtin "getset_descriptor.__get__")))
    (h3_Habit : PySem.W.takesIn K (.builtin "object.__class__") = some true)
    (h4_Habit : PySem.W.mroIn K c_Habit (.type "object") = some true)
    (s_Habit_int : PySem.W.subIn K (.ref c_Habit) (.type "int") = some false)
    (s_Habit_tuple : PySem.W.subIn K (.ref c_Habit) (.type "tuple") = some false)
    (p_BadHabit : PySem.W.findIn K (.ref c_BadHabit) "part" = some none)
    (xf_BadHabit : XfC K c_BadHabit)
    (xx_BadHabit : PySem.W.exmOne K (.ref c_BadHabit) (.ref c_BadHabit) = some true)
    (tf_Habit_eq : PySem.W.typeIn K (.ref f41) = some (.type "function"))
    (ne_Habit : PySem.W.findIn K (.ref c_Habit) "__ne__" = some (some (.builtin "object.__ne__")))
    (hd_Habit : PySem.W.hasDictIn K c_Habit = true)
    (ty_Habit : PySem.W.typeIn K (.ref c_Habit) = some (.type "type"))
    (so_NoneType : PySem.W.subIn K (.type "NoneType") (.ref c_Habit) = some false)
    (so_int : PySem.W.subIn K (.type "int") (.ref c_Habit) = some false)
    (so_str : PySem.W.subIn K (.type "str") (.ref c_Habit) = some false)
    (so_tuple : PySem.W.subIn K (.type "tuple") (.ref c_Habit) = some false)
    (k_ZERO : ∀ H, SqT K H v_ZERO [.int 0, .int 1])
    (k_ONE : ∀ H, SqT K H v_ONE [.int 1, .int 1])
    (u1 : PySem.W.nsIn K mainGlobals "MOST_COLUMNS" = some (some (.int 5 t1)))
    (u2 : PySem.W.nsIn K mainGlobals "LEAST_SIZE" = some (some (.int 2 t2)))
    (u3 : PySem.W.nsIn K mainGlobals "MOST_SIZE" = some (some (.int 4 t3)))
    (u4 : PySem.W.nsIn K mainGlobals "MOST_CONTENTS" = some (some (.int 256 t4)))
    (z1 : PySem.W.nsIn K mainGlobals "len" = some none)
    (z2 : PySem.W.nsIn K mainGlobals "isinstance" = some none)
    (z3 : PySem.W.nsIn K mainGlobals "range" = some none)
    (z4 : PySem.W.nsIn K mainGlobals "zip" = some none)
    (z5 : PySem.W.nsIn K mainGlobals "tuple" = some none)
    (z6 : PySem.W.nsIn K mainGlobals "int" = some none)
    (z7 : PySem.W.nsIn K mainGlobals "bool" = some none)
    (z8 : PySem.W.nsIn K mainGlobals "abs" = some none)
    (z9 : PySem.W.nsIn K mainGlobals "sorted" = some none)
    (z10 : PySem.W.nsIn K mainGlobals "dict" = some none)
    (z11 : PySem.W.nsIn K mainGlobals "set" = some none)
    (z12 : PySem.W.nsIn K mainGlobals "enumerate" = some none)
    : ∃ fd : FuncData, (∀ (s : Shared) (v : Value), BindsTo s fd ⟨[v], []⟩ [("script", v)]) ∧ ∀ base : Heap, K.In base → base.Ns mainGlobals mg → FnOk l.prog w K mg base CX0 8 fa fd ["script"] (spLaw K) := by
  have e := hfa.symm.trans (PySem.W.mg_of X G a38)
  cases e
  have F1 := fun_mk (st := s_is_whole) l1 c1 k1
  have b1 := F1.binds (ps := ["thing"]) fun _ _ _ _ _ _ us hl => match us, hl with | [_], _ => rfl
  have F2 := fun_mk (st := s_is_pair) l2 c2 k2
  have b2 := F2.binds (ps := ["thing"]) fun _ _ _ _ _ _ us hl => match us, hl with | [_], _ => rfl
  have F3 := fun_mk (st := s_is_fraction) l3 c3 k3
  have b3 := F3.binds (ps := ["thing"]) fun _ _ _ _ _ _ us hl => match us, hl with | [_], _ => rfl
  have F4 := fun_mk (st := s_is_share) l4 c4 k4
  have b4 := F4.binds (ps := ["thing"]) fun _ _ _ _ _ _ us hl => match us, hl with | [_], _ => rfl
  have F5 := fun_mk (st := s_fraction) l5 c5 k5
  have b5 := F5.binds (ps := ["top", "bottom"]) fun _ _ _ _ _ _ us hl => match us, hl with | [_, _], _ => rfl
  have F6 := fun_mk (st := s_plus) l6 c6 k6
  have b6 := F6.binds (ps := ["one", "other"]) fun _ _ _ _ _ _ us hl => match us, hl with | [_, _], _ => rfl
  have F7 := fun_mk (st := s_minus) l7 c7 k7
  have b7 := F7.binds (ps := ["one", "other"]) fun _ _ _ _ _ _ us hl => match us, hl with | [_, _], _ => rfl
  have F8 := fun_mk (st := s_below) l8 c8 k8
  have b8 := F8.binds (ps := ["one", "other"]) fun _ _ _ _ _ _ us hl => match us, hl with | [_, _], _ => rfl
  have F9 := fun_mk (st := s_is_sizes) l9 c9 k9
  have b9 := F9.binds (ps := ["thing"]) fun _ _ _ _ _ _ us hl => match us, hl with | [_], _ => rfl
  have F10 := fun_mk (st := s_is_content) l10 c10 k10
  have b10 := F10.binds (ps := ["sizes", "thing"]) fun _ _ _ _ _ _ us hl => match us, hl with | [_, _], _ => rfl
  have F11 := fun_mk (st := s_is_pattern) l11 c11 k11
  have b11 := F11.binds (ps := ["columns", "thing"]) fun _ _ _ _ _ _ us hl => match us, hl with | [_, _], _ => rfl
  have F12 := fun_mk (st := s_is_box_of) l12 c12 k12
  have b12 := F12.binds (ps := ["sizes", "thing"]) fun _ _ _ _ _ _ us hl => match us, hl with | [_, _], _ => rfl
  have F13 := fun_mk (st := s_all_columns) l13 c13 k13
  have b13 := F13.binds (ps := ["columns"]) fun _ _ _ _ _ _ us hl => match us, hl with | [_], _ => rfl
  have F14 := fun_mk (st := s_all_contents) l14 c14 k14
  have b14 := F14.binds (ps := ["sizes"]) fun _ _ _ _ _ _ us hl => match us, hl with | [_], _ => rfl
  have F15 := fun_mk (st := s_worths_at) l15 c15 k15
  have b15 := F15.binds (ps := ["pattern", "content"]) fun _ _ _ _ _ _ us hl => match us, hl with | [_, _], _ => rfl
  have F16 := fun_mk (st := s_is_habit_row) l16 c16 k16
  have b16 := F16.binds (ps := ["columns", "thing"]) fun _ _ _ _ _ _ us hl => match us, hl with | [_, _], _ => rfl
  have F17 := fun_mk (st := s_patterns) l17 c17 k17
  have b17 := F17.binds (ps := ["habit"]) fun _ _ _ _ _ _ us hl => match us, hl with | [_], _ => rfl
  have F18 := fun_mk (st := s_unfair) l18 c18 k18
  have b18 := F18.binds (ps := ["habit"]) fun _ _ _ _ _ _ us hl => match us, hl with | [_], _ => rfl
  have F19 := fun_mk (st := s_unlike_pair_in) l19 c19 k19
  have b19 := F19.binds (ps := ["sizes", "pattern", "parts"]) fun _ _ _ _ _ _ us hl => match us, hl with | [_, _, _], _ => rfl
  have F20 := fun_mk (st := s_is_fair) l20 c20 k20
  have b20 := F20.binds (ps := ["habit"]) fun _ _ _ _ _ _ us hl => match us, hl with | [_], _ => rfl
  have F21 := fun_mk (st := s_box_shares) l21 c21 k21
  have b21 := F21.binds (ps := ["habit"]) fun _ _ _ _ _ _ us hl => match us, hl with | [_], _ => rfl
  have F22 := fun_mk (st := s_is_part_shares) l22 c22 k22
  have b22 := F22.binds (ps := ["sizes", "thing"]) fun _ _ _ _ _ _ us hl => match us, hl with | [_, _], _ => rfl
  have F23 := fun_mk (st := s_habit_of) l23 c23 k23
  have b23 := F23.binds (ps := ["sizes", "shares"]) fun _ _ _ _ _ _ us hl => match us, hl with | [_, _], _ => rfl
  have F24 := fun_mk (st := s_filled_row) l24 c24 k24
  have b24 := F24.binds (ps := ["sizes", "content", "pairs"]) fun _ _ _ _ _ _ us hl => match us, hl with | [_, _, _], _ => rfl
  have F25 := fun_mk (st := s_law_hand) l25 c25 k25
  have b25 := F25.binds (ps := ["script"]) fun _ _ _ _ _ _ us hl => match us, hl with | [_], _ => rfl
  have F26 := fun_mk (st := s_law_draw) l26 c26 k26
  have b26 := F26.binds (ps := ["hand", "many"]) fun _ _ _ _ _ _ us hl => match us, hl with | [_, _], _ => rfl
  have F27 := fun_mk (st := s_law_some) l27 c27 k27
  have b27 := F27.binds (ps := ["hand", "things"]) fun _ _ _ _ _ _ us hl => match us, hl with | [_, _], _ => rfl
  have F28 := fun_mk (st := s_law_sizes) l28 c28 k28
  have b28 := F28.binds (ps := ["hand"]) fun _ _ _ _ _ _ us hl => match us, hl with | [_], _ => rfl
  have F29 := fun_mk (st := s_law_contents) l29 c29 k29
  have b29 := F29.binds (ps := ["sizes"]) fun _ _ _ _ _ _ us hl => match us, hl with | [_], _ => rfl
  have F30 := fun_mk (st := s_law_patterns) l30 c30 k30
  have b30 := F30.binds (ps := ["columns"]) fun _ _ _ _ _ _ us hl => match us, hl with | [_], _ => rfl
  have F31 := fun_mk (st := s_law_box) l31 c31 k31
  have b31 := F31.binds (ps := ["pattern", "content"]) fun _ _ _ _ _ _ us hl => match us, hl with | [_, _], _ => rfl
  have F32 := fun_mk (st := s_law_is_in) l32 c32 k32
  have b32 := F32.binds (ps := ["box", "content"]) fun _ _ _ _ _ _ us hl => match us, hl with | [_, _], _ => rfl
  have F33 := fun_mk (st := s_law_low) l33 c33 k33
  have b33 := F33.binds (ps := ["top", "bottom"]) fun _ _ _ _ _ _ us hl => match us, hl with | [_, _], _ => rfl
  have F34 := fun_mk (st := s_law_plus) l34 c34 k34
  have b34 := F34.binds (ps := ["one", "other"]) fun _ _ _ _ _ _ us hl => match us, hl with | [_, _], _ => rfl
  have F35 := fun_mk (st := s_law_sum) l35 c35 k35
  have b35 := F35.binds (ps := ["row"]) fun _ _ _ _ _ _ us hl => match us, hl with | [_], _ => rfl
  have F36 := fun_mk (st := s_law_shares) l36 c36 k36
  have b36 := F36.binds (ps := ["hand", "sizes"]) fun _ _ _ _ _ _ us hl => match us, hl with | [_, _], _ => rfl
  have F37 := fun_mk (st := s_law_row_of) l37 c37 k37
  have b37 := F37.binds (ps := ["sizes", "shares", "content"]) fun _ _ _ _ _ _ us hl => match us, hl with | [_, _, _], _ => rfl
  have F38 := fun_mk (st := s_law) l38 c38 k38
  have F39 := fun_mk (st := s_BadHabit_init) l39 c39 k39
  have b39 := F39.binds (ps := ["self", "part"]) fun _ _ _ _ _ _ us hl => match us, hl with | [_, _], _ => rfl
  have F40 := fun_mk (st := s_Habit_init) l40 c40 k40
  have b40 := F40.binds (ps := ["self", "sizes", "rows"]) fun _ _ _ _ _ _ us hl => match us, hl with | [_, _, _], _ => rfl
  have F41 := fun_mk (st := s_Habit_eq) l41 c41 k41
  have b41 := F41.binds (ps := ["self", "other"]) fun _ _ _ _ _ _ us hl => match us, hl with | [_, _], _ => rfl
  let T : Txt K mg := { f_is_whole := f1, d_is_whole := _, F_is_whole := F1, b_is_whole := b1, g_is_whole := PySem.W.mg_of X G a1, f_is_pair := f2, d_is_pair := _, F_is_pair := F2, b_is_pair := b2, g_is_pair := PySem.W.mg_of X G a2, f_is_fraction := f3, d_is_fraction := _, F_is_fraction := F3, b_is_fraction := b3, g_is_fraction := PySem.W.mg_of X G a3, f_is_share := f4, d_is_share := _, F_is_share := F4, b_is_share := b4, g_is_share := PySem.W.mg_of X G a4, f_fraction := f5, d_fraction := _, F_fraction := F5, b_fraction := b5, g_fraction := PySem.W.mg_of X G a5, f_plus := f6, d_plus := _, F_plus := F6, b_plus := b6, g_plus := PySem.W.mg_of X G a6, f_minus := f7, d_minus := _, F_minus := F7, b_minus := b7, g_minus := PySem.W.mg_of X G a7, f_below := f8, d_below := _, F_below := F8, b_below := b8, g_below := PySem.W.mg_of X G a8, f_is_sizes := f9, d_is_sizes := _, F_is_sizes := F9, b_is_sizes := b9, g_is_sizes := PySem.W.mg_of X G a9, f_is_content := f10, d_is_content := _, F_is_content := F10, b_is_content := b10, g_is_content := PySem.W.mg_of X G a10, f_is_pattern := f11, d_is_pattern := _, F_is_pattern := F11, b_is_pattern := b11, g_is_pattern := PySem.W.mg_of X G a11, f_is_box_of := f12, d_is_box_of := _, F_is_box_of := F12, b_is_box_of := b12, g_is_box_of := PySem.W.mg_of X G a12, f_all_columns := f13, d_all_columns := _, F_all_columns := F13, b_all_columns := b13, g_all_columns := PySem.W.mg_of X G a13, f_all_contents := f14, d_all_contents := _, F_all_contents := F14, b_all_contents := b14, g_all_contents := PySem.W.mg_of X G a14, f_worths_at := f15, d_worths_at := _, F_worths_at := F15, b_worths_at := b15, g_worths_at := PySem.W.mg_of X G a15, f_is_habit_row := f16, d_is_habit_row := _, F_is_habit_row := F16, b_is_habit_row := b16, g_is_habit_row := PySem.W.mg_of X G a16, f_patterns := f17, d_patterns := _, F_patterns := F17, b_patterns := b17, g_patterns := PySem.W.mg_of X G a17, f_unfair := f18, d_unfair := _, F_unfair := F18, b_unfair := b18, g_unfair := PySem.W.mg_of X G a18, f_unlike_pair_in := f19, d_unlike_pair_in := _, F_unlike_pair_in := F19, b_unlike_pair_in := b19, g_unlike_pair_in := PySem.W.mg_of X G a19, f_is_fair := f20, d_is_fair := _, F_is_fair := F20, b_is_fair := b20, g_is_fair := PySem.W.mg_of X G a20, f_box_shares := f21, d_box_shares := _, F_box_shares := F21, b_box_shares := b21, g_box_shares := PySem.W.mg_of X G a21, f_is_part_shares := f22, d_is_part_shares := _, F_is_part_shares := F22, b_is_part_shares := b22, g_is_part_shares := PySem.W.mg_of X G a22, f_habit_of := f23, d_habit_of := _, F_habit_of := F23, b_habit_of := b23, g_habit_of := PySem.W.mg_of X G a23, f_filled_row := f24, d_filled_row := _, F_filled_row := F24, b_filled_row := b24, g_filled_row := PySem.W.mg_of X G a24, f_law_hand := f25, d_law_hand := _, F_law_hand := F25, b_law_hand := b25, g_law_hand := PySem.W.mg_of X G a25, f_law_draw := f26, d_law_draw := _, F_law_draw := F26, b_law_draw := b26, g_law_draw := PySem.W.mg_of X G a26, f_law_some := f27, d_law_some := _, F_law_some := F27, b_law_some := b27, g_law_some := PySem.W.mg_of X G a27, f_law_sizes := f28, d_law_sizes := _, F_law_sizes := F28, b_law_sizes := b28, g_law_sizes := PySem.W.mg_of X G a28, f_law_contents := f29, d_law_contents := _, F_law_contents := F29, b_law_contents := b29, g_law_contents := PySem.W.mg_of X G a29, f_law_patterns := f30, d_law_patterns := _, F_law_patterns := F30, b_law_patterns := b30, g_law_patterns := PySem.W.mg_of X G a30, f_law_box := f31, d_law_box := _, F_law_box := F31, b_law_box := b31, g_law_box := PySem.W.mg_of X G a31, f_law_is_in := f32, d_law_is_in := _, F_law_is_in := F32, b_law_is_in := b32, g_law_is_in := PySem.W.mg_of X G a32, f_law_low := f33, d_law_low := _, F_law_low := F33, b_law_low := b33, g_law_low := PySem.W.mg_of X G a33, f_law_plus := f34, d_law_plus := _, F_law_plus := F34, b_law_plus := b34, g_law_plus := PySem.W.mg_of X G a34, f_law_sum := f35, d_law_sum := _, F_law_sum := F35, b_law_sum := b35, g_law_sum := PySem.W.mg_of X G a35, f_law_shares := f36, d_law_shares := _, F_law_shares := F36, b_law_shares := b36, g_law_shares := PySem.W.mg_of X G a36, f_law_row_of := f37, d_law_row_of := _, F_law_row_of := F37, b_law_row_of := b37, g_law_row_of := PySem.W.mg_of X G a37, f_BadHabit_init := f39, d_BadHabit_init := _, F_BadHabit_init := F39, b_BadHabit_init := b39, f_Habit_init := f40, d_Habit_init := _, F_Habit_init := F40, b_Habit_init := b40, f_Habit_eq := f41, d_Habit_eq := _, F_Habit_eq := F41, b_Habit_eq := b41, c_BadHabit := c_BadHabit, g_BadHabit := PySem.W.mg_of X G n_BadHabit, c_Habit := c_Habit, g_Habit := PySem.W.mg_of X G n_Habit, c_MaskError := c_MaskError, g_MaskError := PySem.W.mg_of X G n_MaskError, m_MaskError := m_MaskError, U_MaskError := U_MaskError, o_BadHabit := o_BadHabit, t_BadHabit := t_BadHabit, e_BadHabit := e_BadHabit, x_BadHabit := x_BadHabit, i_BadHabit := a39, q_BadHabit_BadHabit := q_BadHabit_BadHabit, M_Habit := M_Habit, l_Habit := l_Habit, a_sizes := a_sizes, a_rows := a_rows, h_Habit := h_Habit, h2_Habit := h2_Habit, h3_Habit := h3_Habit, h4_Habit := h4_Habit, k_Habit_int := Fm.kit_typ (by decide +kernel) s_Habit_int, k_Habit_tuple := Fm.kit_typ (by decide +kernel) s_Habit_tuple, p_BadHabit := p_BadHabit, xf_BadHabit := xf_BadHabit, xx_BadHabit := xx_BadHabit, ne_Habit := ne_Habit, so_NoneType := so_NoneType, so_int := so_int, so_str := so_str, so_tuple := so_tuple, eq_Habit := a41, fn_Habit_eq := beq_iff_eq.mpr tf_Habit_eq, kk_Habit := if_pos (beq_self_eq_true _), ko_NoneType := Fm.kit_base hd_Habit ty_Habit so_NoneType, ko_int := Fm.kit_base hd_Habit ty_Habit so_int, ko_str := Fm.kit_base hd_Habit ty_Habit so_str, ko_tuple := Fm.kit_base hd_Habit ty_Habit so_tuple, w_gcd := PySem.W.mg_of X G w_gcd, v_ZERO := v_ZERO, g_ZERO := PySem.W.mg_of X G n_ZERO, k_ZERO := k_ZERO, v_ONE := v_ONE, g_ONE := PySem.W.mg_of X G n_ONE, k_ONE := k_ONE, u_MOST_COLUMNS := _, k_MOST_COLUMNS := ⟨PySem.W.mg_of X G u1, ⟨_, rfl⟩⟩, u_LEAST_SIZE := _, k_LEAST_SIZE := ⟨PySem.W.mg_of X G u2, ⟨_, rfl⟩⟩, u_MOST_SIZE := _, k_MOST_SIZE := ⟨PySem.W.mg_of X G u3, ⟨_, rfl⟩⟩, u_MOST_CONTENTS := _, k_MOST_CONTENTS := ⟨PySem.W.mg_of X G u4, ⟨_, rfl⟩⟩, z_len := PySem.W.mg_none_of X G z1, z_isinstance := PySem.W.mg_none_of X G z2, z_range := PySem.W.mg_none_of X G z3, z_zip := PySem.W.mg_none_of X G z4, z_tuple := PySem.W.mg_none_of X G z5, z_int := PySem.W.mg_none_of X G z6, z_bool := PySem.W.mg_none_of X G z7, z_abs := PySem.W.mg_none_of X G z8, z_sorted := PySem.W.mg_none_of X G z9, z_dict := PySem.W.mg_none_of X G z10, z_set := PySem.W.mg_none_of X G z11, z_enumerate := PySem.W.mg_none_of X G z12 }
  exact ⟨PySem.W.fnOf "law" "law" (defArgs s_law) (defBody s_law) (defScope s_law) .none kV38 dc38 pm38 an38 cd38 ct38, fun s v => .of_eq rfl, fun base _ _ => ok_law T F38⟩

end
end Fm
open PySem PySem.W PyProof.Rows
set_option maxHeartbeats 0 in
theorem PySem.Challenge.cw_fairmasks_k06_whole_fair_habits_by_share_holds : PySem.Challenge.rw_fairmasks_k06_whole_fair_habits_by_share.Holds := by
  w_on; o_law; k_head; (case hw => w_witness2)
  k_fill
  refine L2.walk_of (l := PySem.Challenge.rw_fairmasks_k06_whole_fair_habits_by_share) (n := 63) (k := 8) (x := "script") (CX := fun _ => L2.CX0) (sp := fun w => Fm.spLaw _) rfl (by decide) rfl ⟨rfl, by decide, by decide⟩ (fun w h Y => PySem.W.kIn_of Y) ?F (fun _ _ a ns hl _ hS => ⟨a, ns, rfl, hS, hl, fun _ => rfl⟩) (fun _ _ _ _ _ h => h)
  case F =>
    intro w mg fa h KX G hmg
    refine' Fm.all_mk KX G hmg ?n_BadHabit ?n_Habit ?n_MaskError ?w_gcd ?n_ZERO ?n_ONE ?a1 ?l1 ?c1 ?k1 ?a2 ?l2 ?c2 ?k2 ?a3 ?l3 ?c3 ?k3 ?a4 ?l4 ?c4 ?k4 ?a5 ?l5 ?c5 ?k5 ?a6 ?l6 ?c6 ?k6 ?a7 ?l7 ?c7 ?k7 ?a8 ?l8 ?c8 ?k8 ?a9 ?l9 ?c9 ?k9 ?a10 ?l10 ?c10 ?k10 ?a11 ?l11 ?c11 ?k11 ?a12 ?l12 ?c12 ?k12 ?a13 ?l13 ?c13 ?k13 ?a14 ?l14 ?c14 ?k14 ?a15 ?l15 ?c15 ?k15 ?a16 ?l16 ?c16 ?k16 ?a17 ?l17 ?c17 ?k17 ?a18 ?l18 ?c18 ?k18 ?a19 ?l19 ?c19 ?k19 ?a20 ?l20 ?c20 ?k20 ?a21 ?l21 ?c21 ?k21 ?a22 ?l22 ?c22 ?k22 ?a23 ?l23 ?c23 ?k23 ?a24 ?l24 ?c24 ?k24 ?a25 ?l25 ?c25 ?k25 ?a26 ?l26 ?c26 ?k26 ?a27 ?l27 ?c27 ?k27 ?a28 ?l28 ?c28 ?k28 ?a29 ?l29 ?c29 ?k29 ?a30 ?l30 ?c30 ?k30 ?a31 ?l31 ?c31 ?k31 ?a32 ?l32 ?c32 ?k32 ?a33 ?l33 ?c33 ?k33 ?a34 ?l34 ?c34 ?k34 ?a35 ?l35 ?c35 ?k35 ?a36 ?l36 ?c36 ?k36 ?a37 ?l37 ?c37 ?k37 ?a38 ?l38 ?c38 ?k38 ?a39 ?l39 ?c39 ?k39 ?a40 ?l40 ?c40 ?k40 ?a41 ?l41 ?c41 ?k41 ?y_MaskError ?U_MaskError ?o_BadHabit ?t_BadHabit ?e_BadHabit ?x_BadHabit ?q_BadHabit_BadHabit ?M_Habit ?l_Habit ?a_sizes ?a_rows ?h_Habit ?h2_Habit ?h3_Habit ?h4_Habit ?s_Habit_int ?s_Habit_tuple ?p_BadHabit ?xf_BadHabit ?xx_BadHabit ?tf_Habit_eq ?ne_Habit ?hd_Habit ?ty_Habit ?so_NoneType ?so_int ?so_str ?so_tuple ?k_ZERO ?k_ONE ?u1 ?u2 ?u3 ?u4 ?z1 ?z2 ?z3 ?z4 ?z5 ?z6 ?z7 ?z8 ?z9 ?z10 ?z11 ?z12
    case n_BadHabit => k_is
    case n_Habit => k_is
    case n_MaskError => k_is
    case w_gcd => k_is
    case n_ZERO => k_is
    case n_ONE => k_is
    case a1 => k_is
    case l1 => k_is
    case c1 => k_is
    case k1 => k_is
    case a2 => k_is
    case l2 => k_is
    case c2 => k_is
    case k2 => k_is
    case a3 => k_is
    case l3 => k_is
    case c3 => k_is
    case k3 => k_is
    case a4 => k_is
    case l4 => k_is
    case c4 => k_is
    case k4 => k_is
    case a5 => k_is
    case l5 => k_is
    case c5 => k_is
    case k5 => k_is
    case a6 => k_is
    case l6 => k_is
    case c6 => k_is
    case k6 => k_is
    case a7 => k_is
    case l7 => k_is
    case c7 => k_is
    case k7 => k_is
    case a8 => k_is
    case l8 => k_is
    case c8 => k_is
    case k8 => k_is
    case a9 => k_is
    case l9 => k_is
    case c9 => k_is
    case k9 => k_is
    case a10 => k_is
    case l10 => k_is
    case c10 => k_is
    case k10 => k_is
    case a11 => k_is
    case l11 => k_is
    case c11 => k_is
    case k11 => k_is
    case a12 => k_is
    case l12 => k_is
    case c12 => k_is
    case k12 => k_is
    case a13 => k_is
    case l13 => k_is
    case c13 => k_is
    case k13 => k_is
    case a14 => k_is
    case l14 => k_is
    case c14 => k_is
    case k14 => k_is
    case a15 => k_is
    case l15 => k_is
    case c15 => k_is
    case k15 => k_is
    case a16 => k_is
    case l16 => k_is
    case c16 => k_is
    case k16 => k_is
    case a17 => k_is
    case l17 => k_is
    case c17 => k_is
    case k17 => k_is
    case a18 => k_is
    case l18 => k_is
    case c18 => k_is
    case k18 => k_is
    case a19 => k_is
    case l19 => k_is
    case c19 => k_is
    case k19 => k_is
    case a20 => k_is
    case l20 => k_is
    case c20 => k_is
    case k20 => k_is
    case a21 => k_is
    case l21 => k_is
    case c21 => k_is
    case k21 => k_is
    case a22 => k_is
    case l22 => k_is
    case c22 => k_is
    case k22 => k_is
    case a23 => k_is
    case l23 => k_is
    case c23 => k_is
    case k23 => k_is
    case a24 => k_is
    case l24 => k_is
    case c24 => k_is
    case k24 => k_is
    case a25 => k_is
    case l25 => k_is
    case c25 => k_is
    case k25 => k_is
    case a26 => k_is
    case l26 => k_is
    case c26 => k_is
    case k26 => k_is
    case a27 => k_is
    case l27 => k_is
    case c27 => k_is
    case k27 => k_is
    case a28 => k_is
    case l28 => k_is
    case c28 => k_is
    case k28 => k_is
    case a29 => k_is
    case l29 => k_is
    case c29 => k_is
    case k29 => k_is
    case a30 => k_is
    case l30 => k_is
    case c30 => k_is
    case k30 => k_is
    case a31 => k_is
    case l31 => k_is
    case c31 => k_is
    case k31 => k_is
    case a32 => k_is
    case l32 => k_is
    case c32 => k_is
    case k32 => k_is
    case a33 => k_is
    case l33 => k_is
    case c33 => k_is
    case k33 => k_is
    case a34 => k_is
    case l34 => k_is
    case c34 => k_is
    case k34 => k_is
    case a35 => k_is
    case l35 => k_is
    case c35 => k_is
    case k35 => k_is
    case a36 => k_is
    case l36 => k_is
    case c36 => k_is
    case k36 => k_is
    case a37 => k_is
    case l37 => k_is
    case c37 => k_is
    case k37 => k_is
    case a38 => k_is
    case l38 => k_is
    case c38 => k_is
    case k38 => k_is
    case a39 => k_is
    case l39 => k_is
    case c39 => k_is
    case k39 => k_is
    case a40 => k_is
    case l40 => k_is
    case c40 => k_is
    case k40 => k_is
    case a41 => k_is
    case l41 => k_is
    case c41 => k_is
    case k41 => k_is
    case y_MaskError => k_is
    case U_MaskError => refine' ⟨?g_U_MaskError_z1, ?g_U_MaskError_z2, ?g_U_MaskError_z3⟩ <;> k_is
    case o_BadHabit => refine' Fm.oexC_mk ?g_o_BadHabit_z1 ?g_o_BadHabit_z2 ?g_o_BadHabit_z3 ?g_o_BadHabit_z4 ?g_o_BadHabit_z5 ?g_o_BadHabit_z6; (case g_o_BadHabit_z1 => k_is); (case g_o_BadHabit_z2 => decide +kernel); (case g_o_BadHabit_z3 => k_is); (case g_o_BadHabit_z4 => k_is); (case g_o_BadHabit_z5 => k_is); (case g_o_BadHabit_z6 => k_is)
    case t_BadHabit => k_is
    case e_BadHabit => refine' ⟨?g_e_BadHabit_z1, ?g_e_BadHabit_z2, ?g_e_BadHabit_z3, ?g_e_BadHabit_z4, ?g_e_BadHabit_z5, ?g_e_BadHabit_z6, ?g_e_BadHabit_z7, ?g_e_BadHabit_z8⟩ <;> k_is
    case x_BadHabit => refine' PySem.W.exm_ref ?g_x_BadHabit_z1 ?g_x_BadHabit_z2 ?g_x_BadHabit_z3 ?g_x_BadHabit_z4 <;> k_is
    case q_BadHabit_BadHabit => exact if_pos (beq_self_eq_true _)
    case M_Habit => refine' ⟨?g_M_Habit_z1, ?g_M_Habit_z2, ?g_M_Habit_z3, ?g_M_Habit_z4⟩ <;> k_is
    case l_Habit => refine' ⟨?g_l_Habit_z1, ?g_l_Habit_z2, ?g_l_Habit_z3, ?g_l_Habit_z4⟩ <;> k_is
    case a_sizes => k_is
    case a_rows => k_is
    case h_Habit => k_is
    case h2_Habit => k_is
    case h3_Habit => k_is
    case h4_Habit => k_is
    case s_Habit_int => k_is
    case s_Habit_tuple => k_is
    case p_BadHabit => k_is
    case xf_BadHabit => refine' ⟨?g_xf_BadHabit_z1, ?g_xf_BadHabit_z2, ?g_xf_BadHabit_z3, ?g_xf_BadHabit_z4⟩ <;> k_is
    case xx_BadHabit => refine' PySem.W.exm_ref ?g_xx_BadHabit_z1 ?g_xx_BadHabit_z2 ?g_xx_BadHabit_z3 ?g_xx_BadHabit_z4 <;> k_is
    case tf_Habit_eq => k_is
    case ne_Habit => k_is
    case hd_Habit => k_is
    case ty_Habit => k_is
    case so_NoneType => k_is
    case so_int => k_is
    case so_str => k_is
    case so_tuple => k_is
    case k_ZERO => refine' Fm.sqK_mk ?g_k_ZERO_z1 ?g_k_ZERO_z2; (case g_k_ZERO_z1 => k_is); (case g_k_ZERO_z2 => exact ⟨_, _, rfl, rfl, by decide, .cons ⟨_, rfl⟩ (.cons ⟨_, rfl⟩ .nil)⟩)
    case k_ONE => refine' Fm.sqK_mk ?g_k_ONE_z1 ?g_k_ONE_z2; (case g_k_ONE_z1 => k_is); (case g_k_ONE_z2 => exact ⟨_, _, rfl, rfl, by decide, .cons ⟨_, rfl⟩ (.cons ⟨_, rfl⟩ .nil)⟩)
    case u1 => k_is
    case u2 => k_is
    case u3 => k_is
    case u4 => k_is
    case z1 => k_is
    case z2 => k_is
    case z3 => k_is
    case z4 => k_is
    case z5 => k_is
    case z6 => k_is
    case z7 => k_is
    case z8 => k_is
    case z9 => k_is
    case z10 => k_is
    case z11 => k_is
    case z12 => k_is
