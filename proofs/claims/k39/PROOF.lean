import PyProof.Rows.All
import Wide.All
import OpenK.AllK
import Wide.FinOn
import HandS.ForMost
import HandS.IsInst
import HandS.TupAny
import HandS.SetKeys
import HandS.DictComp
import HandS.Zip
import HandS.TupLe
import HandS.More
import HandS.Conv
import HandS.Codes
import KE.GoesNew
import KE.KDictZip
import HandS.Zip0
import KE.SortCalls
import KE.SortData
import HandS.Exc
import HandS.ExcInit
import HandS.ExcIs
import HandS.ClsMeth
import HandS.ForExc
import HandS.Deep
import HandS.TupMul
import HandS.Gcd
import HandS.WordsExc
import HandS.OwnEq
import HandS.TupSets
import HandS.Wide
import HandS.ExcField
import PyProof.InstNe
import KE.GoesSet
import KE.KDictKeyed
import KE.KDictDisplayH
import KE.KDictCopyH
import KE.KDictSum
import KE.KeyNested
import KE.KEqNest
import KE.LtData
import KE.KDictOf
import HandS.SetBool
import HandS.SortKw
import HandS.Slots
import KE.KSortKeyAny
import KE.DataMinMax
import HandS.Walk
import HandS.Style
import KE.DataCmp
import PySem.Challenge.RW_fairmasks_k39_whole_who_must_be_trusted
set_option Elab.async false
set_option maxRecDepth 100000
set_option maxHeartbeats 4000000
/-! Plain things of the fairmasks laws: data that a value stands for, heaps that go on, the drawing hand. -/
namespace Fm
open PySem PySem.Spec PyProof.Rows L2

/-- a thing that is judged: lists, dicts, instances are told by their type alone -/
inductive Dt where
  | non | bl (b : Bool) | int (i : Int) | str (s : Str) | tup (ds : List Dt) | oth (t : Value)

/-- only lists may have changed, and they are lists still -/
def Ext (H H' : Hp) : Prop := ∀ b o, H b = some o → H' b = some o ∨ ((∃ xs, o = .lst xs) ∧ ∃ ys, H' b = some (.lst ys))
theorem Ext.refl (H : Hp) : Ext H H := fun _ _ e => .inl e
theorem Ext.of {H H' : Hp} (s : Same H H') : Ext H H' := fun b o e => .inl (s b o e)
theorem Ext.trans {H H1 H2 : Hp} (a : Ext H H1) (b : Ext H1 H2) : Ext H H2 := fun c o e => by
  rcases a c o e with e1 | ⟨⟨xs, rfl⟩, ys, e1⟩
  · exact b c o e1
  · rcases b c _ e1 with e2 | ⟨_, zs, e2⟩
    · exact .inr ⟨⟨xs, rfl⟩, ys, e2⟩
    · exact .inr ⟨⟨xs, rfl⟩, zs, e2⟩
theorem Ext.tup {H H' : Hp} (e : Ext H H') {a : Addr} {xs : List V} (h : H a = some (.tup xs)) : H' a = some (.tup xs) := by
  rcases e a _ h with e1 | ⟨⟨ys, q⟩, _⟩
  · exact e1
  · cases q
theorem Ext.frz {H H' : Hp} (e : Ext H H') {a : Addr} {o : Obj} {u : HO} (h : H a = some (.frz o u)) : H' a = some (.frz o u) := by
  rcases e a _ h with e1 | ⟨⟨ys, q⟩, _⟩
  · exact e1
  · cases q
theorem Ext.sqT {K : PySem.W.Frag} {H H' : Hp} (e : Ext H H') {a : Addr} {xs : List V} (h : SqT K H a xs) : SqT K H' a xs := by
  rcases h with (h | ⟨o, h⟩) | h
  · exact .inl (.inl (e.tup h))
  · exact .inl (.inr ⟨o, e.frz h⟩)
  · exact .inr h
theorem same_new {H : Hp} {p : Addr} {o : HO} (h : H p = none) : Same H (upd H p o) := fun b x e => by
  rw [upd_ne (ne_of_none e h)]
  exact e
theorem Ext.new {H : Hp} {p : Addr} {o : HO} (h : H p = none) : Ext H (upd H p o) := .of (same_new h)
theorem TyX.ext {K : PySem.W.Frag} {H H' : Hp} {v : V} {t : Value} (e : Ext H H') (h : TyX K H v t) : TyX K H' v t := by
  have go : ∀ {a : Addr} {o : HO}, H a = some o → (∀ xs, o ≠ .lst xs) → H' a = some o := fun {a o} q n => by
    rcases e a _ q with e1 | ⟨⟨ys, z⟩, _⟩
    · exact e1
    · exact absurd z (n ys)
  cases h with
  | base b =>
    cases b with
    | non => exact .base .non
    | bl x => exact .base (.bl x)
    | int i => exact .base (.int i)
    | str x => exact .base (.str x)
    | flt x => exact .base (.flt x)
    | @lst a xs q =>
      rcases e a _ q with e1 | ⟨_, ys, e1⟩
      · exact .base (.lst e1)
      · exact .base (.lst e1)
    | frz q => exact .base (.frz (e.frz q))
    | tup q => exact .base (.tup (e.tup q))
    | dK q => exact .base (.dK (go q fun _ z => nomatch z))
    | dT q => exact .base (.dT (go q fun _ z => nomatch z))
    | ins q cl ha hn htk hm => exact .base (.ins (go q fun _ z => nomatch z) cl ha hn htk hm)
  | byt b => exact .byt b
  | set q => exact .set (go q fun _ z => nomatch z)
  | kList q c => exact .kList q c
  | kTuple q c => exact .kTuple q c
  | kDict q c => exact .kDict q c
  | fTuple q => exact .fTuple (e.frz q)
  | fDict q => exact .fDict (e.frz q)

mutual
inductive Dh (K : PySem.W.Frag) (H : Hp) : V → Dt → Prop
  | non : Dh K H .non .non
  | bl (b : Bool) : Dh K H (.bl b) (.bl b)
  | int (i : Int) : Dh K H (.int i) (.int i)
  | str (x : Str) : Dh K H (.str x) (.str x)
  | tup {a : Addr} {xs : List V} {ds : List Dt} : SqT K H a xs → DhAll K H xs ds → Dh K H (.ref a) (.tup ds)
  | oth {v : V} {t : Value} : TyX K H v t → PySem.W.kitOne K t (.type "int") = some false → PySem.W.kitOne K t (.type "tuple") = some false → Dh K H v (.oth t)
inductive DhAll (K : PySem.W.Frag) (H : Hp) : List V → List Dt → Prop
  | nil : DhAll K H [] []
  | cons {v : V} {vs : List V} {d : Dt} {ds : List Dt} : Dh K H v d → DhAll K H vs ds → DhAll K H (v :: vs) (d :: ds)
end
section
variable {K : PySem.W.Frag} {H H' : Hp}
mutual
theorem Dh.ext (e : Ext H H') : ∀ {v : V} {d : Dt}, Dh K H v d → Dh K H' v d
  | _, _, .non => .non
  | _, _, .bl b => .bl b
  | _, _, .int i => .int i
  | _, _, .str x => .str x
  | _, _, .tup s h => .tup (e.sqT s) (DhAll.ext e h)
  | _, _, .oth t k1 k2 => .oth (TyX.ext e t) k1 k2
theorem DhAll.ext (e : Ext H H') : ∀ {vs : List V} {ds : List Dt}, DhAll K H vs ds → DhAll K H' vs ds
  | _, _, .nil => .nil
  | _, _, .cons h t => .cons (Dh.ext e h) (DhAll.ext e t)
end
theorem DhAll.length : ∀ {vs : List V} {ds : List Dt}, DhAll K H vs ds → vs.length = ds.length
  | _, _, .nil => rfl
  | _, _, .cons _ t => congrArg (· + 1) (DhAll.length t)
theorem DhAll.get : ∀ {vs : List V} {ds : List Dt} {i : Nat} {v : V}, DhAll K H vs ds → vs[i]? = some v → ∃ d, ds[i]? = some d ∧ Dh K H v d
  | _, _, _, _, .nil, e => by simp at e
  | _, _, 0, _, .cons h _, e => by simp at e; subst e; exact ⟨_, rfl, h⟩
  | _, _, i + 1, v, .cons _ t, e => by
    obtain ⟨d, h1, h2⟩ := DhAll.get (i := i) (v := v) t (by simpa using e)
    exact ⟨d, by simpa using h1, h2⟩
theorem DhAll.at : ∀ {vs : List V} {ds : List Dt} {i : Nat} {d : Dt}, DhAll K H vs ds → ds[i]? = some d → ∃ v, vs[i]? = some v ∧ Dh K H v d
  | _, _, _, _, .nil, e => by simp at e
  | _, _, 0, _, .cons h _, e => by simp at e; subst e; exact ⟨_, rfl, h⟩
  | _, _, i + 1, d, .cons _ t, e => by
    obtain ⟨v, h1, h2⟩ := DhAll.at (i := i) (d := d) t (by simpa using e)
    exact ⟨v, by simpa using h1, h2⟩
theorem DhAll.snoc : ∀ {vs : List V} {ds : List Dt} {v : V} {d : Dt}, DhAll K H vs ds → Dh K H v d → DhAll K H (vs ++ [v]) (ds ++ [d])
  | _, _, _, _, .nil, h => .cons h .nil
  | _, _, _, _, .cons q t, h => .cons q (DhAll.snoc t h)
theorem DhAll.append : ∀ {vs ws : List V} {ds es : List Dt}, DhAll K H vs ds → DhAll K H ws es → DhAll K H (vs ++ ws) (ds ++ es)
  | _, _, _, _, .nil, h => h
  | _, _, _, _, .cons q t, h => .cons q (DhAll.append t h)

/-! ### what isinstance tells -/
def Dt.isInt : Dt → Bool
  | .int _ => true
  | .bl _ => true
  | _ => false
def Dt.isW : Dt → Bool
  | .int _ => true
  | _ => false
def Dt.isTup : Dt → Bool
  | .tup _ => true
  | _ => false
theorem tyx_tup {a : Addr} {xs : List V} (h : SqT K H a xs) : TyX K H (.ref a) (.type "tuple") := by
  rcases h with (h | ⟨o, h⟩) | ⟨o, its, n, h1, h2, _⟩
  · exact .base (.tup h)
  · exact .fTuple h
  · exact .kTuple h1 h2
theorem Dh.kinds {v : V} {d : Dt} (h : Dh K H v d) : ∃ t, TyX K H v t ∧ PySem.W.kitOne K t (.type "int") = some d.isInt ∧ PySem.W.kitOne K t (.type "tuple") = some d.isTup ∧ (d.isInt = true → PySem.W.kitOne K t (.type "bool") = some (!d.isW)) := by
  cases h with
  | non => exact ⟨_, .base .non, kit_ty (by decide +kernel), kit_ty (by decide +kernel), fun z => nomatch z⟩
  | bl b => exact ⟨_, .base (.bl b), kit_ty (show kitB "bool" "int" = some true by decide +kernel), kit_ty (show kitB "bool" "tuple" = some false by decide +kernel), fun _ => kit_ty (show kitB "bool" "bool" = some true by decide +kernel)⟩
  | int i => exact ⟨_, .base (.int i), kit_ty (show kitB "int" "int" = some true by decide +kernel), kit_ty (show kitB "int" "tuple" = some false by decide +kernel), fun _ => kit_ty (show kitB "int" "bool" = some false by decide +kernel)⟩
  | str x => exact ⟨_, .base (.str x), kit_ty (show kitB "str" "int" = some false by decide +kernel), kit_ty (show kitB "str" "tuple" = some false by decide +kernel), fun z => nomatch z⟩
  | tup s _ => exact ⟨_, tyx_tup s, kit_ty (show kitB "tuple" "int" = some false by decide +kernel), kit_ty (show kitB "tuple" "tuple" = some true by decide +kernel), fun z => nomatch z⟩
  | oth t k1 k2 => exact ⟨_, t, k1, k2, fun z => nomatch z⟩
end

/-! ### promises of defs over data -/
/-- plain: some data come in, one comes out, nothing is changed -/
def spD (K : PySem.W.Frag) (f : List Dt → Option Dt) : Sp := fun vs H Q _ => ∃ ds r, DhAll K H vs ds ∧ f ds = some r ∧ ∀ v H', Same H H' → Dh K H' v r → Q v H'
/-- .. a new list of data comes out -/
def spL (K : PySem.W.Frag) (f : List Dt → Option (List Dt)) : Sp := fun vs H Q _ => ∃ ds rs, DhAll K H vs ds ∧ f ds = some rs ∧ ∀ p xs H', H p = none → Same H H' → H' p = some (.lst xs) → DhAll K H' xs rs → Q (.ref p) H'
theorem Dh.bl_inv {K : PySem.W.Frag} {H : Hp} {v : V} {b : Bool} (h : Dh K H v (.bl b)) : v = .bl b := by cases h; rfl
theorem Dh.int_inv {K : PySem.W.Frag} {H : Hp} {v : V} {i : Int} (h : Dh K H v (.int i)) : v = .int i := by cases h; rfl
theorem Dh.non_inv {K : PySem.W.Frag} {H : Hp} {v : V} (h : Dh K H v .non) : v = .non := by cases h; rfl
theorem Dh.tup_inv {K : PySem.W.Frag} {H : Hp} {v : V} {ds : List Dt} (h : Dh K H v (.tup ds)) : ∃ a xs, v = .ref a ∧ SqT K H a xs ∧ DhAll K H xs ds := by
  cases h with
  | tup s t => exact ⟨_, _, rfl, s, t⟩
/-- the call of such a def -/
theorem spD_of {K : PySem.W.Frag} {f : List Dt → Option Dt} {vs : List V} {H : Hp} {Q : VK} {ds : List Dt} {r : Dt} (h : DhAll K H vs ds) (e : f ds = some r) (q : ∀ v H', Same H H' → Dh K H' v r → Q v H') : spD K f vs H Q E0 := ⟨ds, r, h, e, q⟩
theorem spD_bl {K : PySem.W.Frag} {f : List Dt → Option Dt} {vs : List V} {H : Hp} {Q : VK} {ds : List Dt} {b : Bool} (h : DhAll K H vs ds) (e : f ds = some (.bl b)) (q : ∀ H', Same H H' → Q (.bl b) H') : spD K f vs H Q E0 :=
  ⟨ds, _, h, e, fun v H' s d => by rw [d.bl_inv]; exact q H' s⟩
theorem spD_int {K : PySem.W.Frag} {f : List Dt → Option Dt} {vs : List V} {H : Hp} {Q : VK} {ds : List Dt} {b : Int} (h : DhAll K H vs ds) (e : f ds = some (.int b)) (q : ∀ H', Same H H' → Q (.int b) H') : spD K f vs H Q E0 :=
  ⟨ds, _, h, e, fun v H' s d => by rw [d.int_inv]; exact q H' s⟩
end Fm
namespace Fm
open PySem PySem.Spec PyProof.Rows L2
/-! ### zip of a list and a tuple that both stay as they are -/
/-- a list (true), a tuple (false) that is read -/
def SqA (L : Bool) (K : PySem.W.Frag) (H : Hp) (a : Addr) (xs : List V) : Prop := match L with
  | true => SqL K H a xs
  | false => SqT K H a xs
theorem Ext.sqTs {K : PySem.W.Frag} {H H' : Hp} {a : Addr} {xs : List V} {L : Bool} (e : Same H H') (h : SqA L K H a xs) : SqA L K H' a xs := match L, h with
  | true, h => e.seq h
  | false, h => (Ext.of e).sqT h
theorem SqA.any {K : PySem.W.Frag} {H : Hp} {a : Addr} {xs : List V} {L : Bool} (h : SqA L K H a xs) : SqL K H a xs ∨ SqT K H a xs := match L, h with
  | true, h => .inl h
  | false, h => .inr h
/-- pairs of the items of a list or tuple and of a tuple that stay as they are -/
def ItM (L : Bool) (K : PySem.W.Frag) (a b : Addr) (xs ys : List V) : It where
  go := fun i H => SqA L K H a xs ∧ SqT K H b ys ∧ i < xs.length ∧ i < ys.length
  yld := fun i H v H' => ∃ T x y, v = .ref T ∧ H T = none ∧ H' = upd H T (.tup [x, y]) ∧ xs[i]? = some x ∧ ys[i]? = some y
  stop := fun i H => SqA L K H a xs ∧ SqT K H b ys ∧ i = min xs.length ys.length
theorem vals_at {xs : List V} {us : List Value} {i : Nat} {u : Value} (r : Vals xs us) (h : us[i]? = some u) : ∃ x, xs[i]? = some x ∧ RelV x u := by
  obtain ⟨hl, e⟩ := List.getElem?_eq_some_iff.mp h
  have hx : i < xs.length := by rw [r.length]; exact hl
  obtain ⟨u', e1, e2⟩ := r.get (List.getElem?_eq_getElem hx)
  rw [h] at e1
  cases e1
  exact ⟨_, List.getElem?_eq_getElem hx, e2⟩
theorem turn_m {P : Program} {w : World} {K : PySem.W.Frag} {elts : List Expr} {kk : Nat} {tp : Pos} {a b z TI TO i1 i2 : Addr} {xs ys : List V} (S : ZipSep2 z TI TO i1 i2 [i1, a] [i2, b]) (n1 : a ≠ i1) (n2 : b ≠ i2) :
    Turn P w K (.Tuple elts kk tp) (ItM true K a b xs ys) [z, TI, TO, i1, i2] z
      (fun i h => IsZip h z TI TO .none ∧ IsTupOf2 h TI (.ref i1) (.ref i2) ∧ (∃ u v, IsTupOf2 h TO u v) ∧ h.IsListIter i1 a i ∧ h.IsTupleIter i2 b i) where
  mem := List.mem_cons_self ..
  obj := by
    rintro i h ⟨q1, q2, ⟨u, v, q3⟩, ⟨o4, q4, _, d4⟩, ⟨o5, q5, _, d5⟩⟩ c hc
    rcases (show c = z ∨ c = TI ∨ c = TO ∨ c = i1 ∨ c = i2 by simpa using hc) with e | e | e | e | e <;> subst e
    · exact ⟨_, q1, fun _ y => nomatch y⟩
    · exact ⟨_, q2, fun _ y => nomatch y⟩
    · exact ⟨_, q3, fun _ y => nomatch y⟩
    · exact ⟨o4, q4, fun _ y => by rw [d4] at y; cases y⟩
    · exact ⟨o5, q5, fun _ y => by rw [d5] at y; cases y⟩
  keep := by
    rintro i h h' ⟨q1, q2, ⟨u, v, q3⟩, q4, q5⟩ k
    exact ⟨k _ (by simp) _ q1, k _ (by simp) _ q2, ⟨u, v, k _ (by simp) _ q3⟩, q4.at fun o e => k _ (by simp) o e, q5.at fun o e => k _ (by simp) o e⟩
  item := by
    intro X hP hw hK hc i pins s σ H E I hf st hg
    subst hP hw hK
    obtain ⟨hx, hy, lx, ly⟩ := hg
    obtain ⟨us, rx, px, _⟩ := I.list hx
    obtain ⟨ws, ry, py, _⟩ := I.tuple hy
    have hd : X.A.in1.handled = none := I.ok.hd hc
    have W := GoesN.zip2 (elts := elts) (x1 := kk) (pos := tp) S (Draws.list (prog := X.prog) (w := X.w) hd i1 a n1 us.toArray) (Draws.tuple (prog := X.prog) (w := X.w) hd i2 b n2 ws.toArray)
    have hlt : i < min us.toArray.size ws.toArray.size := by
      rw [List.size_toArray, List.size_toArray, ← rx.length, ← ry.length]
      omega
    obtain ⟨q1, q2, q3, q4, q5⟩ := st
    refine W.goes i s (fun v s2 => ∃ x H', Inv X pins σ H' s2 ∧ RelV x v ∧ (ItM true X.K a b xs ys).yld i H x H' ∧ (IsZip s2.heap z TI TO .none ∧ IsTupOf2 s2.heap TI (.ref i1) (.ref i2) ∧ (∃ u v, IsTupOf2 s2.heap TO u v) ∧ s2.heap.IsListIter i1 a (i + 1) ∧ s2.heap.IsTupleIter i2 b (i + 1)) ∧ ∀ c ∈ [z, TI, TO, i1, i2], H' c = none) E hlt
      ⟨q1, q2, q3, ⟨q4, px.isList⟩, q5, py⟩ fun v h' tk hY st' hk _ => ?_
    obtain ⟨T, u, v', rfl, hT, hu, hv, hTt⟩ := hY
    obtain ⟨g1, g2, g3, ⟨g4, _⟩, g5, _⟩ := st'
    obtain ⟨x, ex, rxu⟩ := vals_at rx (show us[i]? = some u by simpa using hu)
    obtain ⟨y, ey, ryu⟩ := vals_at ry (show ws[i]? = some v' by simpa using hv)
    have new : ObjOk X.prog X.w (upd H T (.tup [x, y])) h' T (.tup [x, y]) := ⟨by show 2 ≤ sizeLine; decide, [u, v'], .cons rxu (.cons ryu .nil), hTt⟩
    refine ⟨.ref T, _, I.turnedNew (t' := tk) (ch := [z, TI, TO, i1, i2]) (fun c o hn e => hk c o (fun m => hn ?_) e) hf hT new, rfl, ⟨T, x, y, rfl, I.hok.fresh hT, rfl, ex, ey⟩, ⟨g1, g2, g3, g4, g5⟩, fun c hm => ?_⟩
    · simp only [List.mem_cons, List.not_mem_nil, or_false] at m ⊢
      rcases m with m | m | m | m <;> simp [m]
    · obtain ⟨o, e⟩ : ∃ o, s.heap.get? c = some o := by
        rcases (show c = z ∨ c = TI ∨ c = TO ∨ c = i1 ∨ c = i2 by simpa using hm) with e | e | e | e | e <;> subst e
        · exact ⟨_, q1⟩
        · exact ⟨_, q2⟩
        · obtain ⟨_, _, q⟩ := q3
          exact ⟨_, q⟩
        · obtain ⟨o, q, _⟩ := q4
          exact ⟨o, q⟩
        · obtain ⟨o, q, _⟩ := q5
          exact ⟨o, q⟩
      rw [upd_ne (Nat.ne_of_lt (Nat.lt_of_lt_of_le (Heap.lt_size e) hT))]
      exact (hf c hm).1
  done := by
    intro X hP hw hK hc i pins s σ H E I hf st hg
    subst hP hw hK
    obtain ⟨hx, hy, hi⟩ := hg
    obtain ⟨us, rx, px, _⟩ := I.list hx
    obtain ⟨ws, ry, py, _⟩ := I.tuple hy
    have hd : X.A.in1.handled = none := I.ok.hd hc
    have W := GoesN.zip2 (elts := elts) (x1 := kk) (pos := tp) S (Draws.list (prog := X.prog) (w := X.w) hd i1 a n1 us.toArray) (Draws.tuple (prog := X.prog) (w := X.w) hd i2 b n2 ws.toArray)
    have hn : i = min us.toArray.size ws.toArray.size := by
      rw [List.size_toArray, List.size_toArray, ← rx.length, ← ry.length]
      exact hi
    subst hn
    obtain ⟨q1, q2, q3, q4, q5⟩ := st
    refine W.stops s (fun s1 => Inv X pins σ H s1) E ⟨q1, q2, q3, ⟨q4, px.isList⟩, q5, py⟩ fun h' tk hk _ => ?_
    refine I.turnedL (t' := tk) (ch := [z, TI, TO, i1, i2]) (fun c o hn e => hk c o (fun m => hn ?_) e) hf
    simp only [List.mem_cons, List.not_mem_nil, or_false] at m ⊢
    rcases m with m | m | m | m <;> simp [m]
  self := fun _ _ _ _ _ st q => wpAny_pyIter_zip st.1 q
theorem turn_t {P : Program} {w : World} {K : PySem.W.Frag} {elts : List Expr} {kk : Nat} {tp : Pos} {a b z TI TO i1 i2 : Addr} {xs ys : List V} (S : ZipSep2 z TI TO i1 i2 [i1, a] [i2, b]) (n1 : a ≠ i1) (n2 : b ≠ i2) :
    Turn P w K (.Tuple elts kk tp) (ItM false K a b xs ys) [z, TI, TO, i1, i2] z
      (fun i h => IsZip h z TI TO .none ∧ IsTupOf2 h TI (.ref i1) (.ref i2) ∧ (∃ u v, IsTupOf2 h TO u v) ∧ h.IsTupleIter i1 a i ∧ h.IsTupleIter i2 b i) where
  mem := List.mem_cons_self ..
  obj := by
    rintro i h ⟨q1, q2, ⟨u, v, q3⟩, ⟨o4, q4, _, d4⟩, ⟨o5, q5, _, d5⟩⟩ c hc
    rcases (show c = z ∨ c = TI ∨ c = TO ∨ c = i1 ∨ c = i2 by simpa using hc) with e | e | e | e | e <;> subst e
    · exact ⟨_, q1, fun _ y => nomatch y⟩
    · exact ⟨_, q2, fun _ y => nomatch y⟩
    · exact ⟨_, q3, fun _ y => nomatch y⟩
    · exact ⟨o4, q4, fun _ y => by rw [d4] at y; cases y⟩
    · exact ⟨o5, q5, fun _ y => by rw [d5] at y; cases y⟩
  keep := by
    rintro i h h' ⟨q1, q2, ⟨u, v, q3⟩, q4, q5⟩ k
    exact ⟨k _ (by simp) _ q1, k _ (by simp) _ q2, ⟨u, v, k _ (by simp) _ q3⟩, q4.at fun o e => k _ (by simp) o e, q5.at fun o e => k _ (by simp) o e⟩
  item := by
    intro X hP hw hK hc i pins s σ H E I hf st hg
    subst hP hw hK
    obtain ⟨hx, hy, lx, ly⟩ := hg
    obtain ⟨us, rx, px, _⟩ := I.tuple hx
    obtain ⟨ws, ry, py, _⟩ := I.tuple hy
    have hd : X.A.in1.handled = none := I.ok.hd hc
    have W := GoesN.zip2 (elts := elts) (x1 := kk) (pos := tp) S (Draws.tuple (prog := X.prog) (w := X.w) hd i1 a n1 us.toArray) (Draws.tuple (prog := X.prog) (w := X.w) hd i2 b n2 ws.toArray)
    have hlt : i < min us.toArray.size ws.toArray.size := by
      rw [List.size_toArray, List.size_toArray, ← rx.length, ← ry.length]
      omega
    obtain ⟨q1, q2, q3, q4, q5⟩ := st
    refine W.goes i s (fun v s2 => ∃ x H', Inv X pins σ H' s2 ∧ RelV x v ∧ (ItM false X.K a b xs ys).yld i H x H' ∧ (IsZip s2.heap z TI TO .none ∧ IsTupOf2 s2.heap TI (.ref i1) (.ref i2) ∧ (∃ u v, IsTupOf2 s2.heap TO u v) ∧ s2.heap.IsTupleIter i1 a (i + 1) ∧ s2.heap.IsTupleIter i2 b (i + 1)) ∧ ∀ c ∈ [z, TI, TO, i1, i2], H' c = none) E hlt
      ⟨q1, q2, q3, ⟨q4, px⟩, q5, py⟩ fun v h' tk hY st' hk _ => ?_
    obtain ⟨T, u, v', rfl, hT, hu, hv, hTt⟩ := hY
    obtain ⟨g1, g2, g3, ⟨g4, _⟩, g5, _⟩ := st'
    obtain ⟨x, ex, rxu⟩ := vals_at rx (show us[i]? = some u by simpa using hu)
    obtain ⟨y, ey, ryu⟩ := vals_at ry (show ws[i]? = some v' by simpa using hv)
    have new : ObjOk X.prog X.w (upd H T (.tup [x, y])) h' T (.tup [x, y]) := ⟨by show 2 ≤ sizeLine; decide, [u, v'], .cons rxu (.cons ryu .nil), hTt⟩
    refine ⟨.ref T, _, I.turnedNew (t' := tk) (ch := [z, TI, TO, i1, i2]) (fun c o hn e => hk c o (fun m => hn ?_) e) hf hT new, rfl, ⟨T, x, y, rfl, I.hok.fresh hT, rfl, ex, ey⟩, ⟨g1, g2, g3, g4, g5⟩, fun c hm => ?_⟩
    · simp only [List.mem_cons, List.not_mem_nil, or_false] at m ⊢
      rcases m with m | m | m | m <;> simp [m]
    · obtain ⟨o, e⟩ : ∃ o, s.heap.get? c = some o := by
        rcases (show c = z ∨ c = TI ∨ c = TO ∨ c = i1 ∨ c = i2 by simpa using hm) with e | e | e | e | e <;> subst e
        · exact ⟨_, q1⟩
        · exact ⟨_, q2⟩
        · obtain ⟨_, _, q⟩ := q3
          exact ⟨_, q⟩
        · obtain ⟨o, q, _⟩ := q4
          exact ⟨o, q⟩
        · obtain ⟨o, q, _⟩ := q5
          exact ⟨o, q⟩
      rw [upd_ne (Nat.ne_of_lt (Nat.lt_of_lt_of_le (Heap.lt_size e) hT))]
      exact (hf c hm).1
  done := by
    intro X hP hw hK hc i pins s σ H E I hf st hg
    subst hP hw hK
    obtain ⟨hx, hy, hi⟩ := hg
    obtain ⟨us, rx, px, _⟩ := I.tuple hx
    obtain ⟨ws, ry, py, _⟩ := I.tuple hy
    have hd : X.A.in1.handled = none := I.ok.hd hc
    have W := GoesN.zip2 (elts := elts) (x1 := kk) (pos := tp) S (Draws.tuple (prog := X.prog) (w := X.w) hd i1 a n1 us.toArray) (Draws.tuple (prog := X.prog) (w := X.w) hd i2 b n2 ws.toArray)
    have hn : i = min us.toArray.size ws.toArray.size := by
      rw [List.size_toArray, List.size_toArray, ← rx.length, ← ry.length]
      exact hi
    subst hn
    obtain ⟨q1, q2, q3, q4, q5⟩ := st
    refine W.stops s (fun s1 => Inv X pins σ H s1) E ⟨q1, q2, q3, ⟨q4, px⟩, q5, py⟩ fun h' tk hk _ => ?_
    refine I.turnedL (t' := tk) (ch := [z, TI, TO, i1, i2]) (fun c o hn e => hk c o (fun m => hn ?_) e) hf
    simp only [List.mem_cons, List.not_mem_nil, or_false] at m ⊢
    rcases m with m | m | m | m <;> simp [m]
  self := fun _ _ _ _ _ st q => wpAny_pyIter_zip st.1 q
/-- zip(list or tuple, tuple) as what a for walks -/
def iZipM (K : PySem.W.Frag) (ta : TA) : TI := fun σ H R => ta σ H fun vs H1 => ∃ (L : Bool) (a b : Addr) (xs ys : List V), vs = [.ref a, .ref b] ∧ SqA L K H1 a xs ∧ SqT K H1 b ys ∧ R (ItM L K a b xs ys) H1
theorem pi_zipM {X : Cx} {e e2 : Expr} {ta : TA} {p pos tp : Pos} {elts : List Expr} {kk : Nat} (hg : Gl X "zip") (hm : X.mg "zip" = none) (ha : PA X [e, e2] ta)
    (h1 : starEach [e, e2] X.env = (false, eval e X.env) :: starEach [e2] X.env := by rfl) (h2 : (backTo pos (starEach [e2] X.env)).any (·.1) = false := by rfl) :
    PI X (.Tuple elts kk tp) (.Call (.Name "zip" p) [e, e2] [] pos) (iZipM X.K ta) := by
  constructor
  intro pins s σ H R I h
  refine Call_ (ld_blt I hg hm PyProof.Rows.boot_zip (PyProof.Rows.callWith_type1 (thn (ha.run pos pins s σ H _ I h) fun us s1 q => ?_) h1 h2))
  obtain ⟨vs, H1, I1, r1, L, a, b, xs, ys, rfl, hx, hy, q⟩ := q
  match us, r1 with
  | [_, _], .cons ra (.cons rb .nil) =>
    cases ra
    cases rb
    cases L with
    | true =>
      have hx : SqL X.K H1 a xs := hx
      obtain ⟨us, rx, px, _⟩ := I1.list hx
      obtain ⟨ws, ry, py, _⟩ := I1.tuple hy
      have la : a < s1.heap.objs.size := px.lt
      have lb : b < s1.heap.objs.size := by
        obtain ⟨o, e, _⟩ := py
        exact Heap.lt_size e
      refine zip_begins2 (begins_list a us.toArray) (begins_tuple b ws.toArray) px.isList py fun h' k1 k2 k3 k4 k5 k6 k7 => wpAny_pyIter_zip k1 ?_
      have I2 : Inv X pins σ H1 { s1 with heap := h' } := I1.kept (t' := s1.toks) k7
      refine ⟨_, [s1.heap.objs.size + 4, s1.heap.objs.size + 2, s1.heap.objs.size + 3, s1.heap.objs.size, s1.heap.objs.size + 1], _, _, H1, rfl, I2,
        turn_m (zip_sep2 (N := s1.heap.objs.size) (fp1 := [a]) (fp2 := [b]) (by simpa using la) (by simpa using lb)) (Nat.ne_of_lt la) (Nat.ne_of_lt (Nat.lt_succ_of_lt lb)), ⟨k1, k2, ⟨_, _, k3⟩, ⟨_, k4, rfl, rfl⟩, ⟨_, k5, rfl, rfl⟩⟩, fun c hc => ?_, q⟩
      have hle : s1.heap.objs.size ≤ c := by
        simp only [List.mem_cons, List.not_mem_nil, or_false] at hc
        rcases hc with e | e | e | e | e <;> (rw [e]; first | exact Nat.le_refl _ | exact Nat.le_add_right _ _)
      exact I1.fpOk hle (I1.hok.fresh hle)
    | false =>
      have hx : SqT X.K H1 a xs := hx
      obtain ⟨us, rx, px, _⟩ := I1.tuple hx
      obtain ⟨ws, ry, py, _⟩ := I1.tuple hy
      have la : a < s1.heap.objs.size := by
        obtain ⟨o, e, _⟩ := px
        exact Heap.lt_size e
      have lb : b < s1.heap.objs.size := by
        obtain ⟨o, e, _⟩ := py
        exact Heap.lt_size e
      refine zip_begins2 (begins_tuple a us.toArray) (begins_tuple b ws.toArray) px py fun h' k1 k2 k3 k4 k5 k6 k7 => wpAny_pyIter_zip k1 ?_
      have I2 : Inv X pins σ H1 { s1 with heap := h' } := I1.kept (t' := s1.toks) k7
      refine ⟨_, [s1.heap.objs.size + 4, s1.heap.objs.size + 2, s1.heap.objs.size + 3, s1.heap.objs.size, s1.heap.objs.size + 1], _, _, H1, rfl, I2,
        turn_t (zip_sep2 (N := s1.heap.objs.size) (fp1 := [a]) (fp2 := [b]) (by simpa using la) (by simpa using lb)) (Nat.ne_of_lt la) (Nat.ne_of_lt (Nat.lt_succ_of_lt lb)), ⟨k1, k2, ⟨_, _, k3⟩, ⟨_, k4, rfl, rfl⟩, ⟨_, k5, rfl, rfl⟩⟩, fun c hc => ?_, q⟩
      have hle : s1.heap.objs.size ≤ c := by
        simp only [List.mem_cons, List.not_mem_nil, or_false] at hc
        rcases hc with e | e | e | e | e <;> (rw [e]; first | exact Nat.le_refl _ | exact Nat.le_add_right _ _)
      exact I1.fpOk hle (I1.hok.fresh hle)
/-- a loop over such pairs -/
theorem for_zipM {L : Bool} {K : PySem.W.Frag} {a b : Addr} {xs ys : List V} {g : TG} {tb : TS} {D : Ends} {σ : L2.St} {H : Hp} (Pv : Nat → L2.St → Hp → Prop) (h0 : Pv 0 σ H) (hq : ∀ i σ H, Pv i σ H → SqA L K H a xs ∧ SqT K H b ys)
    (hs : ∀ (i : Nat) (x y : V) (T : Addr) (σ : L2.St) (H : Hp), xs[i]? = some x → ys[i]? = some y → Pv i σ H → H T = none → g (.ref T) σ (upd H T (.tup [x, y])) fun σ2 H2 => tb { D with nx := Pv (i + 1), ct := Pv (i + 1), bk := D.nx } σ2 H2)
    (hd : ∀ σ H, Pv (min xs.length ys.length) σ H → D.nx σ H) :
    ∃ W : Nat → Nat → L2.St → Hp → Prop, (∃ m, W 0 m σ H) ∧ ∀ i m σ H, W i m σ H →
      ((ItM L K a b xs ys).stop i H ∧ D.nx σ H) ∨ ((ItM L K a b xs ys).go i H ∧ ∃ N : L2.St → Hp → Prop, (∀ σ' H', N σ' H' → ∃ m', m' < m ∧ W (i + 1) m' σ' H') ∧ ∀ v H', (ItM L K a b xs ys).yld i H v H' → g v σ H' fun σ2 H2 => tb { D with nx := N, ct := N, bk := D.nx } σ2 H2) := by
  refine ⟨fun i m σ H => i + m = min xs.length ys.length ∧ Pv i σ H, ⟨_, Nat.zero_add _, h0⟩, ?_⟩
  rintro i m σ H ⟨em, p⟩
  obtain ⟨qx, qy⟩ := hq i σ H p
  cases m with
  | zero =>
    have ei : i = min xs.length ys.length := em
    refine .inl ⟨⟨qx, qy, ei⟩, hd σ H ?_⟩
    rw [← ei]
    exact p
  | succ m =>
    refine .inr ⟨⟨qx, qy, by omega, by omega⟩, Pv (i + 1), fun σ' H' p' => ⟨m, Nat.lt_succ_self m, by omega, p'⟩, fun v H' y => ?_⟩
    obtain ⟨T, x, y', rfl, hT, rfl, f1, f2⟩ := y
    exact hs i x y' T σ H f1 f2 p hT
end Fm
namespace Fm
open PySem PySem.Spec PyProof.Rows L2
/-- a comprehension over a list, within it over range(n): Pv by both turns and the heap -/
theorem lc2_lr {K : PySem.W.Frag} {a : Addr} {xs : List V} {n : Nat} {i0 j0 : Nat} {ta : TA} {te : TE} {vs vs1 : List Nat} {σ : L2.St} {H1 : Hp} {D : Addr} {Qd : Hp → Prop} (Pv : Nat → Nat → Hp → Prop) (hn : n < 2 ^ 62)
    (hw : ∀ x, wipe ((wipe σ vs).set i0 (some x)) vs = wipe σ vs) (hw1 : ∀ x y, wipe ((wipe ((wipe σ vs).set i0 (some x)) vs1).set j0 (some y)) vs1 = wipe ((wipe σ vs).set i0 (some x)) vs1) (h0 : Pv 0 0 (upd H1 D (.lst []))) (hl : ∀ i j H, Pv i j H → SqL K H a xs)
    (hr : ∀ i x H, xs[i]? = some x → Pv i 0 H → ∀ R : List V → Hp → Prop, R [.int n] H → ta ((wipe σ vs).set i0 (some x)) H R)
    (hs : ∀ (i j : Nat) x H, xs[i]? = some x → j < n → Pv i j H → te ((wipe ((wipe σ vs).set i0 (some x)) vs1).set j0 (some (.int (j : Int)))) H fun y H7 => ∃ acc, H7 D = some (.lst acc) ∧ acc.length < sizeLine ∧ Pv i (j + 1) (upd H7 D (.lst (acc ++ [y]))))
    (hj : ∀ i H, i < xs.length → Pv i n H → Pv (i + 1) 0 H) (hd : ∀ H, Pv xs.length 0 H → Qd H) :
    ∃ W : Nat → Nat → Hp → Prop, (∃ m, W 0 m (upd H1 D (.lst []))) ∧ ∀ i m H, W i m H →
      ((Itl K a).stop i H ∧ Qd H) ∨ ((Itl K a).go i H ∧ ∃ Nx : Hp → Prop, (∀ H', Nx H' → ∃ m', m' < m ∧ W (i + 1) m' H') ∧ ∀ x H', (Itl K a).yld i H x H' → gName i0 x (wipe σ vs) H' fun σ2 H2 => wipe σ2 vs = wipe σ vs ∧ tYes σ2 H2 fun b H3 =>
        if b = true then (iRng1 ta) σ2 H3 fun J1 H4 => ∃ W1 : Nat → Nat → Hp → Prop, (∃ m, W1 0 m H4) ∧ ∀ j k H, W1 j k H →
          (J1.stop j H ∧ Nx H) ∨ (J1.go j H ∧ ∃ Nx1 : Hp → Prop, (∀ H', Nx1 H' → ∃ k', k' < k ∧ W1 (j + 1) k' H') ∧ ∀ x H', J1.yld j H x H' → gName j0 x (wipe σ2 vs1) H' fun σ3 H5 => wipe σ3 vs1 = wipe σ2 vs1 ∧ tYes σ3 H5 fun b H6 =>
            if b = true then te σ3 H6 fun y H7 => ∃ acc, H7 D = some (.lst acc) ∧ acc.length < sizeLine ∧ Nx1 (upd H7 D (.lst (acc ++ [y]))) else Nx1 H6)
        else Nx H3) := by
  refine ⟨fun i m H => i + m = xs.length ∧ Pv i 0 H, ⟨xs.length, Nat.zero_add _, h0⟩, fun i m H h => ?_⟩
  obtain ⟨em, p⟩ := h
  have q := hl i 0 H p
  cases m with
  | zero =>
    have ei : i = xs.length := em
    subst ei
    exact .inl ⟨⟨xs, q, Nat.le_refl _⟩, hd H p⟩
  | succ m =>
    have hlt : i < xs.length := by omega
    refine .inr ⟨⟨xs, xs[i], q, List.getElem?_eq_getElem hlt⟩, Pv (i + 1) 0, fun H' p' => ⟨m, Nat.lt_succ_self m, by omega, p'⟩, fun x H' y => ?_⟩
    obtain ⟨rfl, y⟩ := y
    have hx := y xs q
    refine ⟨hw x, ?_⟩
    dsimp only [tYes]
    rw [if_pos rfl]
    refine hr i x _ hx p _ ⟨(n : Int), rfl, by omega, by omega, ?_⟩
    refine ⟨fun j k H => j + k = n ∧ Pv i j H, ⟨n, Nat.zero_add _, p⟩, fun j k H h => ?_⟩
    obtain ⟨ek, pj⟩ := h
    cases k with
    | zero =>
      have ej : j = n := ek
      subst ej
      exact .inl ⟨by show ((j : Nat) : Int).toNat ≤ j; omega, hj i H hlt pj⟩
    | succ k =>
      have hjn : j < n := by omega
      refine .inr ⟨by show j < ((n : Nat) : Int).toNat; omega, Pv i (j + 1), fun H' p' => ⟨k, Nat.lt_succ_self k, by omega, p'⟩, fun y H' e => ?_⟩
      obtain ⟨rfl, rfl⟩ := e
      have e0 : (0 : Int) + (j : Int) = (j : Int) := Int.zero_add _
      rw [e0]
      refine ⟨hw1 x _, ?_⟩
      rw [if_pos rfl]
      exact hs i j x _ hx hjn pj
end Fm
namespace Fm
open PySem PySem.Spec PyProof.Rows L2
/-! ### rules whose reading is to name the written part by itself (within a comprehension's block) -/
section
variable {X : Cx} (K : PySem.W.Frag)
theorem op_catK (e : X.K = K := by rfl) : OpR X (binaryOp .Add) (rCatA K) := e ▸ op_catA
theorem op_eqK (hu : X.A.units + 64 < cLine) (e : X.K = K := by rfl) : OpR X (compareOp .Eq) (rEqD K) := e ▸ op_eqD hu
theorem op_neK (hu : X.A.units + 64 < cLine) (e : X.K = K := by rfl) : OpR X (compareOp .NotEq) (rNeD K) := e ▸ op_neD hu
theorem ix_tupK (e : X.K = K := by rfl) : IxR X (rIxT K) := e ▸ ix_tup
theorem ix_listK (e : X.K = K := by rfl) : IxR X (rIxL K) := e ▸ ix_list
theorem call_isiK' (e : X.K = K := by rfl) : CallR X (.builtin "isinstance") (rIsi K) := e ▸ call_isi
theorem pg_tupK {es : List Expr} {k : Nat} {t : TGs} {n : Nat} {pos : Pos} (hc : X.calm = true) (h : PGs X es t) (e : X.K = K := by rfl) (hn : (assignEach es X.env).length = n := by rfl) (hst : (assignEach es X.env).findIdx? (·.1) = none := by rfl) :
    PG X (.Tuple es k pos) (gTup K n t) := e ▸ pg_tup hc h hn hst
theorem pi_tupK {tg l : Expr} {tl : TE} (hl : PE X l tl) (e : X.K = K := by rfl) : PI X tg l (iTup K tl) := e ▸ pi_tup hl
theorem pi_listK {tg l : Expr} {tl : TE} (hl : PE X l tl) (e : X.K = K := by rfl) : PI X tg l (iList K tl) := e ▸ pi_list hl
theorem sl_tupK (e : X.K = K := by rfl) : SlR X (rSlA K) := e ▸ sl_tupA
theorem sl_listK (e : X.K = K := by rfl) : SlR X (rSlL K) := e ▸ sl_list
/-- len of a list or tuple; tuple(list or tuple) -/
def rLenK (K : PySem.W.Frag) : List V → Hp → VK → Prop := fun xs H Q => ∃ p ys, xs = [.ref p] ∧ (SqL K H p ys ∨ SqT K H p ys) ∧ Q (.int ys.length) H
theorem call_lenK (e : X.K = K := by rfl) : CallR X (.builtin "len") (rLenK K) := e ▸ call_len_seq
def rTupK (K : PySem.W.Frag) : List V → Hp → VK → Prop := fun xs H Q => ∃ p ys, xs = [.ref p] ∧ ((SqL K H p ys ∧ ∀ l, H l = none → Q (.ref l) (upd H l (.tup ys))) ∨ (SqT K H p ys ∧ Q (.ref p) H))
theorem call_tupleK (e : X.K = K := by rfl) : CallR X (.type "tuple") (rTupK K) := e ▸ call_tuple_of
end
end Fm
namespace Fm
open PySem PySem.Spec PyProof.Rows L2
/-! ### dict(zip(t, u)) of two tuples: the pair that zip gave out before is still held -/
section
variable {prog : Program} {w : World} {A : Around} {E : Value → Shared → Prop} {s : Shared}
theorem zh_item {z TI TO T i1 i2 l1 l2 : Addr} {f : Bool} {oT : Obj} {k1 k2 : Nat} {xs ys : Array Value} {x y : Value} {Q : Value → Shared → Prop} (D : ZipApart z TI TO i1 i2 l1 l2) (hz : IsZipHeld s.heap z TI TO T f) (hT : s.heap.get? T = some oT) (hTI : IsPair s.heap TI (.ref i1) (.ref i2))
    (g1 : s.heap.IsTupleIter i1 l1 k1) (g2 : s.heap.IsTupleIter i2 l2 k2) (t1 : s.heap.IsTuple l1 xs) (t2 : s.heap.IsTuple l2 ys) (hx : xs[k1]? = some x) (hy : ys[k2]? = some y)
    (q : ∀ h', IsZipHeld h' z TI TO T true → h'.IsTupleIter i1 l1 (k1 + 1) → h'.IsTupleIter i2 l2 (k2 + 1) → IsPair h' s.heap.objs.size x y → (∀ c o, c ≠ z → c ≠ i1 → c ≠ i2 → s.heap.get? c = some o → h'.get? c = some o) → Q (.ref s.heap.objs.size) { s with heap := h' }) :
    wpAny (model prog w) A (Builtin.«zip.__next__» ⟨[.ref z], []⟩) (fun fin s' => ∃ v, fin = .done (.ret v) ∧ Q v s') E s := by
  show wpAny _ _ (field (.ref z) 2 >>= _) _ _ _; refine wpAny_bind (wpAny_field hz rfl (x := .bool false) rfl ?_)
  show wpAny _ _ (field (.ref z) 3 >>= _) _ _ _; refine wpAny_bind (wpAny_field hz rfl (x := .ref TI) rfl (wpAny_bind (wpAny_seqItems hTI rfl ?_)))
  show wpAny _ _ (Builtin.SmallTypes.ownedTupleIsFree (.ref z) >>= _) _ _ _; refine wpAny_bind (wpAny_tupleHeld_zip hz hT fun ha za sa => ?_)
  simp only [Bool.false_eq_true, if_false]; refine wpAny_bind ?_; rw [← Array.forIn_toList]; simp only [List.forIn_cons, List.forIn_nil]
  refine wpAny_bind (wpAny_bind (wpAny_holding ?_)); show wpAny _ _ (Builtin.SmallTypes.nextOf (.ref i1) >>= _) _ _ _
  refine wpAny_bind (RZ.nextOf_tuple_item (s := { s with heap := ha }) (g1.at fun o e => sa.extBut _ _ D.i1z e) (t1.at fun o e => sa.extBut _ _ D.l1z e) hx fun hb gb sb => wpAny_pure (wpAny_pure ?_))
  refine wpAny_bind (wpAny_bind (wpAny_holding ?_)); show wpAny _ _ (Builtin.SmallTypes.nextOf (.ref i2) >>= _) _ _ _
  refine wpAny_bind (RZ.nextOf_tuple_item (s := { s with heap := hb }) (g2.at fun o e => sb.extBut _ _ D.i12.symm (sa.extBut _ _ D.i2z e)) (t2.at fun o e => sb.extBut _ _ D.l2i1 (sa.extBut _ _ D.l2z e)) hy fun hc gc sc => wpAny_pure (wpAny_pure (wpAny_pure ?_)))
  show wpAny _ _ (newTuple [x, y] >>= _) _ _ _; refine wpAny_bind (wpAny_newTuple (wpAny_pure ⟨_, rfl, ?_⟩))
  have ez : hc.objs.size = s.heap.objs.size := by rw [sc.1, sb.1, sa.1]
  have kk : ∀ c o, c ≠ z → c ≠ i1 → c ≠ i2 → s.heap.get? c = some o → hc.get? c = some o := fun c o c1 c2 c3 e => sc.extBut _ _ c3 (sb.extBut _ _ c2 (sa.extBut _ _ c1 e))
  have hp : IsPair (hc.push { cls := .type "tuple", data := .seq #[x, y] }) hc.objs.size x y := Heap.get?_push_size _ rfl
  show Q (.ref hc.objs.size) _
  rw [ez] at hp ⊢
  exact q _ (Heap.get?_push_of_some _ (sc.extBut _ _ D.i2z.symm (sb.extBut _ _ D.i1z.symm za))) (gb.at fun o e => Heap.get?_push_of_some _ (sc.extBut _ _ D.i12 e)) (gc.at fun o e => Heap.get?_push_of_some _ e) hp fun c o c1 c2 c3 e => Heap.get?_push_of_some _ (kk c o c1 c2 c3 e)
theorem zh_end {z TI TO T i1 i2 l1 l2 : Addr} {f : Bool} {oT : Obj} {k1 k2 : Nat} {xs ys : Array Value} {Q : Fin → Shared → Prop} (hh : A.handled = none) (D : ZipApart z TI TO i1 i2 l1 l2) (hz : IsZipHeld s.heap z TI TO T f) (hT : s.heap.get? T = some oT) (hTI : IsPair s.heap TI (.ref i1) (.ref i2))
    (g1 : s.heap.IsTupleIter i1 l1 k1) (g2 : s.heap.IsTupleIter i2 l2 k2) (t1 : s.heap.IsTuple l1 xs) (t2 : s.heap.IsTuple l2 ys) (hend : xs[k1]? = none ∨ ys[k2]? = none)
    (q : ∀ h' e, (∀ c o, c ≠ z → c ≠ i1 → c ≠ i2 → s.heap.get? c = some o → h'.get? c = some o) → (∃ o, h'.get? e = some o ∧ o.cls = .type "StopIteration") → E (.ref e) { s with heap := h' }) :
    wpAny (model prog w) A (Builtin.«zip.__next__» ⟨[.ref z], []⟩) Q E s := by
  show wpAny _ _ (field (.ref z) 2 >>= _) _ _ _; refine wpAny_bind (wpAny_field hz rfl (x := .bool false) rfl ?_)
  show wpAny _ _ (field (.ref z) 3 >>= _) _ _ _; refine wpAny_bind (wpAny_field hz rfl (x := .ref TI) rfl (wpAny_bind (wpAny_seqItems hTI rfl ?_)))
  show wpAny _ _ (Builtin.SmallTypes.ownedTupleIsFree (.ref z) >>= _) _ _ _; refine wpAny_bind (wpAny_tupleHeld_zip hz hT fun ha za sa => ?_)
  simp only [Bool.false_eq_true, if_false]; refine wpAny_bind ?_; rw [← Array.forIn_toList]; simp only [List.forIn_cons, List.forIn_nil]
  refine wpAny_bind (wpAny_bind (wpAny_holding ?_)); show wpAny _ _ (Builtin.SmallTypes.nextOf (.ref i1) >>= _) _ _ _
  cases hx : xs[k1]? with
  | none => exact wpAny_bind (RZ.nextOf_tuple_end (s := { s with heap := ha }) hh (g1.at fun o e => sa.extBut _ _ D.i1z e) (t1.at fun o e => sa.extBut _ _ D.l1z e) hx fun hb e sb he => q hb e (fun c o c1 c2 _ x => sb _ _ c2 (sa.extBut _ _ c1 x)) he)
  | some x =>
    have hy : ys[k2]? = none := by
      rcases hend with n | n
      · rw [hx] at n; cases n
      · exact n
    refine wpAny_bind (RZ.nextOf_tuple_item (s := { s with heap := ha }) (g1.at fun o e => sa.extBut _ _ D.i1z e) (t1.at fun o e => sa.extBut _ _ D.l1z e) hx fun hb gb sb => wpAny_pure (wpAny_pure ?_))
    refine wpAny_bind (wpAny_bind (wpAny_holding ?_)); show wpAny _ _ (Builtin.SmallTypes.nextOf (.ref i2) >>= _) _ _ _
    exact wpAny_bind (RZ.nextOf_tuple_end (s := { s with heap := hb }) hh (g2.at fun o e => sb.extBut _ _ D.i12.symm (sa.extBut _ _ D.i2z e)) (t2.at fun o e => sb.extBut _ _ D.l2i1 (sa.extBut _ _ D.l2z e)) hy fun hc e sc he => q hc e (fun c o c1 c2 c3 x => sc _ _ c3 (sb.extBut _ _ c2 (sa.extBut _ _ c1 x))) he)
theorem zh_next {z TI TO T i1 i2 l1 l2 : Addr} {f : Bool} {oT : Obj} {k1 k2 : Nat} {xs ys : Array Value} {x y : Value} {Q : Option Value → Shared → Prop} (D : ZipApart z TI TO i1 i2 l1 l2) (hz : IsZipHeld s.heap z TI TO T f) (hT : s.heap.get? T = some oT) (hTI : IsPair s.heap TI (.ref i1) (.ref i2))
    (g1 : s.heap.IsTupleIter i1 l1 k1) (g2 : s.heap.IsTupleIter i2 l2 k2) (t1 : s.heap.IsTuple l1 xs) (t2 : s.heap.IsTuple l2 ys) (hx : xs[k1]? = some x) (hy : ys[k2]? = some y)
    (q : ∀ h', IsZipHeld h' z TI TO T true → h'.IsTupleIter i1 l1 (k1 + 1) → h'.IsTupleIter i2 l2 (k2 + 1) → IsPair h' s.heap.objs.size x y → (∀ c o, c ≠ z → c ≠ i1 → c ≠ i2 → s.heap.get? c = some o → h'.get? c = some o) → Q (some (.ref s.heap.objs.size)) { s with heap := h' }) :
    wpAny (model prog w) A (pyNext (.ref z)) Q E s := by
  have ty : s.TypeIs (.ref z) "zip" := ⟨_, hz, rfl⟩
  unfold pyNext
  exact wpAny_bind (wpAny_attempt (wpAny_callSpecial?_slot (name := Str.ofString "__next__") ty F.slot_zip_next (wpAny_call_entry F.slot_zip_next ty F.entry_zip_next (zh_item D hz hT hTI g1 g2 t1 t2 hx hy fun h' a1 a2 a3 a4 a5 => wpAny_pure (q h' a1 a2 a3 a4 a5)) (F.args_zip_next_1 _))))
theorem zh_stop {z TI TO T i1 i2 l1 l2 : Addr} {f : Bool} {oT : Obj} {k1 k2 : Nat} {xs ys : Array Value} {Q : Option Value → Shared → Prop} (hh : A.handled = none) (D : ZipApart z TI TO i1 i2 l1 l2) (hz : IsZipHeld s.heap z TI TO T f) (hT : s.heap.get? T = some oT) (hTI : IsPair s.heap TI (.ref i1) (.ref i2))
    (g1 : s.heap.IsTupleIter i1 l1 k1) (g2 : s.heap.IsTupleIter i2 l2 k2) (t1 : s.heap.IsTuple l1 xs) (t2 : s.heap.IsTuple l2 ys) (hend : xs[k1]? = none ∨ ys[k2]? = none)
    (q : ∀ h', (∀ c o, c ≠ z → c ≠ i1 → c ≠ i2 → s.heap.get? c = some o → h'.get? c = some o) → Q none { s with heap := h' }) : wpAny (model prog w) A (pyNext (.ref z)) Q E s := by
  have ty : s.TypeIs (.ref z) "zip" := ⟨_, hz, rfl⟩
  unfold pyNext
  refine wpAny_bind (wpAny_attempt (wpAny_callSpecial?_slot (name := Str.ofString "__next__") ty F.slot_zip_next (wpAny_call_entry F.slot_zip_next ty F.entry_zip_next (zh_end hh D hz hT hTI g1 g2 t1 t2 hend fun h' e k he => ?_) (F.args_zip_next_1 _))))
  obtain ⟨o, ho, hc⟩ := he
  exact wpAny_bind (wpAny_isInstance (T := "StopIteration") (b := true) ⟨o, ho, hc⟩ isSubtype_stop (wpAny_pure (q _ k)))
end
section
variable {prog : Program} {w : World}
theorem zipArg (z TI TO i1 i2 l1 l2 : Addr) (D : ZipApart z TI TO i1 i2 l1 l2) (xs ys : Array Value) : PairArg prog w "zip" z [z, TI, TO, i1, i2, l1, l2] [z, TO, i1, i2] (min xs.size ys.size) (fun i k v => xs[i]? = some k ∧ ys[i]? = some v)
    (fun h => IsZip h z TI TO .none ∧ IsPair h TI (.ref i1) (.ref i2) ∧ (∃ a b, IsPair h TO a b) ∧ h.IsTupleIter i1 l1 0 ∧ h.IsTupleIter i2 l2 0 ∧ h.IsTuple l1 xs ∧ h.IsTuple l2 ys) where
  type := fun s ok => ⟨_, ok.1, rfl⟩
  notDict := by decide
  keep := fun h h' ⟨a1, a2, ⟨u, v, a3⟩, a4, a5, a6, a7⟩ k => ⟨k _ _ a1, k _ _ a2, ⟨u, v, k _ _ a3⟩, a4.at fun o e => k _ o e, a5.at fun o e => k _ o e, a6.at fun o e => k _ o e, a7.at fun o e => k _ o e⟩
  there := fun h ⟨a1, a2, ⟨_, _, a3⟩, ⟨_, a4, _⟩, ⟨_, a5, _⟩, ⟨_, a6, _⟩, ⟨_, a7, _⟩⟩ b hb => by
    rcases (show b = z ∨ b = TI ∨ b = TO ∨ b = i1 ∨ b = i2 ∨ b = l1 ∨ b = l2 by simpa using hb) with e | e | e | e | e | e | e <;> rw [e]
    · exact ⟨_, a1⟩
    · exact ⟨_, a2⟩
    · exact ⟨_, a3⟩
    · exact ⟨_, a4⟩
    · exact ⟨_, a5⟩
    · exact ⟨_, a6⟩
    · exact ⟨_, a7⟩
  sub := fun b hb => by
    rcases (show b = z ∨ b = TO ∨ b = i1 ∨ b = i2 by simpa using hb) with e | e | e | e <;> simp [e]
  noKeys := fun A s Q E hA ok q => getAttrOr_miss_zip ok.1 rfl rfl rfl zip_no_keys (by decide +kernel) hA q
  iter := fun A s d Q E hA ⟨a1, a2, ⟨u0, v0, a3⟩, a4, a5, a6, a7⟩ hd hdf q => by
    have df : d ≠ z ∧ d ≠ TI ∧ d ≠ TO ∧ d ≠ i1 ∧ d ≠ i2 ∧ d ≠ l1 ∧ d ≠ l2 := by simpa [not_or] using hdf
    obtain ⟨d1, d2, d3, d4, d5, d6, d7⟩ := df
    refine wpAny_pyIter_zip a1 (q z [z, TO, i1, i2] (fun i h => IsPair h TI (.ref i1) (.ref i2) ∧ h.IsTupleIter i1 l1 i ∧ h.IsTupleIter i2 l2 i ∧ h.IsTuple l1 xs ∧ h.IsTuple l2 ys ∧
      ((IsZip h z TI TO .none ∧ ∃ a b, IsPair h TO a b) ∨ ∃ T f oT, IsZipHeld h z TI TO T f ∧ h.get? T = some oT ∧ T ≠ z ∧ T ≠ i1 ∧ T ≠ i2 ∧ T ≠ d)) s.heap s.toks ?_ ⟨a2, a4, a5, a6, a7, .inl ⟨a1, u0, v0, a3⟩⟩ (fun _ _ e => e) fun b hb => .inl hb)
    have out : ∀ {c : Addr}, c ∉ [z, TO, i1, i2] → c ≠ z ∧ c ≠ TO ∧ c ≠ i1 ∧ c ≠ i2 := fun {c} hc => by simpa [not_or] using hc
    constructor
    · intro m
      rcases (show d = z ∨ d = TO ∨ d = i1 ∨ d = i2 by simpa using m) with e | e | e | e
      · exact d1 e
      · exact d3 e
      · exact d4 e
      · exact d5 e
    · rintro i ha hb ⟨b2, b4, b5, b6, b7, st⟩ k
      refine ⟨k _ _ d2.symm b2, b4.at fun o e => k _ o d4.symm e, b5.at fun o e => k _ o d5.symm e, b6.at fun o e => k _ o d6.symm e, b7.at fun o e => k _ o d7.symm e, ?_⟩
      rcases st with ⟨b1, u, v, b3⟩ | ⟨T, f, oT, b1, bT, r1, r2, r3, r4⟩
      · exact .inl ⟨k _ _ d1.symm b1, u, v, k _ _ d3.symm b3⟩
      · exact .inr ⟨T, f, oT, k _ _ d1.symm b1, k _ _ r4 bT, r1, r2, r3, r4⟩
    · rintro i s1 Q1 E1 hi ⟨b2, b4, b5, b6, b7, st⟩ hds hQ
      have ex := Array.getElem?_eq_getElem (Nat.lt_of_lt_of_le hi (Nat.min_le_left xs.size ys.size))
      have ey := Array.getElem?_eq_getElem (Nat.lt_of_lt_of_le hi (Nat.min_le_right xs.size ys.size))
      have lt : ∀ {c o}, s1.heap.get? c = some o → s1.heap.objs.size ≠ c := fun e => Nat.ne_of_gt (Heap.lt_size e)
      have n1 : s1.heap.objs.size ≠ i1 := let ⟨_, e, _⟩ := b4; lt e
      have n2 : s1.heap.objs.size ≠ i2 := let ⟨_, e, _⟩ := b5; lt e
      rcases st with ⟨b1, u, v, b3⟩ | ⟨T, f, oT, b1, bT, r1, r2, r3, r4⟩
      · refine RZ.pyNext_zipT_item D b1 b2 b3 b4 b5 b6 b7 ex ey fun h' c1 c2 c3 c4 c5 c6 k => ?_
        exact hQ s1.heap.objs.size _ _ h' s1.toks ⟨ex, ey⟩ (.inl ⟨_, c5, rfl, _, rfl⟩) ⟨k _ _ D.TIz D.TITO D.TIi1 D.TIi2 b2, c3, c4, b6.at fun o e => k _ o D.l1z D.l1TO D.l1i1 D.l1i2 e, b7.at fun o e => k _ o D.l2z D.l2TO D.l2i1 D.l2i2 e,
          .inr ⟨s1.heap.objs.size, false, _, c1, c5, lt b1, n1, n2, Nat.ne_of_gt hds⟩⟩ fun c o hc e => k c o (out hc).1 (out hc).2.1 (out hc).2.2.1 (out hc).2.2.2 e
      · refine zh_next D b1 bT b2 b4 b5 b6 b7 ex ey fun h' c1 c3 c4 c5 k => ?_
        exact hQ s1.heap.objs.size _ _ h' s1.toks ⟨ex, ey⟩ (.inl ⟨_, c5, rfl, _, rfl⟩) ⟨k _ _ D.TIz D.TIi1 D.TIi2 b2, c3, c4, b6.at fun o e => k _ o D.l1z D.l1i1 D.l1i2 e, b7.at fun o e => k _ o D.l2z D.l2i1 D.l2i2 e,
          .inr ⟨T, true, oT, c1, k _ _ r1 r2 r3 bT, r1, r2, r3, r4⟩⟩ fun c o hc e => k c o (out hc).1 (out hc).2.2.1 (out hc).2.2.2 e
    · rintro s1 Q1 E1 ⟨b2, b4, b5, b6, b7, st⟩ hQ
      have hend : xs[min xs.size ys.size]? = none ∨ ys[min xs.size ys.size]? = none := by
        rcases Nat.le_total xs.size ys.size with h | h
        · exact .inl (Array.getElem?_eq_none (by omega))
        · exact .inr (Array.getElem?_eq_none (by omega))
      rcases st with ⟨b1, u, v, b3⟩ | ⟨T, f, oT, b1, bT, r1, r2, r3, r4⟩
      · exact RZ.pyNext_zipT_end hA D b1 b2 b3 b4 b5 b6 b7 hend fun h' k => hQ h' s1.toks fun c o hc e => k c o (out hc).1 (out hc).2.1 (out hc).2.2.1 (out hc).2.2.2 e
      · exact zh_stop hA D b1 bT b2 b4 b5 b6 b7 hend fun h' k => hQ h' s1.toks fun c o hc e => k c o (out hc).1 (out hc).2.2.1 (out hc).2.2.2 e
end
end Fm
namespace Fm
open PySem PySem.Spec PyProof.Rows L2
def tDZ (K : PySem.W.Frag) (ta : TA) : TE := fun σ H Q => ta σ H fun vs H1 => ∃ (a b : Addr) (kvs : List (Key × V)), vs = [.ref a, .ref b] ∧ SqT K H1 a (kvs.map fun p => kV p.1) ∧ SqT K H1 b (kvs.map fun p => p.2) ∧ ∀ p, H1 p = none → Q (.ref p) (upd H1 p (.dK (mergeK [] kvs)))
theorem kv_zip : ∀ {kvs : List (Key × V)} {us : List Value}, Vals (kvs.map fun p => p.2) us → KV kvs ((kvs.map fun p => p.1).zip us)
  | [], _, .nil => .nil
  | _ :: _, _, .cons r t => .cons ⟨rfl, r⟩ (kv_zip t)
theorem pe_dictZip {X : Cx} {e e2 : Expr} {ta : TA} {p p2 pos pos2 : Pos} (hgD : Gl X "dict") (hmD : X.mg "dict" = none) (hgZ : Gl X "zip") (hmZ : X.mg "zip" = none) (hcalm : X.calm = true) (ha : PA X [e, e2] ta)
    (h1 : starEach [e, e2] X.env = (false, eval e X.env) :: starEach [e2] X.env := by rfl) (h2 : (backTo pos2 (starEach [e2] X.env)).any (·.1) = false := by rfl)
    (h3 : starEach [.Call (.Name "zip" p2) [e, e2] [] pos2] X.env = (false, eval (.Call (.Name "zip" p2) [e, e2] [] pos2) X.env) :: starEach [] X.env := by rfl) :
    PE X (.Call (.Name "dict" p) [.Call (.Name "zip" p2) [e, e2] [] pos2] [] pos) (tDZ X.K ta) := by
  constructor
  intro pins s σ H Q I h
  refine Call_ (ld_blt I hgD hmD (show bootBuiltins "dict" = some (.type "dict") by decide +kernel) (PyProof.Rows.callWith_type1 (args_cons ?_ h3) h3 rfl))
  refine Call_ (ld_blt I hgZ hmZ PyProof.Rows.boot_zip (PyProof.Rows.callWith_type1 (thn (ha.run pos2 pins s σ H _ I h) fun us s1 q => ?_) h1 h2))
  obtain ⟨vs, H1, I1, r1, a, b, kvs, rfl, hx, hy, q⟩ := q
  match us, r1 with
  | [_, _], .cons ra (.cons rb .nil) =>
    cases ra
    cases rb
    obtain ⟨us, rx, px, lx⟩ := I1.tuple hx
    obtain ⟨ws, ry, py, ly⟩ := I1.tuple hy
    have la : a < s1.heap.objs.size := by
      obtain ⟨o, e, _⟩ := px
      exact Heap.lt_size e
    have lb : b < s1.heap.objs.size := by
      obtain ⟨o, e, _⟩ := py
      exact Heap.lt_size e
    refine RZ.call_zipT px py fun h' k1 k2 k3 k4 k5 k6 k7 => args_nil ?_
    have eu : us.length = kvs.length := by rw [← rx.length, List.length_map]
    have ew : ws.length = kvs.length := by rw [← ry.length, List.length_map]
    rw [List.length_map] at lx
    have px' : s1.heap.IsTuple a us.toArray := px
    have py' : s1.heap.IsTuple b ws.toArray := py
    refine PySem.call_dict_pairs (knd := mixKind X.prog X.w) (kvs := (kvs.map fun p => p.1).zip ws) (s := { s1 with heap := h' }) (zipArg _ _ _ _ _ a b (PySem.W.ktu_apart s1.heap.objs.size a b la lb) us.toArray ws.toArray) (I1.ok.hd hcalm) ⟨k1, k2, ⟨_, _, k3⟩, k4, k5, px'.at fun o e => k7 _ o e, py'.at fun o e => k7 _ o e⟩ ⟨?_, fun i key v ⟨e1, e2⟩ => ?_⟩ ?_ fun h2 tk hd k => ?_
    · rw [List.length_zip, List.length_map, List.size_toArray, List.size_toArray, eu, ew]
    · have e1' : us[i]? = some key := by simpa using e1
      have e2' : ws[i]? = some v := by simpa using e2
      obtain ⟨x, ex, rxu⟩ := vals_at rx e1'
      rw [List.getElem?_map] at ex
      cases ek : kvs[i]? with
      | none =>
        rw [ek] at ex
        cases ex
      | some kv =>
        rw [ek] at ex
        cases ex
        refine ⟨kv.1, ?_, kV_is rxu⟩
        rw [List.getElem?_zip_eq_some]
        exact ⟨by rw [List.getElem?_map, ek]; rfl, e2'⟩
    · rw [List.size_toArray, List.size_toArray, eu, ew, Nat.min_self]
      exact lx
    · have hlen : (mergeK [] kvs).length ≤ sizeLine := by
        refine Nat.le_trans (length_mergeK kvs []) ?_
        rw [List.length_nil, Nat.zero_add]
        exact lx
      have big : (h'.objs.size == sysModules) = false := beq_eq_false_iff_ne.mpr (Nat.ne_of_gt (Nat.lt_of_lt_of_le I1.big (by rw [k6]; exact Nat.le_add_right _ _)))
      have kk : ∀ c o, s1.heap.get? c = some o → h2.get? c = some o := fun c o e => by
        have hc := Heap.lt_size e
        refine k c o (fun m => ?_) (k7 c o e)
        simp only [List.mem_cons, List.not_mem_nil, or_false] at m
        rcases m with m | m | m | m <;> (rw [m] at hc; first | exact absurd hc (Nat.lt_irrefl _) | exact absurd hc (Nat.not_lt.mpr (Nat.le_add_right _ _)))
      have J := I1.laid (t' := tk) (h' := h2) (a := h'.objs.size) (o := .dK (mergeK [] kvs)) kk (by rw [k6]; exact Nat.le_add_right _ _) ⟨hlen, big, _, KV.merge (kv_zip ry) .nil, hd⟩
      exact ⟨.ref h'.objs.size, _, J, rfl, q _ (I1.hok.fresh (by rw [k6]; exact Nat.le_add_right _ _))⟩
end Fm
/-! sorted of lists of tuples of any lengths, the empty one among them. -/
namespace FmSort
open PySem PySem.W PySem.SeqAt PyProof.Rows
def nonE : PyData → Bool
  | .tuple (_ :: _) => true
  | _ => false
section
variable {prog : Program} {w : World} {A : Around} {E : Value → Shared → Prop} {s : Shared} {vs : List Value} {ds : List PyData}
theorem call_tuple_lt {Q : Value → Shared → Prop} {l b : Addr} {items items2 : Array Value} {e r : Nat → Bool} (hl : s.heap.IsTuple l items) (hb : s.heap.IsTuple b items2)
    (he : ∀ j (h1 : j < items.size) (h2 : j < items2.size), EqAt A.in1 s items[j] items2[j] (e j)) (hr : ∀ j (h1 : j < items.size) (h2 : j < items2.size), e j = false → RcLt A.in1 s items[j] items2[j] (r j))
    (h : Q (.bool (firstLt e r (decide (items.size < items2.size)) (List.range (min items.size items2.size)))) s) : wpAny (model prog w) A (call (.builtin "tuple.__lt__") [.ref l, .ref b]) Q E s := by
  obtain ⟨⟨c1, u1, m1, p1⟩, g1, k1, n1, z1⟩ := id hl
  obtain ⟨⟨c2, u2, m2, p2⟩, g2, k2, n2, z2⟩ := id hb
  simp only at k1 z1 k2 z2
  subst k1 z1 k2 z2
  exact call_meets F.slot_tuple_lt ⟨_, g1, rfl⟩ F.entry_tuple_lt (F.args_tuple_lt_2 _ _) (tuple_ltAt l b items items2 n1 n2 u1 u2 p1 p2 e r) ⟨g1, g2, he, hr, h⟩
/-- two tuples, both of one type: by the slot itself -/
theorem oneLt_tup {xs ys : List PyData} {a b : Value} {as bs : List Addr} {Q : Bool → Shared → Prop} (ra : Reads s.heap a (.tuple xs) as) (rb : Reads s.heap b (.tuple ys) bs) (hal : alikeAll xs ys = true)
    (hu : A.units + min (PyData.tuple xs).depth (PyData.tuple ys).depth < cLine) (hq : Q (dataLt (.tuple xs) (.tuple ys)) s) : wpAny (model prog w) A (oneLt' true a b) Q E s := by
  cases ra with
  | @tuple l o us n _ as1 a1 a2 a3 a4 =>
    cases rb with
    | @tuple l2 o2 us2 n2 _ bs1 b1 b2 b3 b4 =>
      have z1 : us.size = xs.length := by simpa using ReadsAll.length _ _ _ a4
      have z2 : us2.size = ys.length := by simpa using ReadsAll.length _ _ _ b4
      rw [dataLt_tuple, ← firstLt_toks xs ys hal, ← z1, ← z2] at hq
      rw [oneLt'_eq]
      simp only [if_true]
      refine wpAny_bind (wpAny_cRoomFor (room_here hu) ?_)
      refine wpAny_bind (wpAny_callSpecialIfBound?_slot (T := "tuple") ⟨_, a1, a2⟩ F.slot_tuple_lt (call_tuple_lt (e := pairEq xs ys) (r := fun j => dataLt (xs.getD j .none) (ys.getD j .none)) ⟨_, a1, a2, _, a3⟩ ⟨_, b1, b2, _, b3⟩ (fun j j1 j2 => ?_) (fun j j1 j2 hj => ?_) ?_))
      · have t := eqAt_alikeAll xs ys A.in1 s us.toList us2.toList _ _ a4 b4 hal (room_in hu) j (by simpa using j1) (by simpa using j2)
        simpa using t
      · have t := rcLt_alikeAll xs ys A.in1 s us.toList us2.toList _ _ a4 b4 hal (room_in hu) j (by simpa using j1) (by simpa using j2) hj
        simpa using t
      · exact wpAny_truthy_bool hq
theorem firsts_each {M : Model} : ∀ {vs : List Value} {ds : List PyData} {Q : List (Option Value) → Shared → Prop}, EachIs (fun v d => ∃ as, Reads s.heap v d as) vs ds → (∀ d ∈ ds, ∃ xs, d = .tuple xs) →
    (∀ fs : List (Option Value), fs.map Option.isSome = ds.map nonE → Q fs s) → wpAny M A (vs.mapM firstOfTuple') Q E s
  | _, _, _, .nil, _, h => by
    rw [List.mapM_nil]
    exact wpAny_pure (h [] rfl)
  | _, _, Q, .cons (as := vs) ⟨as, r⟩ t, ht, h => by
    obtain ⟨xs, rfl⟩ := ht _ (List.mem_cons_self ..)
    rw [List.mapM_cons]
    refine wpAny_bind ?_
    rw [kas_first_eq]
    cases r with
    | @tuple l o us n _ as1 a1 a2 a3 a4 =>
      refine wpAny_bind (Looks.here (show Looks M s.heap (typeOf (.ref l)) o.cls from (Looks.ld a1).andThen .now) ?_)
      rw [a2, if_neg (by first | decide | simp)]
      refine wpAny_bind (listItems_at a1 a3 (wpAny_pure ?_))
      refine wpAny_bind (firsts_each (Q := fun bs s' => wpAny M A (pure (us[0]? :: bs)) Q E s') t (fun d hd => ht d (List.mem_cons_of_mem _ hd)) fun fs e => wpAny_pure (h _ ?_))
      rw [List.map_cons, List.map_cons, e]
      congr 1
      have z : us.toList.length = xs.length := by simpa using ReadsAll.length _ _ _ a4
      cases xs with
      | nil =>
        have e0 : us.size = 0 := by simpa using z
        rw [Array.getElem?_eq_none (by omega)]
        rfl
      | cons x r =>
        have e0 : us.size = r.length + 1 := by simpa using z
        rw [Array.getElem?_eq_getElem (by omega)]
        rfl
theorem sortsAt_tups (e : EachIs (fun v d => ∃ as, Reads s.heap v d as) vs ds) (hal : AllAlike ds) (ht : ∀ d ∈ ds, ∃ xs, d = .tuple xs) (hu : ∀ d ∈ ds, A.units + d.depth < cLine) : SortsAt prog w A s (dataKind s.heap ds) vs := by
  have room : ∀ {d d' : PyData}, d ∈ ds → A.units + min d.depth d'.depth < cLine := fun {d d'} hd => Nat.lt_of_le_of_lt (Nat.add_le_add_left (Nat.min_le_left _ _) _) (hu d hd)
  by_cases hne : ∀ d ∈ ds, nonE d = true
  · refine SortsAt.data e hal (.inl fun d hd => ?_) hu
    obtain ⟨xs, rfl⟩ := ht d hd
    cases xs with
    | nil => cases hne _ hd
    | cons x r => exact ⟨x, r, rfl⟩
  · have hall : (ds.map nonE).all id = false := by
      rw [List.all_map]
      cases q : ds.all (id ∘ nonE) with
      | false => rfl
      | true => exact absurd (fun d hd => List.all_eq_true.mp q d hd) hne
    have lt : ∀ f : Bool, H.LtAt prog w A s (dataKind s.heap ds) (if f = true then oneType' else general') := by
      intro f E x y a b Q ha hb hq
      obtain ⟨d, as, hd, ra, rfl⟩ := dataKind_inv ha
      obtain ⟨d', as', hd', rb, rfl⟩ := dataKind_inv hb
      obtain ⟨xs, rfl⟩ := ht d hd
      obtain ⟨ys, rfl⟩ := ht d' hd'
      have al := hal _ hd _ hd'
      cases f with
      | true => exact oneLt_tup ra rb (by simpa [alike] using al) (room hd) hq
      | false => exact oneLt_alike (f := false) (fun z => by cases z) ra rb al (fun z => by cases z) (room hd) hq
    refine ⟨fun v hv => ?_, (if (ds.map nonE).head? = some true then general' else oneType'), ?_, fun h2 E Q hq => ?_⟩
    · obtain ⟨d, hd, as, r⟩ := e.left v hv
      exact ⟨_, dataKind_some hal hd r⟩
    · by_cases q : (ds.map nonE).head? = some true
      · rw [if_pos q]
        exact lt false
      · rw [if_neg q]
        exact lt true
    · rw [keyKind'_eq, List.mapM_toArray, map_eq_pure_bind]
      refine wpAny_bind (wpAny_bind (firsts_each e ht fun fs hfs => wpAny_pure ?_))
      have e1 : (fs.toArray.all fun x => x.isSome) = false := by
        rw [List.all_toArray]
        have z : (fs.map Option.isSome).all id = false := by rw [hfs]; exact hall
        rw [List.all_map] at z
        exact z
      rw [if_neg (by rw [e1]; exact Bool.false_ne_true)]
      have e2 : ((fs.toArray)[0]?.bind id).isSome = decide ((ds.map nonE).head? = some true) := by
        rw [← hfs]
        cases fs with
        | nil => rfl
        | cons f r =>
          show (((f :: r).toArray)[0]?.bind id).isSome = _
          rw [List.getElem?_toArray]
          show f.isSome = decide (some f.isSome = some true)
          cases f <;> rfl
      rw [e2]
      by_cases q : (ds.map nonE).head? = some true
      · rw [if_pos (decide_eq_true q)]
        rw [if_pos q] at hq
        exact wpAny_pure hq
      · rw [if_neg (fun z => q (of_decide_eq_true z))]
        rw [if_neg q] at hq
        obtain ⟨v1, v2, r, rfl⟩ : ∃ v1 v2 r, vs = v1 :: v2 :: r := by
          match vs, h2 with
          | [], h2 => simp at h2
          | [_], h2 => simp at h2
          | v1 :: v2 :: r, _ => exact ⟨v1, v2, r, rfl⟩
        rw [oneTypeOnly'_eq, List.mapM_toArray, map_eq_pure_bind]
        refine wpAny_bind (wpAny_bind (wpAny_bind (kas_mapM (r := Value.type "tuple") _ (fun v hv Q' hq => ?_) (wpAny_pure ?_))))
        · obtain ⟨d, hd, as, rd⟩ := e.left v hv
          obtain ⟨xs, rfl⟩ := ht d hd
          exact (looks_reads rd).here hq
        · have a1 : ((List.map (fun _ => Value.type "tuple") (v1 :: v2 :: r)).toArray.all fun x => x == Value.type "tuple") = true := by
            simp only [List.all_toArray, List.all_map, List.all_eq_true]
            intro _ _
            rfl
          have a2 : (List.map (fun _ => Value.type "tuple") (v1 :: v2 :: r)).toArray[0]? = some (Value.type "tuple") := by simp
          rw [a2]
          simp only [a1, if_true]
          exact wpAny_pure (wpAny_pure hq)
end
end FmSort
namespace Fm
open PySem PySem.Spec PyProof.Rows L2 PySem.W
theorem each_vals : ∀ {bs : List (V × PyData)} {us : List Value}, Vals (bs.map (·.1)) us → EachIs (fun u b => RelV b.1 u) us bs
  | [], _, r => by
    cases r
    exact .nil
  | b :: bs, _, r => by
    cases r with
    | cons h t => exact .cons h (each_vals t)
theorem vals_each : ∀ {bs : List (V × PyData)} {us : List Value}, EachIs (fun u b => RelV b.1 u) us bs → Vals (bs.map (·.1)) us
  | _, _, .nil => .nil
  | _, _, .cons h t => .cons h (vals_each t)
theorem each_and {R S : Value → V × PyData → Prop} : ∀ {bs : List (V × PyData)} {us : List Value}, EachIs R us bs → (∀ u b, b ∈ bs → R u b → S u b) → EachIs S us bs
  | _, _, .nil, _ => .nil
  | _, _, .cons h t, k => .cons (k _ _ (List.mem_cons_self ..) h) (each_and t fun u b hb => k u b (List.mem_cons_of_mem _ hb))
/-- sorted of a list of tuples: each value goes with its data -/
def rSortTs (K : PySem.W.Frag) : List V → Hp → VK → Prop := fun vs H Q => ∃ (a : Addr) (bs : List (V × PyData)), vs = [.ref a] ∧ SqL K H a (bs.map (·.1)) ∧ (∀ b ∈ bs, Dp K H b.1 b.2 ∧ (∃ zs, b.2 = .tuple zs) ∧ b.2.depth ≤ 60) ∧ AllAlike (bs.map (·.2)) ∧
  ∀ p, H p = none → Q (.ref p) (upd H p (.lst ((bs.mergeSort (dataLe false (fun b : V × PyData => b.2))).map (·.1))))
theorem cr_sortTs {X : Cx} (hu : X.A.units + 64 < cLine) : CallR X (.builtin "sorted") (rSortTs X.K) := by
  intro pins s σ H vs us Q I r h
  obtain ⟨a, bs, rfl, hs, hb, hal, q⟩ := h
  obtain ⟨its, rv, hl, hz⟩ := I.list hs
  rw [Vals.ref1 r]
  have e0 := each_vals rv
  have er : EachIs (fun (v : Value) (b : V × PyData) => ∃ as, Reads (sortingHeap (copyHeap s.heap its) (s.heap.objs.size + 1) its) v b.2 as) its bs := each_and e0 fun u b hm hr => by
    obtain ⟨as, rd⟩ := Dp.reads I b.2 b.1 u (hb b hm).1 hr
    exact ⟨as, PyProof.Rows.Reads.keeps (fun _ _ => sorting_copy_old) rd⟩
  have hL : its.length ≤ sizeLine := by
    rw [← rv.length]
    exact hz
  refine sorted_vals hl.isList (FmSort.sortsAt_tups (s := { s with heap := sortingHeap (copyHeap s.heap its) (s.heap.objs.size + 1) its }) (each_map (R := fun v d => ∃ as, Reads (sortingHeap (copyHeap s.heap its) (s.heap.objs.size + 1) its) v d as) (fun b : V × PyData => b.2) er) hal (fun d hd => ?_) fun d hd => ?_) hL ?_
  · obtain ⟨b, hm, rfl⟩ := List.mem_map.mp hd
    exact (hb b hm).2.1
  · obtain ⟨b, hm, rfl⟩ := List.mem_map.mp hd
    have := (hb b hm).2.2
    show X.A.units + 1 + 1 + b.2.depth < cLine
    omega
  · have e1 := sortVals_data (R := fun u (b : V × PyData) => RelV b.1 u) false e0 er hal
    generalize sortVals (dataKind (sortingHeap (copyHeap s.heap its) (s.heap.objs.size + 1) its) (bs.map (·.2))) false its its = out at e1 ⊢
    have v1 := vals_each e1
    obtain ⟨ep, he'⟩ := PyProof.Rows.sortedAll_at s.heap its out.toArray
    have hlen : ((bs.mergeSort (dataLe false (fun b : V × PyData => b.2))).map (·.1)).length ≤ sizeLine := by
      rw [List.length_map, List.length_mergeSort]
      rw [List.length_map] at hz
      exact hz
    exact ⟨.ref _, upd H (s.heap.objs.size + 1) (.lst ((bs.mergeSort (dataLe false (fun b : V × PyData => b.2))).map (·.1))), I.laid (t' := s.toks) (fun _ _ => PyProof.Rows.sortedAll_old) (Nat.le_succ _) ⟨hlen, out, ep, v1, he'⟩, rfl, q _ (I.hok.fresh (Nat.le_succ _))⟩
end Fm
/-! Errors of one's own whose __init__ calls that of the own class above, over ValueError. -/
namespace Fm
open PySem PySem.Spec PyProof.Rows L2 PySem.W
/-- the class above at M, its __init__ being ValueError's -/
structure UpC (K : PySem.W.Frag) (M : Addr) (mc : Value) : Prop where
  rd : PySem.W.readsIn K M mc = true
  ga : PySem.W.specialIn K (.ref M) "__getattribute__" = some (some (.builtin "type.__getattribute__"))
  ini : PySem.W.findCls K (.ref M) mc "__init__" = some (.val (.builtin "ValueError.__init__"))
section
variable {X : Cx} {e : Expr} {es : List Expr} {ta : TA} {p1 p2 p pos : Pos} {x : Str} {M C fI : Addr} {mc : Value}
/-- Up.__init__(self, ..) -/
theorem pe_upinit {pl : Sem Bool} (U : UpC X.K M mc) (hg : Gl X x) (hm : X.mg x = some (.ref M)) (ha : PA X (e :: es) ta) (hdb : (x == ("__debug__" : Str)) = false := by decide)
    (hc : eval (.Call (.Attribute (.Name x p1) "__init__" p2) (e :: es) [] pos) X.env = (do
      let ov ← eval (.Name x p1) X.env
      standAt p2.atName
      let (f, first) ← holding [ov] (getMethod ov "__init__" pl)
      callWith pos f first (backTo pos (starEach (e :: es) X.env)) (backToKw pos (keywordEach [] X.env))) := by rfl)
    (he : starEach (e :: es) X.env = (false, eval e X.env) :: starEach es X.env := by rfl) (hpl : (backTo pos (starEach es X.env)).any (·.1) = false := by rfl) :
    PE X (.Call (.Attribute (.Name x p1) "__init__" p2) (e :: es) [] pos) (tVeI X.K ta) := by
  refine ⟨fun pins s σ H Q I h => ?_⟩
  refine PySem.W.methodCall_KW (ld_glob I hg hm ?_ hdb) hc
  refine PySem.W.method_cls I.kIn U.ga (PySem.W.cls_value I.kIn U.rd U.ini (by decide +kernel) ?_)
  show wpAny _ _ (callWith pos (Value.builtin "ValueError.__init__") [] (backTo pos (starEach (e :: es) X.env)) []) _ _ _
  refine PyProof.Rows.callWith_method1 (thn (ha.run pos pins _ σ H _ (I.tok _) h) fun us s1 ⟨vs, H1, I1, r1, a, C, ws, ev, hl, T, ea, q⟩ => ?_) he hpl
  subst ev
  cases r1 with
  | @cons _ u0 _ ur ra rw' =>
    obtain rfl : u0 = Value.ref a := ra
    have hn : ur.length ≤ sizeLine := by
      rw [← Paired.length rw', sizeLine_eq]
      omega
    exact oinit_ok T I1 ea hn fun s' J => ⟨.non, H1, J, rfl, q⟩
/-- the promise of such an __init__ without a field -/
def spIni0 (K : PySem.W.Frag) (C : Addr) : Sp := fun vs H Q _ => ∃ a : Addr, vs = [.ref a] ∧ H a = some (exo a C none) ∧ Q .non H
/-- C(), C's own __init__ keeping spIni0 -/
def tMkN (C : Addr) : L2.St → Hp → XK → Prop := fun _ H Q => Q (.ref C) none H
theorem del_upd {H : Hp} {a : Addr} {o : HO} (n : H a = none) : del (upd H a o) a = H := by
  funext b
  by_cases hb : b = a
  · rw [hb, del_same, n]
  · rw [del_ne hb, upd_ne hb]
theorem mk_endN {pins : List (Addr × Obj)} {σ : L2.St} {H1 : Hp} {Q : XK} {hp hp2 h2 : Heap} {g1 g2 : Array GenState} {d1 d2 : Drawn} {t1 t2 : Nat} {os1 os2 : OsState} {a : Addr} (T : Raises X (.ref C)) (I1 : Inv X pins σ H1 ⟨hp, g1, d1, t1, os1⟩)
    (ha : hp.objs.size ≤ a) (k : ∀ b o, hp.get? b = some o → hp2.get? b = some o) (un : Un (frs X.stack) [] (upd H1 a (exo a C none)) (upd H1 a (exo a C none)) hp2 h2) (hok : HOk X.prog X.w (upd H1 a (exo a C none)) h2) (ho : os2 = os1) (hb : AllBare g2)
    (q : Q (.ref C) none H1) : MkP X pins σ Q (.ref a) ⟨h2, g2, d2, t2, os2⟩ := by
  obtain ⟨t0, hoe⟩ := exo_at hok upd_same
  have hn : H1 a = none := I1.hok.fresh ha
  obtain ⟨G, ga, gb⟩ := restrict h2 fun b => decide (b ≠ a)
  have gk : ∀ b, b ≠ a → G.get? b = h2.get? b := fun b nb => ga b (decide_eq_true nb)
  have ge : G.get? a = none := gb a (by simp)
  have na : ∀ {b : Addr} {o : Obj}, hp.get? b = some o → b ≠ a := fun {b o} z => Nat.ne_of_lt (Nat.lt_of_lt_of_le (Heap.lt_size z) ha)
  have up : ∀ {b : Addr}, b ≠ a → H1 b = none → upd H1 a (exo a C none) b = none := fun {b} nb n => by
    rw [upd_ne nb]
    exact n
  have U : Un (frs X.stack) [] H1 H1 hp G := {
    keep := fun b o z n hf hx => by
      rw [gk b (na z)]
      exact un.keep b o (k b o z) (up (na z) n) hf hx
    slot := fun b o z n hf hx => by
      rw [gk b (na z)]
      exact un.slot b o (k b o z) (up (na z) n) hf hx
    free := fun b o z n hx => n
    there := fun b o z hx => by
      rw [gk b (na z)]
      exact un.there b o (k b o z) hx
    tups := fun b xs z => z
    frzs := fun b o v z => z
    tbls := fun b ps z => ⟨#[], by rw [Array.append_empty]; exact z⟩ }
  have hok3 : HOk X.prog X.w H1 G := fun b o z => by
    have nb : b ≠ a := ne_of_none z hn
    refine (hok b o (by rw [upd_ne nb]; exact z)).stay (fun c v hc y => ?_) (fun c hc => ?_) fun c xs hc => ?_
    · have nc : c ≠ a := by
        rcases hc with hc | hc
        · rw [hc]
          exact nb
        · exact at_ne (H := upd H1 a (exo a C none)) upd_same hc exo_own
      rw [gk c nc]
      exact y
    · rw [upd_ne (at_ne (H := upd H1 a (exo a C none)) upd_same hc exo_own)] at hc
      exact hc
    · rw [upd_ne (at_ne (H := upd H1 a (exo a C none)) upd_same hc exo_tup)] at hc
      exact hc
  have J : Inv X pins σ H1 ⟨G, g2, d2, t2, os2⟩ := I1.call' (ch := []) ho U hok3 hb (fun b z => absurd z (by simp))
  refine ⟨a, _, _, ⟨G, g2, d2, t2, os2⟩, _, .ref C, none, rfl, J, fun b o z => ?_, ge, hoe, ⟨rfl, rfl⟩, rfl, rfl, hn, rfl, hb, T, q⟩
  by_cases nb : b = a
  · rw [nb, ge] at z
    cases z
  · exact (gk b nb).symm.trans z
theorem pmk_oexN {CX : CXT} {k : Nat} {fd : FuncData} (T : OexC X.K C) (iC : PySem.W.findIn X.K (.ref C) "__init__" = some (some (.ref fI))) (tI : PySem.W.typeIn X.K (.ref fI) = some (.type "function"))
    (F1 : FnOk X.prog X.w X.K X.mg X.base CX k fI fd ["self"] (spIni0 X.K C)) (hr : Room (k + 1) X.A) (hb : Binds X.K fd ["self"] []) (hx : Passes CX X (fun _ _ _ => False)) (hg : Gl X x) (hm : X.mg x = some (.ref C)) (hdb : (x == ("__debug__" : Str)) = false := by decide) :
    PMk X (.Call (.Name x p) [] [] pos) (tMkN C) := by
  intro pins s σ H Q I h
  obtain ⟨nm, q, N, bs, bm, sn, sub, ab, col, dd, k0, k1, k2, k3, k5, hC, hbm⟩ := T.cls
  refine wpAny_Call_Name_kw (ld_glob I hg hm ?_ hdb)
  refine PySem.W.callWith_K0 I.kIn T.kC ?_
  obtain ⟨hp, g, dr, tk, os⟩ := s
  show wpAny _ _ (call (.ref C) []) _ _ _
  have hsz : hp.objs.size ≤ hp.objs.size + 1 := Nat.le_succ _
  have hn : H (hp.objs.size + 1) = none := I.hok.fresh hsz
  have kk : ∀ b o, hp.get? b = some o → ((hp.push (PySem.W.kdv_tup [])).push (PySem.HandSPX.excO C hp.objs.size)).get? b = some o := fun b o e => Heap.get?_push_of_some _ (Heap.get?_push_of_some _ e)
  have hget : ((hp.push (PySem.W.kdv_tup [])).push (PySem.HandSPX.excO C hp.objs.size)).get? (hp.objs.size + 1) = some (PySem.HandSPX.excO C hp.objs.size) := by heap_get
  have I2 : Inv X pins σ (upd H (hp.objs.size + 1) (exo (hp.objs.size + 1) C none)) ⟨(hp.push (PySem.W.kdv_tup [])).push (PySem.HandSPX.excO C hp.objs.size), g, dr, tk, os⟩ :=
    I.laid (t' := tk) (a := hp.objs.size + 1) (o := exo (hp.objs.size + 1) C none) (h' := (hp.push (PySem.W.kdv_tup [])).push (PySem.HandSPX.excO C hp.objs.size)) kk hsz (exo_ok hget)
  have r2 : Vals [V.ref (hp.objs.size + 1)] [Value.ref (hp.objs.size + 1)] := .cons rfl .nil
  refine wpAny_call (PySem.HandSPX.call_own F.excBase_ValueError (fun Y => PySem.HandSPX.refsVE_contains Y bm hbm) (I.kIn _ _ hC) (PySem.W.looks_findIn I.kIn iC) (fun self => PySem.W.bind_fn I.kIn self tI) (Nat.zero_le _)
    (codeAny_mono (F1.run _ X.stack _ _ ⟨[Value.ref (hp.objs.size + 1)], []⟩ [Value.ref (hp.objs.size + 1)] _ (fun v H2 => v = .non ∧ H2 = upd H (hp.objs.size + 1) (exo (hp.objs.size + 1) C none)) (fun _ _ _ => False) (hr.make C [] []) (I2.env0.make C [] []) (hb _ [Value.ref (hp.objs.size + 1)] I2.kIn rfl) r2
      ⟨_, rfl, upd_same, rfl, rfl⟩) fun r s' hq' => ?_))
  cases r with
  | error er => exact hx pins σ _ _ er s' I2 hq'
  | ok fl =>
    cases fl with
    | ret u =>
      obtain ⟨v, H2, os2, bare2, un2, hok2, rv, ev, eH⟩ := hq'
      subst ev eH
      obtain ⟨h2, g2, d2, t2, os'⟩ := s'
      exact ⟨rv, mk_endN (raises_own T.exC T.tyC) I hsz kk un2 hok2 os2 bare2 h⟩
    | next => exact False.elim hq'
    | brk => exact False.elim hq'
    | cont => exact False.elim hq'
end
end Fm
/-! More rules: in a tuple, count of data, a tuple turned round. -/
namespace Fm
open PySem PySem.Spec PyProof.Rows L2 PySem.W
section
variable {X : Cx} {K : PySem.W.Frag}
/-- x in t, t a tuple of data -/
def rInT (K : PySem.W.Frag) : R2 := fun x y H Q => ∃ d ds, Dp K H x d ∧ Dp K H y (.tuple ds) ∧ SeqAt.shaped d = true ∧ SeqAt.shaped (.tuple ds) = true ∧ Q (.bl (ds.any fun z => PyData.eqv z d)) H
theorem op_inT (hu : X.A.units + 65 < cLine) (e : X.K = K := by rfl) : OpR X (compareOp .In) (rInT K) := by
  subst e
  intro pins s σ H x y v u Q I rx ry h
  obtain ⟨d, ds, h1, h2, s1, s2, q⟩ := h
  obtain ⟨as, r1⟩ := Dp.reads I d x v h1 rx
  obtain ⟨bs, r2⟩ := Dp.reads I (.tuple ds) y u h2 ry
  exact SeqAt.in_tuple_reads r2 r1 (SeqAt.canLay_of_shaped s2) (SeqAt.canLay_of_shaped s1) (room_in_shaped s1 hu) ⟨.bl _, H, I, rfl, q⟩
theorem op_inLK (hu : X.A.units + 65 < cLine) (e : X.K = K := by rfl) : OpR X (compareOp .In) (rInD K) := e ▸ op_inD hu
theorem op_ltTK (hu : X.A.units < cLine) (e : X.K = K := by rfl) : OpR X (compareOp .Lt) (rLtT K) := e ▸ op_ltT hu
theorem mt_indexK (hu : X.A.units + 65 < cLine) (e : X.K = K := by rfl) : MtR X "list.index" (rIndexD K) := e ▸ mt_indexD hu
/-- l.count(x) -/
def rCntD (K : PySem.W.Frag) : V → List V → Hp → VK → Prop := fun x xs H Q => ∃ (a : Addr) (y : V) (d : PyData) (ds : List PyData), x = .ref a ∧ xs = [y] ∧ Dp K H (.ref a) (.list ds) ∧ Dp K H y d ∧ SeqAt.shaped (.list ds) = true ∧ SeqAt.shaped d = true ∧
  Q (.int ((ds.countP fun z => PyData.eqv z d : Nat) : Int)) H
theorem mt_countD (hu : X.A.units + 65 < cLine) (e : X.K = K := by rfl) : MtR X "list.count" (rCntD K) := by
  subst e
  intro pins s σ H x xs v us Q I rx rxs h
  obtain ⟨a, y, d, ds, rfl, rfl, hl, hy, s1, s2, q⟩ := h
  cases rx
  obtain ⟨u, rfl, ru⟩ := rxs.one
  obtain ⟨bs, r1⟩ := Dp.reads I d y u hy ru
  have c1 : PyData.canLayAll0 ds = true := SeqAt.canLay_of_shaped s1
  have room : X.A.units + 1 + min (PyData.depthAll ds) d.depth < cLine := room_in_shaped s2 hu
  cases hl with
  | lst hs ha =>
    obtain ⟨its, rv, ⟨⟨cl, di, da, sls⟩, n, ho, hc, hdn, hdt⟩, hlen⟩ := I.list hs
    simp only at hc hdt
    subst hc hdt
    obtain ⟨as, r4⟩ := Dp.readsAll I ds _ its ha rv
    have hm : its.map (SeqAt.readOf s.heap) = ds := SeqAt.readsAll_map ds its as c1 r4
    refine call_meets PySem.F.slot_list_count ⟨_, ho, rfl⟩ PySem.F.entry_list_count (PySem.F.args_list_count_2 _ _)
      (SeqAt.list_countAt a its.toArray n di sls u (fun z => PyData.eqv (SeqAt.readOf s.heap z) d)) ⟨ho, SeqAt.items_eqAt (vs := its.toArray) (show ReadsAll s.heap its.toArray.toList ds as from r4) r1 c1 (SeqAt.canLay_of_shaped s2) room, ?_⟩
    refine ⟨.int ((ds.countP fun z => PyData.eqv z d : Nat) : Int), H, I.tok _, ⟨s.toks, ?_⟩, q⟩
    show Value.int ((its.toArray.toList.countP (fun z => PyData.eqv (SeqAt.readOf s.heap z) d) : Nat) : Int) s.toks = _
    rw [← hm, List.countP_map]
    rfl
/-! ### t[::-1] -/
theorem fm_congr {α β : Type} {f g : α → Option β} : ∀ {l : List α}, (∀ x ∈ l, f x = g x) → l.filterMap f = l.filterMap g
  | [], _ => rfl
  | x :: l, h => by
    rw [List.filterMap_cons, List.filterMap_cons, h x (List.mem_cons_self ..), fm_congr fun y hy => h y (List.mem_cons_of_mem _ hy)]
theorem vals_rev : ∀ {xs : List V} {us : List Value}, Vals xs us → Vals xs.reverse us.reverse
  | [], _, r => by
    cases r
    exact .nil
  | x :: xs, _, r => by
    cases r with
    | cons h t =>
      rw [List.reverse_cons, List.reverse_cons]
      exact (vals_rev t).append (.cons h .nil)
theorem rev_pick (l : List Value) : ((List.range l.length).filterMap fun (m : Nat) => l.toArray[(((l.length : Int) - 1) + (m : Int) * (-1)).toNat]?) = l.reverse := by
  have e : ∀ m, m ∈ List.range l.length → (fun (m : Nat) => l.toArray[(((l.length : Int) - 1) + (m : Int) * (-1)).toNat]?) m = l.reverse[m]? := fun m hm => by
    have hl := List.mem_range.mp hm
    show l.toArray[_]? = _
    rw [List.getElem?_toArray, List.getElem?_reverse hl]
    congr 1
    omega
  rw [fm_congr e]
  have z := List.length_reverse (as := l)
  generalize l.reverse = r at z ⊢
  rw [← z]
  clear z e
  have key : ∀ (r : List Value) (n : Nat), n ≤ r.length → (List.range n).filterMap (fun m => r[m]?) = r.take n := by
    intro r n
    induction n with
    | zero => intro _; simp
    | succ n ih =>
      intro hn
      rw [List.range_succ, List.filterMap_append, ih (by omega), List.take_add_one, List.getElem?_eq_getElem (show n < r.length by omega)]
      simp [List.getElem?_eq_getElem (show n < r.length by omega)]
  rw [key r r.length (Nat.le_refl _), List.take_length]
section
variable {prog : Program} {w : World} {A : Around} {E : Value → Shared → Prop} {s : Shared}
theorem rev_applied {sl : Addr} {t : Tok} {n : Nat} {Q : Int × Int × Nat → Shared → Prop} (hs : s.heap.IsSliceOf sl .none .none (.int (-1) t)) (h : Q ((n : Int) - 1, -1, n) s) :
    wpAny (model prog w) A (Builtin.Slice.sliceApplied (.ref sl) (pure (n : Int))) Q E s := by
  obtain ⟨os, hos, hcs, hds⟩ := id hs
  unfold Builtin.Slice.sliceApplied Builtin.Slice.sliceFields
  refine wpAny_bind (wpAny_bind (wpAny_field hos hds (x := .none) rfl (wpAny_bind (wpAny_field hos hds (x := .none) rfl (wpAny_bind (wpAny_field hos hds (x := .int (-1) t) rfl (wpAny_pure ?_)))))))
  refine wpAny_bind (slicePart_int ?_)
  show wpAny _ _ (if ((-1 : Int) == 0) = true then _ else _) _ _ s
  rw [if_neg (by decide)]
  refine wpAny_bind (slicePart_none (wpAny_bind (slicePart_none (wpAny_bind (wpAny_pure ?_)))))
  show wpAny _ _ (pure ((n : Int) - 1, (-1 : Int), Builtin.Slice.slicePlaces ((n : Int) - 1) (-1) (-1))) _ _ s
  have e : Builtin.Slice.slicePlaces ((n : Int) - 1) (-1) (-1) = n := by
    unfold Builtin.Slice.slicePlaces
    rw [if_neg (by decide)]
    show (if (n : Int) - 1 > -1 then ((n : Int) - 1 - -1 - 1) / 1 + 1 else 0).toNat = n
    rw [Int.ediv_one]
    split <;> omega
  rw [e]
  exact wpAny_pure h
theorem getItem_rev {t sl : Addr} {l : List Value} {tk : Tok} {Q : Value → Shared → Prop} (ht : IsTup s.heap t l.toArray) (hs : s.heap.IsSliceOf sl .none .none (.int (-1) tk))
    (h : Q (.ref s.heap.objs.size) { s with heap := s.heap.push { cls := .type "tuple", data := .seq l.reverse.toArray } }) (hsz : l.length ≤ sizeLine) : wpAny (model prog w) A (getItem (.ref t) (.ref sl)) Q E s := by
  have hz : sizeOk (.seq l.reverse.toArray) := by
    show l.reverse.toArray.size ≤ sizeLine
    rw [List.size_toArray, List.length_reverse]
    exact hsz
  obtain ⟨os, hos, hcs, hds⟩ := id hs
  have hTs : s.TypeIs (.ref sl) "slice" := ⟨os, hos, hcs⟩
  unfold getItem
  try with_reducible refine wpAny_holding ?_
  first | refine wpAny_bind (wpAny_pure ?_) | skip
  refine wpAny_bind (wpAny_sequenceKey ht.typeIs (by decide) ?_)
  refine wpAny_bind (wpAny_callSpecial?_slot (name := Str.ofString "__getitem__") ht.typeIs PyProof.Rows.slot_tuple_getitem
    (wpAny_call_entry PyProof.Rows.slot_tuple_getitem ht.typeIs entry_tuple_getitem ?_ (args_tuple_getitem _ _)))
  show wpAny _ _ (Builtin.Tuple.tupleItemsOf (.ref t) >>= _) _ _ s
  refine wpAny_bind (tupleItemsOf_ ht ?_)
  refine wpAny_bind (wpAny_typeOf hTs ?_)
  rw [if_pos (by decide)]
  rw [List.size_toArray]
  refine wpAny_bind (rev_applied hs ?_)
  have hno : ¬ ((((l.length : Int) - 1) == 0 && (-1 : Int) == 1 && l.length == l.toArray.size) = true) := by
    intro q
    rw [Bool.and_eq_true, Bool.and_eq_true] at q
    exact absurd q.1.2 (by decide)
  show wpAny _ _ (if (((l.length : Int) - 1) == 0 && (-1 : Int) == 1 && l.length == l.toArray.size) = true then _ else _) _ _ s
  rw [if_neg hno, rev_pick]
  first
    | exact wpAny_bind (m := Builtin.Tuple.tupleExact _) (wpAny_newObj_type (wpAny_pure ⟨_, rfl, wpAny_pure h⟩) hz)
    | exact wpAny_bind (m := Builtin.Tuple.tupleExact _) (wpAny_newObj_type (wpAny_bind (wpAny_pure (wpAny_pure ⟨_, rfl, wpAny_pure h⟩))) hz)
    | exact wpAny_bind (wpAny_bind (m := Builtin.Tuple.tupleExact _) (wpAny_newObj_type (wpAny_pure (wpAny_pure ⟨_, rfl, wpAny_pure h⟩)) hz))
    | exact wpAny_bind (wpAny_bind (m := Builtin.Tuple.tupleExact _) (wpAny_newObj_type (wpAny_pure ⟨_, rfl, wpAny_pure h⟩) hz))
end
def tRevT (K : PySem.W.Frag) (te ts : TE) : TE := fun σ H Q => te σ H fun x H1 => ts σ H1 fun y H2 => y = .int (-1) ∧ ∃ a xs, x = .ref a ∧ SqT K H2 a xs ∧ ∀ p, H2 p = none → Q (.ref p) (upd H2 p (.tup xs.reverse))
theorem pe_revT {e st : Expr} {te ts : TE} {p2 pos : Pos} (he : PE X e te) (hst : PE X st ts) (eK : X.K = K := by rfl) : PE X (.Subscript e (.Slice none none (some st) p2) pos) (tRevT K te ts) := by
  subst eK
  refine ⟨fun pins s σ H Q I h => ?_⟩
  refine Subscript_ (thn (he.run pins s σ H _ I h) fun v s1 ⟨x, H1, I1, r1, q1⟩ => ?_)
  refine wpAny_Slice ?_
  rw [evalPart_none]
  refine wpAny_pure ?_
  refine wpAny_pure ?_
  rw [evalPart_some]
  refine thn (hst.run pins s1 σ H1 _ I1 q1) fun vy s2 ⟨y, H2, I2, r2, ey, a, xs, ex, hx, q2⟩ => ?_
  subst ey ex
  obtain ⟨t, rfl⟩ := r2
  cases r1
  have I4 : Inv X pins σ H2 { s2 with heap := s2.heap.push { cls := .type "slice", data := .fields #[.none, .none, .int (-1) t] } } := I2.kept (t' := s2.toks) fun b ob q => Heap.get?_push_of_some _ q
  obtain ⟨its, r, ht, hz⟩ := I4.tuple hx
  refine tail_any (T := "tuple") (ops := [.ref a, .ref s2.heap.objs.size]) ht.typeIs PyProof.Rows.slot_tuple_getitem.lookup ?_ (by with_unfolding_all rfl)
  have hlen := r.length
  refine getItem_rev (l := its) ht (Heap.IsSliceOf.new ..) ?_ (by omega)
  refine ⟨.ref _, _, I4.laid (t' := s2.toks) (o := .tup xs.reverse) (fun b ob q => Heap.get?_push_of_some _ q) (Nat.le_refl _) ?_, rfl, q2 _ (I4.hok.fresh (Nat.le_refl _))⟩
  exact ⟨by rw [List.length_reverse]; exact hz, its.reverse, vals_rev r, IsTup.new _ _⟩
end
end Fm
/-! enumerate of a tuple. -/
namespace Fm
open PySem PySem.Spec PyProof.Rows L2
theorem enum_new_tup (l : Addr) (items : Array Value) (n : Nat) (dct : Option Addr) (sl : Array (Option Value)) :
    Meets (Builtin.«enumerate.__new__» ⟨[.type "enumerate", .ref l], []⟩) (fun _ R s => s.heap.get? l = some { cls := .type "tuple", dict := dct, data := .seq items n, slots := sl } ∧
      R (.ok (.ret (.ref (s.heap.push { cls := .type "tuple_iterator", data := .fields #[.ref l, .int 0 0] }).objs.size)))
        { s with heap := (s.heap.push { cls := .type "tuple_iterator", data := .fields #[.ref l, .int 0 0] }).push { cls := .type "enumerate", data := .fields #[.none, .bool false, .ref s.heap.objs.size, rawInt 0, .none, .none] } }) :=
  .of_wp fun prog w A R s h => by
    obtain ⟨hp, g, d, tk, os⟩ := s
    obtain ⟨hl, h⟩ := h
    have hsub := sub_enumerate
    have hL : Heap.IsTuple (Shared.heap ⟨hp, g, d, tk, os⟩) l items := ⟨_, hl, rfl, n, rfl⟩
    wp_walk using wpAny_loadPart' hl
    refine wpAny_stack_any fun st => wpAny_pure ?_
    split
    · rename_i c _ _ _ _ _
      cases (c == Value.type "enumerate")
      · wp_walk using wpAny_loadPart' hl, wpAny_pyIter_tuple hL
        exact ⟨_, rfl, h⟩
      · wp_walk using wpAny_loadPart' hl, wpAny_pyIter_tuple hL
        exact ⟨_, rfl, h⟩
    · wp_walk using wpAny_loadPart' hl, wpAny_pyIter_tuple hL
      exact ⟨_, rfl, h⟩
section
variable {prog : Program} {w : World} {A : Around} {E : Value → Shared → Prop} {s : Shared}
theorem call_enum_tup {l : Addr} {items : Array Value} {Q : Value → Shared → Prop} (hL : s.heap.IsTuple l items)
    (h : ∀ h', IsEnum h' (s.heap.objs.size + 1) s.heap.objs.size 0 .none → h'.IsTupleIter s.heap.objs.size l 0 → (∀ b o, s.heap.get? b = some o → h'.get? b = some o) → Q (.ref (s.heap.objs.size + 1)) { s with heap := h' }) :
    wpAny (model prog w) A (call (.type "enumerate") [.ref l]) Q E s := by
  obtain ⟨⟨c, dct, dt, sl⟩, hl, hc, n, hd⟩ := hL
  replace hc : c = .type "tuple" := hc
  replace hd : dt = .seq items n := hd
  subst hc hd
  refine callType_new F.called_enumerate (by decide) (F.typeCall_enumerate_1 _) (F.newCall_enumerate_1 _) (fun obj => F.args_object_init_2 obj _) F.entry_enumerate_new (enum_new_tup l items n dct sl) ⟨hl, ?_⟩
  have hz : (s.heap.push { cls := .type "tuple_iterator", data := .fields #[.ref l, .int 0 0] }).objs.size = s.heap.objs.size + 1 := Heap.size_push ..
  show _ ∧ _
  rw [hz]
  have he : IsEnum ((s.heap.push { cls := .type "tuple_iterator", data := .fields #[.ref l, .int 0 0] }).push
      { cls := .type "enumerate", data := .fields #[.none, .bool false, .ref s.heap.objs.size, rawInt 0, .none, .none] }) (s.heap.objs.size + 1) s.heap.objs.size 0 .none := by
    have t := Heap.get?_push_size (s.heap.push { cls := .type "tuple_iterator", data := .fields #[.ref l, .int 0 0] })
      (o := { cls := .type "enumerate", data := .fields #[.none, .bool false, .ref s.heap.objs.size, rawInt 0, .none, .none] }) rfl
    rw [hz] at t
    exact t
  exact ⟨⟨_, he, rfl⟩, h _ he ⟨_, Heap.get?_push_of_some _ (Heap.get?_push_size _ rfl), rfl, rfl⟩ fun b o x => Heap.get?_push_of_some _ (Heap.get?_push_of_some _ x)⟩
end
/-- the numbered items of a tuple -/
def ItE (K : PySem.W.Frag) (a : Addr) (xs : List V) : It where
  go := fun i H => SqT K H a xs ∧ i < xs.length
  yld := fun i H v H' => ∃ T x, v = .ref T ∧ H T = none ∧ H' = upd H T (.tup [.int (i : Nat), x]) ∧ xs[i]? = some x
  stop := fun i H => SqT K H a xs ∧ i = xs.length
theorem turn_e {P : Program} {w : World} {K : PySem.W.Frag} {elts : List Expr} {kk : Nat} {tp : Pos} {a e it : Addr} {xs : List V} (n1 : a ≠ it) (n2 : e ≠ it) (n3 : e ≠ a) :
    Turn P w K (.Tuple elts kk tp) (ItE K a xs) [e, it] e (fun i h => (∃ old, IsEnum h e it ((i : Nat) : Int) old) ∧ h.IsTupleIter it a i) where
  mem := List.mem_cons_self ..
  obj := by
    rintro i h ⟨⟨old, q1⟩, ⟨o, q2, _, d2⟩⟩ c hc
    rcases (show c = e ∨ c = it by simpa using hc) with z | z <;> subst z
    · exact ⟨_, q1, fun _ y => nomatch y⟩
    · exact ⟨o, q2, fun _ y => by rw [d2] at y; cases y⟩
  keep := by
    rintro i h h' ⟨⟨old, q1⟩, q2⟩ k
    exact ⟨⟨old, k _ (by simp) _ q1⟩, q2.at fun o z => k _ (by simp) o z⟩
  item := by
    intro X hP hw hK hc i pins s σ H E I hf st hg
    subst hP hw hK
    obtain ⟨hx, lx⟩ := hg
    obtain ⟨us, rx, px, _⟩ := I.tuple hx
    obtain ⟨⟨old, q1⟩, q2⟩ := st
    have hd : X.A.in1.handled = none := I.ok.hd hc
    have hel : e < s.heap.objs.size := Heap.lt_size q1
    have hil : it < s.heap.objs.size := by
      obtain ⟨_, q, _⟩ := id q2
      exact Heap.lt_size q
    refine wpAny_pyNext_enum_itemD (Draws.tuple (prog := X.prog) (w := X.w) hd it a n1 us.toArray) q1 ⟨q2, px⟩ (by rw [List.size_toArray, ← rx.length]; exact lx) n2 (by simp [n2, n3]) fun u h' tk hu ho st' hT hsz hk => ?_
    obtain ⟨x, ex, rxu⟩ := vals_at rx (show us[i]? = some u by simpa using hu)
    refine ⟨_, rfl, wpAny_letOwnedTupleGo_enum (s := { s with heap := h', toks := tk + 1 }) ho fun h'' he' sb => ?_⟩
    have hT2 := (sb.2 _ (Nat.ne_of_gt hel)).trans hT
    have new : ObjOk X.prog X.w (upd H s.heap.objs.size (.tup [.int (i : Nat), x])) h'' s.heap.objs.size (.tup [.int (i : Nat), x]) :=
      ⟨by show 2 ≤ sizeLine; decide, [.int i tk, u], .cons ⟨_, rfl⟩ (.cons rxu .nil), ⟨_, hT2, rfl, _, rfl⟩⟩
    have I1 : Inv X pins σ (upd H s.heap.objs.size (.tup [.int (i : Nat), x])) { s with heap := h'', toks := tk + 1 } :=
      I.turnedNew (t' := tk + 1) (ch := [e, it]) (fun b ob hb q => (sb.2 b (fun z => hb (by simp [z]))).trans (hk b ob (fun z => hb (by simp [z])) (fun z => hb (by simp [z])) q)) hf (Nat.le_refl _) new
    refine ⟨.ref s.heap.objs.size, _, I1, rfl, ⟨_, x, rfl, I.hok.fresh (Nat.le_refl _), rfl, ex⟩, ⟨⟨u, ?_⟩, st'.1.at fun o q => (sb.2 it (Ne.symm n2)).trans q⟩, fun b hb => ?_⟩
    · have e1 : ((i + 1 : Nat) : Int) = (i : Int) + 1 := by omega
      rw [e1]
      exact he'
    · have hb' : b < s.heap.objs.size := by
        rcases (show b = e ∨ b = it by simpa using hb) with z | z <;> subst z
        · exact hel
        · exact hil
      rw [upd_ne (Nat.ne_of_lt hb')]
      exact (hf b hb).1
  done := by
    intro X hP hw hK hc i pins s σ H E I hf st hg
    subst hP hw hK
    obtain ⟨hx, hi⟩ := hg
    obtain ⟨us, rx, px, _⟩ := I.tuple hx
    obtain ⟨⟨old, q1⟩, q2⟩ := st
    have hd : X.A.in1.handled = none := I.ok.hd hc
    have hn : i = us.toArray.size := by
      rw [List.size_toArray, ← rx.length]
      exact hi
    subst hn
    obtain ⟨f0, f1, f2, f3, f4, f5⟩ := hf it (by simp)
    exact wpAny_pyNext_enum_endD (Draws.tuple (prog := X.prog) (w := X.w) hd it a n1 us.toArray) q1 ⟨q2, px⟩ fun h' eb => ⟨rfl, I.turned (t' := s.toks) (fun b o hb q => eb b o hb q) f0 f1 f3 f4 f5⟩
  self := fun A i s Q E st q => by
    obtain ⟨⟨_, he⟩, _⟩ := st
    exact wpAny_pyIter_enum he q
def iEnumT (K : PySem.W.Frag) (ta : TA) : TI := fun σ H R => ta σ H fun vs H1 => ∃ a xs, vs = [.ref a] ∧ SqT K H1 a xs ∧ R (ItE K a xs) H1
theorem pi_enumT {X : Cx} {K : PySem.W.Frag} {e : Expr} {ta : TA} {p pos tpos : Pos} {elts : List Expr} {kk : Nat} (hg : Gl X "enumerate") (hm : X.mg "enumerate" = none) (ha : PA X [e] ta) (eK : X.K = K := by rfl) (hs : starEach [e] X.env = [(false, eval e X.env)] := by rfl) :
    PI X (.Tuple elts kk tpos) (.Call (.Name "enumerate" p) [e] [] pos) (iEnumT K ta) := by
  subst eK
  refine ⟨fun pins s σ H R I h => ?_⟩
  refine Call_ (ld_blt I hg hm boot_enumerate (PyProof.Rows.callWith_type1 (thn (ha.run pos pins s σ H _ I h) fun us s1 ⟨vs, H1, I1, r1, q1⟩ => ?_) hs rfl))
  obtain ⟨a, xs, ex, hq, q⟩ := q1
  subst ex
  cases r1 with
  | cons r rr =>
    cases rr
    cases r
    obtain ⟨its, rv, p', hz⟩ := I1.tuple hq
    have hal : a < s1.heap.objs.size := by
      obtain ⟨_, z, _⟩ := id p'
      exact Heap.lt_size z
    refine call_enum_tup p' fun h' he hit hk => wpAny_pyIter_enum he ?_
    have I2 : Inv X pins σ H1 { s1 with heap := h' } := I1.kept (t' := s1.toks) hk
    refine ⟨s1.heap.objs.size + 1, [s1.heap.objs.size + 1, s1.heap.objs.size], _, _, H1, rfl, I2, turn_e (xs := xs) (Nat.ne_of_lt hal) (Nat.succ_ne_self _) (Nat.ne_of_gt (Nat.lt_succ_of_lt hal)), ⟨⟨.none, he⟩, hit⟩, fun b hb => ?_, q⟩
    have hle : s1.heap.objs.size ≤ b := by
      rcases (show b = s1.heap.objs.size + 1 ∨ b = s1.heap.objs.size by simpa using hb) with z | z
      · rw [z]
        exact Nat.le_add_right _ _
      · rw [z]
        exact Nat.le_refl _
    exact I1.fpOk hle (I1.hok.fresh hle)
/-! ### by K -/
section
variable {X : Cx} {K : PySem.W.Frag}
theorem call_allK (hc : X.calm = true) (e : X.K = K := by rfl) : CallR X (.builtin "all") (rAll K) := e ▸ cr_all hc
theorem op_repTK (e : X.K = K := by rfl) : OpR X (binaryOp .Mult) (rRepT K) := e ▸ op_repT
theorem call_sortTsK (hu : X.A.units + 64 < PySem.cLine) (e : X.K = K := by rfl) : CallR X (.builtin "sorted") (rSortTs K) := e ▸ cr_sortTs hu
def rListOf (K : PySem.W.Frag) : List V → Hp → VK → Prop := fun xs H Q => ∃ p ys, xs = [.ref p] ∧ (SqL K H p ys ∨ SqT K H p ys) ∧ ∀ l, H l = none → Q (.ref l) (upd H l (.lst ys))
theorem call_listK (e : X.K = K := by rfl) : CallR X (.type "list") (rListOf K) := by
  subst e
  exact call_list_of
/-- isinstance(e, c), e the error that the suite holds, of a class that the reading tells -/
def rIsE2 (K : PySem.W.Frag) (cls : Value) (d : Option Addr) (a : Addr) : List V → Hp → VK → Prop := fun xs H Q => ∃ D : Addr, cls = .ref D ∧ d = none ∧ ExcC K D ∧ rIsE K D a xs H Q
theorem call_isE2 {a : Addr} {oe : Obj} {cls : Value} {d : Option Addr} {pn : List (Addr × Obj)} (hz : Zc cls d oe) (hf : ∃ vs, oe.data = .fields vs) (e : X.K = K := by rfl) : CallR (X.suite a ((a, oe) :: pn)) (.builtin "isinstance") (rIsE2 K cls d a) := by
  subst e
  intro pins s σ H xs us Q I r h
  obtain ⟨D, rfl, rfl, C, h⟩ := h
  exact call_isE C hz hf pins s σ H xs us Q I r h
end
end Fm
/-! A def that answers here and raises there. -/
namespace Fm
open PySem PySem.Spec PyProof.Rows L2
theorem FnOk.orX {P : Program} {w : World} {K : PySem.W.Frag} {mg : Str → Option Value} {base : Heap} {k : Nat} {f : Addr} {fd : FuncData} {ps : List Str} {sp sp2 : Sp} (F : FnOk P w K mg base L2.CX0 k f fd ps sp) (G : FnOk P w K mg base (L2.CX P w) k f fd ps sp2) :
    FnOk P w K mg base (L2.CX P w) k f fd ps (fun vs H Q E => sp vs H Q L2.E0 ∨ sp2 vs H Q E) := by
  refine ⟨fun vs H Q E h => ?_, fun A outer s H args us vs Q E hr he hb hv h => ?_⟩
  · rcases h with h | h
    · exact F.len _ _ _ _ h
    · exact G.len _ _ _ _ h
  · rcases h with h | h
    · refine codeAny_mono (F.run A outer s H args us vs Q L2.E0 hr he hb hv h) fun r s' q => ?_
      cases r with
      | error e => exact False.elim q
      | ok fl => cases fl <;> exact q
    · exact G.run A outer s H args us vs Q E hr he hb hv h
end Fm
namespace Fm
open PySem L2
theorem room65 {k : Nat} {A : Around} (r : Room k A) : A.units + 65 < cLine := by
  have := r.un
  omega
end Fm
namespace Fm
open PySem PySem.Spec PyProof.Rows L2
theorem for_enumT {K : PySem.W.Frag} {a : Addr} {xs : List V} {g : TG} {tb : TS} {D : Ends} {σ : L2.St} {H : Hp} (Pv : Nat → L2.St → Hp → Prop) (h0 : Pv 0 σ H) (hq : ∀ i σ H, Pv i σ H → SqT K H a xs)
    (hs : ∀ (i : Nat) (x : V) (T : Addr) (σ : L2.St) (H : Hp), xs[i]? = some x → Pv i σ H → H T = none → g (.ref T) σ (upd H T (.tup [.int (i : Nat), x])) fun σ2 H2 => tb { D with nx := Pv (i + 1), ct := Pv (i + 1), bk := D.nx } σ2 H2)
    (hd : ∀ σ H, Pv xs.length σ H → D.nx σ H) :
    ∃ W : Nat → Nat → L2.St → Hp → Prop, (∃ m, W 0 m σ H) ∧ ∀ i m σ H, W i m σ H →
      ((ItE K a xs).stop i H ∧ D.nx σ H) ∨ ((ItE K a xs).go i H ∧ ∃ N : L2.St → Hp → Prop, (∀ σ' H', N σ' H' → ∃ m', m' < m ∧ W (i + 1) m' σ' H') ∧ ∀ v H', (ItE K a xs).yld i H v H' → g v σ H' fun σ2 H2 => tb { D with nx := N, ct := N, bk := D.nx } σ2 H2) := by
  refine ⟨fun i m σ H => i + m = xs.length ∧ Pv i σ H, ⟨_, Nat.zero_add _, h0⟩, ?_⟩
  rintro i m σ H ⟨em, p⟩
  have qx := hq i σ H p
  cases m with
  | zero =>
    have ei : i = xs.length := em
    refine .inl ⟨⟨qx, ei⟩, hd σ H ?_⟩
    rw [← ei]
    exact p
  | succ m =>
    refine .inr ⟨⟨qx, by omega⟩, Pv (i + 1), fun σ' H' p' => ⟨m, Nat.lt_succ_self m, by omega, p'⟩, fun v H' y => ?_⟩
    obtain ⟨T, x, rfl, hT, rfl, f1⟩ := y
    exact hs i x T σ H f1 p hT
end Fm
namespace Fm
open PySem PySem.Spec PyProof.Rows L2
theorem pe_bmK {X : Cx} {K : PySem.W.Frag} {T id : String} {name : Str} {r : V → List V → Hp → VK → Prop} {o e : Expr} {es : List Expr} {to : TE} {t : TA} {apos cpos : Pos} (pa : PlainAttrs T) (slot : Slot T name id) (hty : typeOf (.builtin id) = pure (.type "method_descriptor")) (hm : MtR X id r) (ho : PE X o to) (ha : PA X (e :: es) t)
    (eK : X.K = K := by rfl) (hbase : attributeBase o name X.env (eval o X.env) = eval o X.env := by rfl)
    (hfew : ((backTo cpos (starEach (e :: es) X.env)).all (fun x => !x.1) && (backToKw cpos (keywordEach [] X.env)).all (fun x => x.1.isSome)
      && decide ((e :: es).length + ([] : List Keyword).length + (if ([] : List Keyword).isEmpty then 0 else 1) < 30)) = true := by rfl)
    (hline : (apos.endLine == cpos.line) = true := by rfl) (hs : starEach (e :: es) X.env = (false, eval e X.env) :: starEach es X.env := by rfl) (hplain : (backTo cpos (starEach es X.env)).any (·.1) = false := by rfl) :
    PE X (.Call (.Attribute o name apos) (e :: es) [] cpos) (tBM K T r to t) := by
  subst eK
  exact pe_bm pa slot hty hm ho ha hbase hfew hline hs hplain
end Fm
/-! == and != of instances by their own __eq__, any answer; sorted of a set of tuples of any lengths. -/
namespace Fm
open PySem PySem.Spec PyProof.Rows L2
/-- the other side of == of an own instance -/
inductive OTy (K : PySem.W.Frag) (H : Hp) : V → Value → Prop where
  | non : OTy K H .non (.type "NoneType")
  | int (i : Int) : OTy K H (.int i) (.type "int")
  | str (x : Str) : OTy K H (.str x) (.type "str")
  | tup {a : Addr} {xs : List V} (h : SqT K H a xs) : OTy K H (.ref a) (.type "tuple")
  | ins {a C dx : Addr} {fs : List (Str × V)} (h : H a = some (.ins C dx fs)) : OTy K H (.ref a) (.ref C)
section
variable {X : Cx} {n k : Nat}
theorem OTy.looks {pins : List (Addr × Obj)} {σ : L2.St} {H : Hp} {s : Shared} {y : V} {u t : Value} (I : Inv X pins σ H s) (r : RelV y u) (o : OTy X.K H y t) : PySem.W.Looks (model X.prog X.w) s.heap (typeOf u) t := by
  cases o with
  | non =>
    cases (show u = Value.none from r)
    exact .of_pure (by rfl)
  | int i =>
    obtain ⟨t, rfl⟩ := (show ∃ t, u = Value.int i t from r)
    exact .of_pure (by rfl)
  | str x =>
    obtain ⟨t, rfl⟩ := (show ∃ t, u = Value.str x t from r)
    exact .of_pure (by rfl)
  | tup h =>
    cases (show u = Value.ref _ from r)
    obtain ⟨its, rv, ⟨o, ho, hc, _⟩, _⟩ := I.tuple h
    have q : PySem.W.Looks (model X.prog X.w) s.heap (typeOf (.ref _)) o.cls := (PySem.W.Looks.ld ho).andThen .now
    rw [hc] at q
    exact q
  | ins h =>
    cases (show u = Value.ref _ from r)
    obtain ⟨mA, J, _⟩ := ins_get I.hok h
    obtain ⟨od, J, _⟩ := J.look
    exact J.type
/-- x == y, x an instance of the class at C, whose __eq__ keeps sp -/
def rEqO (K : PySem.W.Frag) (C : Addr) (sp : Sp) : R2 := fun x y H Q => ∃ a dx fs t, x = .ref a ∧ H a = some (.ins C dx fs) ∧ OTy K H y t ∧ PySem.W.notFirst K C t = true ∧ sp [.ref a, y] H (fun v H' => ∃ b, v = .bl b ∧ Q (.bl b) H') E0
def rNeO (K : PySem.W.Frag) (C : Addr) (sp : Sp) : R2 := fun x y H Q => ∃ a dx fs t, x = .ref a ∧ H a = some (.ins C dx fs) ∧ OTy K H y t ∧ PySem.W.notFirst K C t = true ∧ sp [.ref a, y] H (fun v H' => ∃ b, v = .bl b ∧ Q (.bl (!b)) H') E0
theorem own_run {f : Addr} {fd : FuncData} {ps : List Str} {sp : Sp} (F : FnOk X.prog X.w X.K X.mg X.base CX0 n f fd ps sp) (hb : Binds X.K fd ps []) {A : Around} (sb : Sub X n A) {pins : List (Addr × Obj)} {σ : L2.St} {H : Hp} {s : Shared} {a : Addr} {y : V} {u : Value} {R : Bool → Hp → Prop}
    (I : Inv X pins σ H s) (ry : RelV y u) (h : sp [.ref a, y] H (fun v H' => ∃ b, v = .bl b ∧ R b H') E0) (Q : Value → Shared → Prop) (E : Value → Shared → Prop) (q : ∀ b s' H', Inv X pins σ H' s' → R b H' → Q (.bool b) s') :
    wpAny (model X.prog X.w) A (call (.ref f) [.ref a, u]) Q E s := by
  have e0 : Env0 X.prog X.w X.K X.mg X.base A X.stack s H := by
    have e := I.env0
    exact ⟨by rw [sb.fr]; exact e.frames, e.mod, e.bs, e.bsz, e.funs, e.frf, e.hok, e.bare⟩
  have hl := F.len _ _ _ _ h
  have r2 : Vals [V.ref a, y] [Value.ref a, u] := .cons rfl (.cons ry .nil)
  refine wpAny_call (codeAny_mono (F.run A X.stack s H ⟨[.ref a, u], []⟩ [.ref a, u] [.ref a, y] _ E0 sb.room e0 (by
    have := hb s [.ref a, u] I.kIn (by simpa using hl)
    simpa using this) r2 h) fun r s' hq => ?_)
  cases r with
  | error e => exact False.elim hq
  | ok fl =>
    cases fl with
    | ret w =>
      obtain ⟨z, H', I', rz, b, ez, ex⟩ := I.after hq
      subst ez
      cases rz
      exact q b s' H' I' ex
    | next => exact False.elim hq
    | brk => exact False.elim hq
    | cont => exact False.elim hq
theorem op_eqO {f C : Addr} {fd : FuncData} {ps : List Str} {sp : Sp} {K : PySem.W.Frag} (F : FnOk X.prog X.w X.K X.mg X.base CX0 n f fd ps sp) (hs : PySem.W.findIn X.K (.ref C) "__eq__" = some (some (.ref f))) (hf : PySem.W.isFn X.K (.ref f) = true) (hb : Binds X.K fd ps []) (hr : Room n X.A)
    (eK : X.K = K := by rfl) : OpR X (compareOp .Eq) (rEqO K C sp) := by
  subst eK
  intro pins s σ H x y v u Q I rx ry hq
  obtain ⟨a, dx, fs, t, rfl, ha, ot, hn, h⟩ := hq
  cases rx
  obtain ⟨mA, J, _⟩ := ins_get I.hok ha
  obtain ⟨od, J, _⟩ := J.look
  have sb : Sub X n X.A := ⟨hr, rfl⟩
  obtain ⟨m, hF⟩ := I.fr
  show wpAny (model X.prog X.w) X.A (richCompare .Eq (.ref a) u) (EP X pins σ Q) X.xe s
  refine PySem.W.cmp_K (op := .Eq) hr.units0 hF I.ok.mod.kin J (ot.looks I ry) hn hs hf ?_
  exact own_run F hb sb I ry h _ _ fun b s' H' I' q => ⟨.bl b, H', I', rfl, q⟩
theorem ifBoundB {M : Model} {A : Around} {E : Value → Shared → Prop} {s : Shared} {K : PySem.W.Frag} {x C : Addr} {ox : Obj} {od : Option Obj} {name : Str} {id : String} {args : List Value} {Q : Option Value → Shared → Prop} (hK : K.In s.heap) (I : PySem.W.InstAt s.heap x ox C od)
    (hs : PySem.W.findIn K (.ref C) name = some (some (.builtin id))) (S : Slot "object" name id) (h : wpAny M A (call (.builtin id) (.ref x :: args)) (fun v => Q (some v)) E s) : wpAny M A (callSpecialIfBound? (.ref x) name args) Q E s := by
  simp only [callSpecialIfBound?, bindSpecialIfBound?]
  refine wpAny_holding (wpAny_bind (wpAny_bind (wpAny_bind (I.type.here ((PySem.W.looks_findIn hK hs).here ?_)))))
  simp only [S.bind]
  refine wpAny_bind (wpAny_askSetting (wpAny_ite ?_))
  have fin : wpAny M A (call (.builtin id) ([.ref x] ++ args) >>= fun v => pure (some v)) Q E s := wpAny_bind (wpAny_mono h (fun v s' h' => wpAny_pure h') fun _ _ h' => h')
  split
  · exact wpAny_bind (wpAny_pure (wpAny_pure fin))
  · exact wpAny_tryCatch (wpAny_bind (wpAny_pure (wpAny_pure fin)))
theorem op_neO {f C : Addr} {fd : FuncData} {ps : List Str} {sp : Sp} {K : PySem.W.Frag} (G : FnOk X.prog X.w X.K X.mg X.base CX0 n f fd ps sp) (hs : PySem.W.findIn X.K (.ref C) "__eq__" = some (some (.ref f))) (hf : PySem.W.isFn X.K (.ref f) = true) (hb : Binds X.K fd ps []) (hr : Room (n + 1) X.A)
    (hne : PySem.W.findIn X.K (.ref C) "__ne__" = some (some (.builtin "object.__ne__"))) (hm : PySem.W.mroIn X.K C (.type "object") = some true) (eK : X.K = K := by rfl) : OpR X (compareOp .NotEq) (rNeO K C sp) := by
  subst eK
  intro pins s σ H x y v u Q I rx ry hq
  obtain ⟨a, dx, fs, t, rfl, ha, ot, hn, h⟩ := hq
  cases rx
  obtain ⟨mA, J, _⟩ := ins_get I.hok ha
  obtain ⟨od, J, _⟩ := J.look
  have sb : Sub X (n + 1) X.A := ⟨hr, rfl⟩
  have hK := I.kIn
  have one : wpAny (model X.prog X.w) X.A (tryCompare (.ref a) "__ne__" u) (fun r s' => ∃ v, r = some v ∧ EP X pins σ Q v s') X.xe s := by
    unfold tryCompare
    refine wpAny_bind (ifBoundB hK J hne F.cmp_object.ne ?_)
    have sub : PySem.W.Looks (model X.prog X.w) s.heap (isInstance (.ref a) (.type "object")) true := J.type.andThen (PySem.W.looks_mroIn hK hm)
    refine wpAny_call (codeAny_call_builtin F.cmp_object.ne.plain F.cmpEntry_ne (PySem.W.check_slot F.cmpKind_ne F.cmpSplit_ne sub (F.cmpArgs_ne _ _) ?_))
    have hu : X.A.in1.units < cLine := sb.in1.room.units0
    unfold Builtin.«object.__ne__»
    refine wpAny_bind (m := slotArgs _ _ _) (wpAny_pure ?_)
    show wpAny _ _ (cRoomFor "comparison" [.ref a, u] >>= _) _ _ _
    refine wpAny_bind (wpAny_cRoomFor hu ?_)
    refine wpAny_bind (m := callSpecialIfBound? (.ref a) (Str.ofString "__eq__") [u]) (PySem.W.ifBound_K hK J hs hf (own_run G hb sb.in1 I ry h _ _ fun b s' H' I' q => ?_))
    refine wpAny_bind (m := truthy (.bool b)) (wpAny_truthy_bool ?_)
    exact wpAny_pure (wpAny_pure ⟨_, rfl, ⟨.bl (!b), H', I', rfl, q⟩⟩)
  show wpAny (model X.prog X.w) X.A (richCompare .NotEq (.ref a) u) (EP X pins σ Q) X.xe s
  unfold richCompare
  simp only [oneThing_ref]
  refine wpAny_holding (wpAny_bind (wpAny_cRoomFor hr.units0 ?_))
  refine wpAny_bind (J.type.here (wpAny_bind ((ot.looks I ry).here ?_)))
  split
  · rename_i q
    have e : PySem.W.subIn X.K t (.ref C) = some false := by
      rcases Bool.or_eq_true_iff.mp hn with e | e
      · rw [beq_iff_eq.mp e] at q; simp at q
      · exact beq_iff_eq.mp e
    refine wpAny_bind ((PySem.W.looks_subIn hK e).here ?_)
    simp only [Bool.false_eq_true, if_false]
    refine wpAny_bind (wpAny_mono one (fun r s' z => ?_) fun _ _ e => e)
    obtain ⟨v, rfl, hq⟩ := z
    exact wpAny_pure hq
  · refine wpAny_bind (wpAny_pure ?_)
    simp only [Bool.false_eq_true, if_false]
    refine wpAny_bind (wpAny_mono one (fun r s' z => ?_) fun _ _ e => e)
    obtain ⟨v, rfl, hq⟩ := z
    exact wpAny_pure hq
end
end Fm
/-! sorted of a set of tuples of ints of any lengths. -/
namespace Fm
open PySem PySem.Spec PyProof.Rows L2 PySem.W
theorem dataLt_tups (x y : List Int) : dataLt (.tuple (x.map .int)) (.tuple (y.map .int)) = decide (x < y) := by
  rw [dataLt_tuple]
  exact dataLt_ints x y
theorem dataLe_tups {β : Type} (x : β → List Int) : dataLe false (fun b => .tuple ((x b).map .int)) = fun p q => decide (x p ≤ x q) := by
  funext p q
  show (!dataLt (.tuple ((x q).map .int)) (.tuple ((x p).map .int))) = _
  rw [dataLt_tups]
  by_cases h : x q < x p
  · have h' : ¬ x p ≤ x q := fun r => List.not_lt.mpr r h
    simp [h, h']
  · have h' : x p ≤ x q := List.not_lt.mp h
    simp [h, h']
theorem lexLt_dec : ∀ x y : List Int, HT.lexLt x y = decide (x < y)
  | [], [] => by simp [HT.lexLt]
  | [], _ :: _ => by simp [HT.lexLt]
  | _ :: _, [] => by simp [HT.lexLt]
  | x :: xs, y :: ys => by
    rw [HT.lexLt_cons, lexLt_dec xs ys]
    by_cases h : x = y
    · simp [h, List.cons_lt_cons_iff]
    · simp [h, List.cons_lt_cons_iff]
theorem sorted_le {β : Type} (x : β → List Int) (l : List β) : (l.mergeSort (dataLe false (fun b => .tuple ((x b).map .int)))).Pairwise fun p q => x p ≤ x q := by
  rw [dataLe_tups]
  have h := List.pairwise_mergeSort (le := fun p q => decide (x p ≤ x q)) (fun a b c h1 h2 => decide_eq_true (List.le_trans (of_decide_eq_true h1) (of_decide_eq_true h2)))
    (fun a b => by
      rcases List.le_total (x a) (x b) with h | h
      · rw [decide_eq_true h]; rfl
      · rw [decide_eq_true h, Bool.or_true]) l
  exact h.imp fun h => of_decide_eq_true h
/-- distinct, so strictly -/
theorem sorted_lt {β : Type} (x : β → List Int) (l : List β) (hn : (l.map x).Nodup) : (l.mergeSort (dataLe false (fun b => .tuple ((x b).map .int)))).Pairwise fun p q => HT.lexLt (x p) (x q) = true := by
  have h1 := sorted_le x l
  have h2 : ((l.mergeSort (dataLe false (fun b => .tuple ((x b).map .int)))).map x).Nodup := ((List.mergeSort_perm l _).map x).nodup_iff.mpr hn
  have h3 := List.pairwise_map.mp h2
  refine (h1.and h3).imp fun {p q} h => ?_
  rw [lexLt_dec]
  refine decide_eq_true ?_
  rcases List.le_iff_lt_or_eq.mp h.1 with z | z
  · exact z
  · exact absurd z h.2
section
variable {P : Program} {w : World} {A : Around} {E : Value → Shared → Prop} {s : Shared}
theorem sorted_setU {a : Addr} {L : List (Addr × List Int)} {es : Array (Int × Value)} {ep : Nat} {t : SetTable} {Q : Value → Shared → Prop} (R : SetTR P w s.heap a L es ep t) (hh : A.handled = none) (hu : A.units + 64 < cLine)
    (hQ : ∀ s' p (out : Array Value) (c : Nat) (L' : List (Addr × List Int)), (∀ b o, s.heap.get? b = some o → s'.heap.get? b = some o) → s'.gens = s.gens → s'.os = s.os → s.heap.objs.size ≤ p →
      s'.heap.get? p = some (seqObj "list" out c) → out.toList = L'.map (fun q => Value.ref q.1) → L'.Perm L → L'.Pairwise (fun q r => HT.lexLt q.2 r.2 = true) → Q (.ref p) s') :
    wpAny (model P w) A (call (.builtin "sorted") [.ref a]) Q E s := by
  obtain ⟨o, ho, hex, hd⟩ := R.ob
  have hsz := R.size
  have hfew := R.few
  refine Calls.call_function_entry kind_sorted plain_sorted entry_sorted (args_sorted1 _) ?_
  unfold Builtin.«sorted»
  refine wpAny_bind (m := checkCount "sorted" 1 1 _) (wpAny_pure ?_)
  refine wpAny_bind (collect_set (A := A.in1) hh ⟨o, ho, hex.1, hd⟩ R.fits (by unfold scanBound; omega) R.tab.ris R.led fun s1 vs k1 hz g1 o1 pm => ?_)
  have hes : es.toList.map (·.2) = L.map fun q => Value.ref q.1 := by
    rw [R.rows]
    unfold L2.rowsOf
    rw [List.map_map] <;> rfl
  rw [hes] at pm
  have ord : ∀ vs : List Value, (∀ v ∈ vs, ∃ q ∈ L, v = Value.ref q.1) → ∃ L1 : List (Addr × List Int), vs = L1.map (fun q => Value.ref q.1) ∧ ∀ q ∈ L1, q ∈ L := by
    intro vs
    induction vs with
    | nil => intro _; exact ⟨[], rfl, fun q hq => (by cases hq)⟩
    | cons v vs ih =>
      intro hv
      obtain ⟨q, hq, e⟩ := hv v List.mem_cons_self
      obtain ⟨L1, e1, hs⟩ := ih fun u hu => hv u (List.mem_cons_of_mem _ hu)
      refine ⟨q :: L1, by rw [List.map_cons, e, e1], fun r hr => ?_⟩
      rcases List.mem_cons.mp hr with z | z
      · rw [z]; exact hq
      · exact hs r z
  have one : ∀ q ∈ L, ∀ r ∈ L, q.1 = r.1 → q = r := fun q hq r hr e => by
    have a1 := R.tup q hq
    have a2 := R.tup r hr
    rw [e] at a1
    have e2 : q.2 = r.2 := a1.inj a2
    exact Prod.ext e e2
  have perm_of : ∀ L1 : List (Addr × List Int), (∀ q ∈ L1, q ∈ L) → (L1.map (fun q => Value.ref q.1)).Perm (L.map fun q => Value.ref q.1) → L1.Perm L := by
    intro L1 hs pm1
    have nL : L.Nodup := nodup_of_map R.nd
    have nref : (L.map fun q => Value.ref q.1).Nodup := by
      refine List.pairwise_map.mpr (List.Pairwise.imp_of_mem (fun {q r} hq hr hne e => ?_) nL)
      injection e with e
      exact hne (one q hq r hr e)
    have n1 : L1.Nodup := nodup_of_map (pm1.nodup_iff.mpr nref)
    refine (List.perm_ext_iff_of_nodup n1 nL).mpr fun q => ⟨hs q, fun hq => ?_⟩
    have hm : Value.ref q.1 ∈ L1.map (fun q => Value.ref q.1) := pm1.mem_iff.mpr (List.mem_map.mpr ⟨q, hq, rfl⟩)
    obtain ⟨r, hr, e⟩ := List.mem_map.mp hm
    injection e with e
    rw [← one r (hs r hr) q hq e]
    exact hr
  have hvl : vs.length < 64 := by rw [pm.length_eq, List.length_map]; exact hfew
  obtain ⟨L1, e1, hs1⟩ := ord vs fun v hv => by
    obtain ⟨q, hq, e⟩ := List.mem_map.mp (pm.mem_iff.mp hv)
    exact ⟨q, hq, e.symm⟩
  have pL1 : L1.Perm L := perm_of L1 hs1 (by rw [← e1]; exact pm)
  refine wpAny_bind (wpAny_newList ?_ (by rw [sizeLine_eq]; omega))
  have hoL : (s1.heap.push (seqObj "list" vs.toArray 0)).get? s1.heap.objs.size = some (seqObj "list" vs.toArray 0) := Heap.get?_push_size _ rfl
  have keepT : ∀ q ∈ L, IsT P w (sortingHeap (s1.heap.push (seqObj "list" vs.toArray 0)) s1.heap.objs.size vs) q.2 q.1 := fun q hq => isT_keep (R.tup q hq) fun b u e => by
    have q1 := k1 b u e
    exact sortingHeap_old (Nat.ne_of_lt (Heap.lt_size q1)) (Heap.get?_push_of_some _ q1)
  have er : EachIs (fun (v : Value) (b : Addr × List Int) => ∃ as, Reads (sortingHeap (s1.heap.push (seqObj "list" vs.toArray 0)) s1.heap.objs.size vs) v (.tuple (b.2.map .int)) as) vs L1 := by
    have key : ∀ M : List (Addr × List Int), (∀ q ∈ M, q ∈ L) → EachIs (fun (v : Value) (b : Addr × List Int) => ∃ as, Reads (sortingHeap (s1.heap.push (seqObj "list" vs.toArray 0)) s1.heap.objs.size vs) v (.tuple (b.2.map .int)) as) (M.map fun q => Value.ref q.1) M := by
      intro M
      induction M with
      | nil => intro _; exact .nil
      | cons q M ih =>
        intro hM
        refine .cons ?_ (ih fun r hr => hM r (List.mem_cons_of_mem _ hr))
        obtain ⟨o, its, n, ho, hc, hd, hk⟩ := keepT q (hM q List.mem_cons_self)
        have r := ints_readAll (sortingHeap (s1.heap.push (seqObj "list" vs.toArray 0)) s1.heap.objs.size vs) (ints_of_items hk)
        exact ⟨_, .tuple ho hc hd r⟩
    have z := key L1 hs1
    rw [← e1] at z
    exact z
  have e0 : EachIs (fun (v : Value) (b : Addr × List Int) => v = Value.ref b.1) vs L1 := by
    have key : ∀ M : List (Addr × List Int), EachIs (fun (v : Value) (b : Addr × List Int) => v = Value.ref b.1) (M.map fun q => Value.ref q.1) M := by
      intro M
      induction M with
      | nil => exact .nil
      | cons q M ih => exact .cons rfl ih
    have z := key L1
    rw [← e1] at z
    exact z
  have hal : AllAlike (L1.map fun b => PyData.tuple (b.2.map .int)) := AllAlike.of fun b b' => by
    show alikeAll (b.2.map .int) (b'.2.map .int) = true
    exact alike_ints _ _
  have S := FmSort.sortsAt_tups (prog := P) (w := w) (A := A.in1.in1) (s := { s1 with heap := sortingHeap (s1.heap.push (seqObj "list" vs.toArray 0)) s1.heap.objs.size vs }) (each_map (R := fun v d => ∃ as, Reads (sortingHeap (s1.heap.push (seqObj "list" vs.toArray 0)) s1.heap.objs.size vs) v d as) (fun b : Addr × List Int => PyData.tuple (b.2.map .int)) er) hal (fun d hd => by
    obtain ⟨b, _, rfl⟩ := List.mem_map.mp hd
    exact ⟨_, rfl⟩) (fun d hd => by
    obtain ⟨b, _, rfl⟩ := List.mem_map.mp hd
    have z : (PyData.tuple (b.2.map .int)).depth = 1 := by
      show PyData.depthAll (b.2.map .int) + 1 = 1
      rw [depth_ints]
    show A.units + 1 + 1 + (PyData.tuple (b.2.map .int)).depth < cLine
    omega)
  refine wpAny_bind (wpAny_holding (wpAny_call_entry slot_list_sort ⟨_, hoL, rfl⟩ entry_list_sort (list_sort_vals (s := { s1 with heap := s1.heap.push (seqObj "list" vs.toArray 0) }) hoL S (by rw [sizeLine_eq]; omega) ⟨_, rfl, ?_⟩) (args_list_sort _)))
  have eo := sortVals_data (R := fun (v : Value) (b : Addr × List Int) => v = Value.ref b.1) false e0 er hal
  generalize sortVals (dataKind (sortingHeap (s1.heap.push (seqObj "list" vs.toArray 0)) s1.heap.objs.size vs) (L1.map fun b => PyData.tuple (b.2.map .int))) false vs vs = out at eo ⊢
  obtain ⟨c, hc⟩ := sortedHeap_at (vs := vs) (out := out.toArray) hoL
  have e' : out = (L1.mergeSort (dataLe false (fun b : Addr × List Int => PyData.tuple (b.2.map .int)))).map fun q => Value.ref q.1 := by
    have key : ∀ (us : List Value) (M : List (Addr × List Int)), EachIs (fun (v : Value) (b : Addr × List Int) => v = Value.ref b.1) us M → us = M.map fun q => Value.ref q.1 := by
      intro us M h
      induction h with
      | nil => rfl
      | cons h _ ih => rw [h, ih, List.map_cons]
    exact key _ _ eo
  refine wpAny_pure ⟨_, rfl, hQ _ s1.heap.objs.size out.toArray c _ (fun b u e => ?_) g1 o1 hz hc (by rw [List.toList_toArray]; exact e') ((List.mergeSort_perm _ _).trans pL1) (sorted_lt (fun b : Addr × List Int => b.2) L1 ((pL1.map _).nodup_iff.mpr R.nd))⟩
  have q := k1 b u e
  have hlt := Heap.lt_size q
  show (sortedHeap (s1.heap.push (seqObj "list" vs.toArray 0)) s1.heap.objs.size vs out.toArray).get? b = some u
  rw [sortedHeap_old (Nat.ne_of_lt hlt) (by rw [size_push']; exact Nat.lt_succ_of_lt hlt)]
  exact Heap.get?_push_of_some _ q
end
section
variable {X : Cx} {K : PySem.W.Frag} {P : Program} {w : World}
def rSortSU (K : PySem.W.Frag) (P : Program) (w : World) : List V → Hp → VK → Prop := fun vs H Q => ∃ (a : Addr) (L : List (Addr × List Int)), vs = [V.ref a] ∧ H a = some (SetTO P w a L) ∧ (∀ p ∈ L, SqT K H p.1 (p.2.map V.int)) ∧
  ∀ (L' : List (Addr × List Int)) (p : Addr), L'.Perm L → L'.length < 64 → L'.Pairwise (fun q r => HT.lexLt q.2 r.2 = true) → H p = none → Q (.ref p) (upd H p (.lst (L'.map fun q => V.ref q.1)))
theorem call_sortSU (hc : X.calm = true) (hu : X.A.units + 64 < cLine) (eK : X.K = K := by rfl) (eP : X.prog = P := by rfl) (ew : X.w = w := by rfl) : CallR X (.builtin "sorted") (rSortSU K P w) := by
  subst eK eP ew
  intro pins s σ H vs us Q I r h
  obtain ⟨a, L, rfl, ha, hk, q⟩ := h
  have R0 : SetT0 X.prog X.w s.heap a L := (I.hok a _ ha).1
  obtain ⟨es, ep, t, R⟩ := R0.full fun p hp => Inv.isT I (hk p hp)
  rw [Vals.ref1 r]
  refine sorted_setU R (I.ok.hd hc) hu fun s' p out c L' k g o hp hg hout pm pw => ?_
  have hfew : L'.length < 64 := by rw [pm.length_eq]; exact R.few
  have hlen : (L'.map fun q => V.ref q.1).length ≤ sizeLine := by rw [List.length_map, sizeLine_eq]; omega
  have hn : H p = none := I.hok.fresh hp
  have hv : Vals (L'.map fun q => V.ref q.1) out.toList := by rw [hout]; exact vals_of_refs L'
  have J : Inv X pins σ (upd H p (.lst (L'.map fun q => V.ref q.1))) { s with heap := s'.heap, gens := s'.gens, drawn := s'.drawn, toks := s'.toks } :=
    I.call (ch := []) (Un.laid k hp hn) (I.hok.laid k hp ⟨hlen, out.toList, c, hv, hg⟩) (by rw [g]; exact I.bare) (fun _ z => nomatch z)
  have e : s' = { s with heap := s'.heap, gens := s'.gens, drawn := s'.drawn, toks := s'.toks } := by
    cases s'
    cases s
    cases o
    rfl
  rw [e]
  exact ⟨.ref p, _, J, rfl, q L' p pm hfew pw hn⟩
theorem call_setOfTK (hc : X.calm = true) (hu : X.A.units + 64 < cLine) (eK : X.K = K := by rfl) (eP : X.prog = P := by rfl) (ew : X.w = w := by rfl) : CallR X (.type "set") (rSetOfT K P w) := by
  subst eK eP ew
  exact cr_setOfT hc hu
end
end Fm
/-! An own instance made within a try: what is raised is wished for at the slots. -/
namespace Fm
open PySem PySem.Spec PyProof.Rows L2
section
variable {X : Cx} {CX : CXT} {C f : Addr} {fd : FuncData} {ps : List Str} {sp : Sp} {ds : List Value} {dvs : List V} {k : Nat} {E : WX} {e : Expr} {es : List Expr} {t : TA} {x : Str} {p pos : Pos}
theorem run_makeS {E : XK} {pins : List (Addr × Obj)} {σ : L2.St} {H : Hp} {s : Shared} {Q : VK} {us : List Value} {vs : List V} (M : Mk X.K C f) (F : FnOk X.prog X.w X.K X.mg X.base CX k f fd ps sp) (hr : Room (k + 1) X.A) (hb : Binds X.K fd ps ds) (hd : Vals dvs ds)
    (hx : PassesAt CX X σ E) (I : Inv X pins σ H s) (r : Vals vs us)
    (h : ∀ x dx, H x = none → H dx = none → dx ≠ x → sp (.ref x :: (vs ++ dvs)) (upd (upd H dx (.own x)) x (.ins C dx [])) (fun v H2 => v = .non ∧ Q (.ref x) H2) E) :
    wpAny (model X.prog X.w) X.A (call (.ref C) us) (EP X pins σ Q) X.xe s := by
  have hq := h (s.heap.objs.size + 1) s.heap.objs.size (I.hok.fresh (Nat.le_succ _)) (I.hok.fresh (Nat.le_refl _)) (Nat.ne_of_lt (Nat.lt_succ_self _))
  have I2 := Inv.made (C := C) I
  have r2 : Vals (V.ref (s.heap.objs.size + 1) :: (vs ++ dvs)) (Value.ref (s.heap.objs.size + 1) :: (us ++ ds)) := .cons rfl (r.append hd)
  have hl : (Value.ref (s.heap.objs.size + 1) :: us ++ ds).length = ps.length := by
    have e := r2.length
    rw [F.len _ _ _ _ hq] at e
    exact e.symm
  refine wpAny_call (make_map (f := f) I.kIn M.makes M.init (beq_iff_eq.mp M.fn) (codeAny_mono (F.run _ X.stack _ _ ⟨Value.ref (s.heap.objs.size + 1) :: us, []⟩ (Value.ref (s.heap.objs.size + 1) :: (us ++ ds)) _ _ E (hr.make C us [])
    (I2.env0.make C us []) (hb _ (Value.ref (s.heap.objs.size + 1) :: us) I2.kIn hl) r2 hq) fun r s' hq' => ?_))
  cases r with
  | error e => exact hx pins _ _ e s' I2 hq'
  | ok fl =>
    cases fl with
    | ret u =>
      obtain ⟨v, H', I3, rv, ev, q3⟩ := I2.after hq'
      subst ev
      exact ⟨rv, ⟨V.ref (s.heap.objs.size + 1), H', I3, rfl, q3⟩⟩
    | next => exact False.elim hq'
    | brk => exact False.elim hq'
    | cont => exact False.elim hq'
def tMakeS (C : Addr) (sp : Sp) (E : L2.St → XK) (t : TA) : TE := fun σ H Q => t σ H fun vs H1 => ∀ x dx, H1 x = none → H1 dx = none → dx ≠ x → sp (.ref x :: vs) (upd (upd H1 dx (.own x)) x (.ins C dx [])) (fun v H2 => v = .non ∧ Q (.ref x) H2) (E σ)
theorem pe_makeS {E : L2.St → XK} (M : Mk X.K C f) (F : FnOk X.prog X.w X.K X.mg X.base CX k f fd ps sp) (hr : Room (k + 1) X.A) (hg : Gl X x) (hm : X.mg x = some (.ref C)) (hb : Binds X.K fd ps []) (hx : ∀ σ, PassesAt CX X σ (E σ))
    (ha : PA X (e :: es) t) (hdb : (x == ("__debug__" : Str)) = false := by decide) (he : starEach (e :: es) X.env = (false, eval e X.env) :: starEach es X.env := by rfl) (hpl : (backTo pos (starEach es X.env)).any (·.1) = false := by rfl) :
    PE X (.Call (.Name x p) (e :: es) [] pos) (tMakeS C sp E t) := by
  refine ⟨fun pins s σ H Q I h => ?_⟩
  refine wpAny_Call_Name_kw (ld_glob I hg hm ?_ hdb)
  refine PySem.W.callWith_K (h₀ := X.base) I.ok.mod.kin M.kp (thn (ha.run pos pins s σ H _ I h) fun us s1 ⟨vs, H1, I1, r, q⟩ => ⟨I1.kIn, ?_⟩) he hpl
  exact run_makeS (dvs := []) (ds := []) M F hr hb .nil (hx σ) I1 r fun x dx n1 n2 n3 => by
    rw [List.append_nil]
    exact q x dx n1 n2 n3
end
end Fm
/-! tuple * n from 1 on; tuple * 1 is the tuple itself. -/
namespace Fm
open PySem PySem.Spec PyProof.Rows L2
theorem tuple_mul1 (l : Addr) (items : Array Value) (n : Nat) (dd : Option Addr) (sl : Array (Option Value)) (u : Tok) :
    Meets (Builtin.«tuple.__mul__» ⟨[.ref l, .int 1 u], []⟩) (fun _ R s => s.heap.get? l = some { cls := .type "tuple", dict := dd, data := .seq items n, slots := sl } ∧ R (.ok (.ret (Value.ref l))) s) :=
  .of_wp fun prog w A R s h => by
    obtain ⟨hp, g, d, tk, os⟩ := s
    obtain ⟨hl, h⟩ := h
    have f1 := AutoSeq1.idx_int
    wp_walk using wpAny_loadPart' hl
    exact ⟨_, rfl, h⟩
def rRepU (K : PySem.W.Frag) : R2 := fun x y H Q => ∃ l k xs, x = .ref l ∧ y = .int k ∧ SqT K H l xs ∧ xs ≠ [] ∧ 1 ≤ k ∧ k ≤ 1000 ∧ xs.length ≤ 1000 ∧ (k = 1 → Q (.ref l) H) ∧ ∀ p, H p = none → Q (.ref p) (upd H p (.tup (List.replicate k.toNat xs).flatten))
theorem op_repU {X : Cx} {K : PySem.W.Frag} (eK : X.K = K := by rfl) : OpR X (binaryOp .Mult) (rRepU K) := by
  subst eK
  intro pins s σ H x y v u Q I rx ry h
  obtain ⟨l, k, xs, rfl, rfl, hT, hne, h1, h2, hz, q1, q⟩ := h
  by_cases hk : k = 1
  · subst hk
    cases rx
    obtain ⟨t, rfl⟩ := ry
    obtain ⟨its, r, ⟨⟨cls, dd, data, sl⟩, ho, hc, n, hd⟩, hs⟩ := I.tuple hT
    simp only at hc hd
    subst hc hd
    refine wpAny_binaryOp_repeat_ref (T := "tuple") (U := "int") (by decide) ⟨_, ho, rfl⟩ (fun s' => typeIs_int s' 1 t) noFill_tuple_mul F.fills_int_mul F.slot_int_rmul repeat_tuple F.slot_int_index.lookup
      (call_meets F.slot_int_rmul (typeIs_int s 1 t) F.entry_int_rmul (F.args_int_rmul_2 _ _) (int_rmul_tuple 1 t l its.toArray n dd sl)
        ⟨ho, rfl, ⟨_, ho, rfl⟩, call_meets F.slot_tuple_mul ⟨_, ho, rfl⟩ F.entry_tuple_mul (F.args_tuple_mul_2 _ _) (tuple_mul1 l its.toArray n dd sl t) ⟨ho, ?_⟩⟩)
    exact ⟨.ref l, H, I.tok _, rfl, q1 rfl⟩
  · exact op_repT pins s σ H _ _ v u Q I rx ry ⟨l, k, xs, rfl, rfl, hT, hne, by omega, h2, hz, q⟩
end Fm
/-! A set of tuples of ints: one put in; the comprehension of two clauses that makes it. -/
namespace Fm
open PySem PySem.Spec PyProof.Rows L2 PySem.W
section
variable {P : Program} {w : World} {A : Around} {E : Value → Shared → Prop} {s : Shared}
/-- add, seen from the heap -/
theorem add_raw {a x : Addr} {L : List (Addr × List Int)} {k : List Int} {es : Array (Int × Value)} {ep : Nat} {t : SetTable} {Q : Value → Shared → Prop} (R : SetTR P w s.heap a L es ep t) (hx : IsT P w s.heap k x) (hu : A.units + 2 < cLine) (few : L.length + 1 < 64)
    (q : ∀ h' L' es' ep' t' tk, Heap.SameBut a s.heap h' → SetTR P w h' a L' es' ep' t' → (k ∈ L.map (·.2) → L' = L) → (k ∉ L.map (·.2) → L'.Perm ((x, k) :: L)) → Q .none { s with heap := h', toks := tk }) :
    wpAny (model P w) A (call (.builtin "set.add") [.ref a, .ref x]) Q E s := by
  obtain ⟨o, ho, hex, hd⟩ := R.ob
  refine wpAny_call_entry F.slot_set_add (⟨o, ho, hex.1⟩ : s.TypeIs (.ref a) "set") F.entry_set_add ?_ (F.args_set_add_2 _ _)
  unfold Builtin.«set.add» Builtin.Frozenset.oneOther Builtin.Frozenset.addrOf setAdd
  simp only [List.isEmpty_nil, bind_assoc]
  refine wpAny_bind (wpAny_pure ?_)
  try dsimp only
  refine wpAny_bind (wpAny_pure ?_)
  try dsimp only
  refine wpAny_bind (wpAny_holding (wpAny_bind (wpAny_pyHash_tuple (A := A.in1) (by show A.units + 1 < cLine; omega) hx ?_)))
  have R' : SetTR P w ({ s with toks := s.toks + (k.length + 1) } : Shared).heap a L es ep t := R
  refine add_at (s := { s with toks := s.toks + (k.length + 1) }) R' hx (by show A.units + 1 < cLine; omega) few fun b h' L' es' ep' t' sb R2 c1 c2 => ?_
  show wpAny _ _ (ret Value.none) _ _ _
  exact wpAny_pure ⟨_, rfl, q h' L' es' ep' t' _ sb R2 c1 c2⟩
end
section
variable {X : Cx} {K : PySem.W.Frag} {P : Program} {w : World} {pins : List (Addr × Obj)} {σ : L2.St} {H : Hp} {s : Shared}
/-- the tuples of L are there -/
def TupsAt (K : PySem.W.Frag) (H : Hp) (L : List (Addr × List Int)) : Prop := ∀ p ∈ L, SqT K H p.1 (p.2.map V.int)
/-- L' is L with (b, k) put in -/
def PutIn (L : List (Addr × List Int)) (b : Addr) (k : List Int) (L' : List (Addr × List Int)) : Prop := (k ∈ L.map (·.2) → L' = L) ∧ (k ∉ L.map (·.2) → L'.Perm ((b, k) :: L))
theorem add_inv {A : Around} {E : Value → Shared → Prop} {D b : Addr} {k : List Int} {L : List (Addr × List Int)} {Q : Value → Shared → Prop} (I : Inv X pins σ H s) (hD : H D = some (SetTO X.prog X.w D L)) (hL : TupsAt X.K H L) (hb : SqT X.K H b (k.map V.int))
    (hu : A.units + 2 < cLine) (few : L.length + 1 < 64) (q : ∀ L' s', PutIn L b k L' → Inv X pins σ (upd H D (SetTO X.prog X.w D L')) s' → Q .none s') :
    wpAny (model X.prog X.w) A (call (.builtin "set.add") [.ref D, .ref b]) Q E s := by
  have R0 : SetT0 X.prog X.w s.heap D L := (I.hok D _ hD).1
  obtain ⟨es, ep, t, R⟩ := R0.full fun p hp => I.isT (hL p hp)
  refine add_raw R (I.isT hb) hu few fun h' L' es' ep' t' tk sb R2 c1 c2 => q L' _ ⟨c1, c2⟩ ?_
  have he : ∃ u, h'.get? D = some u := by
    obtain ⟨o, ho, _⟩ := R2.ob
    exact ⟨o, ho⟩
  exact I.write (e := D) (t' := tk) (by rw [hD]; trivial) (.inl rfl) (fun c u hc hu => (sb.2 c hc).trans hu) he (setTO_new R2.t0)
def rSAddT (K : PySem.W.Frag) (P : Program) (w : World) : V → List V → Hp → VK → Prop := fun x xs H Q => ∃ (a b : Addr) (k : List Int) (L : List (Addr × List Int)), x = V.ref a ∧ xs = [V.ref b] ∧ H a = some (SetTO P w a L) ∧ TupsAt K H L ∧ SqT K H b (k.map V.int) ∧ L.length + 1 < 64 ∧
  ∀ L', PutIn L b k L' → Q .non (upd H a (SetTO P w a L'))
theorem mt_saddT (hu : X.A.units + 64 < cLine) (eK : X.K = K := by rfl) (eP : X.prog = P := by rfl) (ew : X.w = w := by rfl) : MtR X "set.add" (rSAddT K P w) := by
  subst eK eP ew
  intro pins s σ H x xs v us Q I rx rxs h
  obtain ⟨a, b, k, L, rfl, rfl, ha, hL, hb, few, q⟩ := h
  cases rx
  rw [Vals.ref1 rxs]
  exact add_inv I ha hL hb (by show X.A.units + 2 < cLine; omega) few fun L' s' p I' => ⟨.non, _, I', rfl, q L' p⟩
def tSAddT (K : PySem.W.Frag) (P : Program) (w : World) (to : TE) (t : TA) : TE := fun σ H Q => to σ H fun x H1 => (∃ a L, x = V.ref a ∧ H1 a = some (SetTO P w a L)) ∧ t σ H1 fun xs H2 => rSAddT K P w x xs H2 Q
theorem pe_saddT {K : PySem.W.Frag} {P : Program} {w : World} {o e : Expr} {to : TE} {t : TA} {apos cpos : Pos} (hu : X.A.units + 64 < cLine) (ho : PE X o to) (ha : PA X [e] t)
    (b1 : attributeBase o "add" X.env (eval o X.env) = eval o X.env := by rfl)
    (b2 : ((backTo cpos (starEach [e] X.env)).all (fun x => !x.1) && (backToKw cpos (keywordEach [] X.env)).all (fun x => x.1.isSome) && decide (([e] : List Expr).length + ([] : List Keyword).length + (if ([] : List Keyword).isEmpty then 0 else 1) < 30)) = true := by rfl)
    (b3 : (apos.endLine == cpos.line) = true := by rfl) (b4 : starEach [e] X.env = [(false, eval e X.env)] := by rfl) (eK : X.K = K := by rfl) (eP : X.prog = P := by rfl) (ew : X.w = w := by rfl) :
    PE X (.Call (.Attribute o "add" apos) [e] [] cpos) (tSAddT K P w to t) := by
  subst eK eP ew
  refine ⟨fun pins s σ H Q I h => ?_⟩
  refine wpAny_Call_method_late b1 b2 b3 rfl (thn (ho.run pins s σ H _ I h) fun v s1 ⟨x, H1, I1, r1, ty, q1⟩ => ?_)
  obtain ⟨a, L, rfl, hka⟩ := ty
  cases r1
  have R0 : SetT0 X.prog X.w s1.heap a L := (I1.hok a _ hka).1
  obtain ⟨es, ep, t, ⟨ob, h1, h2, h3⟩, _⟩ := R0.ex
  refine ⟨"set", "set.add", F.plainAttrs_set, F.slot_set_add, F.type_set_add, ⟨ob, h1, h2.1⟩, fun c e => (by cases e; exact ⟨ob, h1, h2.2.1⟩), ?_⟩
  have hA := ha.run cpos pins s1 σ H1 _ I1 q1
  rw [b4] at hA ⊢
  refine Calls.callWith_builtin rfl (Calls.evalArgs_plain (thn hA fun us s2 ⟨vs, H2, I2, r2, q2⟩ => (mt_saddT hu) pins s2 σ H2 (.ref a) vs (.ref a) us Q I2 rfl r2 q2))
end
end Fm
/-! The comprehension of two clauses, without tests, that makes a set of tuples of ints. -/
namespace Fm
open PySem PySem.Spec PyProof.Rows L2 PySem.W
/-- {el for ta in ea for tb in eb} -/
abbrev sc2 (el ta ea tb eb : Expr) (sc : Scope) (ps : Pos) : Expr := .SetComp el [⟨ta, ea, [], 0⟩, ⟨tb, eb, [], 0⟩] sc ps
theorem turn_outer (el ta ea tb eb : Expr) (sc : Scope) (ps : Pos) (it D : Value) (ev : Env) : compTurn (sc2 el ta ea tb eb sc ps) 0 it D ev = (do
      standAt ea.pos
      match ← pyNext it with
      | none => pure (.done .next)
      | some got =>
        letOwnedTupleGo ta it got
        assign ta ev got
        let mut good := true
        for f in ([] : List Expr) do
          if good then good ← isTrue f ev (eval f ev)
        if good then
          let y ← eval eb ev
          standAt eb.pos
          let y ← foldedSetIterable eb ev y
          let _ ← runOwn (.compStart (sc2 el ta ea tb eb sc ps) 1 (← holding [y] (pyIter y)) D ev) ev
        again (.compLoop (sc2 el ta ea tb eb sc ps) 0 it D ev)) := by rfl
theorem turn_inner (el ta ea tb eb : Expr) (sc : Scope) (ps : Pos) (it D : Value) (ev : Env) : compTurn (sc2 el ta ea tb eb sc ps) 1 it D ev = (do
      standAt eb.pos
      match ← pyNext it with
      | none => pure (.done .next)
      | some got =>
        letOwnedTupleGo tb it got
        assign tb ev got
        let mut good := true
        for f in ([] : List Expr) do
          if good then good ← isTrue f ev (eval f ev)
        if good then
          (do let y ← eval el ev; standAt el.pos; let _ ← call (.builtin "set.add") [D, y])
        again (.compLoop (sc2 el ta ea tb eb sc ps) 1 it D ev)) := by rfl
section
variable {P : Program} {w : World} {A : Around} {R : Result → Shared → Prop} {s : Shared} {el ta ea tb eb : Expr} {sc : Scope} {ps : Pos} {it D : Value} {ev : Env}
theorem loop_outer (hf : ∀ y, foldedSetIterable eb ev y = pure y) (J : Nat → Shared → Prop)
    (step : ∀ m u, J m u → wpAny (model P w) A (pyNext it) (fun r u1 => match r with
      | none => R (.ok .next) u1
      | some got => wpAny (model P w) A (letOwnedTupleGo ta it got) (fun _ u2 => wpAny (model P w) A (assign ta ev got) (fun _ u3 => wpAny (model P w) A (eval eb ev) (fun y u4 => wpAny (model P w) A (pyIter y) (fun jt u5 =>
          codeAny (model P w) A (.compStart (sc2 el ta ea tb eb sc ps) 1 jt D ev) (fun r u6 => match r with
            | .ok _ => ∃ m', m' < m ∧ J m' u6
            | .error _ => False) u5) (notedBy (model P w) A ev fun x u => R (.error x) u) u4) (notedBy (model P w) A ev fun x u => R (.error x) u) u3) (notedBy (model P w) A ev fun x u => R (.error x) u) u2)
          (notedBy (model P w) A ev fun x u => R (.error x) u) u1) (notedBy (model P w) A ev fun x u => R (.error x) u) u)
    (m : Nat) (h : J m s) : codeAny (model P w) A (.compLoop (sc2 el ta ea tb eb sc ps) 0 it D ev) R s := by
  refine codeAny_loop rfl J (fun m u hJ => ?_) m h
  show wpAny _ A ((compTurn (sc2 el ta ea tb eb sc ps) 0 it D ev).onRaise (fun x => do noteFrame x ev; theTreesLotGoes x)) _ _ u
  refine wpAny_noted ?_
  rw [turn_outer]
  refine wpAny_bind (wpAny_standAt (wpAny_bind (wpAny_mono (step m u hJ) (fun r u1 h1 => ?_) fun _ _ z => z)))
  cases r with
  | none => exact wpAny_pure h1
  | some got =>
    refine wpAny_bind (wpAny_mono h1 (fun _ u2 h2 => wpAny_bind (wpAny_mono h2 (fun _ u3 h3 => ?_) fun _ _ z => z)) fun _ _ z => z)
    refine wpAny_bind (wpAny_pure ?_)
    refine wpAny_bind (wpAny_mono h3 (fun y u4 h4 => ?_) fun _ _ z => z)
    refine wpAny_bind (wpAny_standAt (wpAny_bind (wpAny_of_eq (hf y) (wpAny_bind (wpAny_holding (wpAny_mono h4 (fun jt u5 h5 => ?_) fun _ _ z => z))))))
    refine wpAny_bind (wpAny_runOwn ?_)
    rw [Around.mark_none]
    refine codeAny_mono h5 fun r u6 hres => ?_
    cases r with
    | ok f =>
      first
        | exact wpAny_pure ⟨rfl, hres⟩
        | exact wpAny_bind (wpAny_pure (wpAny_pure ⟨rfl, hres⟩))
    | error x => exact hres.elim
theorem loop_inner (J : Nat → Shared → Prop)
    (step : ∀ m u, J m u → wpAny (model P w) A (pyNext it) (fun r u1 => match r with
      | none => R (.ok .next) u1
      | some got => wpAny (model P w) A (letOwnedTupleGo tb it got) (fun _ u2 => wpAny (model P w) A (assign tb ev got) (fun _ u3 => wpAny (model P w) A (eval el ev) (fun y u4 =>
          wpAny (model P w) A (call (.builtin "set.add") [D, y]) (fun _ u5 => ∃ m', m' < m ∧ J m' u5) (notedBy (model P w) A ev fun x u => R (.error x) u) u4) (notedBy (model P w) A ev fun x u => R (.error x) u) u3)
          (notedBy (model P w) A ev fun x u => R (.error x) u) u2) (notedBy (model P w) A ev fun x u => R (.error x) u) u1) (notedBy (model P w) A ev fun x u => R (.error x) u) u)
    (m : Nat) (h : J m s) : codeAny (model P w) A (.compLoop (sc2 el ta ea tb eb sc ps) 1 it D ev) R s := by
  refine codeAny_loop rfl J (fun m u hJ => ?_) m h
  show wpAny _ A ((compTurn (sc2 el ta ea tb eb sc ps) 1 it D ev).onRaise (fun x => do noteFrame x ev; theTreesLotGoes x)) _ _ u
  refine wpAny_noted ?_
  rw [turn_inner]
  refine wpAny_bind (wpAny_standAt (wpAny_bind (wpAny_mono (step m u hJ) (fun r u1 h1 => ?_) fun _ _ z => z)))
  cases r with
  | none => exact wpAny_pure h1
  | some got =>
    refine wpAny_bind (wpAny_mono h1 (fun _ u2 h2 => wpAny_bind (wpAny_mono h2 (fun _ u3 h3 => ?_) fun _ _ z => z)) fun _ _ z => z)
    refine wpAny_bind (wpAny_pure ?_)
    exact wpAny_bind (wpAny_bind (wpAny_mono h3 (fun y u4 h4 => wpAny_bind (wpAny_standAt (wpAny_bind (wpAny_mono h4 (fun _ u5 h5 => wpAny_pure (wpAny_pure ⟨rfl, h5⟩)) fun _ _ z => z)))) fun _ _ z => z))
theorem start_inner (hz : codeAny (model P w) A (.compLoop (sc2 el ta ea tb eb sc ps) 1 it D ev) R s)
    (h : wpAny (model P w) A (pyIter it) (fun jt u => codeAny (model P w) A (.compLoop (sc2 el ta ea tb eb sc ps) 1 jt D ev) R u) (notedBy (model P w) A ev fun x u => R (.error x) u) s) :
    codeAny (model P w) A (.compStart (sc2 el ta ea tb eb sc ps) 1 it D ev) R s := by
  refine codeAny_of_tree ?_
  show wpAny _ _ ((compStart (sc2 el ta ea tb eb sc ps) 1 it D ev).onRaise (fun x => do noteFrame x ev; standAt theWindowsPlace)) _ _ s
  refine wpAny_notedAt ?_
  unfold compStart
  show wpAny _ _ (ask >>= _) _ _ s
  refine wpAny_bind (wpAny_askSetting (wpAny_ite ?_))
  split
  · first
      | exact wpAny_bind (wpAny_pure (wpAny_pure ⟨rfl, hz⟩))
      | exact wpAny_pure ⟨rfl, hz⟩
  · refine wpAny_bind (wpAny_rule ?_)
    show wpAny _ _ (standAt eb.pos >>= _) _ _ s
    exact wpAny_bind (wpAny_standAt (wpAny_bind (wpAny_mono h (fun jt u hn => wpAny_pure (And.intro rfl hn)) fun _ _ z => z)))
end
end Fm
namespace Fm
open PySem PySem.Spec PyProof.Rows L2 PySem.W
section
variable {X : Cx} {K : PySem.W.Frag} {P : Program} {w : World}
/-- the set's making: the outer source's loop by W, the inner one's by V -/
def tSc2 (K : PySem.W.Frag) (P : Program) (w : World) (wa : TI) (ga : TG) (wb : TI) (gb : TG) (te : TE) (vs vs1 : List Nat) : TE := fun σ H Q => wa σ H fun J H1 => ∀ D, H1 D = none → ∃ W : Nat → Nat → Hp → Prop, (∃ m, W 0 m (upd H1 D (SetTO P w D []))) ∧ ∀ i m H, W i m H →
  (J.stop i H ∧ Q (.ref D) H) ∨ (J.go i H ∧ ∃ Nx : Hp → Prop, (∀ H', Nx H' → ∃ m', m' < m ∧ W (i + 1) m' H') ∧ ∀ x H', J.yld i H x H' → ga x (wipe σ vs) H' fun σ2 H2 => wipe σ2 vs = wipe σ vs ∧ wb σ2 H2 fun J1 H4 => ∃ Wb : Nat → Nat → Hp → Prop, (∃ m, Wb 0 m H4) ∧ ∀ j k H, Wb j k H →
    (J1.stop j H ∧ Nx H) ∨ (J1.go j H ∧ ∃ Ny : Hp → Prop, (∀ H', Ny H' → ∃ k', k' < k ∧ Wb (j + 1) k' H') ∧ ∀ x H', J1.yld j H x H' → gb x (wipe σ2 vs1) H' fun σ3 H5 => wipe σ3 vs1 = wipe σ2 vs1 ∧ te σ3 H5 fun y H7 =>
      ∃ (b : Addr) (q : List Int) (L : List (Addr × List Int)), y = .ref b ∧ SqT K H7 b (q.map V.int) ∧ H7 D = some (SetTO P w D L) ∧ TupsAt K H7 L ∧ L.length + 1 < 64 ∧ ∀ L', PutIn L b q L' → Ny (upd H7 D (SetTO P w D L'))))
theorem sc2_all {pins : List (Addr × Obj)} {s : Shared} {σ : L2.St} {H : Hp} {Q : VK} {el ta ea tb eb : Expr} {sc : Scope} {own : List (Str × Nat)} {vs1 : List Nat} {ps qs : Pos} {wa wb : TI} {ga gb : TG} {te : TE} {use : Option (Value → Sem Unit)} {Qf : Value → Shared → Prop}
    (hc : X.calm = true) (hu : X.A.units + 64 < cLine) (hN : X.N.Nodup) (I : Inv X pins σ H s) (pa : PI X ta ea wa) (ok : BlkOk X.N X.env.scope sc own) (hv : ∀ i ∈ vs1, i ∈ own.map (·.2))
    (pga : ∀ (s : Shared) (H : Hp) (C : Addr) (cl : List (Str × Addr)) (fp : List Addr), PG (X.blk s H sc (compEnvC sc cl C X.env) fp) ta ga)
    (pe : ∀ (s : Shared) (H : Hp) (C : Addr) (cl : List (Str × Addr)) (fp : List Addr), PE (X.blk s H sc (compEnvC sc cl C X.env) fp) el te)
    (pb : ∀ (s : Shared) (H : Hp) (C : Addr) (cl : List (Str × Addr)) (fp : List Addr), PI (X.blk s H sc (compEnvC sc cl C X.env) fp) tb eb wb)
    (pgb : ∀ (s : Shared) (H : Hp) (C : Addr) (cl : List (Str × Addr)) (fp : List Addr), PG (X.blk s H sc (compEnvC sc cl C X.env) fp) tb gb)
    (fa : ∀ x, foldedSetIterable ea X.env x = pure x) (fb : ∀ ev x, foldedSetIterable eb ev x = pure x) (eK : X.K = K) (eP : X.prog = P) (ew : X.w = w)
    (h : tSc2 K P w wa ga wb gb te (own.map (·.2)) vs1 σ H Q)
    (post : ∀ D C u m H', Inv X pins σ H' u → Q (.ref D) H' → u.heap.Ns C m → FpOk X pins H' C → compPost (model X.prog X.w) X.A X.xe use Qf (.ref D) C (.ok .next) u) :
    wpAny (model X.prog X.w) X.A (comprehension (sc2 el ta ea tb eb sc ps) sc X.env qs (newSet (.type "set")) false (eval ea X.env) use) Qf X.xe s := by
  subst eK eP ew
  have hfree : ∀ y ∈ sc.names, y.2 = .free → ∃ c, X.env.cells.lookup y.1 = some c := fun y hy e => (ok.free y hy e).elim (fun z => I.ok.has _ (.inl z)) fun z => I.ok.has _ (.inr z)
  refine wpAny_comprehension_free (use := use) rfl fa (closure_ok hfree) ok.kind (fun y hy e => by rw [ok.uniq y hy, e]) (thn (pa.run pins s σ H _ I h) fun xv s1 hx => thn hx fun itv s2 h2 => ?_)
  obtain ⟨it, fp, tn, J, H2, e, I2, T, st2, f2, q⟩ := h2
  subst e
  refine wpAny_newSet_raw fun led hled => newEnv_comp ?_
  subst hled
  generalize hD : s2.heap.objs.size = D
  have hDn : H2 D = none := I2.hok.fresh (Nat.le_of_eq hD)
  obtain ⟨W, ⟨m0, w0⟩, turn⟩ := q D hDn
  generalize hob : ({ cls := .type "set", dict := none, data := .set #[] 0 (.fresh 0 0 (!X.w.params.followText "set-order")) } : Obj) = ob
  generalize hs3 : ({ s2 with heap := s2.heap.push ob } : Shared) = s3
  have h3 : s3.heap = s2.heap.push ob := by rw [← hs3]
  have gD : s3.heap.get? D = some ob := by
    rw [h3, ← hD]
    exact Heap.get?_push_size _ (by rw [← hob] <;> rfl)
  have old3 : ∀ b o, s2.heap.get? b = some o → s3.heap.get? b = some o := fun b o z => by
    rw [h3]
    exact Heap.get?_push_of_some _ z
  have I3 : Inv X pins σ (upd H2 D (SetTO X.prog X.w D [])) s3 := by
    have t0 : SetT0 X.prog X.w s3.heap D [] := (setTR_fresh (P := X.prog) (w := X.w) (by rw [gD, ← hob])).t0
    have := I2.laid (a := D) (o := SetTO X.prog X.w D []) (h' := s3.heap) (t' := s2.toks) old3 (Nat.le_of_eq hD) (setTO_new t0)
    rw [← hs3] at this ⊢
    exact this
  have lo : ∀ b ∈ fp, b < s2.heap.objs.size := fun b hb => by
    obtain ⟨o, z, _⟩ := T.obj _ _ st2 b hb
    exact Heap.lt_size z
  have f3 : ∀ b ∈ fp, FpOk X pins (upd H2 D (SetTO X.prog X.w D [])) b ∧ b < s3.heap.objs.size := fun b hb => by
    have l := lo b hb
    have ne : b ≠ D := by
      rw [← hD]
      exact Nat.ne_of_lt l
    exact ⟨⟨by rw [upd_ne ne]; exact (f2 b hb).1, (f2 b hb).2⟩, by rw [h3, Heap.size_push]; exact Nat.lt_succ_of_lt l⟩
  have st3 : tn 0 s3.heap := T.keep _ _ _ st2 fun b _ o z => old3 b o z
  have I4 := block_start I3 ok hN f3
  generalize hH3 : upd H2 D (SetTO X.prog X.w D []) = H3 at I3 I4 f3 w0
  generalize hcl : cellsFrom (s3.heap.objs.size + 1) sc.names (cloFrom X.env.cells sc.names []) = cl at I4
  have gA := pga s3 H3 s3.heap.objs.size cl fp
  have gE := pe s3 H3 s3.heap.objs.size cl fp
  have gI := pb s3 H3 s3.heap.objs.size cl fp
  have gB := pgb s3 H3 s3.heap.objs.size cl fp
  show codeAny _ _ (.compStart (sc2 el ta ea tb eb sc ps) 0 (.ref it) (.ref D) (compEnvC sc cl s3.heap.objs.size X.env)) (compPost (model X.prog X.w) X.A X.xe use Qf (.ref D) s3.heap.objs.size) { s3 with heap := pushCells (s3.heap.push { cls := .type "dict", data := .dict #[] }) sc.names }
  generalize hce : compEnvC sc cl s3.heap.objs.size X.env = ce at I4 gA gE gI gB ⊢
  have cL : ce.locals = s3.heap.objs.size := by subst hce; rfl
  generalize hs4 : ({ s3 with heap := pushCells (s3.heap.push { cls := .type "dict", data := .dict #[] }) sc.names } : Shared) = s4 at I4 ⊢
  have st4 : tn 0 s4.heap := T.keep _ _ _ st3 fun b _ o z => by rw [← hs4]; exact pushCells_keeps _ _ _ _ (Heap.get?_push_of_some _ z)
  have nfp : ∀ b ∈ fp, H3 b = none := fun b hb => (f3 b hb).1.1
  have stand : ∀ {τ : L2.St} {G : Hp} {u : Shared}, Inv (X.blk s3 H3 sc ce fp) [] τ G u → (∀ b ∈ fp, G b = none) → ∀ b ∈ fp, FpOk (X.blk s3 H3 sc ce fp) [] G b := fun I' hn b hb =>
    ⟨hn b hb, (I'.ok.exf b hb).1, I'.ok.exfs b hb, .inl hb, fun x c z => (I'.ok.exf b hb).2 x c z, fun p hp => absurd (show p ∈ ([] : List (Addr × Obj)) ++ [] from hp) (by simp)⟩
  have loop : codeAny (model X.prog X.w) X.A (.compLoop (sc2 el ta ea tb eb sc ps) 0 (.ref it) (.ref D) ce) (compPost (model X.prog X.w) X.A X.xe use Qf (.ref D) s3.heap.objs.size) s4 := by
    refine loop_outer (fb ce) (fun m u => ∃ i G, Inv (X.blk s3 H3 sc ce fp) [] (wipe σ (own.map (·.2))) G u ∧ tn i u.heap ∧ (∀ b ∈ fp, G b = none) ∧ W i m G) ?_ m0 ⟨0, H3, I4, st4, nfp, w0⟩
    rintro m u5 ⟨i, G5, I5, st5, n5, w5⟩
    rcases turn i m G5 w5 with ⟨stop, qq⟩ | ⟨go, Nx, hNx, step⟩
    · refine thnF (T.done (X.blk s3 H3 sc ce fp) rfl rfl rfl hc i [] u5 _ G5 (fun _ _ => False) I5 (stand I5 n5) st5 stop) fun r u6 ⟨hr, I6⟩ => ?_
      subst hr
      have I7 : Inv X pins σ G5 u6 := I3.call' (ch := fp) I6.os I6.base I6.hok I6.bare fun b hb => ⟨(f3 b hb).1.2.2.2.1, (f3 b hb).1.2.1, (f3 b hb).1.2.2.2.2.1, (f3 b hb).1.2.2.2.2.2⟩
      have nC : G5 ce.locals = none := I6.free
      obtain ⟨mm, hn, _⟩ := I6.loc
      have hn : u6.heap.Ns ce.locals mm := hn
      rw [cL] at hn nC
      exact post D s3.heap.objs.size u6 mm G5 I7 qq hn (I3.fpOk (Nat.le_refl _) nC)
    · refine thnF (T.item (X.blk s3 H3 sc ce fp) rfl rfl rfl hc i [] u5 _ G5 (fun _ _ => False) I5 (stand I5 n5) st5 go) fun r u6 ⟨got, hr, h6⟩ => ?_
      subst hr
      refine thnF h6 fun _ u7 ⟨x, G7, I7, r7, y7, st7, n7⟩ => ?_
      have I7' := I7.pinned (stand I7 n7) (T.obj _ _ st7)
      refine thnF (gA.run _ u7 _ G7 x got _ I7' r7 (step x G7 y7)) fun _ u8 ⟨σ8, G8, I8, hw8, q8⟩ => ?_
      have fin : ∀ {τ : L2.St} {u : Shared} {G : Hp}, Inv (X.blk s3 H3 sc ce fp) ([] ++ pinsAt fp u7.heap) τ G u → (wipe σ (own.map (·.2))).length = τ.length → (∀ (j : Nat) v, (wipe σ (own.map (·.2)))[j]? = some (some v) → τ[j]? = some (some v)) → Nx G →
          ∃ m', m' < m ∧ ∃ i G, Inv (X.blk s3 H3 sc ce fp) [] (wipe σ (own.map (·.2))) G u ∧ tn i u.heap ∧ (∀ b ∈ fp, G b = none) ∧ W i m' G := fun {τ u G} I' hl hk nx => by
        obtain ⟨m', hm, w'⟩ := hNx G nx
        have pin' : ∀ b ∈ fp, ∀ o, u7.heap.get? b = some o → u.heap.get? b = some o ∧ G b = none := fun b hb o z =>
          have zz := I'.pin (b, o) (List.mem_append_right _ (List.mem_append_right _ (mem_pinsAt hb z)))
          ⟨zz.1, zz.2.1⟩
        refine ⟨m', hm, i + 1, G, (I'.unpinned (pins := [])).weak hl hk, T.keep _ _ _ st7 fun b hb o z => (pin' b hb o z).1, fun b hb => ?_, w'⟩
        obtain ⟨o, z, _⟩ := T.obj _ _ st7 b hb
        exact (pin' b hb o z).2
      have l8 : (wipe σ (own.map (·.2))).length = σ8.length := by rw [← hw8, wipe_length]
      have k8 : ∀ (j : Nat) v, (wipe σ (own.map (·.2)))[j]? = some (some v) → (wipe σ8 vs1)[j]? = some (some v) := fun j v z => by
        rw [← hw8] at z
        obtain ⟨z1, z2⟩ := wipe_some z
        rw [wipe_out fun zz => z2 (hv j zz)]
        exact z1
      refine thnF (gI.run _ u8 σ8 G8 _ I8 q8) fun xv u10 hx => thnF hx fun itv u11 h11 => ?_
      obtain ⟨it1, fp1, tn1, J1, G11, e1, I11, T1, st11, f11, Wb, ⟨k0, v0⟩, turn1⟩ := h11
      subst e1
      have stand1 : ∀ {G : Hp}, (∀ b ∈ fp1, G b = none) → ∀ b ∈ fp1, FpOk (X.blk s3 H3 sc ce fp) ([] ++ pinsAt fp u7.heap) G b := fun hn b hb => ⟨hn b hb, (f11 b hb).2⟩
      have loop1 : codeAny (model X.prog X.w) X.A (.compLoop (sc2 el ta ea tb eb sc ps) 1 (.ref it1) (.ref D) ce)
          (fun r u => match r with
            | .ok _ => ∃ m', m' < m ∧ ∃ i G, Inv (X.blk s3 H3 sc ce fp) [] (wipe σ (own.map (·.2))) G u ∧ tn i u.heap ∧ (∀ b ∈ fp, G b = none) ∧ W i m' G
            | .error _ => False) u11 := by
        refine loop_inner (fun k u => ∃ j G, Inv (X.blk s3 H3 sc ce fp) ([] ++ pinsAt fp u7.heap) (wipe σ8 vs1) G u ∧ tn1 j u.heap ∧ (∀ b ∈ fp1, G b = none) ∧ Wb j k G) ?_ k0 ⟨0, G11, I11.weak (wipe_length _ _) (fun j v z => (wipe_some z).1), st11, fun b hb => (f11 b hb).1, v0⟩
        rintro k u12 ⟨j, G12, I12, st12, n12, w12⟩
        rcases turn1 j k G12 w12 with ⟨stop1, nx1⟩ | ⟨go1, Ny, hNy, step1⟩
        · refine thnF (T1.done (X.blk s3 H3 sc ce fp) rfl rfl rfl hc j _ u12 (wipe σ8 vs1) G12 (fun _ _ => False) I12 (stand1 n12) st12 stop1) fun r u13 ⟨hr, I13⟩ => ?_
          subst hr
          exact fin I13 (l8.trans (wipe_length σ8 vs1).symm) k8 nx1
        · refine thnF (T1.item (X.blk s3 H3 sc ce fp) rfl rfl rfl hc j _ u12 (wipe σ8 vs1) G12 (fun _ _ => False) I12 (stand1 n12) st12 go1) fun r u13 ⟨got1, hr, h13⟩ => ?_
          subst hr
          refine thnF h13 fun _ u14 ⟨x1, G14, I14, r14, y14, st14, n14⟩ => ?_
          have I14' := I14.pinned (stand1 n14) (T1.obj _ _ st14)
          refine thnF (gB.run _ u14 (wipe σ8 vs1) G14 x1 got1 _ I14' r14 (step1 x1 G14 y14)) fun _ u15 ⟨σ15, G15, I15, hw15, q15⟩ => ?_
          have fin1 : ∀ {u : Shared} {G : Hp}, Inv (X.blk s3 H3 sc ce fp) (([] ++ pinsAt fp u7.heap) ++ pinsAt fp1 u14.heap) σ15 G u → Ny G → ∃ k', k' < k ∧ ∃ j G, Inv (X.blk s3 H3 sc ce fp) ([] ++ pinsAt fp u7.heap) (wipe σ8 vs1) G u ∧ tn1 j u.heap ∧ (∀ b ∈ fp1, G b = none) ∧ Wb j k' G := fun {u G} I' nx => by
            obtain ⟨k', hk', w'⟩ := hNy G nx
            have pin' : ∀ b ∈ fp1, ∀ o, u14.heap.get? b = some o → u.heap.get? b = some o ∧ G b = none := fun b hb o z =>
              have zz := I'.pin (b, o) (List.mem_append_right _ (List.mem_append_right _ (mem_pinsAt hb z)))
              ⟨zz.1, zz.2.1⟩
            refine ⟨k', hk', j + 1, G, I'.unpinned.weak (by rw [← hw15, wipe_length]) (fun j v z => by rw [← hw15] at z; exact (wipe_some z).1), T1.keep _ _ _ st14 fun b hb o z => (pin' b hb o z).1, fun b hb => ?_, w'⟩
            obtain ⟨o, z, _⟩ := T1.obj _ _ st14 b hb
            exact (pin' b hb o z).2
          refine thnF (gE.run _ u15 σ15 G15 _ I15 q15) fun z u17 ⟨yv, G17, I17, r17, b, kk, L, ey, hb, hDL, hL, few, nx⟩ => ?_
          subst ey
          cases r17
          exact add_inv (X := X.blk s3 H3 sc ce fp) I17 hDL hL hb (by show X.A.units + 2 < cLine; omega) few fun L' u18 p I18 => fin1 I18 (nx L' p)
      exact start_inner loop1 (T1.self X.A 0 _ _ _ st11 loop1)
  exact codeAny_compStart_set loop (T.self X.A 0 _ _ _ st4 loop)
theorem pe_sc2 {el ta ea tb eb : Expr} {sc : Scope} {own : List (Str × Nat)} {vs1 : List Nat} {ps : Pos} {wa wb : TI} {ga gb : TG} {te : TE} (hc : X.calm = true) (hu : X.A.units + 64 < cLine) (hN : X.N.Nodup) (pa : PI X ta ea wa) (ok : BlkOk X.N X.env.scope sc own) (hv : ∀ i ∈ vs1, i ∈ own.map (·.2))
    (pga : ∀ (s : Shared) (H : Hp) (C : Addr) (cl : List (Str × Addr)) (fp : List Addr), PG (X.blk s H sc (compEnvC sc cl C X.env) fp) ta ga)
    (pb : ∀ (s : Shared) (H : Hp) (C : Addr) (cl : List (Str × Addr)) (fp : List Addr), PI (X.blk s H sc (compEnvC sc cl C X.env) fp) tb eb wb)
    (pgb : ∀ (s : Shared) (H : Hp) (C : Addr) (cl : List (Str × Addr)) (fp : List Addr), PG (X.blk s H sc (compEnvC sc cl C X.env) fp) tb gb)
    (pe : ∀ (s : Shared) (H : Hp) (C : Addr) (cl : List (Str × Addr)) (fp : List Addr), PE (X.blk s H sc (compEnvC sc cl C X.env) fp) el te)
    (fa : ∀ x, foldedSetIterable ea X.env x = pure x := by intro _; rfl) (fb : ∀ ev x, foldedSetIterable eb ev x = pure x := by intro _ _; rfl) (eK : X.K = K := by rfl) (eP : X.prog = P := by rfl) (ew : X.w = w := by rfl) :
    PE X (sc2 el ta ea tb eb sc ps) (tSc2 K P w wa ga wb gb te (own.map (·.2)) vs1) := by
  refine ⟨fun pins s σ H Q I h => ?_⟩
  rw [arm_eval_SetComp]
  refine sc2_all hc hu hN I pa ok hv pga pe pb pgb fa fb eK eP ew h fun D C u m H' I' q hn f => ⟨m, hn, fun g sb => ?_⟩
  obtain ⟨f0, f1, f2, f3, f4, f5⟩ := f
  exact ⟨.ref D, H', I'.turned (t' := u.toks) (fun b o hb z => (sb.2 b hb).trans z) f0 f1 f3 f4 f5, rfl, q⟩
theorem ps_setSc2 {i : Nat} {y : Str} {py : Pos} {el ta ea tb eb : Expr} {sc : Scope} {own : List (Str × Nat)} {vs1 : List Nat} {ps sp : Pos} {wa wb : TI} {ga gb : TG} {te : TE} (hc : X.calm = true) (hu : X.A.units + 64 < cLine) (hN : X.N.Nodup) (hy : X.N[i]? = some y) (hyl : X.env.scope.names.lookup y = some .local)
    (hsw : swapsWith (sc2 el ta ea tb eb sc ps) (some (.Name y py)) sp.line X.env = pure true) (pa : PI X ta ea wa) (ok : BlkOk X.N X.env.scope sc own) (hv : ∀ i ∈ vs1, i ∈ own.map (·.2))
    (pga : ∀ (s : Shared) (H : Hp) (C : Addr) (cl : List (Str × Addr)) (fp : List Addr), PG (X.blk s H sc (compEnvC sc cl C X.env) fp) ta ga)
    (pb : ∀ (s : Shared) (H : Hp) (C : Addr) (cl : List (Str × Addr)) (fp : List Addr), PI (X.blk s H sc (compEnvC sc cl C X.env) fp) tb eb wb)
    (pgb : ∀ (s : Shared) (H : Hp) (C : Addr) (cl : List (Str × Addr)) (fp : List Addr), PG (X.blk s H sc (compEnvC sc cl C X.env) fp) tb gb)
    (pe : ∀ (s : Shared) (H : Hp) (C : Addr) (cl : List (Str × Addr)) (fp : List Addr), PE (X.blk s H sc (compEnvC sc cl C X.env) fp) el te)
    (fa : ∀ x, foldedSetIterable ea X.env x = pure x := by intro _; rfl) (fb : ∀ ev x, foldedSetIterable eb ev x = pure x := by intro _ _; rfl) (eK : X.K = K := by rfl) (eP : X.prog = P := by rfl) (ew : X.w = w := by rfl) :
    PS X (.Assign [.Name y py] (sc2 el ta ea tb eb sc ps) sp) (tAsg (tSc2 K P w wa ga wb gb te (own.map (·.2)) vs1) (gName i)) := by
  refine ⟨fun pins s σ H D I h => ?_⟩
  rw [exec_Assign_Name_used _ _ _ _ hsw]
  refine wpAny_bind (wpAny_standAt (wpAny_bind ?_))
  show wpAny _ X.A (do let _ ← comprehension (sc2 el ta ea tb eb sc ps) sc X.env (firstIterPos [⟨ta, ea, [], 0⟩, ⟨tb, eb, [], 0⟩] ps) (newSet (.type "set")) false (eval ea X.env) (some (assign (.Name y py) X.env))) _ _ s
  have h : tSc2 K P w wa ga wb gb te (own.map (·.2)) vs1 σ H (fun x H1 => gName i x σ H1 D.nx) := h
  refine wpAny_bind (thn (sc2_all (Qf := fun _ u => SP X pins D .next u) hc hu hN I pa ok hv pga pe pb pgb fa fb eK eP ew h fun L C u m H' I' q hn f => ?_) fun _ u hq => wpAny_pure (wpAny_pure hq))
  show wpAny _ _ (assign (.Name y py) X.env (.ref L)) _ _ _
  refine wpAny_assign_Name (store_ok2 (v := V.ref L) I' hN hy (.inl hyl) rfl (fun s2 I2 ⟨a, sb, ha⟩ => ?_) (.inr hyl))
  obtain ⟨f0, f1, f2, f3, f4, f5⟩ := f
  have haC : C ≠ a := ha.elim (fun z => by rw [z]; exact f1) fun z e => f4 y a z e.symm
  exact ⟨m, hn.sameBut sb haC, fun g sb3 => ⟨_, H', I2.turned (t' := s2.toks) (fun b o hb z => (sb3.2 b hb).trans z) f0 f1 f3 f4 f5, q⟩⟩
end
end Fm
/-! Dicts whose keys are tuples of ints (of any make: SqT): made of a row, displayed, asked, walked, told more, sorted. -/
namespace Fm
open PySem PySem.Spec PyProof.Rows L2 PySem.W
abbrev Ent := List Int × Addr × Value
section
variable {P : Program} {w : World} {h h' : Heap} {a : Addr} {xs : List Ent}
/-- the object at a, its keys' own tuples aside -/
def DRaw (P : Program) (w : World) (h : Heap) (a : Addr) (xs : List Ent) : Prop := (a == sysModules) = false ∧ (xs.map (·.1)).Nodup ∧ ∃ o es ep, h.get? a = some o ∧ o.ExactDict ∧ o.data = .dict es ep ∧ es.toList = xs.map (entryOfKey (TK P w))
def DTO (P : Program) (w : World) (a : Addr) (F : List Ent → Prop) : HO := .ext fun h => ∃ xs, F xs ∧ DRaw P w h a xs
theorem DRaw.full (d : DRaw P w h a xs) (ht : ∀ x ∈ xs, IsT P w h x.1 x.2.1) : h.DictOfH (TK P w) a xs := by
  obtain ⟨_, nd, o, es, ep, h1, h2, h3, h4⟩ := d
  exact ⟨o, es, ep, h1, h2, h3, h4, ht, nd⟩
theorem raw_of (m : h.DictOfH (TK P w) a xs) (hs : (a == sysModules) = false) : DRaw P w h a xs := by
  obtain ⟨o, es, ep, h1, h2, h3, h4, _, nd⟩ := m
  exact ⟨hs, nd, o, es, ep, h1, h2, h3, h4⟩
theorem dto_ok {F : List Ent → Prop} {H : Hp} (hF : F xs) (d : DRaw P w h a xs) : ObjOk P w H h a (DTO P w a F) := by
  have ⟨_, _, o, es, ep, h1, _⟩ := d
  refine ⟨⟨xs, hF, d⟩, ⟨o, h1⟩, fun g1 g2 p k => ?_⟩
  have ⟨ys, hy, hs, nd, o', es', ep', k1, r⟩ := p
  exact ⟨ys, hy, hs, nd, o', es', ep', k _ k1, r⟩
/-- its keys, where they stand -/
def KeyF (L : List (Addr × List Int)) : List Ent → Prop := fun xs => xs.map (fun x => (x.2.1, x.1)) = L
/-- its keys and what they have -/
def ValF (L : List (Addr × List Int × V)) : List Ent → Prop := fun xs => Paired (fun p (x : Ent) => x.2.1 = p.1 ∧ x.1 = p.2.1 ∧ RelV p.2.2 x.2.2) L xs
theorem ValF.keys {L : List (Addr × List Int × V)} {xs : List Ent} (h : ValF L xs) : xs.map (fun x => (x.2.1, x.1)) = L.map fun p => (p.1, p.2.1) := by
  unfold ValF at h
  induction h with
  | nil => rfl
  | cons r _ ih => rw [List.map_cons, List.map_cons, ih, r.1, r.2.1]
theorem ValF.find {L : List (Addr × List Int × V)} {xs : List Ent} (h : ValF L xs) (k : List Int) : RelO ((L.find? fun p => decide (p.2.1 = k)).map (·.2.2)) ((atKey xs k).map (·.2)) := by
  unfold ValF at h
  induction h with
  | nil => exact True.intro
  | @cons p x ps qs r _ ih =>
    obtain ⟨_, r2, r3⟩ := r
    by_cases e : p.2.1 = k
    · have b : atKey (x :: qs) k = some x.2 := by simp [atKey, List.find?_cons, r2, e]
      rw [b, List.find?_cons]
      simp only [e, decide_true, Option.map_some]
      exact r3
    · have b : atKey (x :: qs) k = atKey qs k := by simp [atKey, List.find?_cons, r2, e]
      rw [b, List.find?_cons]
      simp only [e, decide_false]
      exact ih
end
section
variable {X : Cx} {K : PySem.W.Frag} {P : Program} {w : World} {pins : List (Addr × Obj)} {σ : L2.St} {H : Hp} {s : Shared}
theorem Inv.dto {F : List Ent → Prop} {a : Addr} (I : Inv X pins σ H s) (h : Rd H a (DTO X.prog X.w a F)) : ∃ xs, F xs ∧ DRaw X.prog X.w s.heap a xs := (h.ok I.hok).1
/-- tuple(l), the new tuple's object known to have no dict -/
def rTupF (K : PySem.W.Frag) : List V → Hp → VK → Prop := fun xs H Q => ∃ p ys, xs = [.ref p] ∧ SqL K H p ys ∧ ∀ l o, H l = none → o.dict = none → Q (.ref l) (upd H l (.frz o (.tup ys)))
theorem call_tupF (eK : X.K = K := by rfl) : CallR X (.type "tuple") (rTupF K) := by
  subst eK
  intro pins s σ H xs us Q I r h
  obtain ⟨p, ys, rfl, hq, q⟩ := h
  rw [Vals.ref1 r]
  obtain ⟨its, r', pl, hz⟩ := I.list hq
  have hlen := r'.length
  refine call_tuple_list pl.isList (fun h' kp => ?_) (by simp only [List.size_toArray] <;> omega)
  have I1 : Inv X pins σ H { s with heap := h' } := I.kept (t' := s.toks) kp
  refine ⟨.ref h'.objs.size, upd H h'.objs.size (.frz { cls := .type "tuple", data := .seq its.toArray } (.tup ys)), I1.laid (t' := s.toks) (fun b o e => Heap.get?_push_of_some _ e) (Nat.le_refl _) ?_, rfl, q _ _ (I1.hok.fresh (Nat.le_refl _)) rfl⟩
  exact ⟨Heap.get?_push_size _ rfl, hz, its, r', IsTup.new _ _⟩
/-- what a row of pairs holds: the pair's address, the key's, the key, the value -/
abbrev Prs := List (Addr × Addr × List Int × V)
def PrsAt (K : PySem.W.Frag) (H : Hp) (M : Prs) : Prop := ∀ m ∈ M, SqT K H m.1 [.ref m.2.1, m.2.2.2] ∧ SqT K H m.2.1 (m.2.2.1.map V.int)
theorem prs_vals (I : Inv X pins σ H s) : ∀ {M : Prs}, PrsAt X.K H M → ∃ N : List ((Addr × Addr × List Int × V) × Value), N.map (·.1) = M ∧ ∀ n ∈ N, RelV n.1.2.2.2 n.2 ∧ IsTup s.heap n.1.1 #[.ref n.1.2.1, n.2] ∧ IsT X.prog X.w s.heap n.1.2.2.1 n.1.2.1
  | [], _ => ⟨[], rfl, fun n hn => (by cases hn)⟩
  | m :: M, h => by
    obtain ⟨N, e, hN⟩ := prs_vals I (M := M) fun z hz => h z (List.mem_cons_of_mem _ hz)
    obtain ⟨h1, h2⟩ := h m List.mem_cons_self
    obtain ⟨its, rv, pt, _⟩ := I.tuple h1
    cases rv with
    | cons r1 rr =>
      cases rr with
      | cons r2 rn =>
        cases rn
        cases r1
        rename_i u
        refine ⟨(m, u) :: N, by rw [List.map_cons, e], fun n hn => ?_⟩
        rcases List.mem_cons.mp hn with z | z
        · rw [z]
          exact ⟨r2, pt, Inv.isT I h2⟩
        · exact hN n z
theorem refs_vals {α : Type} {f : α → Addr} : ∀ {M : List α} {us : List Value}, Vals (M.map fun m => V.ref (f m)) us → us = M.map fun m => Value.ref (f m)
  | [], _, .nil => rfl
  | _ :: _, _, .cons r t => by
    cases r
    rw [refs_vals t] <;> rfl
theorem nodup_ent {M : Prs} {N : List ((Addr × Addr × List Int × V) × Value)} (e : N.map (·.1) = M) : ((N.map fun n => ((n.1.2.2.1, n.1.2.1, n.2) : Ent)).map (·.1)) = M.map fun m => m.2.2.1 := by
  rw [← e, List.map_map, List.map_map]
  rfl
theorem valF_of {M : Prs} {N : List ((Addr × Addr × List Int × V) × Value)} (e : N.map (·.1) = M) (hN : ∀ n ∈ N, RelV n.1.2.2.2 n.2) : ValF (M.map (·.2)) (N.map fun n => ((n.1.2.2.1, n.1.2.1, n.2) : Ent)) := by
  subst e
  unfold ValF
  induction N with
  | nil => exact .nil
  | cons n N ih =>
    rw [List.map_cons, List.map_cons, List.map_cons]
    exact .cons ⟨rfl, rfl, hN n List.mem_cons_self⟩ (ih fun z hz => hN z (List.mem_cons_of_mem _ hz))
theorem tsAt {N : List ((Addr × Addr × List Int × V) × Value)} {j : Nat} {n : (Addr × Addr × List Int × V) × Value} (h : N[j]? = some n) : ((N[j]?).map (·.1.1)).getD 0 = n.1.1 := by rw [h] <;> rfl
theorem prs_items {h : Heap} {N : List ((Addr × Addr × List Int × V) × Value)} {its : List Value} (e : its = N.map fun n => Value.ref n.1.1) (hN : ∀ n ∈ N, IsTup h n.1.1 #[.ref n.1.2.1, n.2]) :
    PairItems h its.toArray (fun j => ((N[j]?).map (·.1.1)).getD 0) (N.map fun n => (Value.ref n.1.2.1, n.2)) := by
  refine ⟨by rw [e] <;> simp, fun j k v hj => ?_⟩
  rw [List.getElem?_map] at hj
  obtain ⟨n, hn, en⟩ := Option.map_eq_some_iff.mp hj
  cases en
  refine ⟨?_, ?_⟩
  · rw [e]
    simp [hn]
  · show PairAt h (((N[j]?).map (·.1.1)).getD 0) _ _
    rw [tsAt hn]
    exact .inl (hN n (List.mem_of_getElem? hn))
theorem prs_have {N : List ((Addr × Addr × List Int × V) × Value)} : PairsHaveH (TK P w) (N.map fun n => (Value.ref n.1.2.1, n.2)).length (PairRel (N.map fun n => (Value.ref n.1.2.1, n.2))) (N.map fun n => ((n.1.2.2.1, n.1.2.1, n.2) : Ent)) := by
  refine ⟨by simp, fun i key v hi => ?_⟩
  have hi' : (N.map fun n => (Value.ref n.1.2.1, n.2))[i]? = some (key, v) := hi
  rw [List.getElem?_map] at hi'
  obtain ⟨n, hn, en⟩ := Option.map_eq_some_iff.mp hi'
  cases en
  exact ⟨n.1.2.2.1, n.1.2.1, by rw [List.getElem?_map, hn] <;> rfl, rfl⟩
/-- dict(row) -/
def rDictT (K : PySem.W.Frag) (P : Program) (w : World) : List V → Hp → VK → Prop := fun xs H Q => ∃ (a : Addr) (o : Obj) (M : Prs), xs = [V.ref a] ∧ H a = some (.frz o (.tup (M.map fun m => V.ref m.1))) ∧ o.dict = none ∧ PrsAt K H M ∧ (M.map fun m => m.2.2.1).Nodup ∧ M.length ≤ 1000 ∧
  ∀ d, H d = none → Q (.ref d) (upd H d (DTO P w d (ValF (M.map (·.2)))))
theorem call_dictT (hc : X.calm = true) (hu : X.A.units + 64 < cLine) (eK : X.K = K := by rfl) (eP : X.prog = P := by rfl) (ew : X.w = w := by rfl) : CallR X (.type "dict") (rDictT K P w) := by
  subst eK eP ew
  intro pins s σ H xs us Q I r h
  obtain ⟨a, o, M, rfl, ha, od, hM, nd, few, q⟩ := h
  rw [Vals.ref1 r]
  obtain ⟨N, e, hN⟩ := prs_vals I hM
  obtain ⟨hget, hz, its, rv, ob, hob, hcls, n, hdat⟩ := I.hok a _ ha
  rw [hget] at hob
  cases hob
  have hi : its = N.map fun n => Value.ref n.1.1 := by
    have := refs_vals rv
    rw [this, ← e, List.map_map]
    rfl
  have ok : PlainSeq "tuple" s.heap a its.toArray ∧ PairItems s.heap its.toArray (fun j => ((N[j]?).map (·.1.1)).getD 0) (N.map fun n => (Value.ref n.1.2.1, n.2)) := ⟨⟨o, n, hget, hcls, od, hdat⟩, prs_items hi fun n hn => (hN n hn).2.1⟩
  have hlen : N.length = M.length := by rw [← e, List.length_map]
  refine call_dict_pairsH (PairArg.tuple a its.toArray _ _) (I.ok.hd hc) (show X.A.units + 1 + 1 < cLine by omega) ok prs_have (fun g hk x hx => ?_) (by rw [List.length_map, sizeLine_eq]; omega) fun g tk hd hk => ?_
  · obtain ⟨n, hn, ex⟩ := List.mem_map.mp hx
    subst ex
    obtain ⟨ob, it, m, k1, r⟩ := (hN n hn).2.2
    exact ⟨ob, it, m, hk _ _ (Nat.ne_of_lt (Heap.lt_size k1)) (by simp) k1, r⟩
  · rw [storedAllH_nil_of_nodup _ (by rw [nodup_ent e]; exact nd)] at hd
    have hn : H s.heap.objs.size = none := I.hok.fresh (Nat.le_refl _)
    exact ⟨.ref s.heap.objs.size, _, I.laid (a := s.heap.objs.size) (t' := tk) (fun b ob z => hk b ob (by simp) z) (Nat.le_refl _) (dto_ok (valF_of e fun n hn => (hN n hn).1) (raw_of hd (beq_eq_false_iff_ne.mpr (Ne.symm (Nat.ne_of_lt I.big))))), rfl, q _ hn⟩
end
end Fm
namespace Fm
open PySem PySem.Spec PyProof.Rows L2 PySem.W
section
variable {X : Cx} {K : PySem.W.Frag} {P : Program} {w : World} {pins : List (Addr × Obj)} {σ : L2.St} {H : Hp} {s : Shared}
/-! ### {k: v}, k a tuple of ints -/
def tDispT (K : PySem.W.Frag) (P : Program) (w : World) (tk tv : TE) : TE := fun σ H Q => ∀ p, H p = none → tk σ (upd H p (DTO P w p (KeyF []))) fun x H1 => tv σ H1 fun y H2 => ∃ (b : Addr) (q : List Int) (z : V), [(x, y)] = [(V.ref b, z)] ∧ H2 p = some (DTO P w p (KeyF [])) ∧
  SqT K H2 b (q.map V.int) ∧ Q (.ref p) (upd H2 p (DTO P w p (KeyF [(b, q)])))
theorem keyF_nil {xs : List Ent} (h : KeyF [] xs) : xs = [] := List.map_eq_nil_iff.mp h
theorem pe_dispT {pos : Pos} {k v : Expr} {tk tv : TE} (hu : X.A.units + 64 < cLine) (hk : PE X k tk) (hv : PE X v tv) (hshape : (evalEachOpt [some k] X.env).zip ((evalEach [v] X.env).map fun z => do let y ← z; standAt pos; pure y) = (pairTrees [some k] [v] X.env pos).map fun p => (some p.1, p.2) := by rfl)
    (hl : (pairTrees [some k] [v] X.env pos).length ≤ 15 := by decide) (h0 : pairTrees [some k] [v] X.env pos ≠ [] := by intro z; cases z) (eK : X.K = K := by rfl) (eP : X.prog = P := by rfl) (ew : X.w = w := by rfl) :
    PE X (.Dict [some k] [v] pos) (tDispT K P w tk tv) := by
  subst eK eP ew
  refine ⟨fun pins s σ H Q I h => ?_⟩
  have hn := I.hok.fresh (Nat.le_refl s.heap.objs.size)
  have hs : (s.heap.objs.size == sysModules) = false := beq_eq_false_iff_ne.mpr (Ne.symm (Nat.ne_of_lt I.big))
  have I1 : Inv X pins σ (upd H s.heap.objs.size (DTO X.prog X.w s.heap.objs.size (KeyF []))) { s with heap := s.heap.push { cls := .type "dict", data := .dict #[] } } :=
    I.laid (t' := s.toks) (fun _ _ z => Heap.get?_push_of_some _ z) (Nat.le_refl _) (dto_ok (xs := []) rfl (raw_of (Heap.DictOfH.new s.heap) hs))
  have run : PPs X pos [some k] [v] [(tk, tv)] := pps_cons hk hv pps_nil
  rw [arm_eval_Dict, hshape, dictDisplay_pairs _ h0 (by omega)]
  refine wpAny_bind (wpAny_standAt (wpAny_bind (wpAny_subDictH (knd := TK X.prog X.w) (Q := fun d u => wpAny (model X.prog X.w) X.A (pure (Value.ref d)) (fun v s' => EP X pins σ Q v s') X.xe u) (show X.A.units < cLine by omega) hl
    (thn (run.run pins _ σ _ (fun ps H2 => ∃ (b : Addr) (q : List Int) (z : V), ps = [(V.ref b, z)] ∧ H2 s.heap.objs.size = some (DTO X.prog X.w s.heap.objs.size (KeyF [])) ∧ SqT X.K H2 b (q.map V.int) ∧ Q (.ref s.heap.objs.size) (upd H2 s.heap.objs.size (DTO X.prog X.w s.heap.objs.size (KeyF [(b, q)])))) I1 ?_) fun ws s2 ⟨ps, H2, I2, rel, b, q, z, ep, hp, hb, qq⟩ => ?_))))
  · show tk _ _ _
    exact h _ hn
  · subst ep
    cases rel with
    | @cons p kv ps qs r t =>
      cases t
      obtain ⟨k1, v1⟩ := kv
      obtain ⟨r1, r2⟩ := r
      cases r1
      obtain ⟨xs, hF, hd⟩ := Inv.dto I2 (.inl hp)
      rw [keyF_nil hF] at hd
      have hk1 : IsT X.prog X.w s2.heap q b := Inv.isT I2 hb
      refine ⟨[(q, b, v1)], ⟨rfl, rfl, hk1, trivial⟩, hd.full fun z hz => (by cases hz), fun h' tk' hm hs' => wpAny_pure ?_⟩
      have he : ∃ u, h'.get? s.heap.objs.size = some u := by
        obtain ⟨o, es, ep, z, _⟩ := hm
        exact ⟨o, z⟩
      exact ⟨.ref s.heap.objs.size, _, I2.write (e := s.heap.objs.size) (t' := tk') (by rw [hp]; trivial) (.inl rfl) (fun c u hc hu => (hs'.2 c hc).trans hu) he (dto_ok (F := KeyF [(b, q)]) (xs := [(q, b, v1)]) rfl (raw_of hm hs)), rfl, qq⟩
/-! ### d.get(k, z) -/
def tDGetT (K : PySem.W.Frag) (P : Program) (w : World) (td ty tx : TE) : TE := fun σ H Q => td σ H fun x H1 => (∃ a F, x = .ref a ∧ H1 a = some (DTO P w a F)) ∧ ty σ H1 fun y H2 => tx σ H2 fun z H3 =>
  ∃ (a b : Addr) (L : List (Addr × List Int × V)) (q : List Int), x = .ref a ∧ y = .ref b ∧ H3 a = some (DTO P w a (ValF L)) ∧ (∀ p ∈ L, SqT K H3 p.1 (p.2.1.map V.int)) ∧ SqT K H3 b (q.map V.int) ∧ Q (((L.find? fun p => decide (p.2.1 = q)).map (·.2.2)).getD z) H3
theorem valF_mem {L : List (Addr × List Int × V)} {xs : List Ent} (h : ValF L xs) : ∀ x ∈ xs, ∃ p ∈ L, x.2.1 = p.1 ∧ x.1 = p.2.1 := by
  unfold ValF at h
  induction h with
  | nil => intro x hx; cases hx
  | @cons p x ps qs r _ ih =>
    intro z hz
    rcases List.mem_cons.mp hz with e | e
    · rw [e]
      exact ⟨p, List.mem_cons_self, r.1, r.2.1⟩
    · obtain ⟨p', hp', r'⟩ := ih z e
      exact ⟨p', List.mem_cons_of_mem _ hp', r'⟩
theorem pe_dgetT {o e f : Expr} {apos cpos : Pos} {td ty tx : TE} (hu : X.A.units + 64 < cLine) (ho : PE X o td) (he : PE X e ty) (hf : PE X f tx) (m : M2 X o "get" apos e f cpos) (eK : X.K = K := by rfl) (eP : X.prog = P := by rfl) (ew : X.w = w := by rfl) :
    PE X (.Call (.Attribute o "get" apos) [e, f] [] cpos) (tDGetT K P w td ty tx) := by
  subst eK eP ew
  refine ⟨fun pins s σ H Q I h => ?_⟩
  refine wpAny_Call_method m.base m.few m.line F.plainAttrs_dict F.slot_dict_get F.type_dict_get (thn (ho.run pins s σ H _ I h) fun u s1 ⟨x, H1, I1, rx, ⟨a, G, ex, hd⟩, q1⟩ => ?_)
  subst ex
  cases rx
  obtain ⟨xs, _, sysm, _, ob, es, ep, g1, g2, _⟩ := Inv.dto I1 (.inl hd)
  refine ⟨⟨ob, g1, g2.1⟩, fun c z => (by cases z; exact ⟨ob, g1, g2.2.1⟩), ?_⟩
  rw [m.trees]
  refine Calls.callWith_builtin rfl (Calls.evalArgs_plain (Calls.spliced_cons (thn (he.run pins s1 σ H1 _ I1 q1) fun iv s2 ⟨y, H2, I2, ry, q2⟩ =>
    Calls.spliced_cons (thn (hf.run pins s2 σ H2 _ I2 q2) fun fv s3 ⟨z, H3, I3, rz, a', b, L, q, ea, eb, hd3, hL, hb, q3⟩ => Calls.spliced_nil ?_))))
  cases ea
  subst eb
  cases ry
  obtain ⟨ys, hF, hraw⟩ := Inv.dto I3 (.inl hd3)
  have hkeys : ∀ x ∈ ys, IsT X.prog X.w s3.heap x.1 x.2.1 := fun x hx => by
    obtain ⟨p, hp, e1, e2⟩ := valF_mem hF x hx
    rw [e1, e2]
    exact Inv.isT I3 (hL p hp)
  have dd := hraw.full hkeys
  refine call_meetsIn F.slot_dict_get dd.typeIs F.entry_dict_get (F.args_dict_get_3 _ _ _) (meetsH_dict_get_default (TK X.prog X.w) a b hraw.1 fv) ⟨show X.A.units + 1 < cLine by omega, q, ys, Inv.isT I3 hb, dd, ?_⟩
  exact ⟨_, H3, I3.tok _, (hF.find q).getD rz, q3⟩
/-! ### for k in d -/
def ItkO (P : Program) (w : World) (d : Addr) (o : Obj) (G : List Ent → Prop) (L : List Addr) : It := ⟨fun i H => H d = some (.frz o (DTO P w d G)) ∧ i < L.length, fun i H x H' => H' = H ∧ ∃ a, L[i]? = some a ∧ x = .ref a, fun i H => H d = some (.frz o (DTO P w d G)) ∧ L.length ≤ i⟩
theorem Inv.frzO {G : List Ent → Prop} {d : Addr} {o : Obj} {L : List Addr} (I : Inv X pins σ H s) (h : H d = some (.frz o (DTO X.prog X.w d G))) (hG : ∀ xs, G xs → xs.map (·.2.1) = L) :
    (d == sysModules) = false ∧ s.heap.get? d = some o ∧ o.ExactDict ∧ ∃ (es : Array DictEntry) (ep : Nat), o.data = .dict es ep ∧ es.size = L.length ∧ ∀ (i : Nat) a, L[i]? = some a → ∃ en, es[i]? = some en ∧ en.key = .ref a := by
  obtain ⟨g0, ⟨xs, hx, sy, _, o', es, ep, g1, g2, g3, g4⟩, _⟩ := I.hok d _ h
  rw [g0] at g1
  cases g1
  have e := hG xs hx
  refine ⟨sy, g0, g2, es, ep, g3, by rw [size_of_entries g4, ← e, List.length_map], fun i a hi => ?_⟩
  rw [← e, List.getElem?_map] at hi
  obtain ⟨x, hx, rfl⟩ := Option.map_eq_some_iff.mp hi
  exact ⟨_, by rw [entry_at g4, hx] <;> rfl, rfl⟩
theorem turn_keysO {tg : Expr} {d : Addr} {o : Obj} {G : List Ent → Prop} {L : List Addr} {es : Array DictEntry} {ep : Nat} (it : Addr) (hod : o.data = .dict es ep) (hG : ∀ xs, G xs → xs.map (·.2.1) = L) : Turn P w K tg (ItkO P w d o G L) [it] it (fun i h => h.IsKeyIter it d i L.length ep) where
  mem := List.mem_singleton.mpr rfl
  obj := fun i h st b hb => by
    rw [List.mem_singleton.mp hb]
    obtain ⟨oi, e, c, dd⟩ := st
    exact ⟨oi, e, fun v z => by rw [dd] at z; cases z⟩
  keep := fun i h h' st k => st.at fun oi e => k it (List.mem_singleton.mpr rfl) oi e
  item := by
    intro X hP hw hK hc i pins s σ H E I hf st hg
    subst hP hw hK
    obtain ⟨hd, hi⟩ := hg
    obtain ⟨f0, f1, f2, f3, f4, f5⟩ := hf it (List.mem_singleton.mpr rfl)
    obtain ⟨_, g0, _, es', ep', hdt, hsz, ent⟩ := Inv.frzO I hd hG
    obtain ⟨rfl, rfl⟩ := dict_ep hod hdt
    obtain ⟨en, hen, hkey⟩ := ent i _ (List.getElem?_eq_getElem hi)
    refine next_key_item st g0 hdt hsz hen fun h' st' sb => ?_
    have I1 : Inv X pins σ H { s with heap := h' } := I.turned (t' := s.toks) (fun b ob hb e => (sb.2 b hb).trans e) f0 f1 f3 f4 f5
    obtain ⟨oi, e, c, dd⟩ := id st'
    rw [hkey]
    exact ⟨_, rfl, go_of (s := { s with heap := h' }) e c dd (by decide) ⟨.ref _, H, I1, rfl, ⟨rfl, _, List.getElem?_eq_getElem hi, rfl⟩, st', fun b hb => (hf b hb).1⟩⟩
  done := by
    intro X hP hw hK hc i pins s σ H E I hf st hg
    subst hP hw hK
    obtain ⟨hd, hi⟩ := hg
    obtain ⟨f0, f1, f2, f3, f4, f5⟩ := hf it (List.mem_singleton.mpr rfl)
    obtain ⟨_, g0, _, es', ep', hdt, hsz, _⟩ := Inv.frzO I hd hG
    obtain ⟨rfl, rfl⟩ := dict_ep hod hdt
    exact next_key_end (I.ok.hd hc) st g0 hdt hsz hi fun h' eb => ⟨rfl, I.turned (t' := s.toks) (fun b ob hb e => eb b ob hb e) f0 f1 f3 f4 f5⟩
  self := fun A i s Q E st h => wpAny_pyIter_keyiter st h
def iKeysO (P : Program) (w : World) (td : TE) : TI := fun σ H R => td σ H fun x H1 => ∃ d o G L, x = .ref d ∧ H1 d = some (.frz o (DTO P w d G)) ∧ (∀ xs, G xs → xs.map (·.2.1) = L) ∧ R (ItkO P w d o G L) H1
theorem pi_keysO {tg e : Expr} {td : TE} (he : PE X e td) (eP : X.prog = P := by rfl) (ew : X.w = w := by rfl) : PI X tg e (iKeysO P w td) := by
  subst eP ew
  refine ⟨fun pins s σ H R I h => ?_⟩
  refine thn (he.run pins s σ H _ I h) fun u s1 ⟨x, H1, I1, rx, d, o, G, L, ex, hd, hG, q⟩ => ?_
  subst ex
  cases rx
  obtain ⟨sy, g0, g1, es, ep, hdt, hsz, _⟩ := Inv.frzO I1 hd hG
  refine iter_keys sy g0 g1 hdt (pi_one (tk := s1.toks) I1 _ (turn_keysO _ hdt hG) ⟨_, Heap.get?_push_size _ rfl, rfl, ?_⟩ q)
  rw [hsz] <;> rfl
/-! ### d.update(l), l a list of pairs -/
theorem stored_keys {xs : List Ent} {k : List Int} {a : Addr} {v : Value} (q : List Int) : q ∈ (storedH xs k a v).map (·.1) ↔ q ∈ xs.map (·.1) ∨ q = k := by
  unfold storedH
  by_cases h : (atKey xs k).isSome = true
  · rw [if_pos h]
    have e : (xs.map (putAt k v)).map (·.1) = xs.map (·.1) := by
      rw [List.map_map]
      refine List.map_congr_left fun x _ => ?_
      show (putAt k v x).1 = x.1
      unfold putAt
      split <;> rfl
    rw [e]
    refine ⟨.inl, fun z => z.elim id fun z => ?_⟩
    rw [z]
    unfold atKey at h
    rw [Option.isSome_map] at h
    obtain ⟨x, hx⟩ := Option.isSome_iff_exists.mp h
    have h1 := List.mem_of_find?_eq_some hx
    have h2 := List.find?_some hx
    exact List.mem_map.mpr ⟨x, h1, by simpa using h2⟩
  · rw [if_neg h]
    simp
theorem storedAll_keys : ∀ {ps xs : List Ent} (q : List Int), q ∈ (storedAllH xs ps).map (·.1) ↔ q ∈ xs.map (·.1) ∨ q ∈ ps.map (·.1)
  | [], xs, q => by
    show q ∈ xs.map (·.1) ↔ _
    simp
  | p :: ps, xs, q => by
    have := storedAll_keys (ps := ps) (xs := storedH xs p.1 p.2.1 p.2.2) q
    show q ∈ (storedAllH (storedH xs p.1 p.2.1 p.2.2) ps).map (·.1) ↔ _
    rw [this, stored_keys, List.map_cons, List.mem_cons]
    constructor
    · rintro ((h | h) | h)
      · exact .inl h
      · exact .inr (.inl h)
      · exact .inr (.inr h)
    · rintro (h | h | h)
      · exact .inl (.inl h)
      · exact .inl (.inr h)
      · exact .inr h
def rUpdT (K : PySem.W.Frag) (P : Program) (w : World) : V → List V → Hp → VK → Prop := fun x xs H Q => ∃ (d l : Addr) (L : List (Addr × List Int)) (M : Prs), x = .ref d ∧ xs = [.ref l] ∧ H d = some (DTO P w d (KeyF L)) ∧ SqL K H l (M.map fun m => V.ref m.1) ∧ PrsAt K H M ∧ TupsAt K H L ∧ L.length + M.length ≤ 1000 ∧
  ∀ L', (∀ p ∈ L', p ∈ L ∨ p ∈ M.map fun m => (m.2.1, m.2.2.1)) → (∀ q, q ∈ L'.map (·.2) ↔ q ∈ L.map (·.2) ∨ q ∈ M.map fun m => m.2.2.1) → (L'.map (·.2)).Nodup → Q .non (upd H d (DTO P w d (KeyF L')))
theorem mt_updT (hc : X.calm = true) (hu : X.A.units + 64 < cLine) (eK : X.K = K := by rfl) (eP : X.prog = P := by rfl) (ew : X.w = w := by rfl) : MtR X "dict.update" (rUpdT K P w) := by
  subst eK eP ew
  intro pins s σ H x xs v us Q I rx rxs h
  obtain ⟨d, l, L, M, rfl, rfl, hd, hl, hM, hL, few, q⟩ := h
  cases rx
  rw [Vals.ref1 rxs]
  obtain ⟨N, e, hN⟩ := prs_vals I hM
  obtain ⟨its, rv, pl, hz⟩ := I.list hl
  have hi : its = N.map fun n => Value.ref n.1.1 := by
    have := refs_vals rv
    rw [this, ← e, List.map_map]
    rfl
  obtain ⟨ol, nl, g0, gc, gd, gdat⟩ := pl
  obtain ⟨ys, hF, hraw⟩ := Inv.dto I (.inl hd)
  have hyl : ys.length = L.length := by
    have := congrArg List.length hF
    rwa [List.length_map] at this
  have hkeys : ∀ x ∈ ys, IsT X.prog X.w s.heap x.1 x.2.1 := fun x hx => by
    have : (x.2.1, x.1) ∈ L := by
      rw [← hF]
      exact List.mem_map.mpr ⟨x, hx, rfl⟩
    exact Inv.isT I (hL _ this)
  have hlen : N.length = M.length := by rw [← e, List.length_map]
  obtain ⟨sy, nd, od, es, ep, k1, k2, k3, k4⟩ := id hraw
  have ok : PlainSeq "list" s.heap l its.toArray ∧ PairItems s.heap its.toArray (fun j => ((N[j]?).map (·.1.1)).getD 0) (N.map fun n => (Value.ref n.1.2.1, n.2)) := ⟨⟨ol, nl, g0, gc, gd, gdat⟩, prs_items hi fun n hn => (hN n hn).2.1⟩
  have off : d ∉ l :: (List.range (N.map fun n => (Value.ref n.1.2.1, n.2)).length).map fun j => ((N[j]?).map (·.1.1)).getD 0 := by
    intro z
    rcases List.mem_cons.mp z with z | z
    · rw [z, g0] at k1
      cases k1
      rw [gdat] at k3
      cases k3
    · obtain ⟨j, hj, ej⟩ := List.mem_map.mp z
      rw [List.length_map] at hj
      have hj' : N[j]? = some (N[j]'(List.mem_range.mp hj)) := List.getElem?_eq_getElem _
      rw [tsAt hj'] at ej
      obtain ⟨o2, m1, _, n2, m3⟩ := (hN _ (List.getElem_mem (List.mem_range.mp hj))).2.1
      rw [ej, k1] at m1
      cases m1
      rw [k3] at m3
      cases m3
  have stay : ∀ {g : Heap} {k : List Int} {b : Addr}, (∀ b o, b ≠ d → b ∉ ([] : List Addr) → s.heap.get? b = some o → g.get? b = some o) → IsT X.prog X.w s.heap k b → IsT X.prog X.w g k b := fun {g k b} hk x => by
    obtain ⟨ob, it, m, z1, z2, z3, r⟩ := x
    refine ⟨ob, it, m, hk _ _ (fun z => ?_) (by simp) z1, z2, z3, r⟩
    rw [z, k1] at z1
    cases z1
    rw [k3] at z3
    cases z3
  refine call_update_pairsH (PairArg.list l its.toArray _ _) (I.ok.hd hc) (show X.A.units + 1 < cLine by omega) ok off prs_have (fun g hk x hx => ?_) (hraw.full hkeys) (by rw [List.length_map, hyl, sizeLine_eq]; omega) fun g tk hd' hk => ?_
  · rcases List.mem_append.mp hx with z | z
    · exact stay hk (hkeys x z)
    · obtain ⟨n, hn, ex⟩ := List.mem_map.mp z
      subst ex
      exact stay hk (hN n hn).2.2
  · generalize hzs : storedAllH ys (N.map fun n => ((n.1.2.2.1, n.1.2.1, n.2) : Ent)) = zs at hd'
    have he : ∃ u, g.get? d = some u := by
      obtain ⟨o, _, _, z, _⟩ := hd'
      exact ⟨o, z⟩
    have I' : Inv X pins σ (upd H d (DTO X.prog X.w d (KeyF (zs.map fun x => (x.2.1, x.1))))) { s with heap := g, toks := tk } :=
      I.write (e := d) (t' := tk) (by rw [hd]; trivial) (.inl rfl) (fun c u hc hu => hk c u hc (by simp) hu) he (dto_ok rfl (raw_of hd' sy))
    have e1 : (zs.map fun x => (x.2.1, x.1)).map (·.2) = zs.map (·.1) := by rw [List.map_map] <;> rfl
    have e2 : (N.map fun n => ((n.1.2.2.1, n.1.2.1, n.2) : Ent)).map (·.1) = M.map fun m => m.2.2.1 := nodup_ent e
    have e3 : ys.map (·.1) = L.map (·.2) := by rw [← hF, List.map_map] <;> rfl
    refine ⟨.non, _, I', rfl, q _ (fun p hp => ?_) (fun k => ?_) ?_⟩
    · obtain ⟨x, hx, rfl⟩ := List.mem_map.mp hp
      rw [← hzs] at hx
      exact storedAllH_keys (P := fun k a => (a, k) ∈ L ∨ (a, k) ∈ M.map fun m => (m.2.1, m.2.2.1)) (fun x hx => .inl (by rw [← hF]; exact List.mem_map.mpr ⟨x, hx, rfl⟩)) (fun x hx => .inr (by
        obtain ⟨n, hn, ex⟩ := List.mem_map.mp hx
        subst ex
        rw [← e, List.map_map]
        exact List.mem_map.mpr ⟨n, hn, rfl⟩)) x hx
    · rw [e1, ← hzs, storedAll_keys, e2, e3]
    · rw [e1]
      exact hd'.nodup
end
end Fm
/-! sorted of a dict whose keys are tuples of ints of any lengths. -/
namespace Fm
open PySem PySem.Spec PyProof.Rows L2 PySem.W
section
variable {P : Program} {w : World} {A : Around} {E : Value → Shared → Prop} {s : Shared}
theorem refs_each {h : Heap} : ∀ M : List (Addr × List Int), (∀ q ∈ M, IsT P w h q.2 q.1) → EachIs (fun (v : Value) (b : Addr × List Int) => ∃ as, Reads h v (.tuple (b.2.map .int)) as) (M.map fun q => Value.ref q.1) M
  | [], _ => .nil
  | q :: M, h => .cons (by
      obtain ⟨o, its, n, ho, hc, hd, hk⟩ := h q List.mem_cons_self
      exact ⟨_, .tuple ho hc hd (ints_readAll _ (ints_of_items hk))⟩) (refs_each M fun r hr => h r (List.mem_cons_of_mem _ hr))
theorem refs_self : ∀ M : List (Addr × List Int), EachIs (fun (v : Value) (b : Addr × List Int) => v = Value.ref b.1) (M.map fun q => Value.ref q.1) M
  | [] => .nil
  | _ :: M => .cons rfl (refs_self M)
theorem each_refs : ∀ {us : List Value} {M : List (Addr × List Int)}, EachIs (fun (v : Value) (b : Addr × List Int) => v = Value.ref b.1) us M → us = M.map fun q => Value.ref q.1
  | _, _, .nil => rfl
  | _, _, .cons e t => by rw [e, each_refs t, List.map_cons]
theorem sorted_seen {a : Addr} {L : List (Addr × List Int)} {Q : Value → Shared → Prop} (ht : ∀ p ∈ L, IsT P w s.heap p.2 p.1) (nd : (L.map (·.2)).Nodup) (few : L.length < 64) (hu : A.units + 64 < cLine)
    (col : ∀ (E' : Value → Shared → Prop) (R : List Value → Shared → Prop), (∀ h' tk, (∀ b o, s.heap.get? b = some o → h'.get? b = some o) → R (L.map fun p => Value.ref p.1) { s with heap := h', toks := tk }) → wpAny (model P w) A.in1 (collect (.ref a)) R E' s)
    (hQ : ∀ (h1 h' : Heap) (tk : Nat) p (out : Array Value) (c : Nat) (L' : List (Addr × List Int)), (∀ b o, s.heap.get? b = some o → h1.get? b = some o) → (∀ b o, h1.get? b = some o → h'.get? b = some o) → h1.objs.size ≤ p →
      h'.get? p = some (seqObj "list" out c) → out.toList = L'.map (fun q => Value.ref q.1) → L'.Perm L → L'.Pairwise (fun q r => HT.lexLt q.2 r.2 = true) → Q (.ref p) { s with heap := h', toks := tk }) :
    wpAny (model P w) A (call (.builtin "sorted") [.ref a]) Q E s := by
  refine Calls.call_function_entry kind_sorted plain_sorted entry_sorted (args_sorted1 _) ?_
  unfold Builtin.«sorted»
  refine wpAny_bind (m := checkCount "sorted" 1 1 _) (wpAny_pure ?_)
  refine wpAny_bind (col _ _ fun h1 tk1 k1 => ?_)
  obtain ⟨vs, hvs⟩ : ∃ vs, vs = L.map fun p => Value.ref p.1 := ⟨_, rfl⟩
  rw [← hvs]
  have hvl : vs.length < 64 := by rw [hvs, List.length_map]; exact few
  refine wpAny_bind (wpAny_newList ?_ (by rw [sizeLine_eq]; omega))
  have hoL : (h1.push (seqObj "list" vs.toArray 0)).get? h1.objs.size = some (seqObj "list" vs.toArray 0) := Heap.get?_push_size _ rfl
  have up : ∀ b u, s.heap.get? b = some u → (sortingHeap (h1.push (seqObj "list" vs.toArray 0)) h1.objs.size vs).get? b = some u := fun b u z => by
    have q1 := k1 b u z
    exact sortingHeap_old (Nat.ne_of_lt (Heap.lt_size q1)) (Heap.get?_push_of_some _ q1)
  have er := refs_each (P := P) (w := w) (h := sortingHeap (h1.push (seqObj "list" vs.toArray 0)) h1.objs.size vs) L fun q hq => isT_keep (ht q hq) up
  have e0 := refs_self L
  rw [← hvs] at er e0
  have hal : AllAlike (L.map fun b => PyData.tuple (b.2.map .int)) := AllAlike.of fun b b' => by
    show alikeAll (b.2.map .int) (b'.2.map .int) = true
    exact alike_ints _ _
  have S := FmSort.sortsAt_tups (prog := P) (w := w) (A := A.in1.in1) (s := { s with heap := sortingHeap (h1.push (seqObj "list" vs.toArray 0)) h1.objs.size vs, toks := tk1 }) (each_map (R := fun v d => ∃ as, Reads (sortingHeap (h1.push (seqObj "list" vs.toArray 0)) h1.objs.size vs) v d as) (fun b : Addr × List Int => PyData.tuple (b.2.map .int)) er) hal (fun d hd => by
    obtain ⟨b, _, rfl⟩ := List.mem_map.mp hd
    exact ⟨_, rfl⟩) (fun d hd => by
    obtain ⟨b, _, rfl⟩ := List.mem_map.mp hd
    have z : (PyData.tuple (b.2.map .int)).depth = 1 := by
      show PyData.depthAll (b.2.map .int) + 1 = 1
      rw [depth_ints]
    show A.units + 1 + 1 + (PyData.tuple (b.2.map .int)).depth < cLine
    omega)
  refine wpAny_bind (wpAny_holding (wpAny_call_entry slot_list_sort ⟨_, hoL, rfl⟩ entry_list_sort (list_sort_vals (s := { s with heap := h1.push (seqObj "list" vs.toArray 0), toks := tk1 }) hoL S (by rw [sizeLine_eq]; omega) ⟨_, rfl, ?_⟩) (args_list_sort _)))
  have eo := sortVals_data (R := fun (v : Value) (b : Addr × List Int) => v = Value.ref b.1) false e0 er hal
  generalize sortVals (dataKind (sortingHeap (h1.push (seqObj "list" vs.toArray 0)) h1.objs.size vs) (L.map fun b => PyData.tuple (b.2.map .int))) false vs vs = out at eo ⊢
  obtain ⟨c, hc⟩ := sortedHeap_at (vs := vs) (out := out.toArray) hoL
  refine wpAny_pure ⟨_, rfl, hQ h1 _ tk1 h1.objs.size out.toArray c _ k1 (fun b u z => ?_) (Nat.le_refl _) hc (by rw [List.toList_toArray]; exact each_refs eo) (List.mergeSort_perm _ _) (sorted_lt (fun b : Addr × List Int => b.2) L nd)⟩
  have hlt := Heap.lt_size z
  show (sortedHeap (h1.push (seqObj "list" vs.toArray 0)) h1.objs.size vs out.toArray).get? b = some u
  rw [sortedHeap_old (Nat.ne_of_lt hlt) (by rw [size_push']; exact Nat.lt_succ_of_lt hlt)]
  exact Heap.get?_push_of_some _ z
end
section
variable {X : Cx} {K : PySem.W.Frag} {P : Program} {w : World}
def rSortDK (K : PySem.W.Frag) (P : Program) (w : World) : List V → Hp → VK → Prop := fun vs H Q => ∃ (a : Addr) (L : List (Addr × List Int)), vs = [V.ref a] ∧ H a = some (DTO P w a (KeyF L)) ∧ TupsAt K H L ∧ L.length < 64 ∧
  ∀ (L' : List (Addr × List Int)) (p : Addr), L'.Perm L → L'.Pairwise (fun q r => HT.lexLt q.2 r.2 = true) → H p = none → Q (.ref p) (upd H p (.lst (L'.map fun q => V.ref q.1)))
theorem call_sortDK (hc : X.calm = true) (hu : X.A.units + 64 < cLine) (eK : X.K = K := by rfl) (eP : X.prog = P := by rfl) (ew : X.w = w := by rfl) : CallR X (.builtin "sorted") (rSortDK K P w) := by
  subst eK eP ew
  intro pins s σ H vs us Q I r h
  obtain ⟨a, L, rfl, ha, hk, few, q⟩ := h
  rw [Vals.ref1 r]
  obtain ⟨xs, hF, hraw⟩ := Inv.dto I (.inl ha)
  have hT : ∀ p ∈ L, IsT X.prog X.w s.heap p.2 p.1 := fun p hp => Inv.isT I (hk p hp)
  have nd : (L.map (·.2)).Nodup := by
    have e : L.map (·.2) = xs.map (·.1) := by
      rw [← hF, List.map_map]
      rfl
    rw [e]
    exact hraw.2.1
  obtain ⟨sy, _, o, es, ep, k1, k2, k3, k4⟩ := id hraw
  have hxl : xs.length = L.length := by
    rw [← hF, List.length_map]
  have hes : es.size = xs.length := size_of_entries k4
  have dr : s.heap.DictRaw a es ep := ⟨o, k1, k2, k3⟩
  refine sorted_seen hT nd few hu (fun E' R hR => ?_) fun h1 h' tk p out c L' kA kB hp hg hout pm pw => ?_
  · refine kdu_collect (A := X.A.in1) (KdlSrc.rawDict (es := es) (ep := ep) sy) (I.ok.hd hc) dr (by rw [hes, hxl, sizeLine_eq]; omega) fun h' tk acc hk' hacc => ?_
    have e : acc.toList = L.map fun p => Value.ref p.1 := by
      refine List.ext_getElem? fun j => ?_
      rw [← hF, List.map_map, List.getElem?_map]
      cases hx : xs[j]? with
      | none =>
        have hj : xs.length ≤ j := List.getElem?_eq_none_iff.mp hx
        rw [List.getElem?_eq_none (by rw [Array.length_toList, hacc.1, hes]; exact hj)] <;> rfl
      | some x =>
        have hj : j < es.size := by
          rw [hes]
          exact (List.getElem?_eq_some_iff.mp hx).1
        have hj2 : j < acc.size := by rw [hacc.1]; exact hj
        have ha2 : acc[j]? = some acc[j] := Array.getElem?_eq_getElem hj2
        obtain ⟨hi, hv⟩ := hacc.2 j _ ha2
        have he := entry_at k4 j
        rw [hx, Array.getElem?_eq_getElem hi] at he
        have he' := Option.some.inj he
        rw [Array.getElem?_toList, ha2, hv, he'] <;> rfl
    rw [e]
    exact hR h' tk hk'
  · have hfew : L'.length < 64 := by rw [pm.length_eq]; exact few
    have I1 : Inv X pins σ H { s with heap := h1 } := I.kept (t' := s.toks) kA
    have hn : H p = none := I1.hok.fresh hp
    have hlen : (L'.map fun q => V.ref q.1).length ≤ sizeLine := by rw [List.length_map, sizeLine_eq]; omega
    have hv : Vals (L'.map fun q => V.ref q.1) out.toList := by rw [hout]; exact vals_of_refs L'
    exact ⟨.ref p, _, I1.laid (t' := tk) kB hp (show ObjOk X.prog X.w _ h' p (.lst (L'.map fun q => V.ref q.1)) from ⟨hlen, out.toList, c, hv, hg⟩), rfl, q L' p pm pw hn⟩
end
end Fm
namespace Fm
open PySem PySem.Spec PyProof.Rows L2 PySem.W
section
variable {X : Cx} {K : PySem.W.Frag} {P : Program} {w : World}
def tUpdT (K : PySem.W.Frag) (P : Program) (w : World) (to : TE) (t : TA) : TE := fun σ H Q => to σ H fun x H1 => (∃ a G, x = V.ref a ∧ H1 a = some (DTO P w a G)) ∧ t σ H1 fun xs H2 => rUpdT K P w x xs H2 Q
theorem pe_updT {o e : Expr} {to : TE} {t : TA} {apos cpos : Pos} (hc : X.calm = true) (hu : X.A.units + 64 < cLine) (ho : PE X o to) (ha : PA X [e] t)
    (b1 : attributeBase o "update" X.env (eval o X.env) = eval o X.env := by rfl)
    (b2 : ((backTo cpos (starEach [e] X.env)).all (fun x => !x.1) && (backToKw cpos (keywordEach [] X.env)).all (fun x => x.1.isSome) && decide (([e] : List Expr).length + ([] : List Keyword).length + (if ([] : List Keyword).isEmpty then 0 else 1) < 30)) = true := by rfl)
    (b3 : (apos.endLine == cpos.line) = true := by rfl) (b4 : starEach [e] X.env = [(false, eval e X.env)] := by rfl) (eK : X.K = K := by rfl) (eP : X.prog = P := by rfl) (ew : X.w = w := by rfl) :
    PE X (.Call (.Attribute o "update" apos) [e] [] cpos) (tUpdT K P w to t) := by
  subst eK eP ew
  refine ⟨fun pins s σ H Q I h => ?_⟩
  refine wpAny_Call_method_late b1 b2 b3 rfl (thn (ho.run pins s σ H _ I h) fun v s1 ⟨x, H1, I1, r1, ty, q1⟩ => ?_)
  obtain ⟨a, G, rfl, hka⟩ := ty
  cases r1
  obtain ⟨xs, _, _, _, ob, es, ep, g1, g2, _⟩ := Inv.dto I1 (.inl hka)
  refine ⟨"dict", "dict.update", F.plainAttrs_dict, F.slot_dict_update, F.type_dict_update, ⟨ob, g1, g2.1⟩, fun c e => (by cases e; exact ⟨ob, g1, g2.2.1⟩), ?_⟩
  have hA := ha.run cpos pins s1 σ H1 _ I1 q1
  rw [b4] at hA ⊢
  refine Calls.callWith_builtin rfl (Calls.evalArgs_plain (thn hA fun us s2 ⟨vs, H2, I2, r2, q2⟩ => (mt_updT hc hu) pins s2 σ H2 (.ref a) vs (.ref a) us Q I2 rfl r2 q2))
end
end Fm
/-! Dicts whose keys are boxes: pairs of tuples of ints, wherever these stand. -/
namespace Fm
open PySem PySem.Spec PyProof.Rows L2 PySem.W
/-- the key of a box -/
def bk (q : List Int × List Int) : NestedKey := .tup [.tup (q.1.map NestedKey.num), .tup (q.2.map NestedKey.num)]
theorem num_inj : ∀ {a b : List Int}, a.map NestedKey.num = b.map NestedKey.num → a = b
  | [], [], _ => rfl
  | x :: a, y :: b, h => by
    rw [List.map_cons, List.map_cons] at h
    injection h with h1 h2
    injection h1 with h1
    rw [h1, num_inj h2]
  | [], _ :: _, h => by cases h
  | _ :: _, [], h => by cases h
theorem bk_inj {p q : List Int × List Int} (h : bk p = bk q) : p = q := by
  unfold bk at h
  injection h with h
  injection h with h1 h2
  injection h1 with h1
  injection h2 with h2 _
  injection h2 with h2
  exact Prod.ext (num_inj h1) (num_inj h2)
abbrev NK (P : Program) (w : World) : HeapKind P w NestedKey := nestedKind P w
abbrev EntB := NestedKey × Addr × Value
abbrev BoxL := List (Addr × (List Int × List Int) × V)
section
variable {P : Program} {w : World} {h h' : Heap} {a : Addr} {xs : List EntB}
def BRaw (P : Program) (w : World) (h : Heap) (a : Addr) (xs : List EntB) : Prop := (a == sysModules) = false ∧ (xs.map (·.1)).Nodup ∧ ∃ o es ep, h.get? a = some o ∧ o.ExactDict ∧ o.data = .dict es ep ∧ es.toList = xs.map (entryOfKey (NK P w))
def ValB (L : BoxL) : List EntB → Prop := fun xs => Paired (fun p (x : EntB) => x.2.1 = p.1 ∧ x.1 = bk p.2.1 ∧ RelV p.2.2 x.2.2) L xs
def DBO (P : Program) (w : World) (a : Addr) (L : BoxL) : HO := .ext fun h => ∃ xs, ValB L xs ∧ BRaw P w h a xs
theorem BRaw.full (d : BRaw P w h a xs) (ht : ∀ x ∈ xs, (NK P w).is h x.1 x.2.1) : h.DictOfH (NK P w) a xs := by
  obtain ⟨_, nd, o, es, ep, h1, h2, h3, h4⟩ := d
  exact ⟨o, es, ep, h1, h2, h3, h4, ht, nd⟩
theorem braw_of (m : h.DictOfH (NK P w) a xs) (hs : (a == sysModules) = false) : BRaw P w h a xs := by
  obtain ⟨o, es, ep, h1, h2, h3, h4, _, nd⟩ := m
  exact ⟨hs, nd, o, es, ep, h1, h2, h3, h4⟩
theorem dbo_ok {L : BoxL} {H : Hp} (hF : ValB L xs) (d : BRaw P w h a xs) : ObjOk P w H h a (DBO P w a L) := by
  have ⟨_, _, o, es, ep, h1, _⟩ := d
  refine ⟨⟨xs, hF, d⟩, ⟨o, h1⟩, fun g1 g2 p k => ?_⟩
  have ⟨ys, hy, hs, nd, o', es', ep', k1, r⟩ := p
  exact ⟨ys, hy, hs, nd, o', es', ep', k _ k1, r⟩
/-- what the dict has for a box -/
def findB (L : BoxL) (q : List Int × List Int) : Option V := (L.find? fun p => decide (p.2.1 = q)).map (·.2.2)
theorem ValB.find {L : BoxL} {xs : List EntB} (h : ValB L xs) (q : List Int × List Int) : RelO (findB L q) ((atKey xs (bk q)).map (·.2)) := by
  unfold ValB at h
  unfold findB
  induction h with
  | nil => exact True.intro
  | @cons p x ps qs r _ ih =>
    obtain ⟨_, r2, r3⟩ := r
    by_cases e : p.2.1 = q
    · have b : atKey (x :: qs) (bk q) = some x.2 := by simp [atKey, List.find?_cons, r2, e]
      rw [b, List.find?_cons]
      simp only [e, decide_true, Option.map_some]
      exact r3
    · have e' : ¬ bk p.2.1 = bk q := fun z => e (bk_inj z)
      have b : atKey (x :: qs) (bk q) = atKey qs (bk q) := by simp [atKey, List.find?_cons, r2, e']
      rw [b, List.find?_cons]
      simp only [e, decide_false]
      exact ih
theorem valB_mem {L : BoxL} {xs : List EntB} (h : ValB L xs) : ∀ x ∈ xs, ∃ p ∈ L, x.2.1 = p.1 ∧ x.1 = bk p.2.1 := by
  unfold ValB at h
  induction h with
  | nil => intro x hx; cases hx
  | @cons p x ps qs r _ ih =>
    intro z hz
    rcases List.mem_cons.mp hz with e | e
    · rw [e]
      exact ⟨p, List.mem_cons_self, r.1, r.2.1⟩
    · obtain ⟨p', hp', r'⟩ := ih z e
      exact ⟨p', List.mem_cons_of_mem _ hp', r'⟩
theorem valB_addrs {L : BoxL} {xs : List EntB} (h : ValB L xs) : xs.map (·.2.1) = L.map (·.1) := by
  unfold ValB at h
  induction h with
  | nil => rfl
  | cons r _ ih => rw [List.map_cons, List.map_cons, ih, r.1]
end
section
variable {X : Cx} {K : PySem.W.Frag} {P : Program} {w : World} {pins : List (Addr × Obj)} {σ : L2.St} {H : Hp} {s : Shared}
/-- at b: the box q -/
def BoxAt (K : PySem.W.Frag) (H : Hp) (b : Addr) (q : List Int × List Int) : Prop := ∃ pa wa, SqT K H b [.ref pa, .ref wa] ∧ SqT K H pa (q.1.map V.int) ∧ SqT K H wa (q.2.map V.int)
theorem num_all {h : Heap} : ∀ {c : List Int} {us : List Value}, Vals (c.map V.int) us → NestedAll h (c.map NestedKey.num) us
  | [], _, .nil => .nil
  | _ :: _, _, .cons r t => by
    obtain ⟨u, rfl⟩ := r
    exact .cons (.int _ u) (num_all t)
theorem num_key {H : Hp} (I : Inv X pins σ H s) {a : Addr} {c : List Int} (h : SqT X.K H a (c.map V.int)) : NestedIs s.heap (.tup (c.map NestedKey.num)) (.ref a) := by
  obtain ⟨its, r, ⟨o, ho, hc, n, hd⟩, _⟩ := I.tuple h
  exact .tup ho hc hd (by simpa using num_all r)
theorem num_depth : ∀ c : List Int, NestedKey.depthAll (c.map NestedKey.num) = 0
  | [] => rfl
  | x :: c => by
    rw [List.map_cons]
    unfold NestedKey.depthAll
    rw [num_depth c]
    rfl
theorem Inv.boxKey (I : Inv X pins σ H s) {b : Addr} {q : List Int × List Int} (h : BoxAt X.K H b q) : (NK X.prog X.w).is s.heap (bk q) b := by
  obtain ⟨pa, wa, h1, h2, h3⟩ := h
  obtain ⟨its, r, ⟨o, ho, hc, n, hd⟩, _⟩ := I.tuple h1
  refine ⟨.tup ho hc hd ?_, ?_⟩
  · cases r with
    | cons r1 rr =>
      cases rr with
      | cons r2 rn =>
        cases rn
        cases r1
        cases r2
        exact .cons (num_key I h2) (.cons (num_key I h3) .nil)
  · show NestedKey.depth (.tup [.tup (q.1.map NestedKey.num), .tup (q.2.map NestedKey.num)]) ≤ 8
    simp [NestedKey.depth, NestedKey.depthAll, num_depth]
theorem Inv.dbo {L : BoxL} {a : Addr} (I : Inv X pins σ H s) (h : Rd H a (DBO X.prog X.w a L)) : ∃ xs, ValB L xs ∧ BRaw X.prog X.w s.heap a xs := (h.ok I.hok).1
def BoxesAt (K : PySem.W.Frag) (H : Hp) (L : BoxL) : Prop := ∀ p ∈ L, BoxAt K H p.1 p.2.1
theorem boxes_full (I : Inv X pins σ H s) {L : BoxL} {a : Addr} {xs : List EntB} (hF : ValB L xs) (d : BRaw X.prog X.w s.heap a xs) (h : BoxesAt X.K H L) : s.heap.DictOfH (NK X.prog X.w) a xs := d.full fun x hx => by
  obtain ⟨p, hp, e1, e2⟩ := valB_mem hF x hx
  rw [e1, e2]
  exact Inv.boxKey I (h p hp)
/-- {} -/
def tDNewB (P : Program) (w : World) : TE := fun _ H Q => ∀ p, H p = none → Q (.ref p) (upd H p (DBO P w p []))
theorem pe_dnewB {pos : Pos} (eP : X.prog = P := by rfl) (ew : X.w = w := by rfl) : PE X (.Dict [] [] pos) (tDNewB P w) := by
  subst eP ew
  refine ⟨fun pins s σ H Q I h => ?_⟩
  have hs : (s.heap.objs.size == sysModules) = false := beq_eq_false_iff_ne.mpr (Ne.symm (Nat.ne_of_lt I.big))
  exact wpAny_Dict_empty ⟨.ref s.heap.objs.size, _, I.laid (a := s.heap.objs.size) (o := DBO X.prog X.w s.heap.objs.size []) (t' := s.toks) (fun _ _ q => Heap.get?_push_of_some _ q) (Nat.le_refl _) (dbo_ok (xs := []) .nil (braw_of (Heap.DictOfH.new s.heap) hs)), rfl, h _ (I.hok.fresh (Nat.le_refl _))⟩
/-- b not in d -/
def rNotInB (K : PySem.W.Frag) (P : Program) (w : World) : R2 := fun x y H Q => ∃ (b a : Addr) (q : List Int × List Int) (L : BoxL), x = .ref b ∧ y = .ref a ∧ H a = some (DBO P w a L) ∧ BoxesAt K H L ∧ BoxAt K H b q ∧ Q (.bl (!(findB L q).isSome)) H
theorem op_notinB (hu : X.A.units + 64 < cLine) (eK : X.K = K := by rfl) (eP : X.prog = P := by rfl) (ew : X.w = w := by rfl) : OpR X (compareOp .NotIn) (rNotInB K P w) := by
  subst eK eP ew
  intro pins s σ H x y v u Q I rx ry h
  obtain ⟨b, a, q, L, rfl, rfl, ha, hL, hb, hq⟩ := h
  cases rx
  cases ry
  obtain ⟨xs, hF, hd⟩ := Inv.dbo I (.inl ha)
  refine wpAny_notIn_heap (knd := NK X.prog X.w) (show X.A.units + 1 + 8 < cLine by omega) (Inv.boxKey I hb) hd.1 (boxes_full I hF hd hL) ?_
  have e : (findB L q).isSome = (atKey xs (bk q)).isSome := by
    rw [(hF.find q).isSome_eq, Option.isSome_map]
  rw [e] at hq
  exact ⟨.bl (!(atKey xs (bk q)).isSome), H, I.tok _, rfl, hq⟩
/-- d[b] = v, b a new key -/
def sDPutB (K : PySem.W.Frag) (P : Program) (w : World) (td ty tv : TE) : TS := fun D σ H => tv σ H fun v H1 => td σ H1 fun x H2 => ty σ H2 fun y H3 => ∃ (a b : Addr) (q : List Int × List Int) (L : BoxL), x = .ref a ∧ y = .ref b ∧ H3 a = some (DBO P w a L) ∧ BoxesAt K H3 L ∧ BoxAt K H3 b q ∧ findB L q = none ∧ L.length ≤ 100000 ∧
  D.nx σ (upd H3 a (DBO P w a (L ++ [(b, q, v)])))
theorem ps_dputB {o i value : Expr} {pos pos' : Pos} {td ty tv : TE} (hu : X.A.units + 64 < cLine) (ho : PE X o td) (hi : PE X i ty) (hv : PE X value tv) (hs : swapsWith value (some (.Subscript o i pos')) pos.line X.env = pure false) (eK : X.K = K := by rfl) (eP : X.prog = P := by rfl) (ew : X.w = w := by rfl) :
    PS X (.Assign [.Subscript o i pos'] value pos) (sDPutB K P w td ty tv) := by
  subst eK eP ew
  refine ⟨fun pins s σ H D I h => ?_⟩
  refine wpAny_Assign_Subscript (thn (hv.run pins s σ H _ I h) fun r s1 ⟨v, H1, I1, rv, q1⟩ => thn (ho.run pins s1 σ H1 _ I1 q1) fun u s2 ⟨x, H2, I2, rx, q2⟩ => thn (hi.run pins s2 σ H2 _ I2 q2) fun iv s3 ⟨y, H3, I3, ry, a, b, q, L, ex, ey, ha, hL, hb, hn, hl, q3⟩ => ?_) hs
  subst ex ey
  cases rx
  cases ry
  obtain ⟨xs, hF, hd⟩ := Inv.dbo I3 (.inl ha)
  have hxl : xs.length = L.length := (Paired.length hF).symm
  refine wpAny_setItem_heap (knd := NK X.prog X.w) (hsz := by rw [hxl, sizeLine_eq]; omega) (show X.A.units + 1 + 8 < cLine by omega) (Inv.boxKey I3 hb) (boxes_full I3 hF hd hL) fun h' hm sb => ?_
  have he : ∃ u, h'.get? a = some u := by
    obtain ⟨o, _, _, z, _⟩ := hm
    exact ⟨o, z⟩
  have hno : ¬ (atKey xs (bk q)).isSome = true := by
    have e : (findB L q).isSome = (atKey xs (bk q)).isSome := by
      rw [(hF.find q).isSome_eq, Option.isSome_map]
    rw [← e, hn]
    exact Bool.false_ne_true
  have es : storedH xs (bk q) b r = xs ++ [(bk q, b, r)] := by
    unfold storedH
    rw [if_neg hno]
  rw [es] at hm
  exact ⟨σ, _, I3.write (e := a) (t' := s3.toks + (NK X.prog X.w).draws (bk q)) (by rw [ha]; trivial) (.inl rfl) (fun c u hc hu => (sb.2 c hc).trans hu) he (dbo_ok (Paired.snoc hF ⟨rfl, rfl, rv⟩) (braw_of hm hd.1)), q3⟩
/-- d[b] -/
def tDGetB (K : PySem.W.Frag) (P : Program) (w : World) (td ty : TE) : TE := fun σ H Q => td σ H fun x H1 => ty σ H1 fun y H2 => ∃ (a b : Addr) (q : List Int × List Int) (L : BoxL) (v : V), x = .ref a ∧ y = .ref b ∧ H2 a = some (DBO P w a L) ∧ BoxesAt K H2 L ∧ BoxAt K H2 b q ∧ findB L q = some v ∧ Q v H2
theorem pe_dgetB {o i : Expr} {pos : Pos} {td ty : TE} (hu : X.A.units + 64 < cLine) (ho : PE X o td) (hi : PE X i ty) (hs : NoSl i) (eK : X.K = K := by rfl) (eP : X.prog = P := by rfl) (ew : X.w = w := by rfl) : PE X (.Subscript o i pos) (tDGetB K P w td ty) := by
  subst eK eP ew
  refine ⟨fun pins s σ H Q I h => ?_⟩
  refine subD_of PySem.F.slot_dict_getitem.lookup hs (thn (ho.run pins s σ H _ I h) fun u s1 ⟨x, H1, I1, rx, q1⟩ => thn (hi.run pins s1 σ H1 _ I1 q1) fun iv s2 ⟨y, H2, I2, ry, a, b, q, L, v, ex, ey, ha, hL, hb, hv, q2⟩ => ?_)
  subst ex ey
  cases rx
  cases ry
  obtain ⟨xs, hF, hd⟩ := Inv.dbo I2 (.inl ha)
  have dd := boxes_full I2 hF hd hL
  have rl := hF.find q
  rw [hv] at rl
  cases hz : atKey xs (bk q) with
  | none =>
    rw [hz] at rl
    exact (show False from rl).elim
  | some p =>
    rw [hz] at rl
    exact ⟨dd.typeIs, wpAny_getItem_heap (knd := NK X.prog X.w) (show X.A.units + 1 + 8 < cLine by omega) (Inv.boxKey I2 hb) dd hz ⟨_, H2, I2.tok _, rl, q2⟩⟩
/-! ### for b in d -/
def ItkB (P : Program) (w : World) (d : Addr) (o : Obj) (L : BoxL) : It := ⟨fun i H => H d = some (.frz o (DBO P w d L)) ∧ i < L.length, fun i H x H' => H' = H ∧ ∃ p, L[i]? = some p ∧ x = .ref p.1, fun i H => H d = some (.frz o (DBO P w d L)) ∧ L.length ≤ i⟩
theorem Inv.frzB {d : Addr} {o : Obj} {L : BoxL} (I : Inv X pins σ H s) (h : H d = some (.frz o (DBO X.prog X.w d L))) :
    (d == sysModules) = false ∧ s.heap.get? d = some o ∧ o.ExactDict ∧ ∃ (es : Array DictEntry) (ep : Nat), o.data = .dict es ep ∧ es.size = L.length ∧ ∀ (i : Nat) p, L[i]? = some p → ∃ en, es[i]? = some en ∧ en.key = .ref p.1 := by
  obtain ⟨g0, ⟨xs, hx, sy, _, o', es, ep, g1, g2, g3, g4⟩, _⟩ := I.hok d _ h
  rw [g0] at g1
  cases g1
  have e := valB_addrs hx
  refine ⟨sy, g0, g2, es, ep, g3, by rw [size_of_entries g4, ← Paired.length hx], fun i p hi => ?_⟩
  have hi2 : (xs.map (·.2.1))[i]? = some p.1 := by
    rw [e, List.getElem?_map, hi] <;> rfl
  rw [List.getElem?_map] at hi2
  obtain ⟨x, hx, e2⟩ := Option.map_eq_some_iff.mp hi2
  refine ⟨_, by rw [entry_at g4, hx] <;> rfl, ?_⟩
  rw [← e2]
  rfl
theorem turn_keysB {tg : Expr} {d : Addr} {o : Obj} {L : BoxL} {es : Array DictEntry} {ep : Nat} (it : Addr) (hod : o.data = .dict es ep) : Turn P w K tg (ItkB P w d o L) [it] it (fun i h => h.IsKeyIter it d i L.length ep) where
  mem := List.mem_singleton.mpr rfl
  obj := fun i h st b hb => by
    rw [List.mem_singleton.mp hb]
    obtain ⟨oi, e, c, dd⟩ := st
    exact ⟨oi, e, fun v z => by rw [dd] at z; cases z⟩
  keep := fun i h h' st k => st.at fun oi e => k it (List.mem_singleton.mpr rfl) oi e
  item := by
    intro X hP hw hK hc i pins s σ H E I hf st hg
    subst hP hw hK
    obtain ⟨hd, hi⟩ := hg
    obtain ⟨f0, f1, f2, f3, f4, f5⟩ := hf it (List.mem_singleton.mpr rfl)
    obtain ⟨_, g0, _, es', ep', hdt, hsz, ent⟩ := Inv.frzB I hd
    obtain ⟨rfl, rfl⟩ := dict_ep hod hdt
    obtain ⟨en, hen, hkey⟩ := ent i _ (List.getElem?_eq_getElem hi)
    refine next_key_item st g0 hdt hsz hen fun h' st' sb => ?_
    have I1 : Inv X pins σ H { s with heap := h' } := I.turned (t' := s.toks) (fun b ob hb e => (sb.2 b hb).trans e) f0 f1 f3 f4 f5
    obtain ⟨oi, e, c, dd⟩ := id st'
    rw [hkey]
    exact ⟨_, rfl, go_of (s := { s with heap := h' }) e c dd (by decide) ⟨.ref _, H, I1, rfl, ⟨rfl, _, List.getElem?_eq_getElem hi, rfl⟩, st', fun b hb => (hf b hb).1⟩⟩
  done := by
    intro X hP hw hK hc i pins s σ H E I hf st hg
    subst hP hw hK
    obtain ⟨hd, hi⟩ := hg
    obtain ⟨f0, f1, f2, f3, f4, f5⟩ := hf it (List.mem_singleton.mpr rfl)
    obtain ⟨_, g0, _, es', ep', hdt, hsz, _⟩ := Inv.frzB I hd
    obtain ⟨rfl, rfl⟩ := dict_ep hod hdt
    exact next_key_end (I.ok.hd hc) st g0 hdt hsz hi fun h' eb => ⟨rfl, I.turned (t' := s.toks) (fun b ob hb e => eb b ob hb e) f0 f1 f3 f4 f5⟩
  self := fun A i s Q E st h => wpAny_pyIter_keyiter st h
def iKeysB (P : Program) (w : World) (td : TE) : TI := fun σ H R => td σ H fun x H1 => ∃ d o L, x = .ref d ∧ H1 d = some (.frz o (DBO P w d L)) ∧ R (ItkB P w d o L) H1
theorem pi_keysB {tg e : Expr} {td : TE} (he : PE X e td) (eP : X.prog = P := by rfl) (ew : X.w = w := by rfl) : PI X tg e (iKeysB P w td) := by
  subst eP ew
  refine ⟨fun pins s σ H R I h => ?_⟩
  refine thn (he.run pins s σ H _ I h) fun u s1 ⟨x, H1, I1, rx, d, o, L, ex, hd, q⟩ => ?_
  subst ex
  cases rx
  obtain ⟨sy, g0, g1, es, ep, hdt, hsz, _⟩ := Inv.frzB I1 hd
  refine iter_keys sy g0 g1 hdt (pi_one (tk := s1.toks) I1 _ (turn_keysB _ hdt) ⟨_, Heap.get?_push_size _ rfl, rfl, ?_⟩ q)
  rw [hsz] <;> rfl
end
end Fm
/-! A dict comprehension whose keys are tuples of ints (also within another comprehension); setdefault with such keys. -/
namespace Fm
open PySem PySem.Spec PyProof.Rows L2 PySem.W
/-- a block that captures nothing -/
theorem blkOk_nf {N : List Str} {sc scope : Scope} {own : List (Str × Nat)} (h1 : scope.kind = .function) (h2 : (scope.names.all fun y => decide (scope.names.lookup y.1 = some y.2)) = true) (h3 : (own.all fun p => decide (N[p.2]? = some p.1)) = true)
    (h4 : (scope.names.all fun y => !(y.2 == .free)) = true) (h5 : (scope.names.all fun y => (!(y.2 == .local || y.2 == .cell)) || ((own.map (·.1)).contains y.1 || !(N.contains y.1))) = true) : BlkOk N sc scope own where
  kind := h1
  uniq := fun y hy => of_decide_eq_true (List.all_eq_true.mp h2 y hy)
  ix := fun p hp => of_decide_eq_true (List.all_eq_true.mp h3 p hp)
  free := fun y hy e => by
    have z := List.all_eq_true.mp h4 y hy
    rw [e] at z
    cases z
  own := fun y hy e => by
    have z := List.all_eq_true.mp h5 y hy
    have e2 : (y.2 == NameKind.local || y.2 == NameKind.cell) = true := by
      rcases e with e | e <;> (rw [e]; rfl)
    rw [e2] at z
    simp only [Bool.not_true, Bool.false_or, Bool.or_eq_true] at z
    rcases z with z | z
    · exact .inl (by simpa using z)
    · exact .inr (by simpa using z)
section
variable {X : Cx} {K : PySem.W.Frag} {P : Program} {w : World}
def tDcT (K : PySem.W.Frag) (P : Program) (w : World) (wa : TI) (ga : TG) (tk tv : TE) (vs : List Nat) : TE := fun σ H Q => wa σ H fun J H1 => ∀ D, H1 D = none → ∃ W : Nat → Nat → Hp → Prop, (∃ m, W 0 m (upd H1 D (DTO P w D (ValF [])))) ∧ ∀ i m H, W i m H →
  (J.stop i H ∧ Q (.ref D) H) ∨ (J.go i H ∧ ∃ Nx : Hp → Prop, (∀ H', Nx H' → ∃ m', m' < m ∧ W (i + 1) m' H') ∧ ∀ x H', J.yld i H x H' → ga x (wipe σ vs) H' fun σ2 H2 => wipe σ2 vs = wipe σ vs ∧ tk σ2 H2 fun y H3 => tv σ2 H3 fun z H4 =>
    ∃ (b : Addr) (q : List Int) (L : List (Addr × List Int × L2.V)), y = .ref b ∧ SqT K H4 b (q.map V.int) ∧ H4 D = some (DTO P w D (ValF L)) ∧ (∀ p ∈ L, SqT K H4 p.1 (p.2.1.map V.int)) ∧ (∀ p ∈ L, p.2.1 ≠ q) ∧ L.length ≤ 1000 ∧ Nx (upd H4 D (DTO P w D (ValF (L ++ [(b, q, z)])))))
theorem dset_inv {pins : List (Addr × Obj)} {s : Shared} {σ : L2.St} {H : Hp} {A : Around} {E : Value → Shared → Prop} {D b : Addr} {q : List Int} {L : List (Addr × List Int × L2.V)} {z : L2.V} {r : Value} {Q : Unit → Shared → Prop} (I : Inv X pins σ H s) (hD : H D = some (DTO X.prog X.w D (ValF L)))
    (hL : ∀ p ∈ L, SqT X.K H p.1 (p.2.1.map V.int)) (hb : SqT X.K H b (q.map V.int)) (hne : ∀ p ∈ L, p.2.1 ≠ q) (few : L.length ≤ 1000) (rz : RelV z r) (hu : A.units < cLine) (h : ∀ s', Inv X pins σ (upd H D (DTO X.prog X.w D (ValF (L ++ [(b, q, z)])))) s' → Q () s') :
    wpAny (model X.prog X.w) A (dictSet D (.ref b) r) Q E s := by
  obtain ⟨xs, hF, hd⟩ := Inv.dto I (.inl hD)
  have hxl : xs.length = L.length := (Paired.length hF).symm
  have hk : ∀ x ∈ xs, IsT X.prog X.w s.heap x.1 x.2.1 := fun x hx => by
    obtain ⟨p, hp, e1, e2⟩ := valF_mem hF x hx
    rw [e1, e2]
    exact Inv.isT I (hL p hp)
  refine wpAny_dictSet_heap (knd := TK X.prog X.w) (hsz := by rw [hxl, sizeLine_eq]; omega) hu (Inv.isT I hb) (hd.full hk) fun h' hm sb => h _ ?_
  have he : ∃ u, h'.get? D = some u := by
    obtain ⟨o, _, _, y, _⟩ := hm
    exact ⟨o, y⟩
  have hno : ¬ (atKey xs q).isSome = true := by
    intro y
    unfold atKey at y
    rw [Option.isSome_map] at y
    obtain ⟨x, hx⟩ := Option.isSome_iff_exists.mp y
    have h1 := List.mem_of_find?_eq_some hx
    have h2 := List.find?_some hx
    obtain ⟨p, hp, _, e2⟩ := valF_mem hF x h1
    exact hne p hp (by rw [← e2]; simpa using h2)
  have es : storedH xs q b r = xs ++ [(q, b, r)] := by
    unfold storedH
    rw [if_neg hno]
  rw [es] at hm
  exact I.write (e := D) (by rw [hD]; trivial) (.inl rfl) (fun c u hc hu => (sb.2 c hc).trans hu) he (dto_ok (F := ValF (L ++ [(b, q, z)])) (Paired.snoc hF ⟨rfl, rfl, rz⟩) (raw_of hm hd.1))
theorem pe_dcT {kx vx ta ea : Expr} {sc : Scope} {own : List (Str × Nat)} {ps : Pos} {wa : TI} {ga : TG} {tk tv : TE} (hc : X.calm = true) (hu : X.A.units + 64 < cLine) (hN : X.N.Nodup) (pa : PI X ta ea wa) (ok : BlkOk X.N X.env.scope sc own)
    (pga : ∀ (s : Shared) (H : Hp) (C : Addr) (cl : List (Str × Addr)) (fp : List Addr), PG (X.blk s H sc (compEnvC sc cl C X.env) fp) ta ga)
    (pk : ∀ (s : Shared) (H : Hp) (C : Addr) (cl : List (Str × Addr)) (fp : List Addr), PE (X.blk s H sc (compEnvC sc cl C X.env) fp) kx tk)
    (pv : ∀ (s : Shared) (H : Hp) (C : Addr) (cl : List (Str × Addr)) (fp : List Addr), PE (X.blk s H sc (compEnvC sc cl C X.env) fp) vx tv)
    (fa : ∀ x, foldedSetIterable ea X.env x = pure x := by intro _; rfl) (eK : X.K = K := by rfl) (eP : X.prog = P := by rfl) (ew : X.w = w := by rfl) :
    PE X (.DictComp kx vx [⟨ta, ea, [], 0⟩] sc ps) (tDcT K P w wa ga tk tv (own.map (·.2))) := by
  subst eK eP ew
  refine ⟨fun pins s σ H Q I h => ?_⟩
  rw [arm_eval_DictComp]
  have hfree : ∀ y ∈ sc.names, y.2 = .free → ∃ c, X.env.cells.lookup y.1 = some c := fun y hy e => (ok.free y hy e).elim (fun z => I.ok.has _ (.inl z)) fun z => I.ok.has _ (.inr z)
  refine wpAny_comprehension_free (use := none) rfl fa (closure_ok hfree) ok.kind (fun y hy e => by rw [ok.uniq y hy, e]) (thn (pa.run pins s σ H _ I h) fun xv s1 hx => thn hx fun itv s2 h2 => ?_)
  obtain ⟨it, fp, tn, J, H2, e, I2, T, st2, f2, q⟩ := h2
  subst e
  refine wpAny_newObj_type (newEnv_comp ?_)
  generalize hD : s2.heap.objs.size = D
  have hDn : H2 D = none := I2.hok.fresh (Nat.le_of_eq hD)
  obtain ⟨W, ⟨m0, w0⟩, turn⟩ := q D hDn
  have hsys : (D == sysModules) = false := by
    rw [← hD]
    exact beq_eq_false_iff_ne.mpr (Ne.symm (Nat.ne_of_lt I2.big))
  generalize hs3 : ({ s2 with heap := s2.heap.push { cls := .type "dict", data := .dict #[] } } : Shared) = s3
  have h3 : s3.heap = s2.heap.push { cls := .type "dict", data := .dict #[] } := by rw [← hs3]
  have old3 : ∀ b o, s2.heap.get? b = some o → s3.heap.get? b = some o := fun b o z => by
    rw [h3]
    exact Heap.get?_push_of_some _ z
  have I3 : Inv X pins σ (upd H2 D (DTO X.prog X.w D (ValF []))) s3 := by
    have d0 : DRaw X.prog X.w s3.heap D [] := by
      rw [h3, ← hD]
      exact raw_of (Heap.DictOfH.new s2.heap) (by rw [hD]; exact hsys)
    have := I2.laid (a := D) (o := DTO X.prog X.w D (ValF [])) (h' := s3.heap) (t' := s2.toks) old3 (Nat.le_of_eq hD) (dto_ok (F := ValF []) .nil d0)
    rw [← hs3] at this ⊢
    exact this
  have lo : ∀ b ∈ fp, b < s2.heap.objs.size := fun b hb => by
    obtain ⟨o, z, _⟩ := T.obj _ _ st2 b hb
    exact Heap.lt_size z
  have f3 : ∀ b ∈ fp, FpOk X pins (upd H2 D (DTO X.prog X.w D (ValF []))) b ∧ b < s3.heap.objs.size := fun b hb => by
    have l := lo b hb
    have ne : b ≠ D := by
      rw [← hD]
      exact Nat.ne_of_lt l
    exact ⟨⟨by rw [upd_ne ne]; exact (f2 b hb).1, (f2 b hb).2⟩, by rw [h3, Heap.size_push]; exact Nat.lt_succ_of_lt l⟩
  have st3 : tn 0 s3.heap := T.keep _ _ _ st2 fun b _ o z => old3 b o z
  have I4 := block_start I3 ok hN f3
  generalize hH3 : upd H2 D (DTO X.prog X.w D (ValF [])) = H3 at I3 I4 f3 w0
  generalize hcl : cellsFrom (s3.heap.objs.size + 1) sc.names (cloFrom X.env.cells sc.names []) = cl at I4
  have gA := pga s3 H3 s3.heap.objs.size cl fp
  have gK := pk s3 H3 s3.heap.objs.size cl fp
  have gV := pv s3 H3 s3.heap.objs.size cl fp
  show codeAny _ _ (.compStart (.DictComp kx vx [⟨ta, ea, [], 0⟩] sc ps) 0 (.ref it) (.ref D) (compEnvC sc cl s3.heap.objs.size X.env)) (compPost (model X.prog X.w) X.A X.xe none _ (.ref D) s3.heap.objs.size) { s3 with heap := pushCells (s3.heap.push { cls := .type "dict", data := .dict #[] }) sc.names }
  generalize hce : compEnvC sc cl s3.heap.objs.size X.env = ce at I4 gA gK gV ⊢
  have cL : ce.locals = s3.heap.objs.size := by subst hce; rfl
  generalize hs4 : ({ s3 with heap := pushCells (s3.heap.push { cls := .type "dict", data := .dict #[] }) sc.names } : Shared) = s4 at I4 ⊢
  have st4 : tn 0 s4.heap := T.keep _ _ _ st3 fun b _ o z => by rw [← hs4]; exact pushCells_keeps _ _ _ _ (Heap.get?_push_of_some _ z)
  have nfp : ∀ b ∈ fp, H3 b = none := fun b hb => (f3 b hb).1.1
  have stand : ∀ {τ : L2.St} {G : Hp} {u : Shared}, Inv (X.blk s3 H3 sc ce fp) [] τ G u → (∀ b ∈ fp, G b = none) → ∀ b ∈ fp, FpOk (X.blk s3 H3 sc ce fp) [] G b := fun I' hn b hb =>
    ⟨hn b hb, (I'.ok.exf b hb).1, I'.ok.exfs b hb, .inl hb, fun x c z => (I'.ok.exf b hb).2 x c z, fun p hp => absurd (show p ∈ ([] : List (Addr × Obj)) ++ [] from hp) (by simp)⟩
  have loop : codeAny (model X.prog X.w) X.A (.compLoop (.DictComp kx vx [⟨ta, ea, [], 0⟩] sc ps) 0 (.ref it) (.ref D) ce) (compPost (model X.prog X.w) X.A X.xe none (fun v s' => EP X pins σ Q v s') (.ref D) s3.heap.objs.size) s4 := by
    refine compLoop_anyD (fun m u => ∃ i G, Inv (X.blk s3 H3 sc ce fp) [] (wipe σ (own.map (·.2))) G u ∧ tn i u.heap ∧ (∀ b ∈ fp, G b = none) ∧ W i m G) ?_ m0 ⟨0, H3, I4, st4, nfp, w0⟩
    rintro m u5 ⟨i, G5, I5, st5, n5, w5⟩
    rcases turn i m G5 w5 with ⟨stop, qq⟩ | ⟨go, Nx, hNx, step⟩
    · refine thnF (T.done (X.blk s3 H3 sc ce fp) rfl rfl rfl hc i [] u5 _ G5 (fun _ _ => False) I5 (stand I5 n5) st5 stop) fun r u6 ⟨hr, I6⟩ => ?_
      subst hr
      have I7 : Inv X pins σ G5 u6 := I3.call' (ch := fp) I6.os I6.base I6.hok I6.bare fun b hb => ⟨(f3 b hb).1.2.2.2.1, (f3 b hb).1.2.1, (f3 b hb).1.2.2.2.2.1, (f3 b hb).1.2.2.2.2.2⟩
      have nC : G5 ce.locals = none := I6.free
      obtain ⟨mm, hn, _⟩ := I6.loc
      have hn : u6.heap.Ns ce.locals mm := hn
      rw [cL] at hn nC
      refine ⟨mm, hn, fun g sb => ?_⟩
      obtain ⟨f0, f1, f2', f3', f4, f5⟩ := I3.fpOk (Nat.le_refl _) nC
      exact ⟨.ref D, G5, I7.turned (t' := u6.toks) (fun b o hb z => (sb.2 b hb).trans z) f0 f1 f3' f4 f5, rfl, qq⟩
    · refine thnF (T.item (X.blk s3 H3 sc ce fp) rfl rfl rfl hc i [] u5 _ G5 (fun _ _ => False) I5 (stand I5 n5) st5 go) fun r u6 ⟨got, hr, h6⟩ => ?_
      subst hr
      refine thnF h6 fun _ u7 ⟨x, G7, I7, r7, y7, st7, n7⟩ => ?_
      have I7' := I7.pinned (stand I7 n7) (T.obj _ _ st7)
      refine thnF (gA.run _ u7 _ G7 x got _ I7' r7 (step x G7 y7)) fun _ u8 ⟨σ8, G8, I8, hw8, q8⟩ => ?_
      refine wpAny_pure ?_
      simp only [if_true]
      have fin : ∀ {u : Shared} {G : Hp}, Inv (X.blk s3 H3 sc ce fp) ([] ++ pinsAt fp u7.heap) σ8 G u → Nx G → ∃ m', m' < m ∧ ∃ i G, Inv (X.blk s3 H3 sc ce fp) [] (wipe σ (own.map (·.2))) G u ∧ tn i u.heap ∧ (∀ b ∈ fp, G b = none) ∧ W i m' G := fun {u G} I' nx => by
        obtain ⟨m', hm, w'⟩ := hNx G nx
        have pin' : ∀ b ∈ fp, ∀ o, u7.heap.get? b = some o → u.heap.get? b = some o ∧ G b = none := fun b hb o z =>
          have zz := I'.pin (b, o) (List.mem_append_right _ (List.mem_append_right _ (mem_pinsAt hb z)))
          ⟨zz.1, zz.2.1⟩
        have hl : (wipe σ (own.map (·.2))).length = σ8.length := by rw [← hw8, wipe_length]
        refine ⟨m', hm, i + 1, G, (I'.unpinned (pins := [])).weak hl (fun j v z => ?_), T.keep _ _ _ st7 fun b hb o z => (pin' b hb o z).1, fun b hb => ?_, w'⟩
        · rw [← hw8] at z
          exact (wipe_some z).1
        · obtain ⟨o, z, _⟩ := T.obj _ _ st7 b hb
          exact (pin' b hb o z).2
      refine thnF (gK.run _ u8 σ8 G8 _ I8 q8) fun z u10 ⟨yk, G10, I10, r10, q10⟩ => ?_
      refine thnF (gV.run _ u10 σ8 G10 _ I10 q10) fun z2 u11 ⟨yv, G11, I11, r11, b, qk, L, ek, hb, hDL, hL, hne, few, nx⟩ => ?_
      subst ek
      cases r10
      exact dset_inv (X := X.blk s3 H3 sc ce fp) I11 hDL hL hb hne few r11 (show X.A.units < cLine by omega) fun u12 I12 => fin I12 nx
  exact codeAny_compStart_dict loop (T.self X.A 0 _ _ _ st4 loop)
end
end Fm
namespace Fm
open PySem PySem.Spec PyProof.Rows L2 PySem.W
section
variable {X : Cx} {K : PySem.W.Frag} {P : Program} {w : World}
/-- what the dict has for a tuple of ints -/
def findT (L : List (Addr × List Int × L2.V)) (q : List Int) : Option L2.V := (L.find? fun p => decide (p.2.1 = q)).map (·.2.2)
/-- d.setdefault(k, z) -/
def tDSetT (K : PySem.W.Frag) (P : Program) (w : World) (td ty tx : TE) : TE := fun σ H Q => td σ H fun x H1 => (∃ a F, x = .ref a ∧ H1 a = some (DTO P w a F)) ∧ ty σ H1 fun y H2 => tx σ H2 fun z H3 =>
  ∃ (a b : Addr) (L : List (Addr × List Int × L2.V)) (q : List Int), x = .ref a ∧ y = .ref b ∧ H3 a = some (DTO P w a (ValF L)) ∧ (∀ p ∈ L, SqT K H3 p.1 (p.2.1.map V.int)) ∧ SqT K H3 b (q.map V.int) ∧ L.length ≤ 100000 ∧
    (∀ v, findT L q = some v → Q v H3) ∧ (findT L q = none → Q z (upd H3 a (DTO P w a (ValF (L ++ [(b, q, z)])))))
theorem pe_dsetT {o e f : Expr} {apos cpos : Pos} {td ty tx : TE} (hu : X.A.units + 64 < cLine) (ho : PE X o td) (he : PE X e ty) (hf : PE X f tx) (m : M2 X o "setdefault" apos e f cpos) (eK : X.K = K := by rfl) (eP : X.prog = P := by rfl) (ew : X.w = w := by rfl) :
    PE X (.Call (.Attribute o "setdefault" apos) [e, f] [] cpos) (tDSetT K P w td ty tx) := by
  subst eK eP ew
  refine ⟨fun pins s σ H Q I h => ?_⟩
  refine wpAny_Call_method m.base m.few m.line F.plainAttrs_dict F.slot_dict_setdefault F.type_dict_setdefault (thn (ho.run pins s σ H _ I h) fun u s1 ⟨x, H1, I1, rx, ⟨a, G, ex, hd⟩, q1⟩ => ?_)
  subst ex
  cases rx
  obtain ⟨xs, _, sysm, _, ob, es, ep, g1, g2, _⟩ := Inv.dto I1 (.inl hd)
  refine ⟨⟨ob, g1, g2.1⟩, fun c z => (by cases z; exact ⟨ob, g1, g2.2.1⟩), ?_⟩
  rw [m.trees]
  refine Calls.callWith_builtin rfl (Calls.evalArgs_plain (Calls.spliced_cons (thn (he.run pins s1 σ H1 _ I1 q1) fun iv s2 ⟨y, H2, I2, ry, q2⟩ =>
    Calls.spliced_cons (thn (hf.run pins s2 σ H2 _ I2 q2) fun fv s3 ⟨z, H3, I3, rz, a', b, L, q, ea, eb, hd3, hL, hb, hl, q3, q4⟩ => Calls.spliced_nil ?_))))
  cases ea
  subst eb
  cases ry
  obtain ⟨ys, hF, hraw⟩ := Inv.dto I3 (.inl hd3)
  have hyl : ys.length = L.length := (Paired.length hF).symm
  have hkeys : ∀ x ∈ ys, IsT X.prog X.w s3.heap x.1 x.2.1 := fun x hx => by
    obtain ⟨p, hp, e1, e2⟩ := valF_mem hF x hx
    rw [e1, e2]
    exact Inv.isT I3 (hL p hp)
  have rl : RelO (findT L q) ((atKey ys q).map (·.2)) := hF.find q
  refine call_setdefault_heap (knd := TK X.prog X.w) (hsz := by rw [hyl, sizeLine_eq]; omega) (show X.A.units + 1 < cLine by omega) (Inv.isT I3 hb) hraw.1 (hraw.full hkeys) (fun p hp => ?_) fun hn h' hm sb => ?_
  · rw [hp] at rl
    cases hv : findT L q with
    | none =>
      rw [hv] at rl
      exact (show False from rl).elim
    | some v =>
      rw [hv] at rl
      exact ⟨v, H3, I3.tok _, rl, q3 v hv⟩
  · have hnone : findT L q = none := by
      rw [hn] at rl
      cases hv : findT L q with
      | none => rfl
      | some v =>
        rw [hv] at rl
        exact (show False from rl).elim
    have es' : storedH ys q b fv = ys ++ [(q, b, fv)] := by
      unfold storedH
      rw [if_neg (by rw [hn]; exact Bool.false_ne_true)]
    rw [es'] at hm
    have he : ∃ u, h'.get? a = some u := by
      obtain ⟨o, _, _, y, _⟩ := hm
      exact ⟨o, y⟩
    exact ⟨z, _, I3.write (e := a) (t' := s3.toks + (TK X.prog X.w).draws q) (by rw [hd3]; trivial) (.inl rfl) (fun c u hc hu => (sb.2 c hc).trans hu) he (dto_ok (F := ValF (L ++ [(b, q, z)])) (Paired.snoc hF ⟨rfl, rfl, rz⟩) (raw_of hm hraw.1)), rz, q4 hnone⟩
/-- {}, to be a dict with such keys -/
def tDNewT (P : Program) (w : World) : TE := fun _ H Q => ∀ p, H p = none → Q (.ref p) (upd H p (DTO P w p (ValF [])))
theorem pe_dnewT {pos : Pos} (eP : X.prog = P := by rfl) (ew : X.w = w := by rfl) : PE X (.Dict [] [] pos) (tDNewT P w) := by
  subst eP ew
  refine ⟨fun pins s σ H Q I h => ?_⟩
  have hs : (s.heap.objs.size == sysModules) = false := beq_eq_false_iff_ne.mpr (Ne.symm (Nat.ne_of_lt I.big))
  exact wpAny_Dict_empty ⟨.ref s.heap.objs.size, _, I.laid (a := s.heap.objs.size) (o := DTO X.prog X.w s.heap.objs.size (ValF [])) (t' := s.toks) (fun _ _ q => Heap.get?_push_of_some _ q) (Nat.le_refl _) (dto_ok (F := ValF []) (xs := []) .nil (raw_of (Heap.DictOfH.new s.heap) hs)), rfl, h _ (I.hok.fresh (Nat.le_refl _))⟩
end
end Fm
/-! Dicts whose keys are boxes: compared, copied, cleared, made of pairs, asked, told anew. -/
namespace Fm
open PySem PySem.Spec PyProof.Rows L2 PySem.W
open PySem.SeqAt (EqIn EqAt)
section
variable {prog : Program} {w : World} {K : Type} [DecidableEq K] {knd : HeapKind prog w K} {A : Around} {E : Value → Shared → Prop} {s : Shared}
def HitsH (prog : Program) (w : World) {K : Type} [DecidableEq K] (A : Around) (s : Shared) (kb ks : List (K × Addr × Value)) : Prop := ∀ x ∈ ks, ∃ p, atKey kb x.1 = some p ∧ EqIn prog w A s x.2.2 p.2 true
theorem samePairsH {nm : String} {a b : Addr} {ka kb : List (K × Addr × Value)} {Q : Bool → Shared → Prop} (hu : knd.room A) (ha : (a == sysModules) = false) (hb : (b == sysModules) = false)
    (da : s.heap.DictOfH knd a ka) (db : s.heap.DictOfH knd b kb) (hl : ka.length = kb.length) (hits : HitsH prog w A s kb ka) (h : Q true s) :
    wpAny (model prog w) A (Builtin.Dict.samePairs nm a b) Q E s := by
  obtain ⟨oa, es, ep, hoa, _, hda, hea, hia, hna⟩ := da
  obtain ⟨ob, es', ep', hob, _, hdb, heb, hib, hnb⟩ := db
  have hla : es.size = ka.length := size_of_entries hea
  have hlb : es'.size = kb.length := size_of_entries heb
  have hsz : es.size = es'.size := by omega
  unfold Builtin.Dict.samePairs Builtin.Dict.showsAll
  rw [if_neg (show ¬ (a == sysModules) = true by rw [ha]; exact Bool.false_ne_true), if_neg (show ¬ (b == sysModules) = true by rw [hb]; exact Bool.false_ne_true)]
  refine wpAny_bind (wpAny_pure (wpAny_bind (wpAny_pure ?_)))
  refine wpAny_bind (wpAny_dictEntries hoa hda ?_)
  dsimp only
  refine wpAny_bind (wpAny_dictEntries hob hdb ?_)
  rw [if_neg (by rw [hsz]; simp)]
  refine wpAny_bind (wpAny_dictEpoch hoa hda ?_)
  refine wpAny_bind ?_
  rw [Std.Legacy.Range.forIn_eq_forIn_range']
  simp only [Std.Legacy.Range.size, Nat.sub_zero, Nat.add_sub_cancel, Nat.div_one]
  refine wpAny_forIn_list _
    (fun rest q s' => s' = s ∧ q = (none, ()) ∧ ∃ i, rest = List.range' i (es.size - i) ∧ i ≤ es.size)
    _ ?_ ?_ _ _ ⟨rfl, rfl, 0, by simp, Nat.zero_le _⟩
  · rintro x rest q s' ⟨rfl, rfl, i, hr, hi⟩
    have hlt : i < es.size := by
      rcases Nat.lt_or_ge i es.size with h | h
      · exact h
      · rw [Nat.sub_eq_zero_of_le h] at hr; simp at hr
    obtain ⟨rfl, hrest⟩ : x = i ∧ rest = List.range' (i + 1) (es.size - (i + 1)) := by
      have e : es.size - i = (es.size - (i + 1)) + 1 := by omega
      rw [e, List.range'_succ] at hr
      injection hr with h1 h2
      exact ⟨h1, h2⟩
    refine wpAny_bind (wpAny_dictEntries hoa hda ?_)
    have hlt' : x < ka.length := by omega
    have hx := List.getElem?_eq_getElem hlt'
    generalize ka[x] = kx at hx
    obtain ⟨k, ak, v⟩ := kx
    have hmem := List.mem_of_getElem? hx
    obtain ⟨p, hp, heq⟩ := hits _ hmem
    rw [entry_at hea x, hx]
    show wpAny _ _ (holding [Value.ref ak, v] _ >>= _) _ _ _
    refine wpAny_bind (wpAny_holding (wpAny_bind (wpAny_dictFind_heap hu (hia _ hmem) hob hdb heb hib hnb (fun hnone => ?_) fun j pj hj => ?_)))
    · rw [atKey_none_of_get hnone] at hp
      cases hp
    · have hpj := atKey_of_get hnb hj
      rw [hpj] at hp
      have ep := Option.some.inj hp
      subst ep
      refine wpAny_bind (wpAny_dictEntries hob hdb ?_)
      rw [entry_at heb j, hj]
      refine wpAny_holding (heq _ _ ?_)
      show wpAny _ _ (if (!true) = true then _ else _) _ _ _
      rw [if_neg (by decide)]
      refine wpAny_bind (wpAny_dictEpoch hoa hda ?_)
      rw [if_neg (by simp)]
      exact wpAny_pure ⟨rfl, rfl, x + 1, hrest, hlt⟩
  · rintro q s' ⟨rfl, rfl, i, hr, hi⟩
    exact wpAny_pure h
theorem keqH_ne {a b : Addr} {ka kb : List (K × Addr × Value)} {Q : Value → Shared → Prop} (hr : knd.room A.in1) (ha : (a == sysModules) = false) (hb : (b == sysModules) = false)
    (da : s.heap.DictOfH knd a ka) (db : s.heap.DictOfH knd b kb) (hu : A.units < cLine) (hl : ka.length = kb.length) (hits : HitsH prog w A.in1 s kb ka) (h : Q (.bool false) s) :
    wpAny (model prog w) A (compareOp .NotEq (.ref a) (.ref b)) Q E s := by
  refine wpAny_richCompare_same_room (op := .NotEq) da.typeIs db.typeIs PySem.F.slot_dict_ne (wpAny_call_entry PySem.F.slot_dict_ne da.typeIs PySem.F.entry_dict_ne ?_ (PySem.F.args_dict_ne_2 _ _)) hu
  show wpAny _ _ (Builtin.Dict.dictSlotArgs "__ne__" ⟨[.ref a, .ref b], []⟩ >>= _) _ _ s
  refine wpAny_bind ?_
  unfold Builtin.Dict.dictSlotArgs
  refine wpAny_bind (wpAny_notOrdered_dict da.typeIs ?_)
  show wpAny _ _ (pure (Value.ref a, Value.ref b)) _ _ s
  refine wpAny_pure ?_
  refine wpAny_bind (wpAny_isInstance (T := "dict") db.typeIs PySem.F.sub_dict_dict ?_)
  simp only [Bool.not_true, Bool.false_eq_true, if_false]
  refine wpAny_bind (wpAny_pure (wpAny_bind (wpAny_pure ?_)))
  refine wpAny_bind (samePairsH hr ha hb da db hl hits ?_)
  refine wpAny_pure ⟨_, rfl, ?_, ?_⟩
  · exact fun x => nomatch x
  · simpa using h
/-- dict(o) -/
theorem call_dictH {o : Addr} {more : List (K × Addr × Value)} {Q : Value → Shared → Prop} (hu : knd.room A.in1.in1) (hoS : (o == sysModules) = false) (ho : s.heap.DictOfH knd o more)
    (ho' : ∀ x, (s.heap.push x).DictOfH knd o more) (hty : ∀ x ∈ more, ∀ y, ({ s with heap := s.heap.push y } : Shared).TypeIs (.ref x.2.1) "tuple") (hap : (more.map fun x => knd.hash x.1).Nodup) (hsz : more.length ≤ sizeLine)
    (h : ∀ h', h'.DictOfH knd s.heap.objs.size more → Heap.SameBut s.heap.objs.size (s.heap.push { cls := .type "dict", data := .dict #[] }) h' → Q (.ref s.heap.objs.size) { s with heap := h' }) :
    wpAny (model prog w) A (call (.type "dict") [.ref o]) Q E s := by
  refine callType_codes (Q₁ := fun obj s₁ => obj = .ref s.heap.objs.size ∧ s₁ = { s with heap := s.heap.push { cls := .type "dict", data := .dict #[] } }) F.kt_called_dict (F.kt_typeCall_dict_1 _) F.entry_dict_init (kt_code_dict_new _ ⟨rfl, rfl⟩) ?_
  rintro obj s₁ ⟨rfl, rfl⟩
  have hnew : (s.heap.push { cls := .type "dict", data := .dict #[] }).DictOfH knd s.heap.objs.size [] := Heap.DictOfH.new s.heap
  have ho2 := ho' { cls := .type "dict", data := .dict #[] }
  have hn : (more.map (·.1)).Nodup := ho.nodup
  have hdo : s.heap.objs.size ≠ o := by
    obtain ⟨_, _, _, hg, _⟩ := ho
    exact fun e => absurd (Heap.lt_size hg) (by rw [e]; exact Nat.lt_irrefl _)
  refine ⟨hnew.typeIs, F.args_dict_init_2 _ _, ?_⟩
  unfold Builtin.«dict.__init__»
  refine wpAny_bind ?_
  unfold Builtin.Dict.selfAndRest
  refine wpAny_bind (wpAny_notOrdered_dict hnew.typeIs ?_)
  show wpAny _ _ (pure (s.heap.objs.size, [Value.ref o])) _ _ _
  refine wpAny_pure ?_
  show wpAny _ _ (Builtin.Dict.updateFrom "dict.__init__" s.heap.objs.size (.ref o) [] .none) _ _ _
  refine updateFrom_dictH .none hu hdo hoS hnew ho2 (.inr ⟨fun x hx => hty x hx _, hap⟩) (by simpa using hsz) fun h' hd' _ hs' => ?_
  rw [storedAllH_nil_of_nodup _ hn] at hd'
  exact ⟨rfl, h h' hd' hs'⟩
end
section
variable {X : Cx} {K : PySem.W.Frag} {P : Program} {w : World} {pins : List (Addr × Obj)} {σ : L2.St} {H : Hp} {s : Shared}
/-- a == b, a != b: what both have is alike -/
def BoxEq (K : PySem.W.Frag) (H : Hp) (L1 L2 : BoxL) : Prop := L1.length = L2.length ∧ ∀ p ∈ L1, ∃ v, findB L2 p.2.1 = some v ∧ ∃ c : List Int, Dp K H p.2.2 (.tuple (c.map PyData.int)) ∧ Dp K H v (.tuple (c.map PyData.int))
def rNeB (K : PySem.W.Frag) (P : Program) (w : World) : R2 := fun x y H Q => ∃ (a b : Addr) (L1 L2 : BoxL), x = .ref a ∧ y = .ref b ∧ Rd H a (DBO P w a L1) ∧ Rd H b (DBO P w b L2) ∧ BoxesAt K H L1 ∧ BoxesAt K H L2 ∧ BoxEq K H L1 L2 ∧ Q (.bl false) H
theorem depth_ints : ∀ c : List Int, PyData.depthAll (c.map PyData.int) = 0
  | [] => rfl
  | i :: c => by
    rw [List.map_cons]
    show max 0 (PyData.depthAll (c.map PyData.int)) = 0
    rw [depth_ints c]
    rfl
theorem eqv_intsT (c : List Int) : PyData.eqv (.tuple (c.map PyData.int)) (.tuple (c.map PyData.int)) = true := by
  rw [PyData.eqv]
  induction c with
  | nil => rfl
  | cons x c ih =>
    rw [List.map_cons, PyData.eqvAll, ih, PyData.eqv]
    simp
theorem op_neB (hu : X.A.units + 64 < cLine) (eK : X.K = K := by rfl) (eP : X.prog = P := by rfl) (ew : X.w = w := by rfl) : OpR X (compareOp .NotEq) (rNeB K P w) := by
  subst eK eP ew
  intro pins s σ H x y v u Q I rx ry h
  obtain ⟨a, b, L1, L2, rfl, rfl, ha, hb, h1, h2, ⟨hl, he⟩, q⟩ := h
  cases rx
  cases ry
  obtain ⟨xs, hF, hd⟩ := Inv.dbo I ha
  obtain ⟨ys, hG, hd2⟩ := Inv.dbo I hb
  have lx : xs.length = L1.length := (Paired.length hF).symm
  have ly : ys.length = L2.length := (Paired.length hG).symm
  refine keqH_ne (knd := NK X.prog X.w) (show X.A.units + 1 + 8 < cLine by omega) hd.1 hd2.1 (boxes_full I hF hd h1) (boxes_full I hG hd2 h2) (show X.A.units < cLine by omega) (by omega) (fun x hx => ?_) ⟨.bl false, H, I, rfl, q⟩
  obtain ⟨i, hi, ei⟩ := List.mem_iff_getElem.mp hx
  have hxi : xs[i]? = some x := by rw [← ei]; exact List.getElem?_eq_getElem hi
  have hpi : L1[i]? = some (L1[i]'(by omega)) := List.getElem?_eq_getElem (by omega)
  obtain ⟨r1, r2, r3⟩ : x.2.1 = (L1[i]'(by omega)).1 ∧ x.1 = bk (L1[i]'(by omega)).2.1 ∧ RelV (L1[i]'(by omega)).2.2 x.2.2 := by
    obtain ⟨y, hy, r⟩ := _root_.L2.paired_get hF hpi
    rw [hxi] at hy
    cases hy
    exact r
  generalize L1[i]'(by omega) = p at hpi r1 r2 r3
  obtain ⟨v, hv, c, d1, d2⟩ := he p (List.mem_of_getElem? hpi)
  have rl := hG.find p.2.1
  rw [hv, ← r2] at rl
  cases hz : atKey ys x.1 with
  | none =>
    rw [hz] at rl
    exact (show False from rl).elim
  | some z =>
    rw [hz] at rl
    refine ⟨z, rfl, ?_⟩
    obtain ⟨as, q1⟩ := Dp.reads I _ _ x.2.2 d1 r3
    obtain ⟨bs, q2⟩ := Dp.reads I _ _ z.2 d2 rl
    have y := eqAt_alike (.tuple (c.map PyData.int)) (.tuple (c.map PyData.int)) X.A.in1 s x.2.2 z.2 as bs q1 q2 (show alikeAll _ _ = true from alike_ints c c) (by
      show X.A.units + 1 + min (PyData.depthAll (c.map PyData.int) + 1) (PyData.depthAll (c.map PyData.int) + 1) < cLine
      rw [depth_ints]
      show X.A.units + 1 + min 1 1 < cLine
      omega)
    rw [eqv_intsT] at y
    exact y.inModel _ _
/-- dict(d) -/
def rDictCB (K : PySem.W.Frag) (P : Program) (w : World) : List V → Hp → VK → Prop := fun xs H Q => ∃ (a : Addr) (L : BoxL), xs = [V.ref a] ∧ Rd H a (DBO P w a L) ∧ BoxesAt K H L ∧ (L.map fun p => (bk p.2.1).hash w).Nodup ∧ L.length ≤ 100000 ∧ ∀ d, H d = none → Q (.ref d) (upd H d (DBO P w d L))
theorem call_dictCB (hu : X.A.units + 64 < cLine) (eK : X.K = K := by rfl) (eP : X.prog = P := by rfl) (ew : X.w = w := by rfl) : CallR X (.type "dict") (rDictCB K P w) := by
  subst eK eP ew
  intro pins s σ H xs us Q I r h
  obtain ⟨a, L, rfl, ha, hL, hh, few, q⟩ := h
  rw [Vals.ref1 r]
  obtain ⟨xs, hF, hd⟩ := Inv.dbo I ha
  have lx : xs.length = L.length := (Paired.length hF).symm
  have dd := boxes_full I hF hd hL
  have key : ∀ x ∈ xs, NestedIs s.heap x.1 (.ref x.2.1) := fun x hx => by
    obtain ⟨p, hp, e1, e2⟩ := valB_mem hF x hx
    rw [e1, e2]
    exact (Inv.boxKey I (hL p hp)).1
  refine call_dictH (knd := NK X.prog X.w) (show X.A.units + 1 + 1 + 8 < cLine by omega) hd.1 dd (fun x => ?_) (fun x hx y => ?_) ?_ (by rw [lx, sizeLine_eq]; omega) fun h' hd' hs => ?_
  · have sb : ∀ b o, s.heap.get? b = some o → (s.heap.push x).get? b = some o := fun b o e => Heap.get?_push_of_some _ e
    obtain ⟨o, es, ep, g1, g2, g3, g4, g5, g6⟩ := dd
    exact ⟨o, es, ep, sb _ _ g1, g2, g3, g4, fun z hz => nestedKind_stays.stays (fun b o vs n e _ => sb b o e) (g5 z hz), g6⟩
  · have k := key x hx
    obtain ⟨p, hp, e1, e2⟩ := valB_mem hF x hx
    rw [e2] at k
    unfold bk at k
    cases k with
    | tup h1 h2 _ _ => exact ⟨_, Heap.get?_push_of_some _ h1, h2⟩
  · have e : (xs.map fun x => (NK X.prog X.w).hash x.1) = L.map fun p => (bk p.2.1).hash X.w := by
      have : xs.map (fun x => x.1) = L.map fun p => bk p.2.1 := by
        clear key dd hd lx ha hL hh few q
        unfold ValB at hF
        induction hF with
        | nil => rfl
        | cons r _ ih => rw [List.map_cons, List.map_cons, ih, r.2.1]
      have e2 := congrArg (List.map fun k => NestedKey.hash X.w k) this
      rw [List.map_map, List.map_map] at e2
      exact e2
    rw [e]
    exact hh
  · have hm : (s.heap.objs.size == sysModules) = false := beq_eq_false_iff_ne.mpr (Nat.ne_of_gt I.big)
    exact ⟨.ref s.heap.objs.size, _, I.laid (a := s.heap.objs.size) (t' := s.toks) (fun b u e => (hs.2 b (Nat.ne_of_lt (Heap.lt_size e))).trans (Heap.get?_push_of_some _ e)) (Nat.le_refl _) (dbo_ok hF (braw_of hd' hm)), rfl, q _ (I.hok.fresh (Nat.le_refl _))⟩
/-- isinstance(d, dict) -/
def rIsiB (P : Program) (w : World) : List V → Hp → VK → Prop := fun xs H Q => ∃ (a : Addr) (L : BoxL), xs = [.ref a, .ty "dict"] ∧ Rd H a (DBO P w a L) ∧ Q (.bl true) H
theorem call_isiB (eP : X.prog = P := by rfl) (ew : X.w = w := by rfl) : CallR X (.builtin "isinstance") (rIsiB P w) := by
  subst eP ew
  intro pins s σ H xs us Q I r h
  obtain ⟨a, L, rfl, ha, q⟩ := h
  obtain ⟨u1, u2, rfl, r1, r2⟩ := vals2 r
  cases (show u1 = Value.ref a from r1)
  cases (show u2 = Value.type "dict" from r2)
  obtain ⟨xs, _, _, _, o, es, ep, g1, g2, _⟩ := Inv.dbo I ha
  exact PySem.W.kia_one PySem.W.kitx_dict I.kIn ⟨o, g1, g2.1⟩ (show PySem.W.kitOne X.K (.type "dict") (.type "dict") = some true from if_pos (beq_self_eq_true _)) (fun z => nomatch z) fun tk => ⟨.bl true, H, I.tok tk, rfl, q⟩
end
end Fm
namespace Fm
open PySem PySem.Spec PyProof.Rows L2 PySem.W
section
variable {X : Cx} {K : PySem.W.Frag} {P : Program} {w : World} {pins : List (Addr × Obj)} {σ : L2.St} {H : Hp} {s : Shared}
/-! ### d.clear() -/
def tClearB (P : Program) (w : World) (to : TE) : TE := fun σ H Q => to σ H fun x H1 => ∃ (a : Addr) (L : BoxL), x = .ref a ∧ H1 a = some (DBO P w a L) ∧ L.length ≤ 100000 ∧ Q .non (upd H1 a (DBO P w a []))
theorem pe_clearB {o : Expr} {to : TE} {apos cpos : Pos} (ho : PE X o to) (hbase : attributeBase o "clear" X.env (eval o X.env) = eval o X.env := by rfl) (hline : (apos.endLine == cpos.line) = true := by rfl) (eP : X.prog = P := by rfl) (ew : X.w = w := by rfl) :
    PE X (.Call (.Attribute o "clear" apos) [] [] cpos) (tClearB P w to) := by
  subst eP ew
  refine ⟨fun pins s σ H Q I h => ?_⟩
  refine wpAny_Call_method0_late hbase hline (thn (ho.run pins s σ H _ I h) fun v s1 ⟨x, H1, I1, r1, a, L, ex, hd, hl, q⟩ => ?_)
  subst ex
  cases r1
  obtain ⟨xs, hF, sysm, _, ob, es, ep, g1, g2, g3, g4⟩ := Inv.dbo I1 (.inl hd)
  have lx : xs.length = L.length := (Paired.length hF).symm
  refine ⟨"dict", "dict.clear", F.plainAttrs_dict, F.slot_dict_clear, F.type_dict_clear, ⟨ob, g1, g2.1⟩, fun c e => (by cases e; exact ⟨ob, g1, g2.2.1⟩), Calls.callWith_builtin rfl (PySem.evalArgs_none ?_)⟩
  have hr : s1.heap.DictRaw a es ep := ⟨ob, g1, g2, g3⟩
  refine call_meetsIn F.slot_dict_clear hr.typeIs F.entry_dict_clear (F.args_dict_clear_1 _) (meets_dict_clear_raw a) ⟨es, ep, hr, by rw [size_of_entries g4, lx, sizeLine_eq]; omega, fun h' hr' hs' => ?_⟩
  obtain ⟨o', ho', hc', hd'⟩ := hr'
  exact ⟨.non, _, I1.write (e := a) (t' := s1.toks) (by rw [hd]; trivial) (.inl rfl) (fun c u hc hu => (hs'.2 c hc).trans hu) ⟨_, ho'⟩ (dbo_ok (xs := []) .nil ⟨sysm, List.nodup_nil, o', #[], ep + 1, ho', hc', hd', rfl⟩), rfl, q⟩
/-! ### dict(list of pairs) -/
abbrev PrB := List (Addr × Addr × (List Int × List Int) × V)
def PrBAt (K : PySem.W.Frag) (H : Hp) (M : PrB) : Prop := ∀ m ∈ M, SqT K H m.1 [.ref m.2.1, m.2.2.2] ∧ BoxAt K H m.2.1 m.2.2.1
abbrev NB := List ((Addr × Addr × (List Int × List Int) × V) × Value)
theorem prb_vals (I : Inv X pins σ H s) : ∀ {M : PrB}, PrBAt X.K H M → ∃ N : NB, N.map (·.1) = M ∧ ∀ n ∈ N, RelV n.1.2.2.2 n.2 ∧ IsTup s.heap n.1.1 #[.ref n.1.2.1, n.2] ∧ (NK X.prog X.w).is s.heap (bk n.1.2.2.1) n.1.2.1
  | [], _ => ⟨[], rfl, fun n hn => (by cases hn)⟩
  | m :: M, h => by
    obtain ⟨N, e, hN⟩ := prb_vals I (M := M) fun z hz => h z (List.mem_cons_of_mem _ hz)
    obtain ⟨h1, h2⟩ := h m List.mem_cons_self
    obtain ⟨its, rv, pt, _⟩ := I.tuple h1
    cases rv with
    | cons r1 rr =>
      cases rr with
      | cons r2 rn =>
        cases rn
        cases r1
        rename_i u
        refine ⟨(m, u) :: N, by rw [List.map_cons, e], fun n hn => ?_⟩
        rcases List.mem_cons.mp hn with z | z
        · rw [z]
          exact ⟨r2, pt, Inv.boxKey I h2⟩
        · exact hN n z
theorem tsB {N : NB} {j : Nat} {n : (Addr × Addr × (List Int × List Int) × V) × Value} (h : N[j]? = some n) : ((N[j]?).map (·.1.1)).getD 0 = n.1.1 := by rw [h] <;> rfl
theorem prb_items {h : Heap} {N : NB} {its : List Value} (e : its = N.map fun n => Value.ref n.1.1) (hN : ∀ n ∈ N, IsTup h n.1.1 #[.ref n.1.2.1, n.2]) :
    PairItems h its.toArray (fun j => ((N[j]?).map (·.1.1)).getD 0) (N.map fun n => (Value.ref n.1.2.1, n.2)) := by
  refine ⟨by rw [e] <;> simp, fun j k v hj => ?_⟩
  rw [List.getElem?_map] at hj
  obtain ⟨n, hn, en⟩ := Option.map_eq_some_iff.mp hj
  cases en
  refine ⟨?_, ?_⟩
  · rw [e]
    simp [hn]
  · show PairAt h (((N[j]?).map (·.1.1)).getD 0) _ _
    rw [tsB hn]
    exact .inl (hN n (List.mem_of_getElem? hn))
def entB (n : (Addr × Addr × (List Int × List Int) × V) × Value) : EntB := (bk n.1.2.2.1, n.1.2.1, n.2)
theorem prb_have {N : NB} : PairsHaveH (NK P w) (N.map fun n => (Value.ref n.1.2.1, n.2)).length (PairRel (N.map fun n => (Value.ref n.1.2.1, n.2))) (N.map entB) := by
  refine ⟨by simp, fun i key v hi => ?_⟩
  have hi' : (N.map fun n => (Value.ref n.1.2.1, n.2))[i]? = some (key, v) := hi
  rw [List.getElem?_map] at hi'
  obtain ⟨n, hn, en⟩ := Option.map_eq_some_iff.mp hi'
  cases en
  exact ⟨bk n.1.2.2.1, n.1.2.1, by rw [List.getElem?_map, hn] <;> rfl, rfl⟩
theorem valB_of {M : PrB} {N : NB} (e : N.map (·.1) = M) (hN : ∀ n ∈ N, RelV n.1.2.2.2 n.2) : ValB (M.map (·.2)) (N.map entB) := by
  subst e
  unfold ValB
  induction N with
  | nil => exact .nil
  | cons n N ih =>
    rw [List.map_cons, List.map_cons, List.map_cons]
    exact .cons ⟨rfl, rfl, hN n List.mem_cons_self⟩ (ih fun z hz => hN z (List.mem_cons_of_mem _ hz))
theorem nodup_bk : ∀ {qs : List (List Int × List Int)}, qs.Nodup → (qs.map bk).Nodup
  | [], _ => List.nodup_nil
  | q :: qs, h => by
    rw [List.nodup_cons] at h
    rw [List.map_cons, List.nodup_cons]
    refine ⟨fun hm => ?_, nodup_bk h.2⟩
    obtain ⟨z, hz, e⟩ := List.mem_map.mp hm
    exact h.1 (by rw [← bk_inj e]; exact hz)
def rDictLB (K : PySem.W.Frag) (P : Program) (w : World) : List V → Hp → VK → Prop := fun xs H Q => ∃ (a : Addr) (M : PrB), xs = [V.ref a] ∧ SqL K H a (M.map fun m => V.ref m.1) ∧ PrBAt K H M ∧ (M.map fun m => m.2.2.1).Nodup ∧ M.length ≤ 100000 ∧
  ∀ d, H d = none → Q (.ref d) (upd H d (DBO P w d (M.map (·.2))))
theorem call_dictLB (hc : X.calm = true) (hu : X.A.units + 64 < cLine) (eK : X.K = K := by rfl) (eP : X.prog = P := by rfl) (ew : X.w = w := by rfl) : CallR X (.type "dict") (rDictLB K P w) := by
  subst eK eP ew
  intro pins s σ H xs us Q I r h
  obtain ⟨a, M, rfl, ha, hM, nd, few, q⟩ := h
  rw [Vals.ref1 r]
  obtain ⟨N, e, hN⟩ := prb_vals I hM
  obtain ⟨its, rv, pl, hz⟩ := I.list ha
  have hi : its = N.map fun n => Value.ref n.1.1 := by
    have := refs_vals rv
    rw [this, ← e, List.map_map]
    rfl
  obtain ⟨ol, nl, g0, gc, gd, gdat⟩ := pl
  have ok : PlainSeq "list" s.heap a its.toArray ∧ PairItems s.heap its.toArray (fun j => ((N[j]?).map (·.1.1)).getD 0) (N.map fun n => (Value.ref n.1.2.1, n.2)) := ⟨⟨ol, nl, g0, gc, gd, gdat⟩, prb_items hi fun n hn => (hN n hn).2.1⟩
  have hlen : N.length = M.length := by rw [← e, List.length_map]
  have ndN : ((N.map entB).map (·.1)).Nodup := by
    have e1 : (N.map entB).map (·.1) = (M.map fun m => m.2.2.1).map bk := by
      rw [← e, List.map_map, List.map_map, List.map_map]
      rfl
    rw [e1]
    exact nodup_bk nd
  refine call_dict_pairsH (knd := NK X.prog X.w) (PairArg.list a its.toArray _ _) (I.ok.hd hc) (show X.A.units + 1 + 1 + 8 < cLine by omega) ok prb_have (fun g hk x hx => ?_) (by rw [List.length_map, sizeLine_eq]; omega) fun g tk hd hk => ?_
  · obtain ⟨n, hn, ex⟩ := List.mem_map.mp hx
    subst ex
    obtain ⟨k1, k2⟩ := (hN n hn).2.2
    exact ⟨NestedIs.at (fun b o vs m e _ => hk b o (Nat.ne_of_lt (Heap.lt_size e)) (by simp) e) _ _ k1, k2⟩
  · rw [storedAllH_nil_of_nodup _ ndN] at hd
    have hn : H s.heap.objs.size = none := I.hok.fresh (Nat.le_refl _)
    exact ⟨.ref s.heap.objs.size, _, I.laid (a := s.heap.objs.size) (t' := tk) (fun b ob z => hk b ob (by simp) z) (Nat.le_refl _) (dbo_ok (valB_of e fun n hn => (hN n hn).1) (braw_of hd (beq_eq_false_iff_ne.mpr (Ne.symm (Nat.ne_of_lt I.big))))), rfl, q _ hn⟩
/-! ### d.get(b, z) -/
def tDGetZ (K : PySem.W.Frag) (P : Program) (w : World) (td ty tx : TE) : TE := fun σ H Q => td σ H fun x H1 => (∃ a L, x = .ref a ∧ H1 a = some (DBO P w a L)) ∧ ty σ H1 fun y H2 => tx σ H2 fun z H3 =>
  ∃ (a b : Addr) (L : BoxL) (q : List Int × List Int), x = .ref a ∧ y = .ref b ∧ H3 a = some (DBO P w a L) ∧ BoxesAt K H3 L ∧ BoxAt K H3 b q ∧ Q ((findB L q).getD z) H3
theorem pe_dgetZ {o e f : Expr} {apos cpos : Pos} {td ty tx : TE} (hu : X.A.units + 64 < cLine) (ho : PE X o td) (he : PE X e ty) (hf : PE X f tx) (m : M2 X o "get" apos e f cpos) (eK : X.K = K := by rfl) (eP : X.prog = P := by rfl) (ew : X.w = w := by rfl) :
    PE X (.Call (.Attribute o "get" apos) [e, f] [] cpos) (tDGetZ K P w td ty tx) := by
  subst eK eP ew
  refine ⟨fun pins s σ H Q I h => ?_⟩
  refine wpAny_Call_method m.base m.few m.line F.plainAttrs_dict F.slot_dict_get F.type_dict_get (thn (ho.run pins s σ H _ I h) fun u s1 ⟨x, H1, I1, rx, ⟨a, G, ex, hd⟩, q1⟩ => ?_)
  subst ex
  cases rx
  obtain ⟨xs, _, sysm, _, ob, es, ep, g1, g2, _⟩ := Inv.dbo I1 (.inl hd)
  refine ⟨⟨ob, g1, g2.1⟩, fun c z => (by cases z; exact ⟨ob, g1, g2.2.1⟩), ?_⟩
  rw [m.trees]
  refine Calls.callWith_builtin rfl (Calls.evalArgs_plain (Calls.spliced_cons (thn (he.run pins s1 σ H1 _ I1 q1) fun iv s2 ⟨y, H2, I2, ry, q2⟩ =>
    Calls.spliced_cons (thn (hf.run pins s2 σ H2 _ I2 q2) fun fv s3 ⟨z, H3, I3, rz, a', b, L, q, ea, eb, hd3, hL, hb, q3⟩ => Calls.spliced_nil ?_))))
  cases ea
  subst eb
  cases ry
  obtain ⟨ys, hF, hraw⟩ := Inv.dbo I3 (.inl hd3)
  have dd := boxes_full I3 hF hraw hL
  refine call_meetsIn F.slot_dict_get dd.typeIs F.entry_dict_get (F.args_dict_get_3 _ _ _) (meetsH_dict_get_default (NK X.prog X.w) a b hraw.1 fv) ⟨show X.A.units + 1 + 8 < cLine by omega, bk q, ys, Inv.boxKey I3 hb, dd, ?_⟩
  exact ⟨_, H3, I3.tok _, (hF.find q).getD rz, q3⟩
/-! ### d[b] = v, whether b is there or not -/
def storeB (L : BoxL) (b : Addr) (q : List Int × List Int) (v : V) : BoxL := if (findB L q).isSome then L.map (fun p => if p.2.1 = q then (p.1, p.2.1, v) else p) else L ++ [(b, q, v)]
theorem valB_put {L : BoxL} {xs : List EntB} {q : List Int × List Int} {v : V} {r : Value} (h : ValB L xs) (rv : RelV v r) : ValB (L.map fun p => if p.2.1 = q then (p.1, p.2.1, v) else p) (xs.map (putAt (bk q) r)) := by
  unfold ValB at h ⊢
  induction h with
  | nil => exact .nil
  | @cons p x ps qs r1 _ ih =>
    rw [List.map_cons, List.map_cons]
    refine .cons ?_ ih
    obtain ⟨a1, a2, a3⟩ := r1
    unfold putAt
    by_cases e : p.2.1 = q
    · rw [if_pos e, if_pos (by rw [a2, e])]
      exact ⟨a1, a2, rv⟩
    · rw [if_neg e, if_neg (fun z => e (bk_inj (a2.symm.trans z)))]
      exact ⟨a1, a2, a3⟩
def sDPutR (K : PySem.W.Frag) (P : Program) (w : World) (td ty tv : TE) : TS := fun D σ H => tv σ H fun v H1 => td σ H1 fun x H2 => ty σ H2 fun y H3 => ∃ (a b : Addr) (q : List Int × List Int) (L : BoxL), x = .ref a ∧ y = .ref b ∧ H3 a = some (DBO P w a L) ∧ BoxesAt K H3 L ∧ BoxAt K H3 b q ∧ L.length ≤ 100000 ∧
  D.nx σ (upd H3 a (DBO P w a (storeB L b q v)))
theorem ps_dputR {o i value : Expr} {pos pos' : Pos} {td ty tv : TE} (hu : X.A.units + 64 < cLine) (ho : PE X o td) (hi : PE X i ty) (hv : PE X value tv) (hs : swapsWith value (some (.Subscript o i pos')) pos.line X.env = pure false) (eK : X.K = K := by rfl) (eP : X.prog = P := by rfl) (ew : X.w = w := by rfl) :
    PS X (.Assign [.Subscript o i pos'] value pos) (sDPutR K P w td ty tv) := by
  subst eK eP ew
  refine ⟨fun pins s σ H D I h => ?_⟩
  refine wpAny_Assign_Subscript (thn (hv.run pins s σ H _ I h) fun r s1 ⟨v, H1, I1, rv, q1⟩ => thn (ho.run pins s1 σ H1 _ I1 q1) fun u s2 ⟨x, H2, I2, rx, q2⟩ => thn (hi.run pins s2 σ H2 _ I2 q2) fun iv s3 ⟨y, H3, I3, ry, a, b, q, L, ex, ey, ha, hL, hb, hl, q3⟩ => ?_) hs
  subst ex ey
  cases rx
  cases ry
  obtain ⟨xs, hF, hd⟩ := Inv.dbo I3 (.inl ha)
  have hxl : xs.length = L.length := (Paired.length hF).symm
  refine wpAny_setItem_heap (knd := NK X.prog X.w) (hsz := by rw [hxl, sizeLine_eq]; omega) (show X.A.units + 1 + 8 < cLine by omega) (Inv.boxKey I3 hb) (boxes_full I3 hF hd hL) fun h' hm sb => ?_
  have he : ∃ u, h'.get? a = some u := by
    obtain ⟨o, _, _, z, _⟩ := hm
    exact ⟨o, z⟩
  have e : (findB L q).isSome = (atKey xs (bk q)).isSome := by
    rw [(hF.find q).isSome_eq, Option.isSome_map]
  have hF2 : ValB (storeB L b q v) (storedH xs (bk q) b r) := by
    unfold storeB storedH
    rw [e]
    by_cases z : (atKey xs (bk q)).isSome = true
    · rw [if_pos z, if_pos z]
      exact valB_put hF rv
    · rw [if_neg z, if_neg z]
      exact Paired.snoc hF ⟨rfl, rfl, rv⟩
  exact ⟨σ, _, I3.write (e := a) (t' := s3.toks + (NK X.prog X.w).draws (bk q)) (by rw [ha]; trivial) (.inl rfl) (fun c u hc hu => (sb.2 c hc).trans hu) he (dbo_ok hF2 (braw_of hm hd.1)), q3⟩
/-! ### for b, v in d.items() -/
def ItiB (P : Program) (w : World) (d : Addr) (o : Obj) (L : BoxL) : It := ⟨fun i H => H d = some (.frz o (DBO P w d L)) ∧ i < L.length, fun i H x H' => ∃ T p, L[i]? = some p ∧ x = .ref T ∧ H T = none ∧ H' = upd H T (.tup [.ref p.1, p.2.2]), fun i H => H d = some (.frz o (DBO P w d L)) ∧ L.length ≤ i⟩
theorem Inv.frzB2 {d : Addr} {o : Obj} {L : BoxL} (I : Inv X pins σ H s) (h : H d = some (.frz o (DBO X.prog X.w d L))) :
    (d == sysModules) = false ∧ s.heap.get? d = some o ∧ o.ExactDict ∧ ∃ (es : Array DictEntry) (ep : Nat), o.data = .dict es ep ∧ es.size = L.length ∧ ∀ (i : Nat) p, L[i]? = some p → ∃ en, es[i]? = some en ∧ en.key = .ref p.1 ∧ RelV p.2.2 en.val := by
  obtain ⟨g0, ⟨xs, hx, sy, _, o', es, ep, g1, g2, g3, g4⟩, _⟩ := I.hok d _ h
  rw [g0] at g1
  cases g1
  refine ⟨sy, g0, g2, es, ep, g3, by rw [size_of_entries g4, ← Paired.length hx], fun i p hi => ?_⟩
  obtain ⟨y, hy, r1, _, r3⟩ := _root_.L2.paired_get hx hi
  refine ⟨_, by rw [entry_at g4, hy] <;> rfl, ?_, r3⟩
  rw [← r1]
  rfl
theorem turn_itemsB {elts : List Expr} {kk : Nat} {tpos : Pos} {d : Addr} {o : Obj} {L : BoxL} {es : Array DictEntry} {ep : Nat} (it : Addr) (hod : o.data = .dict es ep) : Turn P w K (.Tuple elts kk tpos) (ItiB P w d o L) [it] it (fun i h => ∃ ok ov, IsItemIter h it d i L.length ep ok ov) where
  mem := List.mem_singleton.mpr rfl
  obj := fun i h st b hb => by
    rw [List.mem_singleton.mp hb]
    obtain ⟨ok, ov, e⟩ := st
    exact ⟨_, e, fun v z => nomatch z⟩
  keep := fun i h h' st k => let ⟨ok, ov, e⟩ := st; ⟨ok, ov, k it (by simp) _ e⟩
  item := by
    intro X hP hw hK hc i pins s σ H E I hf st hg
    subst hP hw hK
    obtain ⟨hd, hi⟩ := hg
    obtain ⟨hs, g0, hx, es', ep', hdt, hsz, ent⟩ := Inv.frzB2 I hd
    obtain ⟨rfl, rfl⟩ := dict_ep hod hdt
    obtain ⟨p, hp⟩ : ∃ p, L[i]? = some p := ⟨_, List.getElem?_eq_getElem hi⟩
    obtain ⟨en, hen, hk, hv⟩ := ent i p hp
    obtain ⟨ok, ov, he⟩ := st
    rw [← hsz] at he
    have hlt : it < s.heap.objs.size := Heap.lt_size he
    have hi' : i < es'.size := by omega
    have een : es'[i] = en := by
      rw [Array.getElem?_eq_getElem hi'] at hen
      exact Option.some.inj hen
    refine wpAny_pyNext_items_item_raw he ⟨o, g0, hx, hod⟩ hi' fun h' ho hT hz hk' => ?_
    rw [een] at ho hT
    refine ⟨_, rfl, wpAny_letOwnedTupleGo_items (s := { s with heap := h' }) ho fun h'' he' sb => ?_⟩
    have hT2 : h''.get? s.heap.objs.size = some { cls := .type "tuple", data := .seq #[en.key, en.val] } := (sb.2 _ (Nat.ne_of_gt hlt)).trans hT
    have new : ObjOk X.prog X.w (upd H s.heap.objs.size (.tup [.ref p.1, p.2.2])) h'' s.heap.objs.size (.tup [.ref p.1, p.2.2]) :=
      ⟨by show 2 ≤ sizeLine; decide, [en.key, en.val], .cons (by rw [hk]; exact rfl) (.cons hv .nil), ⟨_, hT2, rfl, _, rfl⟩⟩
    have I1 : Inv X pins σ (upd H s.heap.objs.size (.tup [.ref p.1, p.2.2])) { s with heap := h'' } :=
      I.turnedNew (t' := s.toks) (ch := [it]) (fun b ob hb e => (sb.2 b (by simpa using hb)).trans (hk' b ob (by simpa using hb) e)) hf (Nat.le_refl _) new
    refine ⟨.ref s.heap.objs.size, _, I1, rfl, ⟨_, p, hp, rfl, I.hok.fresh (Nat.le_refl _), rfl⟩, ⟨en.key, en.val, ?_⟩, fun b hb => ?_⟩
    · rw [← hsz]; exact he'
    · have e : b = it := by simpa using hb
      rw [e, upd_ne (Nat.ne_of_lt hlt)]
      exact (hf it (by simp)).1
  done := by
    intro X hP hw hK hc i pins s σ H E I hf st hg
    subst hP hw hK
    obtain ⟨hd, hi⟩ := hg
    obtain ⟨f0, f1, f2, f3, f4, f5⟩ := hf it (by simp)
    obtain ⟨hs, g0, hx, es', ep', hdt, hsz, ent⟩ := Inv.frzB2 I hd
    obtain ⟨rfl, rfl⟩ := dict_ep hod hdt
    obtain ⟨ok, ov, he⟩ := st
    rw [← hsz] at he
    exact wpAny_pyNext_items_end_raw (I.ok.hd hc) he ⟨o, g0, hx, hod⟩ (by omega) fun h' eb => ⟨rfl, I.turned (t' := s.toks) (fun b ob hb e => eb b ob hb e) f0 f1 f3 f4 f5⟩
  self := fun A i s Q E st h => let ⟨_, _, e⟩ := st; PySem.W.kcp_self e h
def iItemsB (P : Program) (w : World) (td : TE) : TI := fun σ H R => td σ H fun x H1 => ∃ d o L, x = .ref d ∧ H1 d = some (.frz o (DBO P w d L)) ∧ R (ItiB P w d o L) H1
theorem pi_itemsB {e : Expr} {td : TE} {apos cpos : Pos} {elts : List Expr} {kk : Nat} {tpos : Pos} (he : PE X e td) (hbase : attributeBase e "items" X.env (eval e X.env) = eval e X.env := by rfl) (hline : (apos.endLine == cpos.line) = true := by rfl) (eP : X.prog = P := by rfl) (ew : X.w = w := by rfl) :
    PI X (.Tuple elts kk tpos) (.Call (.Attribute e "items" apos) [] [] cpos) (iItemsB P w td) := by
  subst eP ew
  refine ⟨fun pins s σ H R I h => ?_⟩
  refine wpAny_Call_method (T := "dict") (id := "dict.items") hbase rfl hline F.plainAttrs_dict F.slot_dict_items F.type_dict_items (thn (he.run pins s σ H _ I h) fun u s1 ⟨x, H1, I1, rx, d, o, L, ex, hd, q⟩ => ?_)
  subst ex
  obtain rfl : u = Value.ref d := rx
  obtain ⟨hs, g0, hx, es, ep, hdt, hsz, ent⟩ := Inv.frzB2 I1 hd
  have hr : s1.heap.DictRaw d es ep := ⟨o, g0, hx, hdt⟩
  refine ⟨hr.typeIs, fun c e => (by cases e; exact ⟨o, g0, hx.2.1⟩), ?_⟩
  have I2 : Inv X pins σ H1 { s1 with heap := s1.heap.push { cls := .type "dict_items", data := .fields #[.ref d] } } := I1.kept (t' := s1.toks) fun b ob q => Heap.get?_push_of_some _ q
  have fin : wpAny (model X.prog X.w) X.A (pyIter (.ref s1.heap.objs.size)) (PIE X pins σ (.Tuple elts kk tpos) R) X.xe { s1 with heap := s1.heap.push { cls := .type "dict_items", data := .fields #[.ref d] } } := by
    refine wpAny_pyIter_items_raw (d := d) ⟨_, Heap.get?_push_size _ rfl, rfl, rfl⟩ (hr.at fun o' z => Heap.get?_push_of_some _ z) (pi_one (tk := s1.toks) I2 _ (turn_itemsB _ hdt) ⟨.none, .none, ?_⟩ q)
    rw [← hsz]
    exact Heap.get?_push_size _ rfl
  show wpAny _ _ (callWith cpos (.builtin "dict.items") [.ref d] [] []) _ X.xe s1
  exact method_meetsIn F.slot_dict_items F.entry_dict_items rfl (PySem.evalArgs_none ⟨rfl, hr.typeIs, F.args_dict_items_1 _, _, meets_dict_items_raw d hs, ⟨es, ep, hr⟩, fin⟩)
end
end Fm
/-! {p for .. in ..}: a set comprehension of one for, its members tuples of ints. -/
namespace Fm
open PySem PySem.Spec PyProof.Rows L2 PySem.W
abbrev sc1 (el ta ea : Expr) (sc : Scope) (ps : Pos) : Expr := .SetComp el [⟨ta, ea, [], 0⟩] sc ps
section
variable {X : Cx} {K : PySem.W.Frag} {P : Program} {w : World}
def tSc1 (K : PySem.W.Frag) (P : Program) (w : World) (wa : TI) (ga : TG) (te : TE) (vs : List Nat) : TE := fun σ H Q => wa σ H fun J H1 => ∀ D, H1 D = none → ∃ W : Nat → Nat → Hp → Prop, (∃ m, W 0 m (upd H1 D (SetTO P w D []))) ∧ ∀ i m H, W i m H →
  (J.stop i H ∧ Q (.ref D) H) ∨ (J.go i H ∧ ∃ Nx : Hp → Prop, (∀ H', Nx H' → ∃ m', m' < m ∧ W (i + 1) m' H') ∧ ∀ x H', J.yld i H x H' → ga x (wipe σ vs) H' fun σ2 H2 => wipe σ2 vs = wipe σ vs ∧ te σ2 H2 fun y H7 =>
      ∃ (b : Addr) (q : List Int) (L : List (Addr × List Int)), y = .ref b ∧ SqT K H7 b (q.map V.int) ∧ H7 D = some (SetTO P w D L) ∧ TupsAt K H7 L ∧ L.length + 1 < 64 ∧ ∀ L', PutIn L b q L' → Nx (upd H7 D (SetTO P w D L')))
theorem sc1_all {pins : List (Addr × Obj)} {s : Shared} {σ : L2.St} {H : Hp} {Q : VK} {el ta ea : Expr} {sc : Scope} {own : List (Str × Nat)} {ps qs : Pos} {wa : TI} {ga : TG} {te : TE} {use : Option (Value → Sem Unit)} {Qf : Value → Shared → Prop}
    (hc : X.calm = true) (hu : X.A.units + 64 < cLine) (hN : X.N.Nodup) (I : Inv X pins σ H s) (pa : PI X ta ea wa) (ok : BlkOk X.N X.env.scope sc own)
    (pga : ∀ (s : Shared) (H : Hp) (C : Addr) (cl : List (Str × Addr)) (fp : List Addr), PG (X.blk s H sc (compEnvC sc cl C X.env) fp) ta ga)
    (pe : ∀ (s : Shared) (H : Hp) (C : Addr) (cl : List (Str × Addr)) (fp : List Addr), PE (X.blk s H sc (compEnvC sc cl C X.env) fp) el te)
    (fa : ∀ x, foldedSetIterable ea X.env x = pure x) (eK : X.K = K) (eP : X.prog = P) (ew : X.w = w)
    (h : tSc1 K P w wa ga te (own.map (·.2)) σ H Q)
    (post : ∀ D C u m H', Inv X pins σ H' u → Q (.ref D) H' → u.heap.Ns C m → FpOk X pins H' C → compPost (model X.prog X.w) X.A X.xe use Qf (.ref D) C (.ok .next) u) :
    wpAny (model X.prog X.w) X.A (comprehension (sc1 el ta ea sc ps) sc X.env qs (newSet (.type "set")) false (eval ea X.env) use) Qf X.xe s := by
  subst eK eP ew
  have hfree : ∀ y ∈ sc.names, y.2 = .free → ∃ c, X.env.cells.lookup y.1 = some c := fun y hy e => (ok.free y hy e).elim (fun z => I.ok.has _ (.inl z)) fun z => I.ok.has _ (.inr z)
  refine wpAny_comprehension_free (use := use) rfl fa (closure_ok hfree) ok.kind (fun y hy e => by rw [ok.uniq y hy, e]) (thn (pa.run pins s σ H _ I h) fun xv s1 hx => thn hx fun itv s2 h2 => ?_)
  obtain ⟨it, fp, tn, J, H2, e, I2, T, st2, f2, q⟩ := h2
  subst e
  refine wpAny_newSet_raw fun led hled => newEnv_comp ?_
  subst hled
  generalize hD : s2.heap.objs.size = D
  have hDn : H2 D = none := I2.hok.fresh (Nat.le_of_eq hD)
  obtain ⟨W, ⟨m0, w0⟩, turn⟩ := q D hDn
  generalize hob : ({ cls := .type "set", dict := none, data := .set #[] 0 (.fresh 0 0 (!X.w.params.followText "set-order")) } : Obj) = ob
  generalize hs3 : ({ s2 with heap := s2.heap.push ob } : Shared) = s3
  have h3 : s3.heap = s2.heap.push ob := by rw [← hs3]
  have gD : s3.heap.get? D = some ob := by
    rw [h3, ← hD]
    exact Heap.get?_push_size _ (by rw [← hob] <;> rfl)
  have old3 : ∀ b o, s2.heap.get? b = some o → s3.heap.get? b = some o := fun b o z => by
    rw [h3]
    exact Heap.get?_push_of_some _ z
  have I3 : Inv X pins σ (upd H2 D (SetTO X.prog X.w D [])) s3 := by
    have t0 : SetT0 X.prog X.w s3.heap D [] := (setTR_fresh (P := X.prog) (w := X.w) (by rw [gD, ← hob])).t0
    have := I2.laid (a := D) (o := SetTO X.prog X.w D []) (h' := s3.heap) (t' := s2.toks) old3 (Nat.le_of_eq hD) (setTO_new t0)
    rw [← hs3] at this ⊢
    exact this
  have lo : ∀ b ∈ fp, b < s2.heap.objs.size := fun b hb => by
    obtain ⟨o, z, _⟩ := T.obj _ _ st2 b hb
    exact Heap.lt_size z
  have f3 : ∀ b ∈ fp, FpOk X pins (upd H2 D (SetTO X.prog X.w D [])) b ∧ b < s3.heap.objs.size := fun b hb => by
    have l := lo b hb
    have ne : b ≠ D := by
      rw [← hD]
      exact Nat.ne_of_lt l
    exact ⟨⟨by rw [upd_ne ne]; exact (f2 b hb).1, (f2 b hb).2⟩, by rw [h3, Heap.size_push]; exact Nat.lt_succ_of_lt l⟩
  have st3 : tn 0 s3.heap := T.keep _ _ _ st2 fun b _ o z => old3 b o z
  have I4 := block_start I3 ok hN f3
  generalize hH3 : upd H2 D (SetTO X.prog X.w D []) = H3 at I3 I4 f3 w0
  generalize hcl : cellsFrom (s3.heap.objs.size + 1) sc.names (cloFrom X.env.cells sc.names []) = cl at I4
  have gA := pga s3 H3 s3.heap.objs.size cl fp
  have gE := pe s3 H3 s3.heap.objs.size cl fp
  show codeAny _ _ (.compStart (sc1 el ta ea sc ps) 0 (.ref it) (.ref D) (compEnvC sc cl s3.heap.objs.size X.env)) (compPost (model X.prog X.w) X.A X.xe use Qf (.ref D) s3.heap.objs.size) { s3 with heap := pushCells (s3.heap.push { cls := .type "dict", data := .dict #[] }) sc.names }
  generalize hce : compEnvC sc cl s3.heap.objs.size X.env = ce at I4 gA gE ⊢
  have cL : ce.locals = s3.heap.objs.size := by subst hce; rfl
  generalize hs4 : ({ s3 with heap := pushCells (s3.heap.push { cls := .type "dict", data := .dict #[] }) sc.names } : Shared) = s4 at I4 ⊢
  have st4 : tn 0 s4.heap := T.keep _ _ _ st3 fun b _ o z => by rw [← hs4]; exact pushCells_keeps _ _ _ _ (Heap.get?_push_of_some _ z)
  have nfp : ∀ b ∈ fp, H3 b = none := fun b hb => (f3 b hb).1.1
  have stand : ∀ {τ : L2.St} {G : Hp} {u : Shared}, Inv (X.blk s3 H3 sc ce fp) [] τ G u → (∀ b ∈ fp, G b = none) → ∀ b ∈ fp, FpOk (X.blk s3 H3 sc ce fp) [] G b := fun I' hn b hb =>
    ⟨hn b hb, (I'.ok.exf b hb).1, I'.ok.exfs b hb, .inl hb, fun x c z => (I'.ok.exf b hb).2 x c z, fun p hp => absurd (show p ∈ ([] : List (Addr × Obj)) ++ [] from hp) (by simp)⟩
  have loop : codeAny (model X.prog X.w) X.A (.compLoop (sc1 el ta ea sc ps) 0 (.ref it) (.ref D) ce) (compPost (model X.prog X.w) X.A X.xe use Qf (.ref D) s3.heap.objs.size) s4 := by
    refine PpSet.compLoopS_any (fun m u => ∃ i G, Inv (X.blk s3 H3 sc ce fp) [] (wipe σ (own.map (·.2))) G u ∧ tn i u.heap ∧ (∀ b ∈ fp, G b = none) ∧ W i m G) ?_ m0 ⟨0, H3, I4, st4, nfp, w0⟩
    rintro m u5 ⟨i, G5, I5, st5, n5, w5⟩
    rcases turn i m G5 w5 with ⟨stop, qq⟩ | ⟨go, Nx, hNx, step⟩
    · refine thnF (T.done (X.blk s3 H3 sc ce fp) rfl rfl rfl hc i [] u5 _ G5 (fun _ _ => False) I5 (stand I5 n5) st5 stop) fun r u6 ⟨hr, I6⟩ => ?_
      subst hr
      have I7 : Inv X pins σ G5 u6 := I3.call' (ch := fp) I6.os I6.base I6.hok I6.bare fun b hb => ⟨(f3 b hb).1.2.2.2.1, (f3 b hb).1.2.1, (f3 b hb).1.2.2.2.2.1, (f3 b hb).1.2.2.2.2.2⟩
      have nC : G5 ce.locals = none := I6.free
      obtain ⟨mm, hn, _⟩ := I6.loc
      have hn : u6.heap.Ns ce.locals mm := hn
      rw [cL] at hn nC
      exact post D s3.heap.objs.size u6 mm G5 I7 qq hn (I3.fpOk (Nat.le_refl _) nC)
    · refine thnF (T.item (X.blk s3 H3 sc ce fp) rfl rfl rfl hc i [] u5 _ G5 (fun _ _ => False) I5 (stand I5 n5) st5 go) fun r u6 ⟨got, hr, h6⟩ => ?_
      subst hr
      refine thnF h6 fun _ u7 ⟨x, G7, I7, r7, y7, st7, n7⟩ => ?_
      have I7' := I7.pinned (stand I7 n7) (T.obj _ _ st7)
      refine thnF (gA.run _ u7 _ G7 x got _ I7' r7 (step x G7 y7)) fun _ u8 ⟨σ8, G8, I8, hw8, q8⟩ => ?_
      refine wpAny_pure ?_
      simp only [if_true]
      have fin : ∀ {u : Shared} {G : Hp}, Inv (X.blk s3 H3 sc ce fp) ([] ++ pinsAt fp u7.heap) σ8 G u → Nx G → ∃ m', m' < m ∧ ∃ i G, Inv (X.blk s3 H3 sc ce fp) [] (wipe σ (own.map (·.2))) G u ∧ tn i u.heap ∧ (∀ b ∈ fp, G b = none) ∧ W i m' G := fun {u G} I' nx => by
        obtain ⟨m', hm, w'⟩ := hNx G nx
        have pin' : ∀ b ∈ fp, ∀ o, u7.heap.get? b = some o → u.heap.get? b = some o ∧ G b = none := fun b hb o z =>
          have zz := I'.pin (b, o) (List.mem_append_right _ (List.mem_append_right _ (mem_pinsAt hb z)))
          ⟨zz.1, zz.2.1⟩
        have hl : (wipe σ (own.map (·.2))).length = σ8.length := by rw [← hw8, wipe_length]
        refine ⟨m', hm, i + 1, G, (I'.unpinned (pins := [])).weak hl (fun j v z => ?_), T.keep _ _ _ st7 fun b hb o z => (pin' b hb o z).1, fun b hb => ?_, w'⟩
        · rw [← hw8] at z
          exact (wipe_some z).1
        · obtain ⟨o, z, _⟩ := T.obj _ _ st7 b hb
          exact (pin' b hb o z).2
      refine thnF (gE.run _ u8 σ8 G8 _ I8 q8) fun z u17 ⟨yv, G17, I17, r17, b, kk, L, ey, hb, hDL, hL, few, nx⟩ => ?_
      subst ey
      cases r17
      exact add_inv (X := X.blk s3 H3 sc ce fp) I17 hDL hL hb (by show X.A.units + 2 < cLine; omega) few fun L' u18 p I18 => fin I18 (nx L' p)
  exact codeAny_compStart_set loop (T.self X.A 0 _ _ _ st4 loop)
theorem pe_sc1 {el ta ea : Expr} {sc : Scope} {own : List (Str × Nat)} {ps : Pos} {wa : TI} {ga : TG} {te : TE} (hc : X.calm = true) (hu : X.A.units + 64 < cLine) (hN : X.N.Nodup) (pa : PI X ta ea wa) (ok : BlkOk X.N X.env.scope sc own)
    (pga : ∀ (s : Shared) (H : Hp) (C : Addr) (cl : List (Str × Addr)) (fp : List Addr), PG (X.blk s H sc (compEnvC sc cl C X.env) fp) ta ga)
    (pe : ∀ (s : Shared) (H : Hp) (C : Addr) (cl : List (Str × Addr)) (fp : List Addr), PE (X.blk s H sc (compEnvC sc cl C X.env) fp) el te)
    (fa : ∀ x, foldedSetIterable ea X.env x = pure x := by intro _; rfl) (eK : X.K = K := by rfl) (eP : X.prog = P := by rfl) (ew : X.w = w := by rfl) :
    PE X (sc1 el ta ea sc ps) (tSc1 K P w wa ga te (own.map (·.2))) := by
  refine ⟨fun pins s σ H Q I h => ?_⟩
  rw [arm_eval_SetComp]
  refine sc1_all hc hu hN I pa ok pga pe fa eK eP ew h fun D C u m H' I' q hn f => ⟨m, hn, fun g sb => ?_⟩
  obtain ⟨f0, f1, f2, f3, f4, f5⟩ := f
  exact ⟨.ref D, H', I'.turned (t' := u.toks) (fun b o hb z => (sb.2 b hb).trans z) f0 f1 f3 f4 f5, rfl, q⟩
end
end Fm
/-! sorted(list of tuples, key=len) -/
namespace Fm
open PySem PySem.Spec PyProof.Rows L2
theorem perm_map_inv {α β : Type} {f : α → β} {l l2 : List β} (h : l.Perm l2) : ∀ M : List α, l2 = M.map f → ∃ M' : List α, M'.Perm M ∧ l = M'.map f := by
  induction h with
  | nil => intro M e; exact ⟨M, .refl _, e⟩
  | cons x h ih =>
    intro M e
    cases M with
    | nil => cases e
    | cons a M =>
      rw [List.map_cons] at e
      injection e with e1 e2
      obtain ⟨M', p, e3⟩ := ih M e2
      exact ⟨a :: M', .cons a p, by rw [List.map_cons, ← e3, e1]⟩
  | swap x y l =>
    intro M e
    match M, e with
    | [], e => cases e
    | [_], e => cases e
    | a :: b :: M, e =>
      rw [List.map_cons, List.map_cons] at e
      injection e with e1 e2
      injection e2 with e2 e3
      exact ⟨b :: a :: M, .swap a b M, by rw [List.map_cons, List.map_cons, ← e1, ← e2, ← e3]⟩
  | trans h1 h2 ih1 ih2 =>
    intro M e
    obtain ⟨M1, p1, e1⟩ := ih2 M e
    obtain ⟨M2, p2, e2⟩ := ih1 M1 e1
    exact ⟨M2, p2.trans p1, e2⟩
theorem objOk_there {P : Program} {w : World} {H : Hp} {h : Heap} {a : Addr} {o : HO} (x : ObjOk P w H h a o) : h.get? a ≠ none := by
  have key : ∀ {u : Obj}, h.get? a = some u → h.get? a ≠ none := fun e z => by
    rw [e] at z
    cases z
  cases o with
  | lst xs => obtain ⟨_, _, _, _, e⟩ := x; exact key e
  | tup xs => obtain ⟨_, _, _, ⟨_, e, _⟩⟩ := x; exact key e
  | dK kvs => obtain ⟨_, _, _, _, o, _, _, e, _⟩ := x; exact key e
  | dT kvs => obtain ⟨_, _, _, _, o, _, _, e, _⟩ := x; exact key e
  | set S n => obtain ⟨o, _, _, _, e, _⟩ := x; exact key e
  | ins C dx fs => obtain ⟨_, _, _, e, _⟩ := x; exact key e
  | own y => obtain ⟨_, e⟩ := x; exact key e
  | xd fs => obtain ⟨_, ⟨_, _, _, e, _⟩, _⟩ := x; exact key e
  | rng lo hi => obtain ⟨_, _, _, e⟩ := x; exact key e
  | frz ob u => obtain ⟨e, _⟩ := x; exact key e
  | tbl ps => exact key (show h.get? a = some _ from x)
  | met f y => exact key (show h.get? a = some _ from x)
  | ext φ => obtain ⟨_, ⟨_, e⟩, _⟩ := x; exact key e
section
variable {X : Cx} {pins : List (Addr × Obj)} {σ : L2.St} {H : Hp} {s : Shared}
theorem inv_news {h' : Heap} {m : Str → Option Value} {D : Addr} {o : HO} {t' : Nat} (I : Inv X pins σ H s) (F : Fr X.base X.env.locals h' m) (hm : s.heap.Ns X.env.locals m) (kept : ∀ b u, b ≠ X.env.locals → s.heap.get? b = some u → h'.get? b = some u) (hD : s.heap.get? D = none) (hn : H D = none)
    (new : ObjOk X.prog X.w (upd H D o) h' D o) : Inv X pins σ (upd H D o) { s with heap := h', toks := t' } := by
  refine I.step (g' := s.gens) (d' := s.drawn) (ch := []) (fun b hb => by cases hb) (fun b u hL _ _ e _ => kept b u hL e) (fun b u hL _ _ e _ => ⟨u.slots, kept b u hL e⟩) (fun b u _ e n => ?_) (fun b u _ e => ?_)
    (fun b xs e => by rw [upd_ne (ne_of_none e hn)]; exact e) (fun b u v e => by rw [upd_ne (ne_of_none e hn)]; exact e) (fun b ps e => ⟨#[], by rw [upd_ne (ne_of_none e hn), e]; simp⟩) (fun m' hm' => by rw [SlX.ns_only hm' hm]; exact F.ns) (fun b u e => ?_) I.bare
  · rw [upd_ne (fun z => by rw [z, hD] at e; cases e)]
    exact n
  · by_cases z : b = X.env.locals
    · obtain ⟨o', _, _, ho, _⟩ := F.ns
      exact ⟨o', by rw [z]; exact ho⟩
    · exact ⟨u, kept b u z e⟩
  · by_cases hb : b = D
    · subst hb
      rw [upd_same] at e
      cases e
      exact new
    · rw [upd_ne hb] at e
      have own : ∀ c, (c = b ∨ H c = some (.own b)) → c ≠ X.env.locals := fun c hc z => by
        rcases hc with y | y
        · rw [← y, z, I.free] at e
          cases e
        · rw [z, I.free] at y
          cases y
      exact (I.hok b u e).stay (fun c v hc q => kept c v (own c hc) q) (fun c q => by rw [upd_ne (ne_of_none q hn)]; exact q) fun c xs q => by rw [upd_ne (ne_of_none q hn)]; exact q
end
section
variable {X : Cx} {K : PySem.W.Frag} {e : Expr} {ta : TA} {p p2 kpos pos : Pos}
def tSortLen (K : PySem.W.Frag) (ta : TA) : TE := fun σ H Q => ta σ H fun vs H1 => ∃ (a : Addr) (M : List (Addr × List V)), vs = [.ref a] ∧ SqL K H1 a (M.map fun m => V.ref m.1) ∧ (∀ m ∈ M, SqT K H1 m.1 m.2) ∧
  ∀ (M' : List (Addr × List V)) d, M'.Perm M → M'.Pairwise (fun x y => x.2.length ≤ y.2.length) → H1 d = none → Q (.ref d) (upd H1 d (.lst (M'.map fun m => V.ref m.1)))
theorem vals_refs {M : List (Addr × List V)} {us : List Value} (r : Vals (M.map fun m => V.ref m.1) us) : us = M.map fun m => Value.ref m.1 := by
  induction M generalizing us with
  | nil => cases r; rfl
  | cons m M ih =>
    cases r with
    | cons h t =>
      cases h
      rw [List.map_cons, ← ih t]
theorem pe_sortLen (hg : Gl X "sorted") (hm : X.mg "sorted" = none) (hg2 : Gl X "len") (hm2 : X.mg "len" = none) (ha : PA X [e] ta) (eK : X.K = K := by rfl)
    (hen : backTo pos (starEach [e] X.env) = (false, eval e X.env) :: backTo pos (starEach [] X.env) := by rfl) (hpl : (backTo pos (starEach [e] X.env)).any (·.1) = false := by rfl) :
    PE X (.Call (.Name "sorted" p) [e] [⟨some "key", .Name "len" p2, kpos⟩] pos) (tSortLen K ta) := by
  subst eK
  refine ⟨fun pins s σ H Q I h => ?_⟩
  refine wpAny_Call_Name_kw (ld_blt I hg hm (by decide +kernel : bootBuiltins "sorted" = some (.builtin "sorted")) ?_)
  refine PyProof.Rows.callWith_kw (thn (ha.run pos pins s σ H _ I h) fun us s1 ⟨vs, H1, I1, r1, q1⟩ => ?_) hen hpl rfl rfl
  obtain ⟨a, M, rfl, hl, ht, q⟩ := q1
  refine wpAny_evalAll_cons (wpAny_bind (ld_blt I1 hg2 hm2 PySem.boot_len (wpAny_bind (wpAny_standAt (wpAny_pure (wpAny_evalAll_nil ?_))))))
  obtain ⟨u, rfl, hu⟩ := r1.one
  cases hu
  obtain ⟨its, rv, pl, hz⟩ := I1.list hl
  have eit := vals_refs rv
  subst eit
  obtain ⟨ol, nl, hol, hcl, hdl, hdt⟩ := pl
  obtain ⟨m, hns, _⟩ := I1.loc
  have F : Fr X.base X.env.locals s1.heap m := ⟨hns, I1.bk, Nat.le_trans I1.ok.bsz I1.ok.above⟩
  have tupL : ∀ k ∈ M, k.1 ≠ X.env.locals := fun k hk z => by
    obtain ⟨its, _, ⟨o, ho, _, n, hd⟩, _⟩ := I1.tuple (ht k hk)
    obtain ⟨o', es, ep, ho', hd', _⟩ := hns
    rw [z, ho'] at ho
    cases ho
    rw [hd'] at hd
    cases hd
  have keptOf : ∀ {h' : Heap} {own : List (Addr × Obj)}, Fr X.base X.env.locals h' m → News X.base X.env.locals h' (allNews X.base s1.heap X.env.locals ++ own) → ∀ b u, b ≠ X.env.locals → s1.heap.get? b = some u → h'.get? b = some u := fun {h' own} F' N' b u hb e => by
    cases q0 : X.base.get? b with
    | some v =>
      have := I1.bk b v q0
      rw [e] at this
      cases this
      exact F'.keep b _ q0
    | none => exact (N' (b, u) (List.mem_append_left _ (mem_allNews hb q0 e))).1
  refine ksk_sortedAny (b := false) (kz := M.map fun m => (m.2.length : Int)) (vs := M.map fun m => Value.ref m.1) F news_all ⟨ol, hol, hcl, nl, hdt⟩ (by rw [List.length_map, List.length_map]) (by rw [List.length_map]; rw [List.length_map] at hz; exact hz)
    (ksk_s1 _ _) (fun x => ksk_l1 _ _) (fun x => ksk_t4 _ _) (fun i v k hv hk h tk own F' N' => ?turn) (fun D h' tk out c F' N' l1 ko => ?done)
  case turn =>
    rw [List.getElem?_map] at hv hk
    cases hi : M[i]? with
    | none =>
      rw [hi] at hv
      cases hv
    | some k0 =>
      rw [hi] at hv hk
      cases hv
      cases hk
      have hk0 := List.mem_of_getElem? hi
      obtain ⟨its, r0, ⟨o, ho, hc, n, hd⟩, hz0⟩ := I1.tuple (ht k0 hk0)
      have el := r0.length
      refine PyProof.Rows.len_tuple (items := its.toArray) ⟨o, keptOf F' N' _ _ (tupL k0 hk0) ho, hc, n, hd⟩ ?_ ?_
      · rw [List.size_toArray]
        rw [sizeLine_eq] at hz0
        omega
      · rw [List.size_toArray, ← el]
        exact ⟨h, _, _, rfl, rfl, F', N'⟩
  case done =>
    obtain ⟨ps, hp, eout, pw⟩ := ko
    rw [List.zip_map'] at hp
    obtain ⟨M', pM, rfl⟩ := perm_map_inv hp M rfl
    have nD := N' (D, seqObj "list" out c) (List.mem_cons_self ..)
    have N2 : News X.base X.env.locals h' (allNews X.base s1.heap X.env.locals ++ []) := fun z hz => N' z (by rw [List.append_nil] at hz; exact List.mem_cons_of_mem _ hz)
    have kept := keptOf F' N2
    have hD0 : s1.heap.get? D = none := by
      cases e0 : s1.heap.get? D with
      | none => rfl
      | some u => exact absurd (l1 (D, u) (mem_allNews nD.2.1 nD.2.2 e0)) (Nat.lt_irrefl D)
    have hn : H1 D = none := by
      cases e0 : H1 D with
      | none => rfl
      | some o => exact absurd hD0 (objOk_there (I1.hok D o e0))
    have lens : M'.length ≤ sizeLine := by
      rw [pM.length_eq]
      rw [List.length_map] at hz
      exact hz
    have eo : out = (M'.map fun m => Value.ref m.1).toArray := by
      rw [← (Array.toArray_toList : out.toList.toArray = out), eout, List.map_map]
      rfl
    refine ⟨.ref D, upd H1 D (.lst (M'.map fun m => V.ref m.1)), inv_news I1 F' hns kept hD0 hn ⟨by rw [List.length_map]; exact lens, M'.map (fun m => Value.ref m.1), c, ?_, ?_⟩, rfl, q M' D pM ?_ hn⟩
    · clear pM pw eout eo lens hp
      have key : ∀ N : List (Addr × List V), Vals (N.map fun m => V.ref m.1) (N.map fun m => Value.ref m.1) := fun N => by
        induction N with
        | nil => exact Paired.nil
        | cons k N ih => exact Paired.cons rfl ih
      exact key M'
    · rw [← eo]
      exact nD.1
    · rw [List.pairwise_map] at pw
      refine pw.imp fun {x y} h => ?_
      have h : (x.2.length : Int) ≤ (y.2.length : Int) := h
      omega
end
end Fm
/-! not in of a tuple; min of a list of tuples of ints -/
namespace Fm
open PySem PySem.Spec PyProof.Rows L2 PySem.W
theorem dp_intsF {K : PySem.W.Frag} {H : Hp} : ∀ c : List Int, DpAll K H (c.map V.int) (c.map PyData.int)
  | [] => .nil
  | _ :: r => .cons (.int _) (dp_intsF r)
section
variable {X : Cx} {K : PySem.W.Frag}
def rNotInT (K : PySem.W.Frag) : R2 := fun x y H Q => ∃ d ds, Dp K H x d ∧ Dp K H y (.tuple ds) ∧ SeqAt.shaped d = true ∧ SeqAt.shaped (.tuple ds) = true ∧ Q (.bl (!ds.any fun z => PyData.eqv z d)) H
theorem op_notinT (hu : X.A.units + 65 < cLine) (e : X.K = K := by rfl) : OpR X (compareOp .NotIn) (rNotInT K) := by
  subst e
  intro pins s σ H x y v u Q I rx ry h
  obtain ⟨d, ds, h1, h2, s1, s2, q⟩ := h
  obtain ⟨as, r1⟩ := Dp.reads I d x v h1 rx
  obtain ⟨bs, r2⟩ := Dp.reads I (.tuple ds) y u h2 ry
  exact SeqAt.notIn_tuple_reads r2 r1 (SeqAt.canLay_of_shaped s2) (SeqAt.canLay_of_shaped s1) (room_in_shaped s1 hu) ⟨.bl _, H, I, rfl, q⟩
theorem op_notinLK (hu : X.A.units + 65 < cLine) (e : X.K = K := by rfl) : OpR X (compareOp .NotIn) (rNotInD K) := e ▸ op_notInD hu
def intP (c : List Int) : PyData := .tuple (c.map PyData.int)
theorem alike_ints : ∀ (x y : List Int), alikeAll (x.map PyData.int) (y.map PyData.int) = true
  | [], _ => by cases ‹List Int› <;> rfl
  | _ :: _, [] => rfl
  | a :: x, b :: y => by
    rw [List.map_cons, List.map_cons, alikeAll, alike_ints x y, alike]
    rfl
theorem minD_first : ∀ (ys : List (List Int)) (x : List Int), (∀ y ∈ ys, decide (y < x) = false) → minD (intP x) (ys.map intP) = intP x
  | [], _, _ => rfl
  | y :: ys, x, h => by
    unfold minD
    rw [List.map_cons, List.foldl_cons]
    have e : dataLt (intP y) (intP x) = false := by
      unfold intP
      rw [dataLt_tups]
      exact h y (List.mem_cons_self ..)
    rw [e]
    exact minD_first ys x fun z hz => h z (List.mem_cons_of_mem _ hz)
def rMinT (K : PySem.W.Frag) : List V → Hp → VK → Prop := fun vs H Q => ∃ (a : Addr) (m : Addr × List Int) (M : List (Addr × List Int)), vs = [V.ref a] ∧ SqL K H a ((m :: M).map fun m => V.ref m.1) ∧ (∀ k ∈ m :: M, SqT K H k.1 (k.2.map V.int)) ∧
  (∀ k ∈ M, decide (k.2 < m.2) = false) ∧ ∀ k ∈ m :: M, k.2 = m.2 → Q (.ref k.1) H
theorem call_minT (hc : X.calm = true) (hu : X.A.units + 64 < cLine) (e : X.K = K := by rfl) : CallR X (.builtin "min") (rMinT K) := by
  subst e
  intro pins s σ H vs us Q I r h
  obtain ⟨a, m, M, rfl, hl, ht, hm, q⟩ := h
  obtain ⟨its, rv, pl, hz⟩ := I.list hl
  rw [Vals.ref1 r]
  have eit : its = (m :: M).map fun m => Value.ref m.1 := by
    have := vals_refs (M := (m :: M).map fun k => (k.1, k.2.map V.int)) (us := its) (by rw [List.map_map]; exact rv)
    rw [this, List.map_map]
    rfl
  have da : DpAll X.K H ((m :: M).map fun m => V.ref m.1) ((m :: M).map fun k => intP k.2) := by
    have key : ∀ N : List (Addr × List Int), (∀ k ∈ N, SqT X.K H k.1 (k.2.map V.int)) → DpAll X.K H (N.map fun m => V.ref m.1) (N.map fun k => intP k.2) := fun N => by
      induction N with
      | nil => intro _; exact .nil
      | cons k N ih => exact fun h => .cons (.tup (h k (List.mem_cons_self ..)) (dp_intsF k.2)) (ih fun z hz => h z (List.mem_cons_of_mem _ hz))
    exact key _ ht
  obtain ⟨as, r4⟩ := Dp.readsAll I ((m :: M).map fun k => intP k.2) _ its da rv
  have hal : AlikeAll ((m :: M).map fun k => intP k.2) := ⟨fun x hx y hy => by
    obtain ⟨k, _, rfl⟩ := List.mem_map.mp hx
    obtain ⟨k', _, rfl⟩ := List.mem_map.mp hy
    show alike (.tuple _) (.tuple _) = true
    rw [alike]
    exact alike_ints _ _, fun x hx z => by
    obtain ⟨k, _, rfl⟩ := List.mem_map.mp hx
    cases z⟩
  have hd1 : ∀ N : List (Addr × List Int), PyData.depthAll (N.map fun k => intP k.2) ≤ 1 := fun N => by
    induction N with
    | nil => exact Nat.zero_le _
    | cons k N ih =>
      have z : (intP k.2).depth = 1 := by
        unfold intP
        rw [PyData.depth, depth_ints]
      rw [List.map_cons, PyData.depthAll, z]
      omega
  have r6 : ReadsAll s.heap its.toArray.toList (intP m.2 :: M.map fun k : Addr × List Int => intP k.2) as := r4
  have hal : AlikeAll (intP m.2 :: M.map fun k : Addr × List Int => intP k.2) := hal
  refine min_list_data (vs := its.toArray) (I.ok.hd hc) pl.isList r6 hal (by have := hd1 (m :: M); rw [List.map_cons] at this; omega) fun i v h' tk bs hv hr hk => ?_
  have hv : its[i]? = some v := by simpa using hv
  rw [eit, List.getElem?_map] at hv
  obtain ⟨k, hk0, rfl⟩ := Option.map_eq_some_iff.mp hv
  have hkm := List.mem_of_getElem? hk0
  obtain ⟨bs2, r5⟩ := Dp.reads I (intP k.2) (.ref k.1) (Value.ref k.1) (.tup (ht k hkm) (dp_intsF k.2)) rfl
  obtain ⟨e1, _⟩ := reads_det (fun b o e _ => hk b o e) r5 hr
  have e2 := minD_first (M.map fun k => k.2) m.2 fun y hy => by
    obtain ⟨z, hz, rfl⟩ := List.mem_map.mp hy
    exact hm z hz
  rw [List.map_map] at e2
  have e3 : intP m.2 = intP k.2 := e2.symm.trans e1
  have e4 : m.2 = k.2 := by
    unfold intP at e3
    injection e3 with e3
    exact (List.map_inj_right fun a b e => by injection e).mp e3
  exact ⟨.ref k.1, H, I.kept hk, rfl, q k hkm e4.symm⟩
end
end Fm
/-! > of tuples of ints; any; d[k] = v and d[k] of a dict whose keys are tuples of ints; a list or a tuple gone through. -/
namespace Fm
open PySem PySem.Spec PyProof.Rows L2 PySem.W
section
variable {X : Cx} {K : PySem.W.Frag} {P : Program} {w : World}
def rGtT (K : PySem.W.Frag) : R2 := fun x y H Q => ∃ (ns ms : List Int), Dp K H x (intP ns) ∧ Dp K H y (intP ms) ∧ Q (.bl (decide (ms < ns))) H
theorem op_gtTK (hu : X.A.units + 65 < cLine) (e : X.K = K := by rfl) : OpR X (compareOp .Gt) (rGtT K) := by
  subst e
  intro pins s σ H x y v u Q I rx ry h
  obtain ⟨ns, ms, h1, h2, q⟩ := h
  obtain ⟨as, r1⟩ := Dp.reads I _ x v h1 rx
  obtain ⟨bs, r2⟩ := Dp.reads I _ y u h2 ry
  refine gt_data r1 r2 ?_ (by intro z; cases z) ?_ ⟨.bl _, H, I, rfl, ?_⟩
  · show alike (.tuple _) (.tuple _) = true
    rw [alike]
    exact alike_ints _ _
  · have z : (intP ns).depth = 1 := by
      unfold intP
      rw [PyData.depth, depth_ints]
    omega
  · have e : dataLt (intP ms) (intP ns) = decide (ms < ns) := by
      unfold intP
      exact dataLt_tups ms ns
    rw [e]
    exact q
theorem call_anyK (hc : X.calm = true) (e : X.K = K := by rfl) : CallR X (.builtin "any") (rAny K) := e ▸ cr_any hc
/-! ### a list or a tuple gone through -/
def iSeq (K : PySem.W.Frag) (tl : TE) : TI := fun σ H R => tl σ H fun x H1 => ∃ a L xs, x = .ref a ∧ SqA L K H1 a xs ∧ R (if L = true then Itl K a else Itt K a) H1
theorem pi_seqK {tg l : Expr} {tl : TE} (hl : PE X l tl) (eK : X.K = K := by rfl) : PI X tg l (iSeq K tl) := by
  subst eK
  refine ⟨fun pins s σ H R I h => ?_⟩
  refine thn (hl.run pins s σ H _ I h) fun v s1 ⟨x, H1, I1, r1, a, L, xs, e, hq, q⟩ => ?_
  subst e
  cases r1
  have I2 : ∀ (o : Obj), Inv X pins σ H1 { s1 with heap := s1.heap.push o } := fun o => I1.kept (t' := s1.toks) fun b u e => Heap.get?_push_of_some _ e
  have fp : ∀ b ∈ [s1.heap.objs.size], FpOk X pins H1 b := fun b hb => by
    rw [List.mem_singleton.mp hb]
    exact I1.fpOk (Nat.le_refl _) (I1.hok.fresh (Nat.le_refl _))
  cases L with
  | true =>
    obtain ⟨its, rv, p, hz⟩ := I1.list (show SqL X.K H1 a xs from hq)
    exact wpAny_pyIter_list p.isList ⟨_, _, _, _, H1, rfl, I2 _, turn_list a _, ⟨_, Heap.get?_push_size _ rfl, rfl, rfl⟩, fp, q⟩
  | false =>
    obtain ⟨its, rv, p, hz⟩ := I1.tuple (show SqT X.K H1 a xs from hq)
    exact wpAny_pyIter_tuple (show s1.heap.IsTuple a its.toArray from p) ⟨_, _, _, _, H1, rfl, I2 _, turn_tuple a _, ⟨_, Heap.get?_push_size _ rfl, rfl, rfl⟩, fp, q⟩
theorem lc_seq {a : Addr} {L : Bool} {xs : List L2.V} {g : TG} {tt : TT} {te : TE} {vs : List Nat} {σ : L2.St} {H1 : Hp} {D : Addr} {Qd : Hp → Prop} (Pv : Nat → Hp → Prop) (h0 : Pv 0 (upd H1 D (.lst []))) (hl : ∀ i H, i ≤ xs.length → Pv i H → SqA L K H a xs)
    (hs : ∀ (i : Nat) (x : L2.V) (H : Hp), xs[i]? = some x → Pv i H → g x (wipe σ vs) H fun σ2 H2 => wipe σ2 vs = wipe σ vs ∧ tt σ2 H2 fun b H3 => if b = true then te σ2 H3 fun y H4 => ∃ acc, H4 D = some (.lst acc) ∧ acc.length < sizeLine ∧ Pv (i + 1) (upd H4 D (.lst (acc ++ [y]))) else Pv (i + 1) H3)
    (hd : ∀ H, Pv xs.length H → Qd H) :
    ∃ W : Nat → Nat → Hp → Prop, (∃ m, W 0 m (upd H1 D (.lst []))) ∧ ∀ i m H, W i m H →
      ((if L = true then Itl K a else Itt K a).stop i H ∧ Qd H) ∨ ((if L = true then Itl K a else Itt K a).go i H ∧ ∃ Nx : Hp → Prop, (∀ H', Nx H' → ∃ m', m' < m ∧ W (i + 1) m' H') ∧ ∀ x H', (if L = true then Itl K a else Itt K a).yld i H x H' → g x (wipe σ vs) H' fun σ2 H2 => wipe σ2 vs = wipe σ vs ∧ tt σ2 H2 fun b H3 =>
        if b = true then te σ2 H3 fun y H4 => ∃ acc, H4 D = some (.lst acc) ∧ acc.length < sizeLine ∧ Nx (upd H4 D (.lst (acc ++ [y]))) else Nx H3) := by
  cases L with
  | true => exact lc_list (K := K) (xs := xs) Pv h0 hl hs hd
  | false => exact lc_tup (K := K) (xs := xs) Pv h0 hl hs hd
/-! ### d[k] = v, d[k] -/
abbrev TupL := List (Addr × List Int × L2.V)
def KeysT (K : PySem.W.Frag) (H : Hp) (L : TupL) : Prop := ∀ p ∈ L, SqT K H p.1 (p.2.1.map V.int)
def storeT (L : TupL) (b : Addr) (q : List Int) (v : L2.V) : TupL := if (findT L q).isSome then L.map (fun p => if p.2.1 = q then (p.1, p.2.1, v) else p) else L ++ [(b, q, v)]
theorem valF_put {L : TupL} {xs : List Ent} {q : List Int} {v : L2.V} {r : Value} (h : ValF L xs) (rv : RelV v r) : ValF (L.map fun p => if p.2.1 = q then (p.1, p.2.1, v) else p) (xs.map (putAt q r)) := by
  unfold ValF at h ⊢
  induction h with
  | nil => exact .nil
  | @cons p x ps qs r1 _ ih =>
    rw [List.map_cons, List.map_cons]
    refine .cons ?_ ih
    obtain ⟨a1, a2, a3⟩ := r1
    unfold putAt
    by_cases e : p.2.1 = q
    · rw [if_pos e, if_pos (by rw [a2, e])]
      exact ⟨a1, a2, rv⟩
    · rw [if_neg e, if_neg (fun z => e (a2.symm.trans z))]
      exact ⟨a1, a2, a3⟩
def sDPutT (K : PySem.W.Frag) (P : Program) (w : World) (td ty tv : TE) : TS := fun D σ H => tv σ H fun v H1 => td σ H1 fun x H2 => ty σ H2 fun y H3 => ∃ (a b : Addr) (q : List Int) (L : TupL), x = .ref a ∧ y = .ref b ∧ H3 a = some (DTO P w a (ValF L)) ∧ KeysT K H3 L ∧ SqT K H3 b (q.map V.int) ∧ L.length ≤ 100000 ∧
  D.nx σ (upd H3 a (DTO P w a (ValF (storeT L b q v))))
theorem ps_dputT {o i value : Expr} {pos pos' : Pos} {td ty tv : TE} (hu : X.A.units + 64 < cLine) (ho : PE X o td) (hi : PE X i ty) (hv : PE X value tv) (hs : swapsWith value (some (.Subscript o i pos')) pos.line X.env = pure false) (eK : X.K = K := by rfl) (eP : X.prog = P := by rfl) (ew : X.w = w := by rfl) :
    PS X (.Assign [.Subscript o i pos'] value pos) (sDPutT K P w td ty tv) := by
  subst eK eP ew
  refine ⟨fun pins s σ H D I h => ?_⟩
  refine wpAny_Assign_Subscript (thn (hv.run pins s σ H _ I h) fun r s1 ⟨v, H1, I1, rv, q1⟩ => thn (ho.run pins s1 σ H1 _ I1 q1) fun u s2 ⟨x, H2, I2, rx, q2⟩ => thn (hi.run pins s2 σ H2 _ I2 q2) fun iv s3 ⟨y, H3, I3, ry, a, b, q, L, ex, ey, ha, hL, hb, hl, q3⟩ => ?_) hs
  subst ex ey
  cases rx
  cases ry
  obtain ⟨xs, hF, hd⟩ := Inv.dto I3 (.inl ha)
  have hxl : xs.length = L.length := (Paired.length hF).symm
  have hk : ∀ x ∈ xs, IsT X.prog X.w s3.heap x.1 x.2.1 := fun x hx => by
    obtain ⟨p, hp, e1, e2⟩ := valF_mem hF x hx
    rw [e1, e2]
    exact Inv.isT I3 (hL p hp)
  refine wpAny_setItem_heap (knd := TK X.prog X.w) (hsz := by rw [hxl, sizeLine_eq]; omega) (show X.A.units + 1 < cLine by omega) (Inv.isT I3 hb) (hd.full hk) fun h' hm sb => ?_
  have he : ∃ u, h'.get? a = some u := by
    obtain ⟨o, _, _, z, _⟩ := hm
    exact ⟨o, z⟩
  have e : (findT L q).isSome = (atKey xs q).isSome := by
    have z : RelO (findT L q) ((atKey xs q).map (·.2)) := hF.find q
    rw [z.isSome_eq, Option.isSome_map]
  have hF2 : ValF (storeT L b q v) (storedH xs q b r) := by
    unfold storeT storedH
    rw [e]
    by_cases z : (atKey xs q).isSome = true
    · rw [if_pos z, if_pos z]
      exact valF_put hF rv
    · rw [if_neg z, if_neg z]
      exact Paired.snoc hF ⟨rfl, rfl, rv⟩
  exact ⟨σ, _, I3.write (e := a) (t' := s3.toks + (TK X.prog X.w).draws q) (by rw [ha]; trivial) (.inl rfl) (fun c u hc hu => (sb.2 c hc).trans hu) he (dto_ok hF2 (raw_of hm hd.1)), q3⟩
def tDGetK (K : PySem.W.Frag) (P : Program) (w : World) (td ty : TE) : TE := fun σ H Q => td σ H fun x H1 => ty σ H1 fun y H2 => ∃ (a b : Addr) (q : List Int) (L : TupL) (v : L2.V), x = .ref a ∧ y = .ref b ∧ H2 a = some (DTO P w a (ValF L)) ∧ KeysT K H2 L ∧ SqT K H2 b (q.map V.int) ∧ findT L q = some v ∧ Q v H2
theorem pe_dgetK {o i : Expr} {pos : Pos} {td ty : TE} (hu : X.A.units + 64 < cLine) (ho : PE X o td) (hi : PE X i ty) (hs : NoSl i) (eK : X.K = K := by rfl) (eP : X.prog = P := by rfl) (ew : X.w = w := by rfl) : PE X (.Subscript o i pos) (tDGetK K P w td ty) := by
  subst eK eP ew
  refine ⟨fun pins s σ H Q I h => ?_⟩
  refine subD_of PySem.F.slot_dict_getitem.lookup hs (thn (ho.run pins s σ H _ I h) fun u s1 ⟨x, H1, I1, rx, q1⟩ => thn (hi.run pins s1 σ H1 _ I1 q1) fun iv s2 ⟨y, H2, I2, ry, a, b, q, L, v, ex, ey, ha, hL, hb, hv, q2⟩ => ?_)
  subst ex ey
  cases rx
  cases ry
  obtain ⟨xs, hF, hd⟩ := Inv.dto I2 (.inl ha)
  have dd := hd.full fun x hx => by
    obtain ⟨p, hp, e1, e2⟩ := valF_mem hF x hx
    rw [e1, e2]
    exact Inv.isT I2 (hL p hp)
  have rl : RelO (findT L q) ((atKey xs q).map (·.2)) := hF.find q
  rw [hv] at rl
  cases hz : atKey xs q with
  | none =>
    rw [hz] at rl
    exact (show False from rl).elim
  | some p =>
    rw [hz] at rl
    exact ⟨dd.typeIs, wpAny_getItem_heap (knd := TK X.prog X.w) (show X.A.units + 1 < cLine by omega) (Inv.isT I2 hb) dd hz ⟨_, H2, I2.tok _, rl, q2⟩⟩
/-! ### what a store makes of what is found -/
theorem findT_store {L : TupL} {b : Addr} {q k : List Int} {v : L2.V} : findT (storeT L b q v) k = if k = q then some v else findT L k := by
  have key : ∀ L : TupL, findT (L.map fun p => if p.2.1 = q then (p.1, p.2.1, v) else p) k = if k = q then (findT L k).map (fun _ => v) else findT L k := by
    intro L
    induction L with
    | nil => by_cases e : k = q <;> simp [findT, e]
    | cons p L ih =>
      have c : ∀ (p : Addr × List Int × L2.V) (L : TupL), findT (p :: L) k = if p.2.1 = k then some p.2.2 else findT L k := fun p L => by
        unfold findT
        rw [List.find?_cons]
        by_cases e : p.2.1 = k <;> simp [e]
      rw [List.map_cons, c, c, ih]
      by_cases e1 : p.2.1 = q
      · rw [if_pos e1]
        by_cases e2 : k = q
        · rw [if_pos e2, if_pos (by rw [e2]; exact e1), if_pos e2, if_pos (by rw [e2]; exact e1)] <;> rfl
        · rw [if_neg e2, if_neg (fun z => e2 (by rw [← z]; exact e1)), if_neg e2, if_neg (fun z => e2 (by rw [← z]; exact e1))]
      · rw [if_neg e1]
        by_cases e2 : k = q
        · have n : ¬ p.2.1 = k := fun z => e1 (by rw [z, e2])
          rw [if_neg n, if_neg n]
        · by_cases e3 : p.2.1 = k
          · rw [if_pos e3, if_neg e2, if_pos e3]
          · rw [if_neg e3, if_neg e3]
  unfold storeT
  by_cases h : (findT L q).isSome = true
  · rw [if_pos h, key]
    by_cases e : k = q
    · subst e
      rw [if_pos rfl, if_pos rfl]
      obtain ⟨x, hx⟩ := Option.isSome_iff_exists.mp h
      rw [hx]
      rfl
    · rw [if_neg e, if_neg e]
  · rw [if_neg h]
    have hn : findT L q = none := by
      cases z : findT L q with
      | none => rfl
      | some x => exact absurd (by rw [z]; rfl) h
    unfold findT at hn ⊢
    rw [List.find?_append]
    have hn2 := Option.map_eq_none_iff.mp hn
    by_cases e : k = q
    · subst e
      rw [if_pos rfl, hn2]
      simp
    · rw [if_neg e]
      cases z : L.find? (fun p => decide (p.2.1 = k)) with
      | none => simp [Ne.symm e]
      | some x => rfl
theorem storeT_keys {L : TupL} {b : Addr} {q : List Int} {v : L2.V} : ∀ p ∈ storeT L b q v, (∃ p' ∈ L, p.1 = p'.1 ∧ p.2.1 = p'.2.1) ∨ (p.1 = b ∧ p.2.1 = q) := fun p hp => by
  unfold storeT at hp
  by_cases h : (findT L q).isSome = true
  · rw [if_pos h] at hp
    obtain ⟨x, hx, rfl⟩ := List.mem_map.mp hp
    refine .inl ⟨x, hx, ?_⟩
    by_cases e : x.2.1 = q
    · rw [if_pos e]
      exact ⟨rfl, rfl⟩
    · rw [if_neg e]
      exact ⟨rfl, rfl⟩
  · rw [if_neg h] at hp
    rcases List.mem_append.mp hp with z | z
    · exact .inl ⟨p, z, rfl, rfl⟩
    · rw [List.mem_singleton.mp z]
      exact .inr ⟨rfl, rfl⟩
theorem storeT_len {L : TupL} {b : Addr} {q : List Int} {v : L2.V} : (storeT L b q v).length ≤ L.length + 1 := by
  unfold storeT
  by_cases h : (findT L q).isSome = true
  · rw [if_pos h, List.length_map]
    omega
  · rw [if_neg h, List.length_append]
    exact Nat.le_refl _
end
end Fm
namespace Fm
open PySem PySem.Spec PyProof.Rows L2
def topS (i : Nat) : Stmt := PySem.Challenge.pw_fairmasks_k39_whole_who_must_be_trusted.main.body.getD i (.Pass ⟨0, 0, 0, 0⟩)
abbrev s_is_whole : Stmt := topS 1
abbrev N_is_whole : List Str := ["thing"]
theorem sc_is_whole : FnScope N_is_whole ["thing"] (defScope s_is_whole) := ⟨rfl, rfl, rfl, by decide +kernel, rfl, by decide +kernel, by decide +kernel⟩
abbrev s_is_pattern : Stmt := topS 9
abbrev N_is_pattern : List Str := ["columns", "thing", "last", "column"]
theorem sc_is_pattern : FnScope N_is_pattern ["columns", "thing"] (defScope s_is_pattern) := ⟨rfl, rfl, rfl, by decide +kernel, rfl, by decide +kernel, by decide +kernel⟩
abbrev s_all_columns : Stmt := topS 10
abbrev N_all_columns : List Str := ["columns"]
theorem sc_all_columns : FnScope N_all_columns ["columns"] (defScope s_all_columns) := ⟨rfl, rfl, rfl, by decide +kernel, rfl, by decide +kernel, by decide +kernel⟩
abbrev s_less : Stmt := topS 11
abbrev N_less : List Str := ["pattern", "column", "other"]
theorem sc_less : FnScope N_less ["pattern", "column"] (defScope s_less) := ⟨rfl, rfl, rfl, by decide +kernel, rfl, by decide +kernel, by decide +kernel⟩
abbrev s_patterns_within : Stmt := topS 12
abbrev N_patterns_within : List Str := ["pattern", "found", "column", "inner"]
theorem sc_patterns_within : FnScope N_patterns_within ["pattern"] (defScope s_patterns_within) := ⟨rfl, rfl, rfl, by decide +kernel, rfl, by decide +kernel, by decide +kernel⟩
abbrev s_is_list : Stmt := topS 13
abbrev N_is_list : List Str := ["columns", "thing", "last", "pattern"]
theorem sc_is_list : FnScope N_is_list ["columns", "thing"] (defScope s_is_list) := ⟨rfl, rfl, rfl, by decide +kernel, rfl, by decide +kernel, by decide +kernel⟩
abbrev s_parts_of : Stmt := topS 15
abbrev N_parts_of : List Str := ["columns", "listed", "pattern"]
theorem sc_parts_of : FnScope N_parts_of ["columns", "listed"] (defScope s_parts_of) := ⟨rfl, rfl, rfl, by decide +kernel, rfl, by decide +kernel, by decide +kernel⟩
abbrev s_within : Stmt := topS 16
abbrev N_within : List Str := ["inner", "outer", "column"]
theorem sc_within : FnScope N_within ["inner", "outer"] (defScope s_within) := ⟨rfl, rfl, rfl, by decide +kernel, rfl, by decide +kernel, by decide +kernel⟩
abbrev s_is_nest : Stmt := topS 17
abbrev N_is_nest : List Str := ["parts", "column", "chain", "pattern", "inner", "outer"]
theorem sc_is_nest : FnScope N_is_nest ["parts", "column"] (defScope s_is_nest) := ⟨rfl, rfl, rfl, by decide +kernel, rfl, by decide +kernel, by decide +kernel⟩
abbrev s_struck : Stmt := topS 18
abbrev N_struck : List Str := ["parts", "column", "pattern"]
theorem sc_struck : FnScope N_struck ["parts", "column"] (defScope s_struck) := ⟨rfl, rfl, rfl, by decide +kernel, rfl, by decide +kernel, by decide +kernel⟩
abbrev s_order_of : Stmt := topS 19
abbrev N_order_of : List Str := ["parts", "left", "column", "behind"]
theorem sc_order_of : FnScope N_order_of ["parts", "left"] (defScope s_order_of) := ⟨rfl, rfl, rfl, by decide +kernel, rfl, by decide +kernel, by decide +kernel⟩
abbrev s_order : Stmt := topS 20
abbrev N_order : List Str := ["columns", "listed"]
theorem sc_order : FnScope N_order ["columns", "listed"] (defScope s_order) := ⟨rfl, rfl, rfl, by decide +kernel, rfl, by decide +kernel, by decide +kernel⟩
abbrev s_is_enough : Stmt := topS 22
abbrev N_is_enough : List Str := ["columns", "listed", "lot", "parts"]
theorem sc_is_enough : FnScope N_is_enough ["columns", "listed", "lot"] (defScope s_is_enough) := ⟨rfl, rfl, rfl, by decide +kernel, rfl, by decide +kernel, by decide +kernel⟩
abbrev s_trusts : Stmt := topS 23
abbrev N_trusts : List Str := ["columns", "listed", "parts", "lots", "enough", "lot", "other"]
theorem sc_trusts : FnScope N_trusts ["columns", "listed"] (defScope s_trusts) := ⟨rfl, rfl, rfl, by decide +kernel, rfl, by decide +kernel, by decide +kernel⟩
abbrev s_is_ringless_without : Stmt := topS 24
abbrev N_is_ringless_without : List Str := ["columns", "parts", "lot", "left", "bare", "pattern"]
theorem sc_is_ringless_without : FnScope N_is_ringless_without ["columns", "parts", "lot"] (defScope s_is_ringless_without) := ⟨rfl, rfl, rfl, by decide +kernel, rfl, by decide +kernel, by decide +kernel⟩
abbrev s_without : Stmt := topS 25
abbrev N_without : List Str := ["pattern", "lot", "column"]
theorem sc_without : FnScope N_without ["pattern", "lot"] (defScope s_without) := ⟨rfl, rfl, rfl, by decide +kernel, rfl, by decide +kernel, by decide +kernel⟩
abbrev s_law_pool : Stmt := topS 27
abbrev N_law_pool : List Str := ["script", "seed", "cell"]
theorem sc_law_pool : FnScope N_law_pool ["script"] (defScope s_law_pool) := ⟨rfl, rfl, rfl, by decide +kernel, rfl, by decide +kernel, by decide +kernel⟩
abbrev s_law_draw : Stmt := topS 28
abbrev N_law_draw : List Str := ["pool", "many", "cells", "mixed", "digit"]
theorem sc_law_draw : FnScope N_law_draw ["pool", "many"] (defScope s_law_draw) := ⟨rfl, rfl, rfl, by decide +kernel, rfl, by decide +kernel, by decide +kernel⟩
abbrev s_law_mixed : Stmt := topS 29
abbrev N_law_mixed : List Str := ["pool", "things", "left", "made", "k"]
theorem sc_law_mixed : FnScope N_law_mixed ["pool", "things"] (defScope s_law_mixed) := ⟨rfl, rfl, rfl, by decide +kernel, rfl, by decide +kernel, by decide +kernel⟩
abbrev s_law_some : Stmt := topS 30
abbrev N_law_some : List Str := ["pool", "things"]
theorem sc_law_some : FnScope N_law_some ["pool", "things"] (defScope s_law_some) := ⟨rfl, rfl, rfl, by decide +kernel, rfl, by decide +kernel, by decide +kernel⟩
abbrev s_law_is_flag : Stmt := topS 31
abbrev N_law_is_flag : List Str := ["thing", "due"]
theorem sc_law_is_flag : FnScope N_law_is_flag ["thing", "due"] (defScope s_law_is_flag) := ⟨rfl, rfl, rfl, by decide +kernel, rfl, by decide +kernel, by decide +kernel⟩
abbrev s_law_deep : Stmt := topS 32
abbrev N_law_deep : List Str := ["thing", "turn"]
theorem sc_law_deep : FnScope N_law_deep [] (defScope s_law_deep) := ⟨rfl, rfl, rfl, by decide +kernel, rfl, by decide +kernel, by decide +kernel⟩
abbrev s_law_patterns : Stmt := topS 33
abbrev N_law_patterns : List Str := ["columns", "found", "c", "pattern"]
theorem sc_law_patterns : FnScope N_law_patterns ["columns"] (defScope s_law_patterns) := ⟨rfl, rfl, rfl, by decide +kernel, rfl, by decide +kernel, by decide +kernel⟩
abbrev s_law_list : Stmt := topS 34
abbrev N_law_list : List Str := ["pool", "columns", "every", "whole", "way", "found", "rest", "most", "many", "line", "k", "more", "pattern"]
theorem sc_law_list : FnScope N_law_list ["pool", "columns"] (defScope s_law_list) := ⟨rfl, rfl, rfl, by decide +kernel, rfl, by decide +kernel, by decide +kernel⟩
abbrev s_law_less : Stmt := topS 35
abbrev N_law_less : List Str := ["pattern", "lot", "c"]
theorem sc_law_less : FnScope N_law_less ["pattern", "lot"] (defScope s_law_less) := ⟨rfl, rfl, rfl, by decide +kernel, rfl, by decide +kernel, by decide +kernel⟩
abbrev s_law_parts : Stmt := topS 36
abbrev N_law_parts : List Str := ["columns", "patterns", "lot", "whole", "rests", "pattern"]
theorem sc_law_parts : FnScope N_law_parts ["columns", "patterns", "lot"] (defScope s_law_parts) := ⟨rfl, rfl, rfl, by decide +kernel, rfl, by decide +kernel, by decide +kernel⟩
abbrev s_law_between : Stmt := topS 37
abbrev N_law_between : List Str := ["rs", "k", "later", "found", "c", "pattern"]
theorem sc_law_between : FnScope N_law_between ["rs", "k"] (defScope s_law_between) := ⟨rfl, rfl, rfl, by decide +kernel, rfl, by decide +kernel, by decide +kernel⟩
abbrev s_law_are_linked : Stmt := topS 38
abbrev N_law_are_linked : List Str := ["rs", "k"]
theorem sc_law_are_linked : FnScope N_law_are_linked ["rs"] (defScope s_law_are_linked) := ⟨rfl, rfl, rfl, by decide +kernel, rfl, by decide +kernel, by decide +kernel⟩
abbrev s_law_has_ring : Stmt := topS 39
abbrev N_law_has_ring : List Str := ["parts", "rows", "many", "longer", "rs", "pattern"]
theorem sc_law_has_ring : FnScope N_law_has_ring ["parts"] (defScope s_law_has_ring) := ⟨rfl, rfl, rfl, by decide +kernel, rfl, by decide +kernel, by decide +kernel⟩
abbrev s_law_is_due : Stmt := topS 40
abbrev N_law_is_due : List Str := ["columns", "patterns", "lot"]
theorem sc_law_is_due : FnScope N_law_is_due ["columns", "patterns", "lot"] (defScope s_law_is_due) := ⟨rfl, rfl, rfl, by decide +kernel, rfl, by decide +kernel, by decide +kernel⟩
abbrev s_law_is_least : Stmt := topS 41
abbrev N_law_is_least : List Str := ["columns", "patterns", "lot", "within_v", "k", "one"]
theorem sc_law_is_least : FnScope N_law_is_least ["columns", "patterns", "lot"] (defScope s_law_is_least) := ⟨rfl, rfl, rfl, by decide +kernel, rfl, by decide +kernel, by decide +kernel⟩
abbrev s_law_is_lot : Stmt := topS 42
abbrev N_law_is_lot : List Str := ["columns", "thing", "k", "c"]
theorem sc_law_is_lot : FnScope N_law_is_lot ["columns", "thing"] (defScope s_law_is_lot) := ⟨rfl, rfl, rfl, by decide +kernel, rfl, by decide +kernel, by decide +kernel⟩
abbrev s_law_right : Stmt := topS 43
abbrev N_law_right : List Str := ["pool", "columns", "patterns", "every", "flags", "lot", "odd", "thing", "other", "c"]
theorem sc_law_right : FnScope N_law_right ["pool", "columns", "patterns"] (defScope s_law_right) := ⟨rfl, rfl, rfl, by decide +kernel, rfl, by decide +kernel, by decide +kernel⟩
abbrev s_law : Stmt := topS 44
abbrev N_law : List Str := ["script", "pool", "again", "columns", "patterns", "told", "lot"]
theorem sc_law : FnScope N_law ["script"] (defScope s_law) := ⟨rfl, rfl, rfl, by decide +kernel, rfl, by decide +kernel, by decide +kernel⟩
abbrev s_NoNumber_init : Stmt := inClass (topS 4) 0
abbrev N_NoNumber_init : List Str := ["self"]
theorem sc_NoNumber_init : FnScope N_NoNumber_init ["self"] (defScope s_NoNumber_init) := ⟨rfl, rfl, rfl, by decide +kernel, rfl, by decide +kernel, by decide +kernel⟩
abbrev s_NoList_init : Stmt := inClass (topS 5) 0
abbrev N_NoList_init : List Str := ["self"]
theorem sc_NoList_init : FnScope N_NoList_init ["self"] (defScope s_NoList_init) := ⟨rfl, rfl, rfl, by decide +kernel, rfl, by decide +kernel, by decide +kernel⟩
/-- what the top has left: each def, each constant, the built-ins that are not hidden -/
structure Txt (K : PySem.W.Frag) (mg : Str → Option Value) where
  f_is_whole : Addr
  d_is_whole : FuncData
  F_is_whole : Fun K "is_whole" "is_whole" s_is_whole f_is_whole d_is_whole
  b_is_whole : Binds K d_is_whole ["thing"] []
  g_is_whole : mg "is_whole" = some (.ref f_is_whole)
  f_is_pattern : Addr
  d_is_pattern : FuncData
  F_is_pattern : Fun K "is_pattern" "is_pattern" s_is_pattern f_is_pattern d_is_pattern
  b_is_pattern : Binds K d_is_pattern ["columns", "thing"] []
  g_is_pattern : mg "is_pattern" = some (.ref f_is_pattern)
  f_all_columns : Addr
  d_all_columns : FuncData
  F_all_columns : Fun K "all_columns" "all_columns" s_all_columns f_all_columns d_all_columns
  b_all_columns : Binds K d_all_columns ["columns"] []
  g_all_columns : mg "all_columns" = some (.ref f_all_columns)
  f_less : Addr
  d_less : FuncData
  F_less : Fun K "less" "less" s_less f_less d_less
  b_less : Binds K d_less ["pattern", "column"] []
  g_less : mg "less" = some (.ref f_less)
  f_patterns_within : Addr
  d_patterns_within : FuncData
  F_patterns_within : Fun K "patterns_within" "patterns_within" s_patterns_within f_patterns_within d_patterns_within
  b_patterns_within : Binds K d_patterns_within ["pattern"] []
  g_patterns_within : mg "patterns_within" = some (.ref f_patterns_within)
  f_is_list : Addr
  d_is_list : FuncData
  F_is_list : Fun K "is_list" "is_list" s_is_list f_is_list d_is_list
  b_is_list : Binds K d_is_list ["columns", "thing"] []
  g_is_list : mg "is_list" = some (.ref f_is_list)
  f_parts_of : Addr
  d_parts_of : FuncData
  F_parts_of : Fun K "parts_of" "parts_of" s_parts_of f_parts_of d_parts_of
  b_parts_of : Binds K d_parts_of ["columns", "listed"] []
  g_parts_of : mg "parts_of" = some (.ref f_parts_of)
  f_within : Addr
  d_within : FuncData
  F_within : Fun K "within" "within" s_within f_within d_within
  b_within : Binds K d_within ["inner", "outer"] []
  g_within : mg "within" = some (.ref f_within)
  f_is_nest : Addr
  d_is_nest : FuncData
  F_is_nest : Fun K "is_nest" "is_nest" s_is_nest f_is_nest d_is_nest
  b_is_nest : Binds K d_is_nest ["parts", "column"] []
  g_is_nest : mg "is_nest" = some (.ref f_is_nest)
  f_struck : Addr
  d_struck : FuncData
  F_struck : Fun K "struck" "struck" s_struck f_struck d_struck
  b_struck : Binds K d_struck ["parts", "column"] []
  g_struck : mg "struck" = some (.ref f_struck)
  f_order_of : Addr
  d_order_of : FuncData
  F_order_of : Fun K "order_of" "order_of" s_order_of f_order_of d_order_of
  b_order_of : Binds K d_order_of ["parts", "left"] []
  g_order_of : mg "order_of" = some (.ref f_order_of)
  f_order : Addr
  d_order : FuncData
  F_order : Fun K "order" "order" s_order f_order d_order
  b_order : Binds K d_order ["columns", "listed"] []
  g_order : mg "order" = some (.ref f_order)
  f_is_enough : Addr
  d_is_enough : FuncData
  F_is_enough : Fun K "is_enough" "is_enough" s_is_enough f_is_enough d_is_enough
  b_is_enough : Binds K d_is_enough ["columns", "listed", "lot"] []
  g_is_enough : mg "is_enough" = some (.ref f_is_enough)
  f_trusts : Addr
  d_trusts : FuncData
  F_trusts : Fun K "trusts" "trusts" s_trusts f_trusts d_trusts
  b_trusts : Binds K d_trusts ["columns", "listed"] []
  g_trusts : mg "trusts" = some (.ref f_trusts)
  f_is_ringless_without : Addr
  d_is_ringless_without : FuncData
  F_is_ringless_without : Fun K "is_ringless_without" "is_ringless_without" s_is_ringless_without f_is_ringless_without d_is_ringless_without
  b_is_ringless_without : Binds K d_is_ringless_without ["columns", "parts", "lot"] []
  g_is_ringless_without : mg "is_ringless_without" = some (.ref f_is_ringless_without)
  f_without : Addr
  d_without : FuncData
  F_without : Fun K "without" "without" s_without f_without d_without
  b_without : Binds K d_without ["pattern", "lot"] []
  g_without : mg "without" = some (.ref f_without)
  f_law_pool : Addr
  d_law_pool : FuncData
  F_law_pool : Fun K "_law_pool" "_law_pool" s_law_pool f_law_pool d_law_pool
  b_law_pool : Binds K d_law_pool ["script"] []
  g_law_pool : mg "_law_pool" = some (.ref f_law_pool)
  f_law_draw : Addr
  d_law_draw : FuncData
  F_law_draw : Fun K "_law_draw" "_law_draw" s_law_draw f_law_draw d_law_draw
  b_law_draw : Binds K d_law_draw ["pool", "many"] []
  g_law_draw : mg "_law_draw" = some (.ref f_law_draw)
  f_law_mixed : Addr
  d_law_mixed : FuncData
  F_law_mixed : Fun K "_law_mixed" "_law_mixed" s_law_mixed f_law_mixed d_law_mixed
  b_law_mixed : Binds K d_law_mixed ["pool", "things"] []
  g_law_mixed : mg "_law_mixed" = some (.ref f_law_mixed)
  f_law_some : Addr
  d_law_some : FuncData
  F_law_some : Fun K "_law_some" "_law_some" s_law_some f_law_some d_law_some
  b_law_some : Binds K d_law_some ["pool", "things"] []
  g_law_some : mg "_law_some" = some (.ref f_law_some)
  f_law_is_flag : Addr
  d_law_is_flag : FuncData
  F_law_is_flag : Fun K "_law_is_flag" "_law_is_flag" s_law_is_flag f_law_is_flag d_law_is_flag
  b_law_is_flag : Binds K d_law_is_flag ["thing", "due"] []
  g_law_is_flag : mg "_law_is_flag" = some (.ref f_law_is_flag)
  f_law_deep : Addr
  d_law_deep : FuncData
  F_law_deep : Fun K "_law_deep" "_law_deep" s_law_deep f_law_deep d_law_deep
  b_law_deep : Binds K d_law_deep [] []
  g_law_deep : mg "_law_deep" = some (.ref f_law_deep)
  f_law_patterns : Addr
  d_law_patterns : FuncData
  F_law_patterns : Fun K "_law_patterns" "_law_patterns" s_law_patterns f_law_patterns d_law_patterns
  b_law_patterns : Binds K d_law_patterns ["columns"] []
  g_law_patterns : mg "_law_patterns" = some (.ref f_law_patterns)
  f_law_list : Addr
  d_law_list : FuncData
  F_law_list : Fun K "_law_list" "_law_list" s_law_list f_law_list d_law_list
  b_law_list : Binds K d_law_list ["pool", "columns"] []
  g_law_list : mg "_law_list" = some (.ref f_law_list)
  f_law_less : Addr
  d_law_less : FuncData
  F_law_less : Fun K "_law_less" "_law_less" s_law_less f_law_less d_law_less
  b_law_less : Binds K d_law_less ["pattern", "lot"] []
  g_law_less : mg "_law_less" = some (.ref f_law_less)
  f_law_parts : Addr
  d_law_parts : FuncData
  F_law_parts : Fun K "_law_parts" "_law_parts" s_law_parts f_law_parts d_law_parts
  b_law_parts : Binds K d_law_parts ["columns", "patterns", "lot"] []
  g_law_parts : mg "_law_parts" = some (.ref f_law_parts)
  f_law_between : Addr
  d_law_between : FuncData
  F_law_between : Fun K "_law_between" "_law_between" s_law_between f_law_between d_law_between
  b_law_between : Binds K d_law_between ["rs", "k"] []
  g_law_between : mg "_law_between" = some (.ref f_law_between)
  f_law_are_linked : Addr
  d_law_are_linked : FuncData
  F_law_are_linked : Fun K "_law_are_linked" "_law_are_linked" s_law_are_linked f_law_are_linked d_law_are_linked
  b_law_are_linked : Binds K d_law_are_linked ["rs"] []
  g_law_are_linked : mg "_law_are_linked" = some (.ref f_law_are_linked)
  f_law_has_ring : Addr
  d_law_has_ring : FuncData
  F_law_has_ring : Fun K "_law_has_ring" "_law_has_ring" s_law_has_ring f_law_has_ring d_law_has_ring
  b_law_has_ring : Binds K d_law_has_ring ["parts"] []
  g_law_has_ring : mg "_law_has_ring" = some (.ref f_law_has_ring)
  f_law_is_due : Addr
  d_law_is_due : FuncData
  F_law_is_due : Fun K "_law_is_due" "_law_is_due" s_law_is_due f_law_is_due d_law_is_due
  b_law_is_due : Binds K d_law_is_due ["columns", "patterns", "lot"] []
  g_law_is_due : mg "_law_is_due" = some (.ref f_law_is_due)
  f_law_is_least : Addr
  d_law_is_least : FuncData
  F_law_is_least : Fun K "_law_is_least" "_law_is_least" s_law_is_least f_law_is_least d_law_is_least
  b_law_is_least : Binds K d_law_is_least ["columns", "patterns", "lot"] []
  g_law_is_least : mg "_law_is_least" = some (.ref f_law_is_least)
  f_law_is_lot : Addr
  d_law_is_lot : FuncData
  F_law_is_lot : Fun K "_law_is_lot" "_law_is_lot" s_law_is_lot f_law_is_lot d_law_is_lot
  b_law_is_lot : Binds K d_law_is_lot ["columns", "thing"] []
  g_law_is_lot : mg "_law_is_lot" = some (.ref f_law_is_lot)
  f_law_right : Addr
  d_law_right : FuncData
  F_law_right : Fun K "_law_right" "_law_right" s_law_right f_law_right d_law_right
  b_law_right : Binds K d_law_right ["pool", "columns", "patterns"] []
  g_law_right : mg "_law_right" = some (.ref f_law_right)
  f_NoNumber_init : Addr
  d_NoNumber_init : FuncData
  F_NoNumber_init : Fun K "__init__" "NoNumber.__init__" s_NoNumber_init f_NoNumber_init d_NoNumber_init
  b_NoNumber_init : Binds K d_NoNumber_init ["self"] []
  f_NoList_init : Addr
  d_NoList_init : FuncData
  F_NoList_init : Fun K "__init__" "NoList.__init__" s_NoList_init f_NoList_init d_NoList_init
  b_NoList_init : Binds K d_NoList_init ["self"] []
  c_MaskError : Addr
  g_MaskError : mg "MaskError" = some (.ref c_MaskError)
  m_MaskError : Value
  U_MaskError : UpC K c_MaskError m_MaskError
  c_NoNumber : Addr
  g_NoNumber : mg "NoNumber" = some (.ref c_NoNumber)
  o_NoNumber : OexC K c_NoNumber
  i_NoNumber : PySem.W.findIn K (.ref c_NoNumber) "__init__" = some (some (.ref f_NoNumber_init))
  t_NoNumber : PySem.W.typeIn K (.ref f_NoNumber_init) = some (.type "function")
  e_NoNumber : ExcC K c_NoNumber
  x_NoNumber : PySem.W.exmOne K (.ref c_NoNumber) (.ref c_MaskError) = some true
  c_NoList : Addr
  g_NoList : mg "NoList" = some (.ref c_NoList)
  o_NoList : OexC K c_NoList
  i_NoList : PySem.W.findIn K (.ref c_NoList) "__init__" = some (some (.ref f_NoList_init))
  t_NoList : PySem.W.typeIn K (.ref f_NoList_init) = some (.type "function")
  e_NoList : ExcC K c_NoList
  x_NoList : PySem.W.exmOne K (.ref c_NoList) (.ref c_MaskError) = some true
  q_NoNumber_NoNumber : PySem.W.kitOne K (.ref c_NoNumber) (.ref c_NoNumber) = some true
  q_NoNumber_NoList : PySem.W.kitOne K (.ref c_NoNumber) (.ref c_NoList) = some false
  q_NoList_NoNumber : PySem.W.kitOne K (.ref c_NoList) (.ref c_NoNumber) = some false
  q_NoList_NoList : PySem.W.kitOne K (.ref c_NoList) (.ref c_NoList) = some true
  u_MOST_COLUMNS : Value
  k_MOST_COLUMNS : mg "MOST_COLUMNS" = some u_MOST_COLUMNS ∧ RelV (.int 5) u_MOST_COLUMNS
  u_MOST_PATTERNS : Value
  k_MOST_PATTERNS : mg "MOST_PATTERNS" = some u_MOST_PATTERNS ∧ RelV (.int 12) u_MOST_PATTERNS
  z_len : mg "len" = none
  z_isinstance : mg "isinstance" = none
  z_range : mg "range" = none
  z_zip : mg "zip" = none
  z_tuple : mg "tuple" = none
  z_list : mg "list" = none
  z_int : mg "int" = none
  z_bool : mg "bool" = none
  z_abs : mg "abs" = none
  z_sorted : mg "sorted" = none
  z_set : mg "set" = none
  z_sum : mg "sum" = none
  z_all : mg "all" = none
  z_any : mg "any" = none
section
variable {P : Program} {w : World} {K : PySem.W.Frag} {mg : Str → Option Value} {base : Heap}

/-! ### judges -/
def m_is_whole : List Dt → Option Dt
  | [d] => some (.bl d.isW)
  | _ => none
theorem ok_is_whole (T : Txt K mg) : FnOk P w K mg base CX0 1 T.f_is_whole T.d_is_whole ["thing"] (spD K m_is_whole) := by
  refine T.F_is_whole.ok sc_is_whole (fun vs H Q E h => ?_) (fun cdv A outer s H vs Q E hr h => ?_)
  · obtain ⟨ds, r, hd, e, _⟩ := h
    exact match ds, e, hd with | [_], _, hd => hd.length
  · obtain ⟨ds, r, hd, e, q⟩ := h
    match ds, e, hd, q with
    | [d], e, .cons h .nil, q =>
      cases e
      obtain ⟨t, ty, ki, kt, kb⟩ := h.kinds
      refine ⟨_, (pss_one (ps_ret (pe_and (pe_callB (call_isiK' K) (by rfl) T.z_isinstance (by decide +kernel) (pa_cons (pv 0) (pa_cons (pe_bltn (v := .ty "int") (by rfl) T.z_int (by decide +kernel) rfl) pa_nil))) (pe_one (pe_not (pe_callB (call_isiK' K) (by rfl) T.z_isinstance (by decide +kernel) (pa_cons (pv 0) (pa_cons (pe_bltn (v := .ty "bool") (by rfl) T.z_bool (by decide +kernel) rfl) pa_nil)))))))), ?_⟩
      refine ⟨_, rfl, _, _, _, _, _, rfl, .ty _, ty, ki, _, rfl, ?_⟩
      cases hi : d.isInt with
      | true =>
        refine iteT ?_
        refine ⟨_, rfl, _, _, _, _, _, rfl, .ty _, ty, kb hi, _, rfl, ?_⟩
        rw [Bool.not_not]
        exact q _ _ (Same.refl H) (.bl _)
      | false =>
        refine iteF ?_
        have e : d.isW = false := by cases d <;> first | rfl | cases hi
        have q' := q (.bl false) H (Same.refl H)
        rw [e] at q'
        exact q' (.bl _)
def patGo (n : Int) : Int → List Dt → Bool
  | _, [] => true
  | l, .int c :: r => if l < c ∧ c < n then patGo n c r else false
  | _, _ :: _ => false
def Dt.isPat (n : Int) : Dt → Bool
  | .tup ds => patGo n (-1) ds
  | _ => false
def m_is_pattern : List Dt → Option Dt
  | [.int n, d] => some (.bl (d.isPat n))
  | _ => none
theorem ok_is_pattern (T : Txt K mg) : FnOk P w K mg base CX0 2 T.f_is_pattern T.d_is_pattern ["columns", "thing"] (spD K m_is_pattern) := by
  refine T.F_is_pattern.ok sc_is_pattern (fun vs H Q E h => ?_) (fun cdv A outer s H vs Q E hr h => ?_)
  · obtain ⟨ds, r, hd, e, _⟩ := h
    exact match ds, e, hd with | [.int _, _], _, hd => hd.length
  · obtain ⟨ds, r, hd, e, q⟩ := h
    match ds, e, hd, q with
    | [.int n, d], e, .cons hn (.cons h .nil), q =>
      cases e
      cases hn
      obtain ⟨t, ty, ki, kt, kb⟩ := h.kinds
      refine ⟨_, (pss_cons (ps_if (pt_not (pt_val (pe_callB (call_isiK' K) (by rfl) T.z_isinstance (by decide +kernel) (pa_cons (pv 1) (pa_cons (pe_bltn (v := .ty "tuple") (by rfl) T.z_tuple (by decide +kernel) rfl) pa_nil))))) (pss_one (ps_ret pe_bl)) pss_nil)
      (pss_cons (ps_set (i := 2) sc_is_pattern.nd rfl (.inl rfl) (pe_un un_neg pe_int))
      (pss_cons (ps_for PassesOwn.never rfl (pi_tupK K (pv 1)) (pg_name (i := 3) sc_is_pattern.nd rfl (.inl rfl)) (pss_cons (ps_if (PW.pt (pw_or (pt_not (pt_val (pe_call (ok_is_whole T) hr (by rfl) T.g_is_whole T.F_is_whole.kp T.b_is_whole .nil pass0 (pa_cons (pv 3) pa_nil)))) (pw_or1 (pt_not (pt_chain op_lt op_lt (pv 2) (pv 3) (pv 0)))))) (pss_one (ps_ret pe_bl)) pss_nil)
      (pss_one (ps_set (i := 2) sc_is_pattern.nd rfl (.inl rfl) (pv 3)))))
      (pss_one (ps_ret pe_bl))))), ?_⟩
      refine ⟨_, rfl, _, _, _, _, _, rfl, .ty _, ty, kt, _, rfl, ?_⟩
      cases hi : d.isTup with
      | false =>
        refine iteT ?_
        have e : d.isPat n = false := by cases d <;> first | rfl | cases hi
        have q' := q (.bl false) H (Same.refl H)
        rw [e] at q'
        exact q' (.bl _)
      | true =>
        refine iteF ?_
        cases d with
        | tup xs =>
          obtain ⟨a, vs, rfl, hs, ha⟩ := h.tup_inv
          refine ⟨1, rfl, _, rfl, a, rfl, ⟨_, hs⟩, for_tup (xs := vs) (fun i σ H' => ∃ (l : Int) (c : Option V), σ = [some (.int n), some (.ref a), some (.int l), c] ∧ Same H H' ∧ patGo n (-1) xs = patGo n l (xs.drop i))
            ⟨-1, none, rfl, Same.refl H, rfl⟩ (fun i σ H' _ ⟨_, _, _, sm, _⟩ => (Ext.of sm).sqT hs) ?_ ?_⟩
          · rintro i x σ H' hx ⟨l, c, rfl, sm, e⟩
            obtain ⟨dx, hdx, hx2⟩ := ha.get hx
            have hdr : xs.drop i = dx :: xs.drop (i + 1) := by
              obtain ⟨hlt, e2⟩ := List.getElem?_eq_some_iff.mp hdx
              rw [List.drop_eq_getElem_cons hlt, e2]
            rw [hdr] at e
            -- not is_whole(column) or not last < column < columns
            refine ⟨_, rfl, spD_bl (.cons (hx2.ext (.of sm)) .nil) rfl fun H1 s1 => ⟨_, rfl, ?_⟩⟩
            have fin : patGo n l (dx :: xs.drop (i + 1)) = false → ∀ H2, Same H' H2 → Q (.bl false) H2 := fun z H2 s2 => by
              have q' := q (.bl false) H2 (sm.trans s2)
              rw [show (Dt.tup xs).isPat n = patGo n (-1) xs from rfl, e, z] at q'
              exact q' (.bl _)
            cases hw : dx.isW with
            | false =>
              refine iteT (iteT ?_)
              exact fin (by cases dx <;> first | rfl | cases hw) _ s1
            | true =>
              refine iteF ?_
              cases dx with
              | int c =>
                cases hx2
                refine ⟨_, rfl, _, rfl, _, _, rfl, rfl, _, rfl, ?_⟩
                refine ite2 (fun h1 => ?_) (fun h1 => ?_)
                · refine ⟨_, rfl, _, _, rfl, rfl, _, rfl, ?_⟩
                  refine ite2 (fun h2 => ?_) (fun h2 => ?_)
                  · have n2 : ¬ c < n := by simpa using h2
                    exact fin (by show (if l < c ∧ c < n then _ else false) = false; rw [if_neg fun z => n2 z.2]) _ s1
                  · have y2 : c < n := by simpa using h2
                    refine ⟨_, rfl, c, _, rfl, sm.trans s1, ?_⟩
                    rw [e]
                    show (if l < c ∧ c < n then _ else false) = _
                    rw [if_pos ⟨of_decide_eq_true h1, y2⟩]
                · refine ⟨_, rfl, iteT ?_⟩
                  exact fin (by show (if l < c ∧ c < n then _ else false) = false; rw [if_neg fun z => h1 (decide_eq_true z.1)]) _ s1
              | _ => cases hw
          · rintro σ H' ⟨l, c, rfl, sm, e⟩
            have ed : xs.drop vs.length = [] := List.drop_eq_nil_of_le (by rw [ha.length]; exact Nat.le_refl _)
            rw [ed] at e
            have q' := q (.bl true) H' sm
            rw [show (Dt.tup xs).isPat n = patGo n (-1) xs from rfl, e] at q'
            exact q' (.bl _)
        | _ => cases hi
theorem drop_at {α : Type} {xs : List α} {i : Nat} {x : α} (h : xs[i]? = some x) : xs.drop i = x :: xs.drop (i + 1) := by
  obtain ⟨hlt, e⟩ := List.getElem?_eq_some_iff.mp h
  rw [List.drop_eq_getElem_cons hlt, e]
theorem int_at {ss : List Int} {i : Nat} {x : V} (h : (ss.map V.int)[i]? = some x) : ∃ n, x = .int n ∧ ss[i]? = some n := by
  rw [List.getElem?_map] at h
  cases e : ss[i]? with
  | none =>
    rw [e] at h
    cases h
  | some n =>
    rw [e] at h
    exact ⟨n, (Option.some.inj h).symm, rfl⟩

end
end Fm
namespace Fm
open PySem PySem.Spec PyProof.Rows L2
section
variable {P : Program} {w : World} {K : PySem.W.Frag} {mg : Str → Option Value} {base : Heap}

/-! ### tuples of ints -/
theorem ints_dh {K : PySem.W.Frag} {H : Hp} : ∀ c : List Int, DhAll K H (c.map V.int) (c.map Dt.int)
  | [] => .nil
  | i :: r => .cons (.int i) (ints_dh r)
theorem dh_ints {K : PySem.W.Frag} {H : Hp} : ∀ {vs : List V} (c : List Int), DhAll K H vs (c.map Dt.int) → vs = c.map V.int
  | [], [], _ => rfl
  | v :: vs, i :: r, .cons h t => by rw [h.int_inv, dh_ints r t]; rfl
def ctD (c : List Int) : Dt := .tup (c.map Dt.int)
theorem dh_ct {K : PySem.W.Frag} {H : Hp} {a : Addr} {c : List Int} (h : SqT K H a (c.map V.int)) : Dh K H (.ref a) (ctD c) := .tup h (ints_dh c)
theorem ct_inv {K : PySem.W.Frag} {H : Hp} {v : V} {c : List Int} (h : Dh K H v (ctD c)) : ∃ a, v = .ref a ∧ SqT K H a (c.map V.int) := by
  obtain ⟨a, xs, rfl, s, t⟩ := h.tup_inv
  rw [dh_ints c t] at s
  exact ⟨a, rfl, s⟩
theorem map_at {α β : Type} {l : List α} {f : α → β} {i : Nat} {y : β} (h : (l.map f)[i]? = some y) : ∃ x, l[i]? = some x ∧ f x = y := by
  rw [List.getElem?_map] at h
  cases e : l[i]? with
  | none =>
    rw [e] at h
    cases h
  | some x =>
    rw [e] at h
    exact ⟨x, rfl, Option.some.inj h⟩
theorem sz_small {n : Nat} (h : n ≤ 100000) : n < sizeLine := Nat.lt_of_le_of_lt h (by decide)
theorem Same.put {H0 H : Hp} {D : Addr} {o : HO} (h : H0 D = none) (s : Same H0 H) : Same H0 (upd H D o) := fun b x e => by
  rw [upd_ne (ne_of_none e h)]
  exact s b x e
theorem Ext.put {H : Hp} {D : Addr} {xs ys : List V} (h : H D = some (.lst xs)) : Ext H (upd H D (.lst ys)) := fun b o e => by
  by_cases hb : b = D
  · subst hb
    rw [h] at e
    cases e
    exact .inr ⟨⟨xs, rfl⟩, ys, upd_same⟩
  · rw [upd_ne hb]
    exact .inl e
def InR (ps : List Int) (n : Int) : Prop := ∀ p ∈ ps, 0 ≤ p ∧ p < n
def Asc (n : Int) : Int → List Int → Prop
  | _, [] => True
  | l, c :: r => l < c ∧ c < n ∧ Asc n c r
theorem patGo_asc {n : Int} : ∀ {l : Int} {ds : List Dt}, patGo n l ds = true → ∃ ps, ds = ps.map Dt.int ∧ Asc n l ps
  | _, [], _ => ⟨[], rfl, True.intro⟩
  | l, .int c :: r, h => by
    have h' : (if l < c ∧ c < n then patGo n c r else false) = true := h
    by_cases hc : l < c ∧ c < n
    · rw [if_pos hc] at h'
      obtain ⟨ps, rfl, ha⟩ := patGo_asc h'
      exact ⟨c :: ps, rfl, hc.1, hc.2, ha⟩
    · rw [if_neg hc] at h'
      cases h'
  | _, .non :: _, h => by cases h
  | _, .bl _ :: _, h => by cases h
  | _, .str _ :: _, h => by cases h
  | _, .tup _ :: _, h => by cases h
  | _, .oth _ :: _, h => by cases h
theorem asc_patGo {n : Int} : ∀ {l : Int} {ps : List Int}, Asc n l ps → patGo n l (ps.map Dt.int) = true
  | _, [], _ => rfl
  | l, c :: r, ⟨h1, h2, h3⟩ => by
    show (if l < c ∧ c < n then patGo n c (r.map Dt.int) else false) = true
    rw [if_pos ⟨h1, h2⟩]
    exact asc_patGo h3
theorem Asc.mem {n : Int} : ∀ {l : Int} {ps : List Int}, Asc n l ps → ∀ p ∈ ps, l < p ∧ p < n
  | l, c :: r, ⟨h1, h2, h3⟩, p, hp => by
    rcases List.mem_cons.mp hp with e | e
    · rw [e]
      exact ⟨h1, h2⟩
    · have := h3.mem p e
      omega
theorem Asc.inR {n : Int} {ps : List Int} (h : Asc n (-1) ps) : InR ps n := fun p hp => by
  have := h.mem p hp
  omega
theorem Asc.lenA {n : Int} : ∀ {l : Int} {ps : List Int}, Asc n l ps → l < n → (ps.length : Int) + l < n
  | l, [], _, h => by simpa using h
  | l, c :: r, ⟨h1, h2, h3⟩, _ => by
    have := h3.lenA h2
    rw [List.length_cons]
    omega
theorem Asc.len {n : Int} {ps : List Int} (h : Asc n (-1) ps) (hn : 0 ≤ n) : (ps.length : Int) ≤ n := by
  have := h.lenA (by omega)
  omega
def Dt.ints : Dt → List Int
  | .tup ds => ds.map fun d => match d with
    | .int i => i
    | _ => 0
  | _ => []
theorem ints_ct (c : List Int) : (ctD c).ints = c := by
  show (c.map Dt.int).map _ = c
  rw [List.map_map]
  conv => rhs; rw [← List.map_id c]
  rfl
theorem isPat_ct {n : Int} {d : Dt} (h : d.isPat n = true) : ∃ ps, d = ctD ps ∧ Asc n (-1) ps := by
  cases d with
  | tup ds =>
    obtain ⟨ps, rfl, a⟩ := patGo_asc (show patGo n (-1) ds = true from h)
    exact ⟨ps, rfl, a⟩
  | _ => cases h
theorem dh_two {K : PySem.W.Frag} {H : Hp} {xs : List V} {d1 d2 : Dt} : DhAll K H xs [d1, d2] → ∃ v1 v2, xs = [v1, v2] ∧ Dh K H v1 d1 ∧ Dh K H v2 d2
  | .cons h1 (.cons h2 .nil) => ⟨_, _, rfl, h1, h2⟩
abbrev ctP (c : List Int) : PyData := .tuple (c.map PyData.int)
abbrev ctsP (cs : List (List Int)) : PyData := .list (cs.map ctP)
theorem lay_all {α : Type} {f : α → PyData} {n : Nat} (h : ∀ x, (f x).canLay0 = true ∧ (f x).depth ≤ n) : ∀ l : List α, PyData.canLayAll0 (l.map f) = true ∧ PyData.depthAll (l.map f) ≤ n
  | [] => ⟨rfl, Nat.zero_le _⟩
  | x :: r => by
    obtain ⟨h1, h2⟩ := lay_all h r
    obtain ⟨h3, h4⟩ := h x
    refine ⟨?_, ?_⟩
    · show ((f x).canLay0 && PyData.canLayAll0 (r.map f)) = true
      rw [h1, h3]
      rfl
    · show max (f x).depth (PyData.depthAll (r.map f)) ≤ n
      exact Nat.max_le.mpr ⟨h4, h2⟩
theorem lay_ct (c : List Int) : (ctP c).canLay0 = true ∧ (ctP c).depth ≤ 1 := by
  obtain ⟨h1, h2⟩ := lay_all (f := PyData.int) (n := 0) (fun _ => ⟨rfl, Nat.le_refl _⟩) c
  exact ⟨h1, Nat.succ_le_succ h2⟩
theorem shaped_of {d : PyData} {n : Nat} (h : d.canLay0 = true ∧ d.depth ≤ n) (hn : n ≤ 64) : SeqAt.shaped d = true := by
  unfold SeqAt.shaped
  rw [h.1, decide_eq_true (Nat.le_trans h.2 hn)]
  rfl
theorem shaped_ct (c : List Int) : SeqAt.shaped (ctP c) = true := shaped_of (lay_ct c) (by decide)
theorem lay_cts (cs : List (List Int)) : (ctsP cs).canLay0 = true ∧ (ctsP cs).depth ≤ 2 := by
  obtain ⟨h1, h2⟩ := lay_all (f := fun c => ctP c) (n := 1) lay_ct cs
  exact ⟨h1, Nat.succ_le_succ h2⟩
theorem shaped_cts (cs : List (List Int)) : SeqAt.shaped (ctsP cs) = true := shaped_of (lay_cts cs) (by decide)
theorem eqv_all {α : Type} [DecidableEq α] {f : α → PyData} (h : ∀ x y, PyData.eqv (f x) (f y) = decide (x = y)) : ∀ l m : List α, PyData.eqvAll (l.map f) (m.map f) = decide (l = m)
  | [], [] => by simp [PyData.eqvAll]
  | [], _ :: _ => by simp [PyData.eqvAll]
  | _ :: _, [] => by simp [PyData.eqvAll]
  | x :: l, y :: m => by
    rw [List.map_cons, List.map_cons, PyData.eqvAll, h, eqv_all h l m]
    by_cases e1 : x = y <;> by_cases e2 : l = m <;> simp [e1, e2]
theorem eqv_ct (c d : List Int) : PyData.eqv (ctP c) (ctP d) = decide (c = d) := by
  rw [PyData.eqv]
  exact eqv_all (f := PyData.int) (fun x y => by rw [PyData.eqv]; by_cases e : x = y <;> simp [e]) c d
theorem eqv_cts (c d : List (List Int)) : PyData.eqv (ctsP c) (ctsP d) = decide (c = d) := by
  rw [PyData.eqv]
  exact eqv_all (f := fun c => ctP c) eqv_ct c d
theorem dp_ints {K : PySem.W.Frag} {H : Hp} : ∀ c : List Int, DpAll K H (c.map V.int) (c.map PyData.int)
  | [] => .nil
  | i :: r => .cons (.int i) (dp_ints r)
theorem dp_ct {K : PySem.W.Frag} {H : Hp} {v : V} {c : List Int} (h : Dh K H v (ctD c)) : Dp K H v (ctP c) := by
  obtain ⟨a, rfl, s⟩ := ct_inv h
  exact .tup s (dp_ints c)
theorem dp_ctAll {K : PySem.W.Frag} {H : Hp} : ∀ {xs : List V} (cs : List (List Int)), DhAll K H xs (cs.map ctD) → DpAll K H xs (cs.map ctP)
  | _, [], .nil => .nil
  | _, _ :: r, .cons h t => .cons (dp_ct h) (dp_ctAll r t)
theorem dp_cts {K : PySem.W.Frag} {H : Hp} {a : Addr} {xs : List V} {cs : List (List Int)} (s : SqL K H a xs) (h : DhAll K H xs (cs.map ctD)) : Dp K H (.ref a) (ctsP cs) := .lst s (dp_ctAll cs h)
theorem Asc.isPat {n : Int} {ps : List Int} (h : Asc n (-1) ps) : (ctD ps).isPat n = true := asc_patGo h

end
end Fm
namespace Fm
open PySem PySem.Spec PyProof.Rows L2
section
variable {P : Program} {w : World} {K : PySem.W.Frag} {mg : Str → Option Value} {base : Heap}

/-! ### lists of patterns -/
def rgI (n : Nat) : List Int := (List.range n).map fun (i : Nat) => (i : Int)
theorem rgV_I (n : Nat) : rgV 0 (n : Int) = (rgI n).map V.int := by
  unfold rgV rgI
  rw [List.map_map]
  have e : ((n : Int) - 0).toNat = n := by omega
  rw [e]
  refine List.map_congr_left fun i _ => ?_
  show V.int (0 + (i : Int)) = V.int (i : Int)
  rw [Int.zero_add]
def spCols (K : PySem.W.Frag) : Sp := fun vs H Q _ => ∃ n : Nat, vs = [.int n] ∧ n ≤ 1000 ∧ ∀ v H', Same H H' → Dh K H' v (ctD (rgI n)) → Q v H'
theorem ok_all_columns (T : Txt K mg) : FnOk P w K mg base CX0 1 T.f_all_columns T.d_all_columns ["columns"] (spCols K) := by
  refine T.F_all_columns.ok sc_all_columns (fun vs H Q E h => ?_) (fun cdv A outer s H vs Q E hr h => ?_)
  · obtain ⟨_, rfl, _⟩ := h
    rfl
  · obtain ⟨n, rfl, hn, q⟩ := h
    refine ⟨_, (pss_one (ps_ret (pe_tupRg rfl (by rfl) T.z_tuple (prg_1 (by rfl) T.z_range (pv 0))))), ?_⟩
    refine ⟨_, rfl, _, rfl, RgOk.of_le (by omega) (by omega) (by omega) (by omega), fun p np => ?_⟩
    rw [rgV_I]
    exact q _ _ (same_new np) (dh_ct (SqT.of upd_same))
def lGo (n : Int) : Option (List Int) → List Dt → Bool
  | _, [] => true
  | last, d :: r => if d.isPat n = true then (match last with
    | none => lGo n (some d.ints) r
    | some l => if HT.lexLt l d.ints = true then lGo n (some d.ints) r else false) else false
def Dt.isList (n : Nat) : Dt → Bool
  | .tup ds => decide (1 ≤ ds.length ∧ ds.length ≤ 12) && (lGo n none ds && ds.any fun d => decide (d.ints = rgI n))
  | _ => false
def LastOk (K : PySem.W.Frag) (H : Hp) (v : V) : Option (List Int) → Prop
  | none => v = .non
  | some l => Dh K H v (ctD l)
theorem dp_pats {K : PySem.W.Frag} {H : Hp} {n : Int} : ∀ {xs : List V} {ds : List Dt}, DhAll K H xs ds → (∀ d ∈ ds, d.isPat n = true) → DpAll K H xs (ds.map fun d => ctP d.ints)
  | _, _, .nil, _ => .nil
  | _, _, .cons (d := d) h t, hp => by
    obtain ⟨ps, rfl, _⟩ := isPat_ct (hp d (List.mem_cons_self ..))
    rw [List.map_cons, ints_ct]
    exact .cons (dp_ct h) (dp_pats t fun e he => hp e (List.mem_cons_of_mem _ he))
theorem any_ct (ds : List Dt) (c : List Int) : ((ds.map fun d => ctP d.ints).any fun z => PyData.eqv z (ctP c)) = ds.any fun d => decide (d.ints = c) := by
  rw [List.any_map]
  congr 1
  funext d
  exact eqv_ct d.ints c
theorem shaped_pats (ds : List Dt) : SeqAt.shaped (.tuple (ds.map fun d => ctP d.ints)) = true := by
  obtain ⟨h1, h2⟩ := lay_all (f := fun c => ctP c) (n := 1) lay_ct (ds.map fun d => d.ints)
  rw [List.map_map] at h1 h2
  exact shaped_of (n := 2) ⟨h1, Nat.succ_le_succ h2⟩ (by decide)
def spList (K : PySem.W.Frag) : Sp := fun vs H Q _ => ∃ (n : Nat) (v : V) (d : Dt), vs = [.int n, v] ∧ 1 ≤ n ∧ n ≤ 5 ∧ Dh K H v d ∧ ∀ H', Same H H' → Q (.bl (d.isList n)) H'
theorem ok_is_list (T : Txt K mg) : FnOk P w K mg base CX0 3 T.f_is_list T.d_is_list ["columns", "thing"] (spList K) := by
  refine T.F_is_list.ok sc_is_list (fun vs H Q E h => ?_) (fun cdv A outer s H vs Q E hr h => ?_)
  · obtain ⟨_, _, _, rfl, _⟩ := h
    rfl
  · obtain ⟨n, v, d, rfl, n1, n5, h, q⟩ := h
    refine ⟨_, (pss_cons (ps_if (PW.pt (pw_or (pt_not (pt_val (pe_call (ok_is_whole T) (hr.mono (by decide)) (by rfl) T.g_is_whole T.F_is_whole.kp T.b_is_whole .nil pass0 (pa_cons (pv 0) pa_nil)))) (pw_or1 (pt_not (pt_chain op_le op_le pe_int (pv 0) (pe_glob (by rfl) T.k_MOST_COLUMNS.1 T.k_MOST_COLUMNS.2)))))) (pss_one ps_never) pss_nil)
      (pss_cons (ps_if (PW.pt (pw_or (pt_not (pt_val (pe_callB (call_isiK' K) (by rfl) T.z_isinstance (by decide +kernel) (pa_cons (pv 1) (pa_cons (pe_bltn (v := .ty "tuple") (by rfl) T.z_tuple (by decide +kernel) rfl) pa_nil))))) (pw_or1 (pt_not (pt_chain op_le op_le pe_int (pe_callB (call_lenK K) (by rfl) T.z_len PySem.boot_len (pa_cons (pv 1) pa_nil)) (pe_glob (by rfl) T.k_MOST_PATTERNS.1 T.k_MOST_PATTERNS.2)))))) (pss_one (ps_ret pe_bl)) pss_nil)
      (pss_cons (ps_set (i := 2) sc_is_list.nd rfl (.inl rfl) pe_non)
      (pss_cons (ps_for PassesOwn.never rfl (pi_tupK K (pv 1)) (pg_name (i := 3) sc_is_list.nd rfl (.inl rfl)) (pss_cons (ps_if (pt_not (pt_val (pe_call (ok_is_pattern T) hr (by rfl) T.g_is_pattern T.F_is_pattern.kp T.b_is_pattern .nil pass0 (pa_cons (pv 0) (pa_cons (pv 3) pa_nil))))) (pss_one (ps_ret pe_bl)) pss_nil)
      (pss_cons (ps_if (PW.pt (pw_and (pt_cmpR op_notN (pv 2) pe_non (nomark _)) (pw_and1 (pt_not (pt_cmpR (op_ltTK (K := K) hr.units0) (pv 2) (pv 3) (nomark _)))))) (pss_one (ps_ret pe_bl)) pss_nil)
      (pss_one (ps_set (i := 2) sc_is_list.nd rfl (.inl rfl) (pv 3))))))
      (pss_one (ps_ret (pe_cmpR (op_inT (K := K) (room65 hr)) (pe_call (ok_all_columns T) (hr.mono (by decide)) (by rfl) T.g_all_columns T.F_all_columns.kp T.b_all_columns .nil pass0 (pa_cons (pv 0) pa_nil)) (pv 1) (by rfl)))))))), ?_⟩
    refine ⟨_, rfl, spD_bl (.cons (.int _) .nil) rfl fun H1 s1 => ⟨_, rfl, ?_⟩⟩
    refine iteF ?_
    refine ⟨_, rfl, _, _, rfl, rfl, _, rfl, ?_⟩
    rw [decide_eq_true (show (1 : Int) ≤ n by omega)]
    refine iteT ?_
    refine ⟨_, _, rfl, rfl, _, rfl, ?_⟩
    rw [decide_eq_true (show (n : Int) ≤ 5 by omega)]
    refine iteF ?_
    have h := h.ext (.of s1)
    obtain ⟨t, ty, ki, kt, kb⟩ := h.kinds
    refine ⟨_, rfl, _, _, _, _, _, rfl, .ty _, ty, kt, _, rfl, ?_⟩
    cases hi : d.isTup with
    | false =>
      refine iteT (iteT ?_)
      have e : d.isList n = false := by cases d <;> first | rfl | cases hi
      rw [e] at q
      exact q H1 s1
    | true =>
      refine iteF ?_
      cases d with
      | tup ds =>
        obtain ⟨a, xs, rfl, hs, ha⟩ := h.tup_inv
        have hl := ha.length
        have eq0 : (Dt.tup ds).isList n = (decide (1 ≤ ds.length ∧ ds.length ≤ 12) && (lGo n none ds && ds.any fun d => decide (d.ints = rgI n))) := rfl
        rw [eq0] at q
        refine ⟨_, rfl, a, xs, rfl, .inr hs, _, _, rfl, rfl, _, rfl, ?_⟩
        have out : ¬ (1 ≤ ds.length ∧ ds.length ≤ 12) → Q (.bl false) H1 := fun z => by
          rw [decide_eq_false z] at q
          exact q H1 s1
        refine ite2 (fun h1 => ?_) (fun h1 => ?_)
        · have h1' : (1 : Int) ≤ xs.length := of_decide_eq_true h1
          refine ⟨_, _, rfl, rfl, _, rfl, ?_⟩
          refine ite2 (fun h2 => ?_) (fun h2 => ?_)
          · have h2' : ¬ (xs.length : Int) ≤ 12 := by simpa using h2
            exact out fun z => h2' (by omega)
          · have h2' : (xs.length : Int) ≤ 12 := by simpa using h2
            rw [decide_eq_true (show 1 ≤ ds.length ∧ ds.length ≤ 12 by omega), Bool.true_and] at q
            refine ⟨_, rfl, a, rfl, ⟨_, hs⟩, for_tup (xs := xs) (fun i σ H' => ∃ (last : Option (List Int)) (v2 : V) (y3 : Option V), σ = [some (.int n), some (.ref a), some v2, y3] ∧ Same H1 H' ∧ LastOk K H' v2 last ∧ lGo n none ds = lGo n last (ds.drop i) ∧ ∀ d ∈ ds.take i, d.isPat n = true)
              ⟨none, _, none, rfl, Same.refl _, rfl, rfl, fun d hd => by simp at hd⟩ (fun i σ H' _ ⟨_, _, _, _, sm, _⟩ => (Ext.of sm).sqT hs) ?_ ?_⟩
            · rintro i x σ H' hx ⟨last, v2, y3, rfl, sm, hlast, e, hpat⟩
              obtain ⟨dx, hdx, hx2⟩ := ha.get hx
              rw [drop_at hdx] at e
              refine ⟨_, rfl, _, rfl, spD_bl (.cons (.int _) (.cons (hx2.ext (.of sm)) .nil)) rfl fun H2 s2 => ⟨_, rfl, ?_⟩⟩
              have sm2 := (s1.trans sm).trans s2
              cases hp : dx.isPat n with
              | false =>
                refine iteT ?_
                have z : lGo n none ds = false := by
                  rw [e]
                  show (if dx.isPat n = true then _ else false) = false
                  rw [if_neg (by rw [hp]; exact Bool.false_ne_true)]
                rw [z] at q
                exact q H2 sm2
              | true =>
                refine iteF ?_
                obtain ⟨ps, rfl, _⟩ := isPat_ct hp
                have hx3 := hx2.ext (.of (sm.trans s2))
                have hpat' : ∀ d ∈ ds.take (i + 1), d.isPat n = true := fun d hd => by
                  rw [List.take_add_one, hdx] at hd
                  rcases List.mem_append.mp hd with hd | hd
                  · exact hpat d hd
                  · rw [List.mem_singleton.mp hd]
                    exact hp
                cases last with
                | none =>
                  have hl2 : v2 = .non := hlast
                  subst hl2
                  refine ⟨_, rfl, rfl, _, rfl, iteF ?_⟩
                  refine ⟨_, rfl, some ps, x, _, rfl, sm.trans s2, hx3, ?_, hpat'⟩
                  rw [e]
                  show (if (ctD ps).isPat n = true then lGo n (some (ctD ps).ints) _ else false) = _
                  rw [if_pos hp, ints_ct]
                | some l =>
                  have hl2 : Dh K H2 v2 (ctD l) := (show Dh K H' v2 (ctD l) from hlast).ext (.of s2)
                  obtain ⟨la, rfl, hla⟩ := ct_inv hl2
                  obtain ⟨xa, rfl, hxa⟩ := ct_inv hx3
                  refine ⟨_, rfl, rfl, _, rfl, ?_⟩
                  rw [decide_eq_false (show ¬ V.ref la = V.non from fun z => by cases z)]
                  refine iteT ?_
                  refine ⟨_, rfl, _, rfl, la, xa, l, ps, rfl, rfl, hla, hxa, _, rfl, ?_⟩
                  have e' : lGo n none ds = if HT.lexLt l ps = true then lGo n (some ps) (ds.drop (i + 1)) else false := by
                    rw [e]
                    show (if (ctD ps).isPat n = true then (if HT.lexLt l (ctD ps).ints = true then lGo n (some (ctD ps).ints) _ else false) else false) = _
                    rw [if_pos hp, ints_ct]
                  cases hlt : HT.lexLt l ps with
                  | true =>
                    refine iteF ?_
                    rw [if_pos hlt] at e'
                    exact ⟨_, rfl, some ps, _, _, rfl, sm.trans s2, hx3, e', hpat'⟩
                  | false =>
                    refine iteT ?_
                    rw [if_neg (by rw [hlt]; exact Bool.false_ne_true)] at e'
                    rw [e'] at q
                    exact q H2 sm2
            · rintro σ H' ⟨last, v2, y3, rfl, sm, hlast, e, hpat⟩
              rw [List.drop_eq_nil_of_le (by omega)] at e
              have e' : lGo n none ds = true := e
              rw [e', Bool.true_and] at q
              have hall : ∀ d ∈ ds, d.isPat n = true := fun d hd => hpat d (by rw [hl, List.take_length]; exact hd)
              refine ⟨_, rfl, n, rfl, by omega, fun v H3 s3 hv => ?_⟩
              have sm3 := sm.trans s3
              refine ⟨_, rfl, ctP (rgI n), (ds.map fun d => ctP d.ints), dp_ct hv, .tup ((Ext.of sm3).sqT hs) (dp_pats (ha.ext (.of sm3)) hall), shaped_ct _, shaped_pats _, ?_⟩
              rw [any_ct]
              exact q H3 (s1.trans sm3)
        · refine ⟨_, rfl, iteT ?_⟩
          exact out fun z => h1 (decide_eq_true (by omega))
      | _ => cases hi

end
end Fm
namespace Fm
open PySem PySem.Spec PyProof.Rows L2
section
variable {P : Program} {w : World} {K : PySem.W.Frag} {mg : Str → Option Value} {base : Heap}

/-! ### less, struck, within -/
/-- a pattern without a column -/
def cut1 (c : Int) (p : List Int) : List Int := p.filter fun x => decide (x ≠ c)
def strk (c : Int) (ps : List (List Int)) : List (List Int) := ps.map (cut1 c)
def patsD (ps : List (List Int)) : Dt := .tup (ps.map ctD)
theorem cut1_len (c : Int) (p : List Int) : (cut1 c p).length ≤ p.length := List.length_filter_le _ _
theorem take_filter {α : Type} {f : α → Bool} {l : List α} {j : Nat} {e : α} (he : l[j]? = some e) : (l.take (j + 1)).filter f = (l.take j).filter f ++ if f e = true then [e] else [] := by
  rw [List.take_add_one, he, List.filter_append]
  congr 1
  show List.filter _ [e] = _
  by_cases h : f e = true
  · rw [if_pos h, List.filter_cons, if_pos h]
    rfl
  · rw [if_neg h, List.filter_cons, if_neg h]
    rfl
def spLess (K : PySem.W.Frag) : Sp := fun vs H Q _ => ∃ (v : V) (p : List Int) (c : Int), vs = [v, .int c] ∧ Dh K H v (ctD p) ∧ p.length ≤ 1000 ∧ ∀ u H', Same H H' → Dh K H' u (ctD (cut1 c p)) → Q u H'
theorem ok_less (T : Txt K mg) : FnOk P w K mg base CX0 1 T.f_less T.d_less ["pattern", "column"] (spLess K) := by
  refine T.F_less.ok sc_less (fun vs H Q E h => ?_) (fun cdv A outer s H vs Q E hr h => ?_)
  · obtain ⟨_, _, _, rfl, _⟩ := h
    rfl
  · obtain ⟨v, p, c, rfl, hv, hl, q⟩ := h
    obtain ⟨a, rfl, ha⟩ := ct_inv hv
    refine ⟨_, (pss_one (ps_ret (pe_callTy (call_tupleK K) (by rfl) T.z_tuple (by decide +kernel) (pa_cons (pe_lc (own := [("other", 2)]) rfl sc_less.nd (pi_tupK K (pv 0)) (blkOk_by (N := N_less) (sc := defScope s_less) (by decide +kernel)) (fun _ _ _ _ _ => (pg_name (i := 2) sc_less.nd rfl (.inl rfl))) (fun _ _ _ _ _ => (pts_one (pt_cmpR op_ne (pv 2) (pv 1) (nomark _)))) (fun _ _ _ _ _ => (pv 2))) pa_nil)))), ?_⟩
    refine ⟨_, rfl, a, rfl, ⟨_, ha⟩, fun D nD => lc_tup (K := K) (xs := p.map V.int) (fun j H' => Same H H' ∧ H' D = some (.lst (((p.take j).filter fun x => decide (x ≠ c)).map V.int))) ⟨same_new nD, upd_same⟩ (fun j H' _ ⟨s', _⟩ => (Ext.of s').sqT ha) ?_ ?_⟩
    · rintro j x H1 hx ⟨s1, hD⟩
      rw [List.getElem?_map] at hx
      obtain ⟨z, hz, rfl⟩ := Option.map_eq_some_iff.mp hx
      have hf := take_filter (f := fun x => decide (x ≠ c)) hz
      refine ⟨rfl, ?_⟩
      have hlt : ∀ k, (((p.take k).filter fun x => decide (x ≠ c)).map V.int).length ≤ 1000 := fun k => by
        rw [List.length_map]
        have := List.length_filter_le (fun x => decide (x ≠ c)) (p.take k)
        have := List.length_take (i := k) (l := p)
        omega
      refine ⟨_, rfl, _, rfl, ⟨rfl, _, rfl, ?_⟩⟩
      by_cases e : z = c
      · rw [show decide (V.int z = V.int c) = true from decide_eq_true (by rw [e])]
        rw [if_neg (by rw [decide_eq_false (fun h => h e)]; decide), List.append_nil] at hf
        refine iteF ?_
        rw [hf]
        exact ⟨s1, hD⟩
      · rw [show decide (V.int z = V.int c) = false from decide_eq_false fun h => e (by injection h)]
        rw [if_pos (decide_eq_true e)] at hf
        refine iteT ?_
        refine ⟨_, rfl, _, hD, sz_small (by have := hlt j; omega), Same.put nD s1, ?_⟩
        rw [hf, List.map_append]
        exact upd_same
    · rintro H1 ⟨s1, hD⟩
      have hD : H1 D = some (.lst (((p.take p.length).filter fun x => decide (x ≠ c)).map V.int)) := by
        rw [← List.length_map (f := V.int)]
        exact hD
      rw [List.take_length] at hD
      exact ⟨D, _, rfl, .inl ⟨SqL.of hD, fun t nt => q _ _ (s1.trans (same_new nt)) (dh_ct (SqT.of upd_same))⟩⟩
/-- patterns in a tuple or in a list -/
def PsV (K : PySem.W.Frag) (H : Hp) (v : V) (ps : List (List Int)) : Prop := ∃ a L xs, v = .ref a ∧ SqA L K H a xs ∧ DhAll K H xs (ps.map ctD)
theorem PsV.of {H : Hp} {v : V} {ps : List (List Int)} (h : Dh K H v (patsD ps)) : PsV K H v ps := by
  obtain ⟨a, xs, e, ha, hx⟩ := h.tup_inv
  exact ⟨a, false, xs, e, ha, hx⟩
theorem PsV.same {H H' : Hp} {v : V} {ps : List (List Int)} (s : Same H H') : PsV K H v ps → PsV K H' v ps := fun ⟨a, L, xs, e, ha, hx⟩ => ⟨a, L, xs, e, Ext.sqTs s ha, hx.ext (.of s)⟩
def spStruck (K : PySem.W.Frag) : Sp := fun vs H Q _ => ∃ (v : V) (ps : List (List Int)) (c : Int), vs = [v, .int c] ∧ PsV K H v ps ∧ ps.length ≤ 1000 ∧ (∀ p ∈ ps, p.length ≤ 1000) ∧ ∀ u H', Same H H' → Dh K H' u (patsD (strk c ps)) → Q u H'
/-- what a comprehension over known things has collected -/
structure Got (K : PySem.W.Frag) (H0 : Hp) (D : Addr) (ds : List Dt) (H : Hp) : Prop where
  same : Same H0 H
  got : ∃ acc, H D = some (.lst acc) ∧ DhAll K H acc ds
theorem Got.put {H0 H H' : Hp} {D : Addr} {ds : List Dt} {d : Dt} {v : V} (nD : H0 D = none) (g : Got K H0 D ds H) (s : Same H H') (h : Dh K H' v d) (hl : ds.length ≤ 10000) : ∃ acc, H' D = some (.lst acc) ∧ acc.length < sizeLine ∧ Got K H0 D (ds ++ [d]) (upd H' D (.lst (acc ++ [v]))) := by
  obtain ⟨acc, h1, h2⟩ := g.got
  have hD := s _ _ h1
  have ep := Ext.put (ys := acc ++ [v]) hD
  refine ⟨acc, hD, sz_small (by have := h2.length; omega), Same.put nD (g.same.trans s), acc ++ [v], upd_same, ?_⟩
  have key : ∀ {xs : List V} {es : List Dt}, DhAll K (upd H' D (.lst (acc ++ [v]))) xs es → DhAll K (upd H' D (.lst (acc ++ [v]))) (xs ++ [v]) (es ++ [d]) := by
    intro xs es z
    induction es generalizing xs with
    | nil =>
      cases z
      exact .cons (h.ext ep) .nil
    | cons e es ih =>
      cases z with
      | cons z1 z2 => exact .cons z1 (ih z2)
  exact key ((h2.ext (.of s)).ext ep)
theorem Got.zero {H0 : Hp} {D : Addr} (nD : H0 D = none) : Got K H0 D [] (upd H0 D (.lst [])) := ⟨same_new nD, [], upd_same, .nil⟩
theorem dhAll_at {H : Hp} : ∀ {xs : List V} {ds : List Dt} {i : Nat} {x : V}, DhAll K H xs ds → xs[i]? = some x → ∃ d, ds[i]? = some d ∧ Dh K H x d
  | _, _, _, _, .nil, e => by simp at e
  | v :: _, _, 0, x, .cons (d := d) h _, e => by
    have e : v = x := by simpa using e
    subst e
    exact ⟨d, rfl, h⟩
  | _, _, i + 1, x, .cons _ t, e => dhAll_at (i := i) t (by simpa using e)
theorem ok_struck (T : Txt K mg) : FnOk P w K mg base CX0 2 T.f_struck T.d_struck ["parts", "column"] (spStruck K) := by
  refine T.F_struck.ok sc_struck (fun vs H Q E h => ?_) (fun cdv A outer s H vs Q E hr h => ?_)
  · obtain ⟨_, _, _, rfl, _⟩ := h
    rfl
  · obtain ⟨v, ps, c, rfl, hv, hl, hp, q⟩ := h
    obtain ⟨a, L, xs, rfl, ha, hx⟩ := hv
    have hxl : xs.length = ps.length := by rw [hx.length, List.length_map]
    refine ⟨_, (pss_one (ps_ret (pe_callTy (call_tupleK K) (by rfl) T.z_tuple (by decide +kernel) (pa_cons (pe_lc (own := [("pattern", 2)]) rfl sc_struck.nd (pi_seqK (K := K) (pv 0)) (blkOk_by (N := N_struck) (sc := defScope s_struck) (by decide +kernel)) (fun _ _ _ _ _ => (pg_name (i := 2) sc_struck.nd rfl (.inl rfl))) (fun _ _ _ _ _ => pts_nil) (fun _ _ _ _ _ => (pe_call (ok_less T) hr (by rfl) T.g_less T.F_less.kp T.b_less .nil pass0 (pa_cons (pv 2) (pa_cons (pv 1) pa_nil))))) pa_nil)))), ?_⟩
    refine ⟨_, rfl, a, L, xs, rfl, ha, fun D nD => lc_seq (K := K) (xs := xs) (fun j H' => Got K H D ((ps.take j).map fun p => ctD (cut1 c p)) H') (.zero nD) (fun j H' _ g => Ext.sqTs g.same ha) ?_ ?_⟩
    · rintro j x H1 hxj g
      obtain ⟨d, hd, hxd⟩ := dhAll_at hx hxj
      obtain ⟨p, hp1, rfl⟩ := map_at hd
      refine ⟨rfl, ?_⟩
      dsimp only [tYes]
      rw [if_pos rfl]
      refine ⟨_, rfl, _, rfl, _, p, c, rfl, hxd.ext (.of g.same), hp p (List.mem_of_getElem? hp1), fun u H2 s2 hu => ?_⟩
      obtain ⟨acc, h1, h2, h3⟩ := g.put nD s2 hu (by rw [List.length_map]; have := List.length_take (i := j) (l := ps); omega)
      refine ⟨acc, h1, h2, ?_⟩
      rw [List.take_add_one, hp1, List.map_append]
      exact h3
    · rintro H1 ⟨s1, acc, hD, hac⟩
      rw [hxl, List.take_length] at hac
      refine ⟨D, _, rfl, .inl ⟨SqL.of hD, fun t nt => q _ _ (s1.trans (same_new nt)) (.tup (SqT.of upd_same) ?_)⟩⟩
      unfold strk
      rw [List.map_map]
      exact hac.ext (.of (same_new nt))
/-! ### within -/
def sub1 (p q : List Int) : Bool := p.all fun x => decide (x ∈ q)
theorem any_mem (q : List Int) (x : Int) : ((q.map PyData.int).any fun z => PyData.eqv z (.int x)) = decide (x ∈ q) := by
  induction q with
  | nil => rfl
  | cons y q ih =>
    rw [List.map_cons, List.any_cons, ih]
    have e : PyData.eqv (.int y) (.int x) = decide (y = x) := by
      rw [PyData.eqv]
      by_cases h : y = x
      · rw [decide_eq_true h, h]
        simp
      · rw [decide_eq_false h]
        simp [h]
    rw [e, ← Bool.decide_or]
    refine decide_eq_decide.mpr ?_
    rw [List.mem_cons]
    exact ⟨fun h => h.elim (fun h => .inl h.symm) .inr, fun h => h.elim (fun h => .inl h.symm) .inr⟩
theorem shaped_int (x : Int) : SeqAt.shaped (.int x) = true := shaped_of (n := 0) ⟨rfl, Nat.le_refl _⟩ (by decide)
def spIn (K : PySem.W.Frag) : Sp := fun vs H Q _ => ∃ (v u : V) (p q : List Int), vs = [v, u] ∧ Dh K H v (ctD p) ∧ Dh K H u (ctD q) ∧ p.length ≤ 1000 ∧ ∀ H', Same H H' → Q (.bl (sub1 p q)) H'
theorem ok_within (T : Txt K mg) : FnOk P w K mg base CX0 1 T.f_within T.d_within ["inner", "outer"] (spIn K) := by
  refine T.F_within.ok sc_within (fun vs H Q E h => ?_) (fun cdv A outer s H vs Q E hr h => ?_)
  · obtain ⟨_, _, _, _, rfl, _⟩ := h
    rfl
  · obtain ⟨v, u, p, q, rfl, hv, hu, hl, k⟩ := h
    obtain ⟨a, rfl, ha⟩ := ct_inv hv
    refine ⟨_, (pss_one (ps_ret (pe_callB (call_allK (K := K) rfl) (by rfl) T.z_all (by decide +kernel) (pa_cons (pe_lc (own := [("column", 2)]) rfl sc_within.nd (pi_tupK K (pv 0)) (blkOk_by (N := N_within) (sc := defScope s_within) (by decide +kernel)) (fun _ _ _ _ _ => (pg_name (i := 2) sc_within.nd rfl (.inl rfl))) (fun _ _ _ _ _ => pts_nil) (fun _ _ _ _ _ => (pe_cmpR (op_inT (K := K) (room65 hr)) (pv 2) (pv 1) (by rfl)))) pa_nil)))), ?_⟩
    refine ⟨_, rfl, a, rfl, ⟨_, ha⟩, fun D nD => lc_tup (K := K) (xs := p.map V.int) (fun j H' => Same H H' ∧ H' D = some (.lst (((p.take j).map fun x => decide (x ∈ q)).map V.bl))) ⟨same_new nD, upd_same⟩ (fun j H' _ ⟨s', _⟩ => (Ext.of s').sqT ha) ?_ ?_⟩
    · rintro j x H1 hx ⟨s1, hD⟩
      rw [List.getElem?_map] at hx
      obtain ⟨z, hz, rfl⟩ := Option.map_eq_some_iff.mp hx
      refine ⟨rfl, ?_⟩
      dsimp only [tYes]
      rw [if_pos rfl]
      refine ⟨_, rfl, _, rfl, .int z, q.map PyData.int, .int z, dp_ct (hu.ext (.of s1)), shaped_int z, shaped_ct q, ?_⟩
      rw [any_mem]
      refine ⟨_, hD, sz_small (by rw [List.length_map, List.length_map]; have := List.length_take (i := j) (l := p); omega), Same.put nD s1, ?_⟩
      rw [List.take_add_one, hz, List.map_append, List.map_append]
      exact upd_same
    · rintro H1 ⟨s1, hD⟩
      have hD : H1 D = some (.lst (((p.take p.length).map fun x => decide (x ∈ q)).map V.bl)) := by
        rw [← List.length_map (f := V.int)]
        exact hD
      rw [List.take_length] at hD
      refine ⟨D, _, rfl, SqL.of hD, ?_⟩
      have e : (p.map fun x => decide (x ∈ q)).all id = sub1 p q := by
        unfold sub1
        rw [List.all_map]
        rfl
      rw [e]
      exact k _ s1

end
end Fm
namespace Fm
open PySem PySem.Spec PyProof.Rows L2
section
variable {P : Program} {w : World} {K : PySem.W.Frag} {mg : Str → Option Value} {base : Heap}

/-! ### is_nest -/
/-- of each two patterns that hold a column one lies within the other -/
def Nest (c : Int) (ps : List (List Int)) : Prop := ∀ p ∈ ps, ∀ q ∈ ps, c ∈ p → c ∈ q → sub1 p q = true ∨ sub1 q p = true
instance (c : Int) (ps : List (List Int)) : Decidable (Nest c ps) := inferInstanceAs (Decidable (∀ p ∈ ps, ∀ q ∈ ps, c ∈ p → c ∈ q → sub1 p q = true ∨ sub1 q p = true))
theorem nodup_len {α : Type} [DecidableEq α] : ∀ (l D : List α), l.Nodup → (∀ x ∈ l, x ∈ D) → l.length ≤ D.length
  | [], _, _, _ => Nat.zero_le _
  | x :: l, D, hn, hs => by
    have h' := List.nodup_cons.mp hn
    have hx := hs x (List.mem_cons_self ..)
    have ih := nodup_len l (D.erase x) h'.2 fun y hy => (List.mem_erase_of_ne (show y ≠ x from by
      intro e
      rw [e] at hy
      exact h'.1 hy)).mpr (hs y (List.mem_cons_of_mem _ hy))
    rw [List.length_erase_of_mem hx] at ih
    have := List.length_pos_of_mem hx
    rw [List.length_cons]
    omega
theorem sub1_iff {p q : List Int} : sub1 p q = true ↔ ∀ x ∈ p, x ∈ q := by
  unfold sub1
  rw [List.all_eq_true]
  exact ⟨fun h x hx => of_decide_eq_true (h x hx), fun h x hx => decide_eq_true (h x hx)⟩
theorem sub1_back {p q : List Int} (hp : p.Nodup) (hl : q.length ≤ p.length) (h : sub1 p q = true) : sub1 q p = true := by
  rw [sub1_iff] at h ⊢
  intro x hx
  by_cases hm : x ∈ p
  · exact hm
  · have := nodup_len (x :: p) q (List.nodup_cons.mpr ⟨hm, hp⟩) fun y hy => by
      rcases List.mem_cons.mp hy with u | u
      · rw [u]; exact hx
      · exact h y u
    rw [List.length_cons] at this
    omega
theorem chain_all {L : List (List Int)} (nd : ∀ p ∈ L, p.Nodup) (pw : L.Pairwise fun x y => x.length ≤ y.length) :
    (((List.range (L.length - 1)).map fun k => sub1 (L.getD k []) (L.getD (k + 1) [])).all id = true) ↔ ∀ p ∈ L, ∀ q ∈ L, sub1 p q = true ∨ sub1 q p = true := by
  have gd : ∀ k, (h : k < L.length) → L.getD k [] = L[k] := fun k h => by
    rw [List.getD_eq_getElem?_getD, List.getElem?_eq_getElem h]
    rfl
  rw [List.all_map, List.all_eq_true]
  constructor
  · intro h
    have step : ∀ k, (h1 : k + 1 < L.length) → sub1 L[k] L[k + 1] = true := fun k h1 => by
      have z := h k (List.mem_range.mpr (by omega))
      have z : sub1 (L.getD k []) (L.getD (k + 1) []) = true := z
      rw [gd k (by omega), gd (k + 1) h1] at z
      exact z
    have up : ∀ (d i : Nat), (h1 : i + d < L.length) → sub1 (L[i]'(by omega)) L[i + d] = true := by
      intro d
      induction d with
      | zero => exact fun i h1 => sub1_iff.mpr fun x hx => hx
      | succ d ih => exact fun i h1 => sub1_iff.mpr fun x hx => sub1_iff.mp (step (i + d) h1) x (sub1_iff.mp (ih i (by omega)) x hx)
    intro p hp q hq
    obtain ⟨i, hi, rfl⟩ := List.mem_iff_getElem.mp hp
    obtain ⟨j, hj, rfl⟩ := List.mem_iff_getElem.mp hq
    rcases Nat.le_total i j with u | u
    · obtain ⟨d, rfl⟩ := Nat.exists_eq_add_of_le u
      exact .inl (up d i hj)
    · obtain ⟨d, rfl⟩ := Nat.exists_eq_add_of_le u
      exact .inr (up d j hi)
  · intro h k hk
    have hk := List.mem_range.mp hk
    have h1 : k + 1 < L.length := by omega
    show sub1 (L.getD k []) (L.getD (k + 1) []) = true
    rw [gd k (by omega), gd (k + 1) h1]
    rcases h L[k] (List.getElem_mem _) L[k + 1] (List.getElem_mem _) with u | u
    · exact u
    · exact sub1_back (nd _ (List.getElem_mem _)) (List.pairwise_iff_getElem.mp pw k (k + 1) (by omega) h1 (by omega)) u
def spNest (K : PySem.W.Frag) : Sp := fun vs H Q _ => ∃ (v : V) (ps : List (List Int)) (c : Int), vs = [v, .int c] ∧ PsV K H v ps ∧ ps.length ≤ 1000 ∧ (∀ p ∈ ps, p.length ≤ 1000 ∧ p.Nodup) ∧ ∀ H', Same H H' → Q (.bl (decide (Nest c ps))) H'
theorem ok_is_nest (T : Txt K mg) : FnOk P w K mg base CX0 2 T.f_is_nest T.d_is_nest ["parts", "column"] (spNest K) := by
  refine T.F_is_nest.ok sc_is_nest (fun vs H Q E h => ?_) (fun cdv A outer s H vs Q E hr h => ?_)
  · obtain ⟨_, _, _, rfl, _⟩ := h
    rfl
  · obtain ⟨v, ps, c, rfl, hv, hl, hp, q⟩ := h
    obtain ⟨a, L, xs, rfl, ha, hx⟩ := hv
    have hxl : xs.length = ps.length := by rw [hx.length, List.length_map]
    refine ⟨_, (pss_cons (ps_set (i := 2) sc_is_nest.nd rfl (.inl rfl) (pe_sortLen (K := K) (by rfl) T.z_sorted (by rfl) T.z_len (pa_cons (pe_lc (own := [("pattern", 3)]) rfl sc_is_nest.nd (pi_seqK (K := K) (pv 0)) (blkOk_by (N := N_is_nest) (sc := defScope s_is_nest) (by decide +kernel)) (fun _ _ _ _ _ => (pg_name (i := 3) sc_is_nest.nd rfl (.inl rfl))) (fun _ _ _ _ _ => (pts_one (pt_cmpR (op_inT (K := K) (room65 hr)) (pv 1) (pv 3) (by rfl)))) (fun _ _ _ _ _ => (pv 3))) pa_nil)))
      (pss_one (ps_ret (pe_callB (call_allK (K := K) rfl) (by rfl) T.z_all (by decide +kernel) (pa_cons (pe_lc (own := [("inner", 4), ("outer", 5)]) rfl sc_is_nest.nd (pi_zip (by rfl) T.z_zip (pa_cons (pv 2) (pa_cons (pe_slice (sl_listK K) (pv 2) (po_some pe_int) po_none) pa_nil))) (blkOk_by (N := N_is_nest) (sc := defScope s_is_nest) (by decide +kernel)) (fun _ _ _ _ _ => (pg_tupK K (n := 2) rfl (pgs_cons (pg_name (i := 4) sc_is_nest.nd rfl (.inl rfl)) (pgs_cons (pg_name (i := 5) sc_is_nest.nd rfl (.inl rfl)) pgs_nil)))) (fun _ _ _ _ _ => pts_nil) (fun _ _ _ _ _ => (pe_call (ok_within T) hr (by rfl) T.g_within T.F_within.kp T.b_within .nil pass0 (pa_cons (pv 4) (pa_cons (pv 5) pa_nil))))) pa_nil))))), ?_⟩
    refine ⟨_, rfl, a, L, xs, rfl, ha, fun D nD => lc_seq (K := K) (xs := xs) (fun j H' => ∃ N : List (Addr × List Int), Same H H' ∧ H' D = some (.lst (N.map fun n => V.ref n.1)) ∧ N.map (·.2) = (ps.take j).filter (fun p => decide (c ∈ p)) ∧ ∀ n ∈ N, SqT K H' n.1 (n.2.map V.int)) ⟨[], same_new nD, upd_same, rfl, fun n hn => by cases hn⟩ (fun j H' _ ⟨_, s', _⟩ => Ext.sqTs s' ha) ?_ ?_⟩
    · rintro j x H1 hxj ⟨N, s1, hD, hN, hS⟩
      obtain ⟨d, hd, hxd⟩ := dhAll_at hx hxj
      obtain ⟨p, hp1, rfl⟩ := map_at hd
      obtain ⟨b, rfl, hb⟩ := ct_inv (hxd.ext (.of s1))
      have hf := take_filter (f := fun p => decide (c ∈ p)) hp1
      have hNl : N.length ≤ 1000 := by
        have z := congrArg List.length hN
        rw [List.length_map] at z
        have := List.length_filter_le (fun p => decide (c ∈ p)) (ps.take j)
        have := List.length_take (i := j) (l := ps)
        omega
      refine ⟨rfl, _, rfl, _, rfl, .int c, p.map PyData.int, .int c, dp_ct (dh_ct hb), shaped_int c, shaped_ct p, ?_⟩
      rw [any_mem]
      refine ⟨_, rfl, ?_⟩
      by_cases e : c ∈ p
      · rw [decide_eq_true e]
        dsimp only
        rw [if_pos rfl]
        have ep := Ext.put (ys := N.map (fun n => V.ref n.1) ++ [.ref b]) hD
        refine ⟨_, rfl, _, hD, sz_small (by rw [List.length_map]; omega), N ++ [(b, p)], Same.put nD s1, ?_, ?_, fun n hn => ?_⟩
        · rw [List.map_append]
          exact upd_same
        · rw [List.map_append, hN, hf, if_pos (decide_eq_true e)]
          rfl
        · rcases List.mem_append.mp hn with u | u
          · exact ep.sqT (hS n u)
          · rw [List.mem_singleton.mp u]
            exact ep.sqT hb
      · rw [decide_eq_false e]
        dsimp only
        rw [if_neg (by decide)]
        refine ⟨N, s1, hD, ?_, hS⟩
        rw [hN, hf, if_neg (by rw [decide_eq_false e]; decide), List.append_nil]
    · rintro H1 ⟨N, s1, hD, hN, hS⟩
      rw [hxl, List.take_length] at hN
      refine ⟨D, N.map fun n => (n.1, n.2.map V.int), rfl, by rw [List.map_map]; exact SqL.of hD, fun m hm => ?_, fun M' d pm pw nd => ?_⟩
      · obtain ⟨n, hn, rfl⟩ := List.mem_map.mp hm
        exact hS n hn
      obtain ⟨N', pN, rfl⟩ := perm_map_inv pm N rfl
      have pw' : N'.Pairwise fun x y => x.2.length ≤ y.2.length := by
        rw [List.pairwise_map] at pw
        exact pw.imp fun {x y} h => by
          have h : (x.2.map V.int).length ≤ (y.2.map V.int).length := h
          rw [List.length_map, List.length_map] at h
          exact h
      rw [List.map_map, show (N'.map ((fun m : Addr × List V => V.ref m.1) ∘ fun n : Addr × List Int => (n.1, n.2.map V.int))) = N'.map fun n => V.ref n.1 from rfl]
      have s2 : Same H1 (upd H1 d (.lst (N'.map fun n => V.ref n.1))) := same_new nd
      have hd2 : (upd H1 d (.lst (N'.map fun n => V.ref n.1))) d = some (.lst (N'.map fun n => V.ref n.1)) := upd_same
      generalize upd H1 d (.lst (N'.map fun n => V.ref n.1)) = H2 at s2 hd2 ⊢
      have hS2 : ∀ n ∈ N', SqT K H2 n.1 (n.2.map V.int) := fun n hn => (Ext.of s2).sqT (hS n (pN.mem_iff.mp hn))
      have s02 := s1.trans s2
      dsimp only [tNext, tSeq, tAsg, gName, List.set_cons_succ, List.set_cons_zero]
      refine ⟨_, rfl, _, rfl, 1, rfl, d, _, rfl, SqL.of hd2, fun d2 nd2 => ?_⟩
      have ec : cutV (N'.map fun n => V.ref n.1) (some 1) none = (N'.drop 1).map fun n => V.ref n.1 := by
        unfold cutV
        rw [HT.sIx_none, show (1 : Int) = ((1 : Nat) : Int) from rfl, HT.sIx_nat, List.map_drop]
        rcases Nat.lt_or_ge (N'.map fun n => V.ref n.1).length 1 with u | u
        · rw [List.drop_eq_nil_of_le (by omega), List.drop_eq_nil_of_le (by omega), List.take_nil]
        · rw [Nat.min_eq_left u]
          exact List.take_of_length_le (by rw [List.length_drop]; omega)
      rw [ec]
      have s3 : Same H2 (upd H2 d2 (.lst ((N'.drop 1).map fun n => V.ref n.1))) := same_new nd2
      have hd3 : (upd H2 d2 (.lst ((N'.drop 1).map fun n => V.ref n.1))) d2 = some (.lst ((N'.drop 1).map fun n => V.ref n.1)) := upd_same
      generalize upd H2 d2 (.lst ((N'.drop 1).map fun n => V.ref n.1)) = H3 at s3 hd3 ⊢
      refine ⟨d, d2, _, _, rfl, SqL.of (s3 _ _ hd2), SqL.of hd3, fun D3 nD3 => ?_⟩
      have s03 := s02.trans s3
      have hS3 : ∀ n ∈ N', SqT K H3 n.1 (n.2.map V.int) := fun n hn => (Ext.of s3).sqT (hS2 n hn)
      have hlen : N'.length = (ps.filter fun p => decide (c ∈ p)).length := by
        rw [pN.length_eq, ← List.length_map (f := fun n : Addr × List Int => n.2), hN]
      refine lc_it (walk_zip (K := K) (xs := N'.map fun n => V.ref n.1) (ys := (N'.drop 1).map fun n => V.ref n.1) (n := N'.length - 1) (by rw [List.length_map, List.length_map, List.length_drop]; omega)) (fun j H' => Same H3 H' ∧ H' D3 = some (.lst (((List.range j).map fun k => sub1 ((N'.map (·.2)).getD k []) ((N'.map (·.2)).getD (k + 1) [])).map V.bl))) ⟨same_new nD3, upd_same⟩ (fun j H' _ ⟨s', _⟩ => ⟨SqL.of (s' _ _ (s3 _ _ hd2)), SqL.of (s' _ _ hd3)⟩) ?_ ?_
      · rintro j x H4 H5 hj ⟨s4, hD4⟩ ⟨t, y1, y2, rfl, nt, rfl, h1, h2⟩
        refine ⟨t, _, rfl, SqT.of upd_same, rfl, _, _, rfl, _, _, rfl, rfl, rfl, ?_⟩
        dsimp only [tYes]
        rw [if_pos rfl]
        dsimp only at h1 h2
        rw [List.getElem?_map] at h1 h2
        obtain ⟨n1, hn1, rfl⟩ := Option.map_eq_some_iff.mp h1
        obtain ⟨n2, hn2, rfl⟩ := Option.map_eq_some_iff.mp h2
        rw [List.getElem?_drop, Nat.add_comm] at hn2
        have s5 : Same H4 (upd H4 t (.tup [V.ref n1.1, V.ref n2.1])) := same_new nt
        have s45 := s4.trans s5
        have hD5 := s5 _ _ hD4
        generalize upd H4 t (.tup [V.ref n1.1, V.ref n2.1]) = H5 at s45 hD5 ⊢
        have m1 := List.mem_of_getElem? hn1
        have m2 := List.mem_of_getElem? hn2
        have lenp : n1.2.length ≤ 1000 := by
          have : n1.2 ∈ ps.filter fun p => decide (c ∈ p) := hN ▸ List.mem_map_of_mem (f := fun n : Addr × List Int => n.2) (pN.mem_iff.mp m1)
          exact (hp _ (List.mem_filter.mp this).1).1
        refine ⟨_, rfl, _, rfl, _, _, n1.2, n2.2, rfl, dh_ct ((Ext.of s45).sqT (hS3 n1 m1)), dh_ct ((Ext.of s45).sqT (hS3 n2 m2)), lenp, fun H6 s6 => ?_⟩
        have hfl := List.length_filter_le (fun p => decide (c ∈ p)) ps
        refine ⟨_, s6 _ _ hD5, sz_small (by rw [List.length_map, List.length_map, List.length_range]; omega), Same.put nD3 (s45.trans s6), ?_⟩
        rw [upd_same, List.range_succ, List.map_append, List.map_append]
        have g1 : (N'.map (·.2)).getD j [] = n1.2 := by
          rw [List.getD_eq_getElem?_getD, List.getElem?_map, hn1]
          rfl
        have g2 : (N'.map (·.2)).getD (j + 1) [] = n2.2 := by
          rw [List.getD_eq_getElem?_getD, List.getElem?_map, hn2]
          rfl
        rw [List.map_cons, List.map_nil, List.map_cons, List.map_nil, g1, g2]
      · rintro H4 ⟨s4, hD4⟩
        refine ⟨D3, _, rfl, SqL.of hD4, ?_⟩
        have em : ∀ p, p ∈ N'.map (·.2) ↔ p ∈ ps ∧ c ∈ p := fun p => by
          rw [(pN.map (·.2)).mem_iff, hN, List.mem_filter]
          exact ⟨fun ⟨h1, h2⟩ => ⟨h1, of_decide_eq_true h2⟩, fun ⟨h1, h2⟩ => ⟨h1, decide_eq_true h2⟩⟩
        have ch := chain_all (L := N'.map (·.2)) (fun p hp' => (hp p ((em p).mp hp').1).2) (List.pairwise_map.mpr pw')
        rw [List.length_map] at ch
        have eb : ((List.range (N'.length - 1)).map fun k => sub1 ((N'.map (·.2)).getD k []) ((N'.map (·.2)).getD (k + 1) [])).all id = decide (Nest c ps) := by
          rw [Bool.eq_iff_iff, ch, decide_eq_true_iff]
          exact ⟨fun h p hp' q hq' c1 c2 => h p ((em p).mpr ⟨hp', c1⟩) q ((em q).mpr ⟨hq', c2⟩), fun h p hp' q hq' => h p ((em p).mp hp').1 q ((em q).mp hq').1 ((em p).mp hp').2 ((em q).mp hq').2⟩
        rw [eb]
        exact q _ (s03.trans s4)

end
end Fm
namespace Fm
open PySem PySem.Spec PyProof.Rows L2
section
variable {P : Program} {w : World} {K : PySem.W.Frag} {mg : Str → Option Value} {base : Heap}

/-! ### orders in which columns can be struck -/
def ords : Nat → List (List Int) → List Int → List (List Int)
  | 0, _, _ => [[]]
  | n + 1, ps, left => left.flatMap fun c => if Nest c ps then (ords n (strk c ps) (cut1 c left)).map (c :: ·) else []
def Val : List (List Int) → List Int → Prop
  | _, [] => True
  | ps, c :: r => Nest c ps ∧ Val (strk c ps) r
theorem mem_cut1 {c x : Int} {p : List Int} : x ∈ cut1 c p ↔ x ∈ p ∧ x ≠ c := by
  unfold cut1
  rw [List.mem_filter]
  exact ⟨fun ⟨h1, h2⟩ => ⟨h1, of_decide_eq_true h2⟩, fun ⟨h1, h2⟩ => ⟨h1, decide_eq_true h2⟩⟩
theorem cut1_nodup {c : Int} {p : List Int} (h : p.Nodup) : (cut1 c p).Nodup := List.Nodup.sublist List.filter_sublist h
theorem cut1_comm (c d : Int) (p : List Int) : cut1 c (cut1 d p) = cut1 d (cut1 c p) := by
  unfold cut1
  rw [List.filter_filter, List.filter_filter]
  congr 1
  funext x
  exact Bool.and_comm _ _
theorem strk_comm (c d : Int) (ps : List (List Int)) : strk c (strk d ps) = strk d (strk c ps) := by
  unfold strk
  rw [List.map_map, List.map_map]
  exact List.map_congr_left fun p _ => cut1_comm c d p
theorem strk_idem (c : Int) (ps : List (List Int)) : strk c (strk c ps) = strk c ps := by
  unfold strk
  rw [List.map_map]
  refine List.map_congr_left fun p _ => ?_
  show cut1 c (cut1 c p) = cut1 c p
  unfold cut1
  rw [List.filter_filter]
  congr 1
  funext x
  exact Bool.and_self _
theorem Nest.her {c d : Int} {ps : List (List Int)} (h : Nest d ps) : Nest d (strk c ps) := fun p hp q hq dp dq => by
  obtain ⟨p', hp', rfl⟩ := List.mem_map.mp hp
  obtain ⟨q', hq', rfl⟩ := List.mem_map.mp hq
  have lift : ∀ {p q : List Int}, sub1 p q = true → sub1 (cut1 c p) (cut1 c q) = true := fun {p q} z => sub1_iff.mpr fun x hx => by
    obtain ⟨h1, h2⟩ := mem_cut1.mp hx
    exact mem_cut1.mpr ⟨sub1_iff.mp z x h1, h2⟩
  exact (h p' hp' q' hq' (mem_cut1.mp dp).1 (mem_cut1.mp dq).1).imp lift lift
theorem Nest.sub {c : Int} {ps qs : List (List Int)} (h : Nest c ps) (hs : ∀ q ∈ qs, q ∈ ps) : Nest c qs := fun p hp q hq => h p (hs p hp) q (hs q hq)
theorem strk_sub {c : Int} {ps qs : List (List Int)} (hs : ∀ q ∈ qs, q ∈ ps) : ∀ q ∈ strk c qs, q ∈ strk c ps := fun q hq => by
  obtain ⟨z, hz, rfl⟩ := List.mem_map.mp hq
  exact List.mem_map_of_mem (hs z hz)
theorem Val.sub : ∀ {r : List Int} {ps qs : List (List Int)}, Val ps r → (∀ q ∈ qs, q ∈ ps) → Val qs r
  | [], _, _, _, _ => True.intro
  | _ :: _, _, _, ⟨h1, h2⟩, hs => ⟨h1.sub hs, h2.sub (strk_sub hs)⟩
theorem Val.her {c : Int} : ∀ {r : List Int} {ps : List (List Int)}, Val ps r → Val (strk c ps) (cut1 c r)
  | [], _, _ => True.intro
  | d :: r, ps, ⟨h1, h2⟩ => by
    by_cases e : d = c
    · subst e
      have z : cut1 d (d :: r) = cut1 d r := by
        unfold cut1
        rw [List.filter_cons, if_neg (by simp)]
      rw [z, ← strk_idem d ps]
      exact h2.her
    · have z : cut1 c (d :: r) = d :: cut1 c r := by
        unfold cut1
        rw [List.filter_cons, if_pos (decide_eq_true e)]
      rw [z]
      refine ⟨h1.her, ?_⟩
      rw [strk_comm]
      exact h2.her
theorem cut1_len_of {c : Int} : ∀ {p : List Int}, p.Nodup → c ∈ p → (cut1 c p).length + 1 = p.length
  | [], _, h => by cases h
  | x :: p, nd, h => by
    rw [List.nodup_cons] at nd
    by_cases e : x = c
    · subst e
      have z : cut1 x (x :: p) = p := by
        unfold cut1
        rw [List.filter_cons, if_neg (by simp)]
        exact List.filter_eq_self.mpr fun y hy => decide_eq_true fun z => nd.1 (z ▸ hy)
      rw [z]
      rfl
    · have z : cut1 c (x :: p) = x :: cut1 c p := by
        unfold cut1
        rw [List.filter_cons, if_pos (decide_eq_true e)]
      rw [z, List.length_cons, List.length_cons, cut1_len_of nd.2 ((List.mem_cons.mp h).resolve_left fun z => e z.symm)]
theorem cut1_cons {c : Int} {r : List Int} (h : (c :: r).Nodup) : cut1 c (c :: r) = r := by
  unfold cut1
  rw [List.filter_cons, if_neg (by simp)]
  exact List.filter_eq_self.mpr fun y hy => decide_eq_true fun z => (List.nodup_cons.mp h).1 (z ▸ hy)
theorem perm_cut {c : Int} {p : List Int} (nd : p.Nodup) (h : c ∈ p) : (c :: cut1 c p).Perm p :=
  (List.perm_ext_iff_of_nodup (List.nodup_cons.mpr ⟨fun z => (mem_cut1.mp z).2 rfl, cut1_nodup nd⟩) nd).mpr fun x => by
    rw [List.mem_cons, mem_cut1]
    constructor
    · rintro (rfl | ⟨h, _⟩)
      · assumption
      · exact h
    · intro hx
      by_cases e : x = c
      · exact .inl e
      · exact .inr ⟨hx, e⟩
theorem mem_ords : ∀ {n : Nat} {ps : List (List Int)} {left : List Int} {r : List Int}, left.length = n → left.Nodup → (r ∈ ords n ps left ↔ r.Perm left ∧ Val ps r)
  | 0, ps, left, r, hl, nd => by
    have e : left = [] := List.eq_nil_of_length_eq_zero hl
    subst e
    show r ∈ [[]] ↔ _
    rw [List.mem_singleton]
    constructor
    · rintro rfl
      exact ⟨.refl _, True.intro⟩
    · exact fun h => h.1.eq_nil
  | n + 1, ps, left, r, hl, nd => by
    show r ∈ left.flatMap _ ↔ _
    rw [List.mem_flatMap]
    constructor
    · rintro ⟨c, hc, h⟩
      by_cases hn : Nest c ps
      · rw [if_pos hn] at h
        obtain ⟨r', hr, rfl⟩ := List.mem_map.mp h
        have hlc := cut1_len_of nd hc
        obtain ⟨h1, h2⟩ := (mem_ords (n := n) (by omega) (cut1_nodup nd)).mp hr
        exact ⟨(h1.cons c).trans (perm_cut nd hc), hn, h2⟩
      · rw [if_neg hn] at h
        cases h
    · rintro ⟨hp, hv⟩
      cases r with
      | nil => rw [← hp.length_eq] at hl; cases hl
      | cons c r =>
        have hc : c ∈ left := hp.mem_iff.mp (List.mem_cons_self ..)
        refine ⟨c, hc, ?_⟩
        rw [if_pos hv.1]
        have ndr : (c :: r).Nodup := hp.nodup_iff.mpr nd
        have hlc := cut1_len_of nd hc
        refine List.mem_map.mpr ⟨r, (mem_ords (n := n) (by omega) (cut1_nodup nd)).mpr ⟨?_, hv.2⟩, rfl⟩
        have z := hp.filter fun x => decide (x ≠ c)
        have z : (cut1 c (c :: r)).Perm (cut1 c left) := z
        rw [cut1_cons ndr] at z
        exact z
theorem ords_her {n : Nat} {ps : List (List Int)} {left r : List Int} {c : Int} (hl : left.length = n + 1) (nd : left.Nodup) (hc : c ∈ left) (h : r ∈ ords (n + 1) ps left) : cut1 c r ∈ ords n (strk c ps) (cut1 c left) := by
  obtain ⟨h1, h2⟩ := (mem_ords hl nd).mp h
  have := cut1_len_of nd hc
  exact (mem_ords (by omega) (cut1_nodup nd)).mpr ⟨h1.filter _, h2.her⟩
/-- the least order begins with the least column that can be struck -/
theorem ords_head {n : Nat} {ps : List (List Int)} {l1 l2 : List Int} {c : Int} (hl : (l1 ++ c :: l2).length = n + 1) (nd : (l1 ++ c :: l2).Nodup) (h1 : ∀ d ∈ l1, ¬ Nest d ps) (hc : Nest c ps) :
    (ords (n + 1) ps (l1 ++ c :: l2)).head? = (ords n (strk c ps) (cut1 c (l1 ++ c :: l2))).head?.map (c :: ·) := by
  have e1 : ∀ (f : Int → List (List Int)) (l : List Int), (∀ d ∈ l, f d = []) → l.flatMap f = [] := fun f l h => List.flatMap_eq_nil_iff.mpr h
  cases hd : ords n (strk c ps) (cut1 c (l1 ++ c :: l2)) with
  | nil =>
    have : ords (n + 1) ps (l1 ++ c :: l2) = [] := List.eq_nil_iff_forall_not_mem.mpr fun r hr => by
      have z := ords_her hl nd (c := c) (List.mem_append_right _ (List.mem_cons_self ..)) hr
      rw [hd] at z
      cases z
    rw [this]
    rfl
  | cons r rs =>
    unfold ords
    rw [List.flatMap_append, e1 _ l1 fun d hd => if_neg (h1 d hd), List.nil_append, List.flatMap_cons, if_pos hc, hd]
    rfl
theorem ords_none {n : Nat} {ps : List (List Int)} {left : List Int} (h1 : ∀ d ∈ left, ¬ Nest d ps) : ords (n + 1) ps left = [] :=
  List.flatMap_eq_nil_iff.mpr fun d hd => if_neg (h1 d hd)
theorem ords_count {n : Nat} {ps : List (List Int)} {left : List Int} : ((ords (n + 1) ps left).length : Int) = ((left.filter fun c => decide (Nest c ps)).map fun c => ((ords n (strk c ps) (cut1 c left)).length : Int)).sum := by
  have key : ∀ l : List Int, ((l.flatMap fun c => if Nest c ps then (ords n (strk c ps) (cut1 c left)).map (c :: ·) else []).length : Int) = ((l.filter fun c => decide (Nest c ps)).map fun c => ((ords n (strk c ps) (cut1 c left)).length : Int)).sum := by
    intro l
    induction l with
    | nil => rfl
    | cons c l ih =>
      rw [List.flatMap_cons, List.length_append, Int.natCast_add, ih, List.filter_cons]
      by_cases h : Nest c ps
      · rw [if_pos h, if_pos (decide_eq_true h), List.map_cons, List.sum_cons, List.length_map]
      · rw [if_neg h, if_neg (by rw [decide_eq_false h]; decide), List.length_nil]
        omega
  exact key left

end
end Fm
namespace Fm
open PySem PySem.Spec PyProof.Rows L2
section
variable {P : Program} {w : World} {K : PySem.W.Frag} {mg : Str → Option Value} {base : Heap}

/-! ### order_of -/
def OrdV (K : PySem.W.Frag) (H : Hp) (v : V) : Option (List Int) → Prop
  | none => v = .non
  | some r => Dh K H v (ctD r)
def PsOk (ps : List (List Int)) : Prop := ps.length ≤ 1000 ∧ ∀ p ∈ ps, p.length ≤ 1000 ∧ p.Nodup
theorem PsOk.strk {c : Int} {ps : List (List Int)} (h : PsOk ps) : PsOk (strk c ps) := ⟨by unfold Fm.strk; rw [List.length_map]; exact h.1, fun p hp => by
  obtain ⟨q, hq, rfl⟩ := List.mem_map.mp hp
  have := cut1_len c q
  exact ⟨by have := (h.2 q hq).1; omega, cut1_nodup (h.2 q hq).2⟩⟩
def spOrd (K : PySem.W.Frag) (n : Nat) : Sp := fun vs H Q _ => ∃ (v u : V) (ps : List (List Int)) (left : List Int), vs = [v, u] ∧ PsV K H v ps ∧ Dh K H u (ctD left) ∧ PsOk ps ∧ left.Nodup ∧ left.length < n ∧ left.length ≤ 1000 ∧
  ∀ w H', Same H H' → OrdV K H' w (ords left.length ps left).head? → Q w H'
theorem ok_order_ofN (T : Txt K mg) : ∀ n : Nat, FnOk P w K mg base CX0 (n + 3) T.f_order_of T.d_order_of ["parts", "left"] (spOrd K n)
  | 0 => by
    refine T.F_order_of.ok sc_order_of (fun vs H Q E h => ?_) (fun cdv A outer s H vs Q E hr h => ?_)
    · obtain ⟨_, _, _, _, rfl, _⟩ := h
      rfl
    · obtain ⟨_, _, _, _, _, _, _, _, _, h, _⟩ := h
      exact absurd h (Nat.not_lt_zero _)
  | n + 1 => by
    have ih := ok_order_ofN T n
    refine T.F_order_of.ok sc_order_of (fun vs H Q E h => ?_) (fun cdv A outer s H vs Q E hr h => ?_)
    · obtain ⟨_, _, _, _, rfl, _⟩ := h
      rfl
    · obtain ⟨v, u, ps, left, rfl, hv, hu, pok, nd, hn, hl, q⟩ := h
      obtain ⟨a, rfl, ha⟩ := ct_inv hu
      refine ⟨_, (pss_cons (ps_if (pt_not (pt_truth (pv 1) (fun _ => rfl))) (pss_one (ps_ret (pe_tup pa_nil))) pss_nil)
      (pss_cons (ps_for PassesOwn.never rfl (pi_tupK K (pv 1)) (pg_name (i := 2) sc_order_of.nd rfl (.inl rfl)) (pss_one (ps_if (pt_val (pe_call (ok_is_nest T) (hr.mono (by omega)) (by rfl) T.g_is_nest T.F_is_nest.kp T.b_is_nest .nil pass0 (pa_cons (pv 0) (pa_cons (pv 2) pa_nil)))) (pss_cons (ps_set (i := 3) sc_order_of.nd rfl (.inl rfl) (pe_call ih hr (by rfl) T.g_order_of T.F_order_of.kp T.b_order_of .nil pass0 (pa_cons (pe_call (ok_struck T) (hr.mono (by omega)) (by rfl) T.g_struck T.F_struck.kp T.b_struck .nil pass0 (pa_cons (pv 0) (pa_cons (pv 2) pa_nil))) (pa_cons (pe_call (ok_less T) (hr.mono (by omega)) (by rfl) T.g_less T.F_less.kp T.b_less .nil pass0 (pa_cons (pv 1) (pa_cons (pv 2) pa_nil))) pa_nil))))
      (pss_one (ps_ret (pe_ifExp (pt_cmpR op_isN (pv 3) pe_non (nomark _)) pe_non (pe_op (op_catK K) (pe_tup (pa_cons (pv 2) pa_nil)) (pv 3)))))) pss_nil)))
      (pss_one (ps_ret pe_non)))), ?_⟩
      refine ⟨_, rfl, _, .inr (.inl ⟨_, ha, rfl⟩), ?_⟩
      cases left with
      | nil =>
        refine iteT ?_
        exact ⟨by show 0 ≤ sizeLine; decide, fun p np => q (.ref p) _ (same_new np) (dh_ct (c := []) (SqT.of upd_same))⟩
      | cons c0 l0 =>
        refine iteF ?_
        dsimp only [tNext]
        refine ⟨_, rfl, a, rfl, ⟨_, ha⟩, for_tup (K := K) (a := a) (xs := (c0 :: l0).map V.int) (fun j σ H' => ∃ y2 : Option V, σ = [some v, some (.ref a), y2, none] ∧ Same H H' ∧ ∀ d ∈ (c0 :: l0).take j, ¬ Nest d ps)
          ⟨none, rfl, Same.refl H, fun d hd => by cases hd⟩ (fun j σ H' _ ⟨_, _, s', _⟩ => (Ext.of s').sqT ha) ?_ ?_⟩
        · rintro j x σ H1 hx ⟨y2, rfl, s1, hno⟩
          rw [List.getElem?_map] at hx
          obtain ⟨d, hd, rfl⟩ := Option.map_eq_some_iff.mp hx
          have e1 := Ext.of s1
          refine ⟨_, rfl, _, rfl, v, ps, d, rfl, hv.same s1, pok.1, pok.2, fun H2 s2 => ⟨_, rfl, ?_⟩⟩
          have s12 := s1.trans s2
          by_cases hn2 : Nest d ps
          · rw [decide_eq_true hn2]
            refine iteT ?_
            have e2 := Ext.of s12
            have hdm : d ∈ c0 :: l0 := List.mem_of_getElem? hd
            have hcl := cut1_len_of nd hdm
            refine ⟨_, rfl, _, rfl, v, ps, d, rfl, hv.same s12, pok.1, (fun p hp => (pok.2 p hp).1), fun u1 H3 s3 hu1 => ⟨_, rfl, _, rfl, _, c0 :: l0, d, rfl, hu.ext (.of (s12.trans s3)), hl, fun u2 H4 s4 hu2 => ⟨u1, u2, strk d ps, cut1 d (c0 :: l0), rfl, .of (hu1.ext (.of s4)), hu2, pok.strk, cut1_nodup nd, by omega, by omega, fun w5 H5 s5 hw => ?_⟩⟩⟩
            have s15 := ((s12.trans s3).trans s4).trans s5
            have eh : (ords (c0 :: l0).length ps (c0 :: l0)).head? = (ords (cut1 d (c0 :: l0)).length (strk d ps) (cut1 d (c0 :: l0))).head?.map (d :: ·) := by
              have hj := (List.getElem?_eq_some_iff.mp hd).1
              have ex : (c0 :: l0) = (c0 :: l0).take j ++ d :: (c0 :: l0).drop (j + 1) := by
                rw [← (List.getElem?_eq_some_iff.mp hd).2, ← List.drop_eq_getElem_cons hj, List.take_append_drop]
              have z := ords_head (n := (cut1 d (c0 :: l0)).length) (ps := ps) (l1 := (c0 :: l0).take j) (l2 := (c0 :: l0).drop (j + 1)) (c := d) (by rw [← ex]; omega) (by rw [← ex]; exact nd) hno hn2
              rw [← ex] at z
              rw [show (c0 :: l0).length = (cut1 d (c0 :: l0)).length + 1 by omega]
              exact z
            rw [eh] at q
            dsimp only [tNext, tSeq, tAsg, gName, List.set_cons_succ, List.set_cons_zero]
            cases ho : (ords (cut1 d (c0 :: l0)).length (strk d ps) (cut1 d (c0 :: l0))).head? with
            | none =>
              rw [ho] at hw q
              have hw : w5 = .non := hw
              subst hw
              refine ⟨_, rfl, rfl, _, rfl, ?_⟩
              rw [decide_eq_true rfl]
              exact iteT (q .non _ s15 rfl)
            | some r =>
              rw [ho] at hw q
              obtain ⟨b, rfl, hb⟩ := ct_inv hw
              have hr5 : r.length ≤ 1000 := by
                have z := ((mem_ords rfl (cut1_nodup nd)).mp (List.mem_of_mem_head? (by rw [ho]; exact rfl))).1.length_eq
                omega
              refine ⟨_, rfl, rfl, _, rfl, ?_⟩
              rw [decide_eq_false (by intro z; cases z)]
              refine iteF ?_
              refine ⟨_, rfl, by show 1 ≤ sizeLine; decide, fun p np => ⟨_, rfl, p, b, [.int d], r.map V.int, rfl, rfl, SqT.of upd_same, (Ext.of (same_new np)).sqT hb, Nat.le_of_lt (sz_small (by rw [List.length_map]; show 1 + r.length ≤ 100000; omega)), (fun z => by cases z), (fun _ hz => ?_), fun _ _ p2 np2 => ?_⟩⟩
              · have hz : r = [] := List.map_eq_nil_iff.mp hz
                subst hz
                exact q _ _ (s15.trans (same_new np)) (dh_ct (c := [d]) (SqT.of upd_same))
              · exact q _ _ ((s15.trans (same_new np)).trans (same_new np2)) (dh_ct (c := d :: r) (SqT.of upd_same))
          · rw [decide_eq_false hn2]
            refine iteF ?_
            refine ⟨_, rfl, s12, fun z hz => ?_⟩
            rw [List.take_add_one, hd] at hz
            rcases List.mem_append.mp hz with u | u
            · exact hno z u
            · have : z = d := by simpa using u
              rw [this]
              exact hn2
        · rintro σ H1 ⟨y2, rfl, s1, hno⟩
          rw [List.length_map, List.take_length] at hno
          refine q .non _ s1 ?_
          rw [show (c0 :: l0).length = l0.length + 1 from rfl, ords_none hno]
          rfl
/-! ### the program's three -/
theorem ok_order_of (T : Txt K mg) : FnOk P w K mg base CX0 9 T.f_order_of T.d_order_of ["parts", "left"] (spOrd K 6) := ok_order_ofN T 6
def spParts (K : PySem.W.Frag) : Sp := fun vs H Q _ => ∃ (n : Nat) (v : V) (ps : List (List Int)), vs = [.int n, v] ∧ 1 ≤ n ∧ n ≤ 5 ∧ Dh K H v (patsD ps) ∧ (patsD ps).isList n = true ∧ ps.length ≤ 12 ∧ ∀ u H', Same H H' → Dh K H' u (patsD (ps.filter fun p => decide (p.length < n))) → Q u H'
theorem ok_parts_of (T : Txt K mg) : FnOk P w K mg base CX0 4 T.f_parts_of T.d_parts_of ["columns", "listed"] (spParts K) := by
  refine T.F_parts_of.ok sc_parts_of (fun vs H Q E h => ?_) (fun cdv A outer s H vs Q E hr h => ?_)
  · obtain ⟨_, _, _, rfl, _⟩ := h
    rfl
  · obtain ⟨n, v, ps, rfl, n1, n5, hv, hl, hpl, q⟩ := h
    obtain ⟨a, xs, rfl, ha, hx⟩ := hv.tup_inv
    refine ⟨_, (pss_cons (ps_if (pt_not (pt_val (pe_call (ok_is_list T) hr (by rfl) T.g_is_list T.F_is_list.kp T.b_is_list .nil pass0 (pa_cons (pv 0) (pa_cons (pv 1) pa_nil))))) (pss_one ps_never) pss_nil)
      (pss_one (ps_ret (pe_callTy (call_tupleK K) (by rfl) T.z_tuple (by decide +kernel) (pa_cons (pe_lc (own := [("pattern", 2)]) rfl sc_parts_of.nd (pi_tupK K (pv 1)) (blkOk_by (N := N_parts_of) (sc := defScope s_parts_of) (by decide +kernel)) (fun _ _ _ _ _ => (pg_name (i := 2) sc_parts_of.nd rfl (.inl rfl))) (fun _ _ _ _ _ => (pts_one (pt_cmpR op_lt (pe_callB (call_lenK K) (by rfl) T.z_len PySem.boot_len (pa_cons (pv 2) pa_nil)) (pv 0) (nomark _)))) (fun _ _ _ _ _ => (pv 2))) pa_nil))))), ?_⟩
    refine ⟨_, rfl, _, rfl, n, _, _, rfl, n1, n5, hv, fun H1 s1 => ⟨_, rfl, ?_⟩⟩
    rw [hl]
    refine iteF ?_
    dsimp only [tNext]
    refine ⟨_, rfl, a, rfl, ⟨_, (Ext.of s1).sqT ha⟩, fun D nD => lc_tup (K := K) (xs := xs) (fun j H' => Got K H1 D (((ps.take j).filter fun p => decide (p.length < n)).map ctD) H') (.zero nD) (fun j H' _ g => (Ext.of (s1.trans g.same)).sqT ha) ?_ ?_⟩
    · rintro j x H2 hxj g
      obtain ⟨d, hd, hxd⟩ := dhAll_at hx hxj
      obtain ⟨p, hp1, rfl⟩ := map_at hd
      have hxd2 := hxd.ext (.of (s1.trans g.same))
      obtain ⟨b, rfl, hb⟩ := ct_inv hxd2
      have hf := take_filter (f := fun p => decide (p.length < n)) hp1
      refine ⟨rfl, ?_⟩
      refine ⟨_, rfl, b, _, rfl, .inr hb, _, rfl, _, _, rfl, rfl, _, rfl, ?_⟩
      have hpl2 : (((ps.take j).filter fun p => decide (p.length < n)).map ctD).length ≤ 10000 := by
        rw [List.length_map]
        have := List.length_filter_le (fun p : List Int => decide (p.length < n)) (ps.take j)
        have := List.length_take (i := j) (l := ps)
        omega
      rw [List.length_map]
      by_cases e : p.length < n
      · rw [decide_eq_true (show (p.length : Int) < n by omega)]
        rw [hf, if_pos (decide_eq_true e), List.map_append]
        dsimp only
        rw [if_pos rfl]
        exact ⟨_, rfl, g.put nD (Same.refl H2) hxd2 hpl2⟩
      · rw [decide_eq_false (show ¬ (p.length : Int) < n by omega)]
        rw [hf, if_neg (by rw [decide_eq_false e]; decide), List.append_nil]
        dsimp only
        rw [if_neg (by decide)]
        exact g
    · rintro H2 ⟨s2, acc, hD, hac⟩
      rw [List.take_of_length_le (by rw [hx.length, List.length_map]; exact Nat.le_refl _)] at hac
      exact ⟨D, _, rfl, .inl ⟨SqL.of hD, fun t nt => q _ _ ((s1.trans s2).trans (same_new nt)) (.tup (SqT.of upd_same) (hac.ext (.of (same_new nt))))⟩⟩
theorem PsOk.filter {f : List Int → Bool} {ps : List (List Int)} (h : PsOk ps) : PsOk (ps.filter f) := ⟨by
  have := List.length_filter_le f ps
  have := h.1
  omega, fun p hp => h.2 p (List.mem_filter.mp hp).1⟩
theorem rgI_len (n : Nat) : (rgI n).length = n := by
  unfold rgI
  rw [List.length_map, List.length_range]
theorem rgI_nodup (n : Nat) : (rgI n).Nodup := by
  unfold rgI
  exact List.pairwise_map.mpr (List.nodup_range.imp fun {a b} h e => h (Int.ofNat_inj.mp e))
/-- the part patterns of a list -/
def partL (n : Nat) (ps : List (List Int)) : List (List Int) := ps.filter fun p => decide (p.length < n)
/-- a list, as the program takes it -/
structure LsOk (n : Nat) (ps : List (List Int)) : Prop where
  n1 : 1 ≤ n
  n5 : n ≤ 5
  lst : (patsD ps).isList n = true
  len : ps.length ≤ 12
  ok : PsOk ps
def spOrder (K : PySem.W.Frag) : Sp := fun vs H Q _ => ∃ (n : Nat) (v : V) (ps : List (List Int)), vs = [.int n, v] ∧ LsOk n ps ∧ Dh K H v (patsD ps) ∧ ∀ u H', Same H H' → OrdV K H' u (ords n (partL n ps) (rgI n)).head? → Q u H'
theorem ok_order (T : Txt K mg) : FnOk P w K mg base CX0 10 T.f_order T.d_order ["columns", "listed"] (spOrder K) := by
  refine T.F_order.ok sc_order (fun vs H Q E h => ?_) (fun cdv A outer s H vs Q E hr h => ?_)
  · obtain ⟨_, _, _, rfl, _⟩ := h
    rfl
  · obtain ⟨n, v, ps, rfl, lo, hv, q⟩ := h
    refine ⟨_, (pss_one (ps_ret (pe_call (ok_order_of T) hr (by rfl) T.g_order_of T.F_order_of.kp T.b_order_of .nil pass0 (pa_cons (pe_call (ok_parts_of T) (hr.mono (by decide)) (by rfl) T.g_parts_of T.F_parts_of.kp T.b_parts_of .nil pass0 (pa_cons (pv 0) (pa_cons (pv 1) pa_nil))) (pa_cons (pe_call (ok_all_columns T) (hr.mono (by decide)) (by rfl) T.g_all_columns T.F_all_columns.kp T.b_all_columns .nil pass0 (pa_cons (pv 0) pa_nil)) pa_nil))))), ?_⟩
    have n5 := lo.n5
    refine ⟨_, rfl, _, rfl, n, _, ps, rfl, lo.n1, lo.n5, hv, lo.lst, lo.len, fun u H1 s1 hu => ⟨_, rfl, n, rfl, by omega, fun u2 H2 s2 hu2 => ⟨u, u2, partL n ps, rgI n, rfl, .of (hu.ext (.of s2)), hu2, lo.ok.filter, rgI_nodup n, by rw [rgI_len]; omega, by rw [rgI_len]; omega, fun w5 H3 s3 hw => q _ _ ((s1.trans s2).trans s3) (by rw [rgI_len] at hw; exact hw)⟩⟩⟩

end
end Fm
namespace Fm
open PySem PySem.Spec PyProof.Rows L2
section
variable {P : Program} {w : World} {K : PySem.W.Frag} {mg : Str → Option Value} {base : Heap}

/-! ### rings, and a column that can be struck where there is none -/
/-- n patterns r 0 .. and columns c 0 .., each column in its pattern and the one behind it, in no other one -/
structure Ring (F : List Int → Prop) (V : Int → Prop) (n : Nat) (r : Nat → List Int) (c : Nat → Int) : Prop where
  n3 : 3 ≤ n
  mem : ∀ i, i < n → F (r i)
  col : ∀ i, i < n → V (c i)
  one : ∀ i, i < n → c i ∈ r i
  two : ∀ i, i < n → c i ∈ r ((i + 1) % n)
  no : ∀ i j, i < n → j < n → j ≠ i → j ≠ (i + 1) % n → c i ∉ r j
/-- edges one behind another, each two with a thing of S in common -/
structure Chn (F : List Int → Prop) (S : Int → Prop) (a y : Int) (m : Nat) (g : Nat → List Int) (s : Nat → Int) : Prop where
  mem : ∀ k, k ≤ m → F (g k)
  s1 : ∀ k, k < m → S (s k) ∧ s k ∈ g k ∧ s k ∈ g (k + 1)
  a0 : a ∈ g 0
  ym : y ∈ g m
  no : ∀ k, k ≤ m → ¬ (a ∈ g k ∧ y ∈ g k)
theorem Chn.tail {F : List Int → Prop} {S : Int → Prop} {a y : Int} {m d : Nat} {g : Nat → List Int} {s : Nat → Int} (x : Chn F S a y m g s) (hd : d ≤ m) (ha : a ∈ g d) : Chn F S a y (m - d) (fun k => g (k + d)) (fun k => s (k + d)) where
  mem := fun k hk => x.mem _ (by omega)
  s1 := fun k hk => by
    have z := x.s1 (k + d) (by omega)
    rw [show k + d + 1 = k + 1 + d by omega] at z
    exact z
  a0 := by rw [Nat.zero_add]; exact ha
  ym := by rw [Nat.sub_add_cancel hd]; exact x.ym
  no := fun k hk => x.no _ (by omega)
theorem Chn.head {F : List Int → Prop} {S : Int → Prop} {a y : Int} {m d : Nat} {g : Nat → List Int} {s : Nat → Int} (x : Chn F S a y m g s) (hd : d ≤ m) (hy : y ∈ g d) : Chn F S a y d g s where
  mem := fun k hk => x.mem _ (by omega)
  s1 := fun k hk => x.s1 k (by omega)
  a0 := x.a0
  ym := hy
  no := fun k hk => x.no _ (by omega)
theorem Chn.cut {F : List Int → Prop} {S : Int → Prop} {a y z : Int} {m p q : Nat} {g : Nat → List Int} {s : Nat → Int} (x : Chn F S a y m g s) (hpq : p < q) (hq : q ≤ m) (hz : S z) (zp : z ∈ g p) (zq : z ∈ g q) :
    Chn F S a y (m - (q - p - 1)) (fun k => if k ≤ p then g k else g (k + (q - p - 1))) (fun k => if k < p then s k else if k = p then z else s (k + (q - p - 1))) where
  mem := fun k hk => by
    by_cases e : k ≤ p
    · rw [if_pos e]; exact x.mem k (by omega)
    · rw [if_neg e]; exact x.mem _ (by omega)
  s1 := fun k hk => by
    rcases Nat.lt_trichotomy k p with e | e | e
    · rw [if_pos e, if_pos (by omega), if_pos (by omega)]
      exact x.s1 k (by omega)
    · subst e
      rw [if_neg (by omega), if_pos rfl, if_pos (by omega), if_neg (by omega), show k + 1 + (q - k - 1) = q by omega]
      exact ⟨hz, zp, zq⟩
    · rw [if_neg (by omega), if_neg (by omega), if_neg (by omega), if_neg (by omega), show k + 1 + (q - p - 1) = k + (q - p - 1) + 1 by omega]
      exact x.s1 _ (by omega)
  a0 := by rw [if_pos (by omega)]; exact x.a0
  ym := by
    by_cases e : m - (q - p - 1) ≤ p
    · omega
    · rw [if_neg e, show m - (q - p - 1) + (q - p - 1) = m by omega]
      exact x.ym
  no := fun k hk => by
    by_cases e : k ≤ p
    · rw [if_pos e]; exact x.no k (by omega)
    · rw [if_neg e]; exact x.no _ (by omega)
theorem least_nat {P : Nat → Prop} {n : Nat} (h : P n) : ∃ m, P m ∧ ∀ k, k < m → ¬ P k := by
  induction n using Nat.strongRecOn with
  | ind n ih =>
    by_cases e : ∃ k, k < n ∧ P k
    · obtain ⟨k, hk, hp⟩ := e
      exact ih k hk hp
    · exact ⟨n, h, fun k hk hp => e ⟨k, hk, hp⟩⟩
/-- such a chain from e back to e is a ring, or has a shorter one -/
theorem ring_of {F : List Int → Prop} {V S : Int → Prop} {a y : Int} {e : List Int} {m0 : Nat} {g0 : Nat → List Int} {s0 : Nat → Int} (x0 : Chn F S a y m0 g0 s0) (fe : F e) (ae : a ∈ e) (ye : y ∈ e) (av : V a) (yv : V y) (sv : ∀ z, S z → V z ∧ z ∉ e) :
    ∃ n r c, Ring F V n r c := by
  obtain ⟨m, ⟨g, s, x⟩, least⟩ := least_nat (P := fun m => ∃ g s, Chn F S a y m g s) ⟨g0, s0, x0⟩
  have ha : ∀ k, 0 < k → k ≤ m → a ∉ g k := fun k h1 h2 h => least (m - k) (by omega) ⟨_, _, x.tail h2 h⟩
  have hy : ∀ k, k < m → y ∉ g k := fun k h1 h => least k h1 ⟨_, _, x.head (by omega) h⟩
  have hc : ∀ p q z, p + 1 < q → q ≤ m → S z → z ∈ g p → z ∉ g q := fun p q z h1 h2 hz zp zq => least _ (by omega) ⟨_, _, x.cut (by omega) h2 hz zp zq⟩
  have m1 : 1 ≤ m := by
    rcases Nat.eq_zero_or_pos m with z | z
    · subst z
      exact absurd ⟨x.a0, x.ym⟩ (x.no 0 (Nat.le_refl _))
    · exact z
  refine ⟨m + 2, fun i => if i = 0 then e else g (i - 1), fun i => if i = 0 then a else if i = m + 1 then y else s (i - 1), ?_⟩
  have nx : ∀ i, i < m + 2 → (i + 1) % (m + 2) = if i = m + 1 then 0 else i + 1 := fun i hi => by
    by_cases e : i = m + 1
    · rw [if_pos e, e]
      exact Nat.mod_self _
    · rw [if_neg e]
      exact Nat.mod_eq_of_lt (by omega)
  refine ⟨by omega, fun i hi => ?_, fun i hi => ?_, fun i hi => ?_, fun i hi => ?_, fun i j hi hj n1 n2 => ?_⟩
  · by_cases e0 : i = 0
    · rw [if_pos e0]; exact fe
    · rw [if_neg e0]; exact x.mem _ (by omega)
  · by_cases e0 : i = 0
    · rw [if_pos e0]; exact av
    · rw [if_neg e0]
      by_cases e1 : i = m + 1
      · rw [if_pos e1]; exact yv
      · rw [if_neg e1]; exact (sv _ (x.s1 (i - 1) (by omega)).1).1
  · by_cases e0 : i = 0
    · rw [if_pos e0, if_pos e0]; exact ae
    · rw [if_neg e0, if_neg e0]
      by_cases e1 : i = m + 1
      · rw [if_pos e1, e1, Nat.add_sub_cancel]; exact x.ym
      · rw [if_neg e1]; exact (x.s1 (i - 1) (by omega)).2.1
  · rw [nx i hi]
    by_cases e0 : i = 0
    · rw [if_pos e0, if_neg (show ¬ i = m + 1 by omega), if_neg (by omega), e0]; exact x.a0
    · rw [if_neg e0]
      by_cases e1 : i = m + 1
      · rw [if_pos e1, if_pos e1, if_pos rfl]; exact ye
      · rw [if_neg e1, if_neg e1, if_neg (by omega), Nat.add_sub_cancel]
        have z := (x.s1 (i - 1) (by omega)).2.2
        rw [show i - 1 + 1 = i by omega] at z
        exact z
  · rw [nx i hi] at n2
    by_cases e0 : i = 0
    · rw [if_neg (show ¬ i = m + 1 by omega)] at n2
      rw [if_pos e0, if_neg (show ¬ j = 0 by omega)]
      exact ha _ (by omega) (by omega)
    · rw [if_neg e0]
      by_cases e1 : i = m + 1
      · rw [if_pos e1] at n2
        rw [if_pos e1, if_neg n2]
        exact hy _ (by omega)
      · rw [if_neg e1] at n2
        rw [if_neg e1]
        obtain ⟨z1, z2, z3⟩ := x.s1 (i - 1) (by omega)
        rw [show i - 1 + 1 = i by omega] at z3
        by_cases j0 : j = 0
        · rw [if_pos j0]
          exact (sv _ z1).2
        · rw [if_neg j0]
          rcases Nat.lt_or_ge (j - 1) (i - 1) with u | u
          · exact fun h => hc (j - 1) i _ (by omega) (by omega) z1 h z3
          · exact hc (i - 1) (j - 1) _ (by omega) (by omega) z1 z2
def NestV (F : List Int → Prop) (V : List Int) (x : Int) : Prop := ∀ f g, F f → F g → x ∈ f → x ∈ g → (∀ y ∈ V, y ∈ f → y ∈ g) ∨ (∀ y ∈ V, y ∈ g → y ∈ f)
def cntV (V f : List Int) : Nat := (V.filter fun y => decide (y ∈ f)).length
theorem filter_len_mono {α : Type} {p q : α → Bool} : ∀ {l : List α}, (∀ x ∈ l, p x = true → q x = true) → (l.filter p).length ≤ (l.filter q).length
  | [], _ => Nat.le_refl _
  | x :: l, h => by
    have ih := filter_len_mono (l := l) fun y hy => h y (List.mem_cons_of_mem _ hy)
    rw [List.filter_cons, List.filter_cons]
    by_cases e : p x = true
    · rw [if_pos e, if_pos (h x (List.mem_cons_self ..) e)]
      exact Nat.succ_le_succ ih
    · rw [if_neg e]
      split
      · rw [List.length_cons]; omega
      · exact ih
theorem filter_len_lt {α : Type} {p q : α → Bool} : ∀ {l : List α} {z : α}, (∀ x ∈ l, p x = true → q x = true) → z ∈ l → p z = false → q z = true → (l.filter p).length < (l.filter q).length
  | x :: l, z, h, hz, h1, h2 => by
    have hm := filter_len_mono (l := l) fun y hy => h y (List.mem_cons_of_mem _ hy)
    rw [List.filter_cons, List.filter_cons]
    rcases List.mem_cons.mp hz with e | e
    · subst e
      rw [h1, h2, if_neg (by decide), if_pos rfl, List.length_cons]
      omega
    · have ih := filter_len_lt (l := l) (fun y hy => h y (List.mem_cons_of_mem _ hy)) e h1 h2
      by_cases e : p x = true
      · rw [if_pos e, if_pos (h x (List.mem_cons_self ..) e), List.length_cons, List.length_cons]
        omega
      · rw [if_neg e]
        split
        · rw [List.length_cons]; omega
        · exact ih
theorem greatest {α : Type} (P : α → Prop) (f : α → Nat) (B : Nat) (hb : ∀ x, P x → f x ≤ B) {x0 : α} (h0 : P x0) : ∃ x, P x ∧ ∀ y, P y → f y ≤ f x := by
  obtain ⟨m, ⟨x, hx, em⟩, hm⟩ := least_nat (P := fun m => ∃ x, P x ∧ B - f x = m) ⟨x0, h0, rfl⟩
  refine ⟨x, hx, fun y hy => ?_⟩
  have := hb x hx
  have := hb y hy
  rcases Nat.lt_or_ge (f x) (f y) with u | u
  · exact absurd ⟨y, hy, rfl⟩ (hm (B - f y) (by omega))
  · exact u
/-- where there is no ring, and an edge is not all, a column outside it has its edges one within another (Brouwer and Kolen) -/
theorem nest_pt {F : List Int → Prop} : ∀ (N : Nat) (V : List Int), V.length ≤ N → (∀ n r c, ¬ Ring F (· ∈ V) n r c) → ∀ e, F e → (∃ v ∈ V, v ∉ e) → ∃ x ∈ V, x ∉ e ∧ NestV F V x
  | 0, V, hN, _, e, _, ⟨v, hv, _⟩ => by
    have : V = [] := List.eq_nil_of_length_eq_zero (by omega)
    subst this
    cases hv
  | N + 1, V, hN, hR, e0, fe0, he0 => by
    -- an edge that is not all and holds as much as any that holds e0
    obtain ⟨e, ⟨fe, ⟨v, hv, hve⟩, hee⟩, gm⟩ := greatest (fun e : List Int => F e ∧ (∃ v ∈ V, v ∉ e) ∧ ∀ y ∈ V, y ∈ e0 → y ∈ e) (cntV V) V.length (fun e _ => List.length_filter_le _ _) (x0 := e0) ⟨fe0, he0, fun y _ h => h⟩
    suffices h : ∃ x ∈ V, x ∉ e ∧ NestV F V x by
      obtain ⟨x, h1, h2, h3⟩ := h
      exact ⟨x, h1, fun z => h2 (hee x h1 z), h3⟩
    -- edges that are not all, and meet what is outside e
    by_cases hf : ∃ f, F f ∧ (∃ w ∈ V, w ∉ f) ∧ ∃ x ∈ V, x ∉ e ∧ x ∈ f
    · obtain ⟨f1, hf1⟩ := hf
      obtain ⟨f, ⟨ff, ⟨w, hw, hwf⟩, ⟨x1, hx1, hx1e, hx1f⟩⟩, fm⟩ := greatest (fun f : List Int => F f ∧ (∃ w ∈ V, w ∉ f) ∧ ∃ x ∈ V, x ∉ e ∧ x ∈ f) (fun f => ((V.filter fun y => decide (y ∈ e)).filter fun y => decide (y ∈ f)).length) V.length
        (fun f _ => Nat.le_trans (List.length_filter_le _ _) (List.length_filter_le _ _)) hf1
      let S : Int → Prop := fun z => z ∈ V ∧ z ∉ e
      let G : List Int → Prop := fun g => F g ∧ ∃ w ∈ V, w ∉ g
      -- T, what f holds of e, is not the whole of e
      have hT : ∃ y ∈ V, y ∈ e ∧ y ∉ f := Classical.byContradiction fun hno => by
        have sub : ∀ y ∈ V, y ∈ e → y ∈ f := fun y h1 h2 => Classical.byContradiction fun h3 => hno ⟨y, h1, h2, h3⟩
        have z := gm f ⟨ff, ⟨w, hw, hwf⟩, fun y h1 h2 => sub y h1 (hee y h1 h2)⟩
        have z2 : cntV V e < cntV V f := filter_len_lt (z := x1) (fun y h1 h2 => decide_eq_true (sub y h1 (of_decide_eq_true h2))) hx1 (decide_eq_false hx1e) (decide_eq_true hx1f)
        omega
      -- whatever is reached from f holds no more of e than f does
      have key : ∀ (k : Nat) (g : Nat → List Int) (s : Nat → Int), g 0 = f → (∀ j, j ≤ k → G (g j)) → (∀ j, j < k → S (s j) ∧ s j ∈ g j ∧ s j ∈ g (j + 1)) → ∀ y ∈ V, y ∈ e → y ∈ g k → y ∈ f := by
        intro k
        induction k using Nat.strongRecOn with
        | ind k ih =>
          intro g s g0 hg hs y yV ye yg
          cases k with
          | zero => rw [g0] at yg; exact yg
          | succ k =>
            refine Classical.byContradiction fun yf => ?_
            have before : ∀ j, j ≤ k → ∀ y ∈ V, y ∈ e → y ∈ g j → y ∈ f := fun j hj => ih j (by omega) g s g0 (fun i hi => hg i (by omega)) (fun i hi => hs i (by omega))
            have hl := hs k (by omega)
            -- the last one does not hold all that f holds of e
            have ha : ∃ a ∈ V, a ∈ e ∧ a ∈ f ∧ a ∉ g (k + 1) := Classical.byContradiction fun hno => by
              have sub : ∀ a ∈ V, a ∈ e → a ∈ f → a ∈ g (k + 1) := fun a h1 h2 h3 => Classical.byContradiction fun h4 => hno ⟨a, h1, h2, h3, h4⟩
              have z := fm (g (k + 1)) ⟨(hg (k + 1) (Nat.le_refl _)).1, (hg (k + 1) (Nat.le_refl _)).2, s k, hl.1.1, hl.1.2, hl.2.2⟩
              have z2 := filter_len_lt (l := V.filter fun y => decide (y ∈ e)) (p := fun y => decide (y ∈ f)) (q := fun y => decide (y ∈ g (k + 1))) (z := y)
                (fun a h1 h2 => decide_eq_true (sub a (List.mem_filter.mp h1).1 (of_decide_eq_true (List.mem_filter.mp h1).2) (of_decide_eq_true h2))) (List.mem_filter.mpr ⟨yV, decide_eq_true ye⟩) (decide_eq_false yf) (decide_eq_true yg)
              omega
            obtain ⟨a, aV, ae, af, ag⟩ := ha
            have ch : Chn F S a y (k + 1) g s := {
              mem := fun j hj => (hg j hj).1
              s1 := fun j hj => hs j hj
              a0 := by rw [g0]; exact af
              ym := yg
              no := fun j hj ⟨h1, h2⟩ => by
                rcases Nat.lt_or_ge j (k + 1) with u | u
                · exact yf (before j (by omega) y yV ye h2)
                · exact ag (by rw [show k + 1 = j by omega]; exact h1) }
            obtain ⟨n, r, c, hr⟩ := ring_of (V := (· ∈ V)) ch fe ae ye aV yV fun z hz => ⟨hz.1, hz.2⟩
            exact hR n r c hr
      -- what is reached
      let R : List Int → Prop := fun h => ∃ (k : Nat) (g : Nat → List Int) (s : Nat → Int), g 0 = f ∧ (∀ j, j ≤ k → G (g j)) ∧ (∀ j, j < k → S (s j) ∧ s j ∈ g j ∧ s j ∈ g (j + 1)) ∧ g k = h
      have Rf : R f := ⟨0, fun _ => f, fun _ => 0, rfl, fun _ _ => ⟨ff, w, hw, hwf⟩, (fun j hj => absurd hj (Nat.not_lt_zero _)), rfl⟩
      have Rs : ∀ h h' x, R h → G h' → S x → x ∈ h → x ∈ h' → R h' := fun h h' x ⟨k, g, s, g0, hg, hs, e⟩ gh hx xh xh' => by
        refine ⟨k + 1, fun j => if j ≤ k then g j else h', fun j => if j < k then s j else x, by dsimp only; rw [if_pos (Nat.zero_le _)]; exact g0, fun j hj => ?_, fun j hj => ?_, by dsimp only; rw [if_neg (by omega)]⟩
        · dsimp only
          by_cases e : j ≤ k
          · rw [if_pos e]; exact hg j e
          · rw [if_neg e]; exact gh
        · dsimp only
          by_cases e1 : j < k
          · rw [if_pos e1, if_pos (by omega), if_pos (by omega)]; exact hs j e1
          · have ej : j = k := by omega
            subst ej
            rw [if_neg (by omega), if_pos (Nat.le_refl _), if_neg (by omega), e]
            exact ⟨hx, xh, xh'⟩
      have Rk : ∀ h, R h → ∀ y ∈ V, y ∈ e → y ∈ h → y ∈ f := fun h ⟨k, g, s, g0, hg, hs, e1⟩ y h1 h2 h3 => key k g s g0 hg hs y h1 h2 (by rw [e1]; exact h3)
      -- the smaller hypergraph: what is reached outside e, and what f holds of e
      classical
      let V' : List Int := V.filter fun y => decide ((y ∈ e ∧ y ∈ f) ∨ (y ∉ e ∧ ∃ h, R h ∧ y ∈ h))
      have mV : ∀ y, y ∈ V' ↔ y ∈ V ∧ ((y ∈ e ∧ y ∈ f) ∨ (y ∉ e ∧ ∃ h, R h ∧ y ∈ h)) := fun y => by
        rw [List.mem_filter]
        exact ⟨fun ⟨h1, h2⟩ => ⟨h1, of_decide_eq_true h2⟩, fun ⟨h1, h2⟩ => ⟨h1, decide_eq_true h2⟩⟩
      have hlt : V'.length ≤ N := by
        obtain ⟨y, h1, h2, h3⟩ := hT
        have z : V'.length < (V.filter fun _ => true).length := filter_len_lt (z := y) (fun _ _ _ => rfl) h1 (decide_eq_false fun z => z.elim (fun z => h3 z.2) (fun z => z.1 h2)) rfl
        have := List.length_filter_le (fun _ : Int => true) V
        omega
      obtain ⟨x, hx, hxe, hn⟩ := nest_pt N V' hlt (fun n r c h => hR n r c ⟨h.n3, h.mem, fun i hi => ((mV _).mp (h.col i hi)).1, h.one, h.two, h.no⟩) e fe ⟨x1, (mV x1).mpr ⟨hx1, .inr ⟨hx1e, f, Rf, hx1f⟩⟩, hx1e⟩
      obtain ⟨xV, hx2⟩ := (mV x).mp hx
      obtain ⟨h, Rh, xh⟩ : ∃ h, R h ∧ x ∈ h := hx2.elim (fun z => absurd z.1 hxe) (fun z => z.2)
      refine ⟨x, xV, hxe, fun p q fp fq xp xq => ?_⟩
      -- all of the edges that are not all lie within V'
      have inV : ∀ p, F p → x ∈ p → (∀ y ∈ V, y ∈ p) ∨ ∀ y ∈ V, y ∈ p → y ∈ V' := fun p fp xp => by
        by_cases z : ∃ w ∈ V, w ∉ p
        · refine .inr fun y yV yp => ?_
          have Rp : R p := Rs h p x Rh ⟨fp, z⟩ ⟨xV, hxe⟩ xh xp
          by_cases ye : y ∈ e
          · exact (mV y).mpr ⟨yV, .inl ⟨ye, Rk p Rp y yV ye yp⟩⟩
          · exact (mV y).mpr ⟨yV, .inr ⟨ye, p, Rp, yp⟩⟩
        · exact .inl fun y yV => Classical.byContradiction fun yp => z ⟨y, yV, yp⟩
      rcases inV p fp xp with u | u
      · exact .inr fun y yV _ => u y yV
      · rcases inV q fq xq with u2 | u2
        · exact .inl fun y yV _ => u2 y yV
        · rcases hn p q fp fq xp xq with z | z
          · exact .inl fun y yV yp => z y (u y yV yp) yp
          · exact .inr fun y yV yq => z y (u2 y yV yq) yq
    · refine ⟨v, hv, hve, fun p q fp fq xp xq => .inl fun y yV _ => Classical.byContradiction fun yq => ?_⟩
      exact hf ⟨q, fq, ⟨y, yV, yq⟩, v, hv, hve, xq⟩

end
end Fm
namespace Fm
open PySem PySem.Spec PyProof.Rows L2
section
variable {P : Program} {w : World} {K : PySem.W.Frag} {mg : Str → Option Value} {base : Heap}

/-! ### rings and orders -/
theorem Ring.lift {F F' : List Int → Prop} {V V' : Int → Prop} {n : Nat} {r : Nat → List Int} {c : Nat → Int} (x : Ring F V n r c) (hv : ∀ y, V y → V' y) (h : ∀ f, F f → ∃ f', F' f' ∧ ∀ y, V y → (y ∈ f ↔ y ∈ f')) : ∃ r', Ring F' V' n r' c := by
  classical
  let r' : Nat → List Int := fun i => if hi : i < n then (h (r i) (x.mem i hi)).choose else []
  have e : ∀ i, i < n → F' (r' i) ∧ ∀ y, V y → (y ∈ r i ↔ y ∈ r' i) := fun i hi => by
    have z := (h (r i) (x.mem i hi)).choose_spec
    show F' (if hi : i < n then _ else []) ∧ ∀ y, V y → (y ∈ r i ↔ y ∈ (if hi : i < n then _ else []))
    rw [dif_pos hi]
    exact z
  have n3 := x.n3
  have md : ∀ i, (i + 1) % n < n := fun i => Nat.mod_lt _ (by omega)
  exact ⟨r', x.n3, fun i hi => (e i hi).1, fun i hi => hv _ (x.col i hi), fun i hi => ((e i hi).2 _ (x.col i hi)).mp (x.one i hi), fun i hi => ((e _ (md i)).2 _ (x.col i hi)).mp (x.two i hi),
    fun i j hi hj n1 n2 z => x.no i j hi hj n1 n2 (((e j hj).2 _ (x.col i hi)).mpr z)⟩
theorem succ_ne {n i : Nat} (n3 : 3 ≤ n) (hi : i < n) : (i + 1) % n ≠ i := fun z => by
  by_cases e : i + 1 = n
  · rw [e, Nat.mod_self] at z
    omega
  · rw [Nat.mod_eq_of_lt (by omega)] at z
    omega
theorem succ2_ne {n i : Nat} (n3 : 3 ≤ n) (hi : i < n) : ((i + 1) % n + 1) % n ≠ i := fun z => by
  by_cases e : i + 1 = n
  · rw [e, Nat.mod_self, Nat.mod_eq_of_lt (by omega)] at z
    omega
  · rw [Nat.mod_eq_of_lt (show i + 1 < n by omega)] at z
    by_cases e2 : i + 1 + 1 = n
    · rw [e2, Nat.mod_self] at z
      omega
    · rw [Nat.mod_eq_of_lt (by omega)] at z
      omega
theorem pred_of {n i : Nat} (n3 : 3 ≤ n) (hi : i < n) : ∃ j, j < n ∧ (j + 1) % n = i := by
  by_cases e : i = 0
  · exact ⟨n - 1, by omega, by rw [show n - 1 + 1 = n by omega, Nat.mod_self]; exact e.symm⟩
  · exact ⟨i - 1, by omega, by rw [show i - 1 + 1 = i by omega]; exact Nat.mod_eq_of_lt hi⟩
theorem Ring.rne {F : List Int → Prop} {V : Int → Prop} {n : Nat} {r : Nat → List Int} {c : Nat → Int} (x : Ring F V n r c) {i j : Nat} (hi : i < n) (hj : j < n) (hij : i ≠ j) : r i ≠ r j := fun e => by
  have h1 : j = (i + 1) % n := Classical.byContradiction fun z => x.no i j hi hj (Ne.symm hij) z (e ▸ x.one i hi)
  have h2 : i = (j + 1) % n := Classical.byContradiction fun z => x.no j i hj hi hij z (e ▸ x.one j hj)
  rw [h1] at h2
  exact succ2_ne x.n3 hi h2.symm
theorem Ring.cne {F : List Int → Prop} {V : Int → Prop} {n : Nat} {r : Nat → List Int} {c : Nat → Int} (x : Ring F V n r c) {i j : Nat} (hi : i < n) (hj : j < n) (hij : i ≠ j) : c i ≠ c j := fun e => by
  have h1 : j = (i + 1) % n := Classical.byContradiction fun z => x.no i j hi hj (Ne.symm hij) z (e ▸ x.one j hj)
  have h2 : i = (j + 1) % n := Classical.byContradiction fun z => x.no j i hj hi hij z (e ▸ x.one i hi)
  rw [h1] at h2
  exact succ2_ne x.n3 hi h2.symm
theorem Ring.le {F : List Int → Prop} {left : List Int} {n : Nat} {r : Nat → List Int} {c : Nat → Int} (x : Ring F (· ∈ left) n r c) : n ≤ left.length := by
  have z := nodup_len ((List.range n).map c) left (List.pairwise_map.mpr (List.Pairwise.imp_of_mem (fun {a b} ha hb hab e => x.cne (List.mem_range.mp ha) (List.mem_range.mp hb) (Nat.ne_of_lt hab) e) List.pairwise_lt_range)) fun y hy => by
    obtain ⟨i, hi, rfl⟩ := List.mem_map.mp hy
    exact x.col i (List.mem_range.mp hi)
  rw [List.length_map, List.length_range] at z
  exact z
/-- a list of columns that can be struck in their order holds no ring's columns -/
theorem val_noring : ∀ {o : List Int} {ps : List (List Int)} {n : Nat} {r : Nat → List Int} {c : Nat → Int}, Val ps o → ¬ Ring (· ∈ ps) (· ∈ o) n r c
  | [], _, _, _, _, _, x => by
    have := x.n3
    have := x.col 0 (by omega)
    cases this
  | d :: o, ps, n, r, c, ⟨h1, h2⟩, x => by
    have n3 := x.n3
    by_cases hd : ∃ i, i < n ∧ c i = d
    · obtain ⟨i, hi, rfl⟩ := hd
      have hi1 : (i + 1) % n < n := Nat.mod_lt _ (by omega)
      rcases h1 _ (x.mem i hi) _ (x.mem _ hi1) (x.one i hi) (x.two i hi) with z | z
      · obtain ⟨j, hj, ej⟩ := pred_of n3 hi
        have m1 : c j ∈ r i := by
          have := x.two j hj
          rw [ej] at this
          exact this
        exact x.no j _ hj hi1 (fun z => by rw [← z, z] at ej; exact succ2_ne n3 hi (by rw [z]; exact ej)) (by rw [ej]; exact succ_ne n3 hi) (sub1_iff.mp z _ m1)
      · exact x.no _ i hi1 hi (Ne.symm (succ_ne n3 hi)) (Ne.symm (succ2_ne n3 hi)) (sub1_iff.mp z _ (x.one _ hi1))
    · have hne : ∀ i, i < n → c i ≠ d := fun i hi e => hd ⟨i, hi, e⟩
      have y : Ring (· ∈ ps) (fun y => y ∈ o ∧ y ≠ d) n r c := ⟨n3, x.mem, fun i hi => ⟨(List.mem_cons.mp (x.col i hi)).resolve_left (hne i hi), hne i hi⟩, x.one, x.two, x.no⟩
      obtain ⟨r', z⟩ := y.lift (F' := (· ∈ strk d ps)) (V' := (· ∈ o)) (fun y h => h.1) fun f hf => ⟨cut1 d f, List.mem_map_of_mem hf, fun y hy => by rw [mem_cut1]; exact ⟨fun h => ⟨h, hy.2⟩, fun h => h.1⟩⟩
      exact val_noring h2 z
theorem noring_val : ∀ {n : Nat} {left : List Int} {ps : List (List Int)}, left.length = n → left.Nodup → (∀ p ∈ ps, ∀ y ∈ p, y ∈ left) → (∀ m r c, ¬ Ring (· ∈ ps) (· ∈ left) m r c) → ∃ o, o ∈ ords n ps left
  | 0, left, ps, hl, _, _, _ => ⟨[], List.mem_singleton.mpr rfl⟩
  | n + 1, left, ps, hl, nd, sub, no => by
    obtain ⟨v, hv⟩ : ∃ v, v ∈ left := by
      cases left with
      | nil => cases hl
      | cons v l => exact ⟨v, List.mem_cons_self ..⟩
    obtain ⟨x, hx, _, hn⟩ := nest_pt (F := fun p => p ∈ ps ∨ p = []) left.length left (Nat.le_refl _) (fun m r c h => no m r c ⟨h.n3, fun i hi => (h.mem i hi).resolve_right (fun e => by
      have z := h.one i hi
      rw [e] at z
      cases z), h.col, h.one, h.two, h.no⟩) [] (.inr rfl) ⟨v, hv, fun z => by cases z⟩
    have hN : Nest x ps := fun p hp q hq xp xq => (hn p q (.inl hp) (.inl hq) xp xq).imp (fun h => sub1_iff.mpr fun y hy => h y (sub p hp y hy) hy) (fun h => sub1_iff.mpr fun y hy => h y (sub q hq y hy) hy)
    have hlc := cut1_len_of nd hx
    obtain ⟨o, ho⟩ := noring_val (n := n) (left := cut1 x left) (ps := strk x ps) (by omega) (cut1_nodup nd) (fun p hp y hy => by
      obtain ⟨q, hq, rfl⟩ := List.mem_map.mp hp
      obtain ⟨h1, h2⟩ := mem_cut1.mp hy
      exact mem_cut1.mpr ⟨sub q hq y h1, h2⟩) fun m r c h => by
        obtain ⟨r', z⟩ := h.lift (F' := (· ∈ ps)) (V' := (· ∈ left)) (fun y hy => (mem_cut1.mp hy).1) fun f hf => by
          obtain ⟨q, hq, rfl⟩ := List.mem_map.mp hf
          exact ⟨q, hq, fun y hy => by rw [mem_cut1]; exact ⟨fun h => h.1, fun h => ⟨h, (mem_cut1.mp hy).2⟩⟩⟩
        exact no m r' c z
    exact ⟨x :: o, List.mem_flatMap.mpr ⟨x, hx, by rw [if_pos hN]; exact List.mem_map_of_mem ho⟩⟩
/-- there is an order just if there is no ring -/
theorem ords_ring {left : List Int} {ps : List (List Int)} (nd : left.Nodup) (sub : ∀ p ∈ ps, ∀ y ∈ p, y ∈ left) : (ords left.length ps left).head? ≠ none ↔ ∀ m r c, ¬ Ring (· ∈ ps) (· ∈ left) m r c := by
  constructor
  · intro h m r c x
    obtain ⟨o, ho⟩ := Option.ne_none_iff_exists'.mp h
    obtain ⟨h1, h2⟩ := (mem_ords rfl nd).mp (List.mem_of_mem_head? (by rw [ho]; exact rfl))
    exact val_noring h2 ⟨x.n3, x.mem, fun i hi => h1.mem_iff.mpr (x.col i hi), x.one, x.two, x.no⟩
  · intro h e
    obtain ⟨o, ho⟩ := noring_val rfl nd sub h
    rw [List.head?_eq_none_iff] at e
    rw [e] at ho
    cases ho
/-! ### how the law looks for rings -/
def btw (rs : List (List Int)) (k : Nat) : List Int := (rs.getD k []).filter fun c => decide (c ∈ rs.getD ((k + 1) % rs.length) []) && decide ((rs.filter fun p => decide (c ∈ p)).length = 2)
def lnk (rs : List (List Int)) : Bool := (List.range (rs.length - 1)).all fun k => decide (btw rs k ≠ [])
def grow (parts : List (List Int)) (rs : List (List Int)) : List (List (List Int)) := (parts.filter fun p => decide (rs.getD 0 [] < p) && (!decide (p ∈ rs) && lnk (rs ++ [p]))).map fun p => rs ++ [p]
def rowsN (parts : List (List Int)) : Nat → List (List (List Int))
  | 0 => parts.map fun p => [p]
  | m + 1 => (rowsN parts m).flatMap (grow parts)
def hasRing (parts : List (List Int)) : Bool := [2, 3, 4].any fun m => (rowsN parts m).any fun rs => decide (btw rs m ≠ [])
theorem getD_lt {α : Type} {l : List α} {i : Nat} {d : α} (h : i < l.length) : l.getD i d = l[i] := by
  rw [List.getD_eq_getElem?_getD, List.getElem?_eq_getElem h]
  rfl
theorem cnt_idx {α : Type} {f : α → Bool} {d : α} : ∀ l : List α, (l.filter f).length = ((List.range l.length).filter fun i => f (l.getD i d)).length
  | [] => rfl
  | x :: l => by
    rw [List.length_cons, List.range_succ_eq_map, List.filter_cons, List.filter_cons, List.filter_map]
    have ih := cnt_idx (f := f) (d := d) l
    have e : ((fun i => f ((x :: l).getD i d)) ∘ Nat.succ) = fun i => f (l.getD i d) := by
      funext i
      show f ((x :: l).getD (i + 1) d) = _
      rw [List.getD_cons_succ]
    rw [e]
    show _ = List.length (if f ((x :: l).getD 0 d) = true then _ else _)
    rw [List.getD_cons_zero]
    by_cases h : f x = true
    · rw [if_pos h, if_pos h, List.length_cons, List.length_cons, List.length_map, ih]
    · rw [if_neg h, if_neg h, List.length_map, ih]
theorem nodup_range_filter {n : Nat} {f : Nat → Bool} : ((List.range n).filter f).Nodup := List.Nodup.sublist List.filter_sublist List.nodup_range
theorem cnt_le {α : Type} {f : α → Bool} {d : α} {l : List α} {is : List Nat} (nd : is.Nodup) (h : ∀ i ∈ is, i < l.length ∧ f (l.getD i d) = true) : is.length ≤ (l.filter f).length := by
  rw [cnt_idx (d := d)]
  exact nodup_len _ _ nd fun i hi => List.mem_filter.mpr ⟨List.mem_range.mpr (h i hi).1, (h i hi).2⟩
theorem cnt_ge {α : Type} {f : α → Bool} {d : α} {l : List α} {is : List Nat} (h : ∀ i, i < l.length → f (l.getD i d) = true → i ∈ is) : (l.filter f).length ≤ is.length := by
  rw [cnt_idx (d := d)]
  exact nodup_len _ _ nodup_range_filter fun i hi => by
    obtain ⟨h1, h2⟩ := List.mem_filter.mp hi
    exact h i (List.mem_range.mp h1) h2
theorem mem_btw {rs : List (List Int)} {k : Nat} {c : Int} : c ∈ btw rs k ↔ c ∈ rs.getD k [] ∧ c ∈ rs.getD ((k + 1) % rs.length) [] ∧ (rs.filter fun p => decide (c ∈ p)).length = 2 := by
  unfold btw
  rw [List.mem_filter, Bool.and_eq_true, decide_eq_true_iff, decide_eq_true_iff]
theorem lnk_iff {rs : List (List Int)} : lnk rs = true ↔ ∀ k, k < rs.length - 1 → btw rs k ≠ [] := by
  unfold lnk
  rw [List.all_eq_true]
  exact ⟨fun h k hk => of_decide_eq_true (h k (List.mem_range.mpr hk)), fun h k hk => decide_eq_true (h k (List.mem_range.mp hk))⟩
theorem rows_ok {parts : List (List Int)} : ∀ {m : Nat} {rs : List (List Int)}, rs ∈ rowsN parts m → rs.length = m + 1 ∧ (∀ p ∈ rs, p ∈ parts) ∧ (0 < m → lnk rs = true)
  | 0, rs, h => by
    obtain ⟨p, hp, rfl⟩ := List.mem_map.mp h
    exact ⟨rfl, fun q hq => by rw [List.mem_singleton.mp hq]; exact hp, fun h => absurd h (Nat.lt_irrefl _)⟩
  | m + 1, rs, h => by
    obtain ⟨r0, h0, h1⟩ := List.mem_flatMap.mp h
    obtain ⟨p, hp, rfl⟩ := List.mem_map.mp h1
    obtain ⟨i1, i2, _⟩ := rows_ok h0
    obtain ⟨p1, p2⟩ := List.mem_filter.mp hp
    rw [Bool.and_eq_true, Bool.and_eq_true] at p2
    refine ⟨by rw [List.length_append, i1]; rfl, fun q hq => ?_, fun _ => p2.2.2⟩
    rcases List.mem_append.mp hq with z | z
    · exact i2 q z
    · rw [List.mem_singleton.mp z]; exact p1
theorem hasRing_ring {parts : List (List Int)} {left : List Int} (sub : ∀ p ∈ parts, ∀ y ∈ p, y ∈ left) (h : hasRing parts = true) : ∃ n r c, Ring (· ∈ parts) (· ∈ left) n r c := by
  obtain ⟨m, hm, h⟩ := List.any_eq_true.mp h
  obtain ⟨rs, hrs, h⟩ := List.any_eq_true.mp h
  have hb := of_decide_eq_true h
  have m2 : 2 ≤ m := by simp at hm; omega
  obtain ⟨l, hp, hk⟩ := rows_ok hrs
  have hk := lnk_iff.mp (hk (by omega))
  have ex : ∀ i, i < m + 1 → ∃ c, c ∈ btw rs i := fun i hi => by
    refine List.exists_mem_of_ne_nil _ ?_
    by_cases e : i = m
    · rw [e]; exact hb
    · exact hk i (by omega)
  have all : ∀ i, ∃ c, i < m + 1 → c ∈ btw rs i := fun i => by
    by_cases hi : i < m + 1
    · obtain ⟨c, hc⟩ := ex i hi
      exact ⟨c, fun _ => hc⟩
    · exact ⟨0, fun h => absurd h hi⟩
  obtain ⟨c, hc⟩ : ∃ c : Nat → Int, ∀ i, i < m + 1 → c i ∈ btw rs i := ⟨fun i => (all i).choose, fun i => (all i).choose_spec⟩
  have inp : ∀ i, i < m + 1 → rs.getD i [] ∈ parts := fun i hi => by
    rw [getD_lt (by omega)]
    exact hp _ (List.getElem_mem _)
  refine ⟨m + 1, fun i => rs.getD i [], c, by omega, inp, fun i hi => ?_, fun i hi => ?_, fun i hi => ?_, fun i j hi hj n1 n2 z => ?_⟩
  · exact sub _ (inp i hi) _ (mem_btw.mp (hc i hi)).1
  · exact (mem_btw.mp (hc i hi)).1
  · have := (mem_btw.mp (hc i hi)).2.1
    rw [l] at this
    exact this
  · obtain ⟨b1, b2, b3⟩ := mem_btw.mp (hc i hi)
    rw [l] at b2
    have := cnt_le (f := fun p => decide (c i ∈ p)) (d := []) (l := rs) (is := [i, (i + 1) % (m + 1), j]) (by
      simp only [List.nodup_cons, List.mem_cons, List.not_mem_nil, not_or, or_false, not_false_eq_true, List.nodup_nil, and_true]
      exact ⟨⟨(succ_ne (by omega) hi).symm, n1.symm⟩, n2.symm⟩) fun k hk => by
        simp only [List.mem_cons, List.not_mem_nil, or_false] at hk
        rcases hk with rfl | rfl | rfl
        · exact ⟨by omega, decide_eq_true b1⟩
        · exact ⟨by rw [l]; exact Nat.mod_lt _ (by omega), decide_eq_true b2⟩
        · exact ⟨by omega, decide_eq_true z⟩
    rw [b3] at this
    exact absurd (show 3 ≤ 2 from this) (by decide)
theorem add_cancel_mod {n s i j : Nat} (hi : i < n) (hj : j < n) (e : (j + s) % n = (i + s) % n) : j = i := by
  rcases Nat.le_total i j with u | u
  · have z := Nat.sub_mod_eq_zero_of_mod_eq e
    rw [Nat.add_sub_add_right, Nat.mod_eq_of_lt (by omega)] at z
    omega
  · have z := Nat.sub_mod_eq_zero_of_mod_eq e.symm
    rw [Nat.add_sub_add_right, Nat.mod_eq_of_lt (by omega)] at z
    omega
theorem Ring.turn {F : List Int → Prop} {V : Int → Prop} {n : Nat} {r : Nat → List Int} {c : Nat → Int} (x : Ring F V n r c) (s : Nat) : Ring F V n (fun i => r ((i + s) % n)) (fun i => c ((i + s) % n)) := by
  have n3 := x.n3
  have lt : ∀ i, i % n < n := fun i => Nat.mod_lt _ (by omega)
  have sc : ∀ i, ((i + 1) % n + s) % n = ((i + s) % n + 1) % n := fun i => by
    rw [Nat.mod_add_mod, Nat.mod_add_mod, Nat.add_right_comm]
  refine ⟨n3, fun i _ => x.mem _ (lt _), fun i _ => x.col _ (lt _), fun i _ => x.one _ (lt _), fun i _ => ?_, fun i j hi hj n1 n2 => x.no _ _ (lt _) (lt _) (fun e => n1 ?_) (fun e => n2 ?_)⟩
  · have := x.two _ (lt (i + s))
    rw [sc]
    exact this
  · exact add_cancel_mod hi hj e
  · rw [← sc] at e
    exact add_cancel_mod (lt _) hj e
theorem min_idx {n : Nat} (hn : 0 < n) (r : Nat → List Int) : ∃ s, s < n ∧ ∀ i, i < n → ¬ r i < r s := by
  induction n with
  | zero => omega
  | succ n ih =>
    by_cases e : n = 0
    · subst e
      exact ⟨0, by omega, fun i hi => by rw [show i = 0 by omega]; exact List.lt_irrefl _⟩
    · obtain ⟨s, h1, h2⟩ := ih (by omega)
      by_cases z : r n < r s
      · refine ⟨n, by omega, fun i hi h => ?_⟩
        by_cases e2 : i = n
        · rw [e2] at h
          exact List.lt_irrefl _ h
        · exact h2 i (by omega) (List.lt_trans h z)
      · refine ⟨s, by omega, fun i hi h => ?_⟩
        by_cases e2 : i = n
        · rw [e2] at h
          exact z h
        · exact h2 i (by omega) h
theorem ring_hasRing {parts : List (List Int)} {left : List Int} {n : Nat} {r : Nat → List Int} {c : Nat → Int} (h5 : left.length ≤ 5) (x0 : Ring (· ∈ parts) (· ∈ left) n r c) : hasRing parts = true := by
  have n3 := x0.n3
  have n5 := x0.le
  obtain ⟨s, hs, hmin⟩ := min_idx (show 0 < n by omega) r
  have x := x0.turn s
  have hm0 : ∀ i, 0 < i → i < n → r ((0 + s) % n) < r ((i + s) % n) := fun i i0 hi => by
    have ne := x.rne (i := 0) (j := i) (by omega) hi (by omega)
    rw [Nat.zero_add, Nat.mod_eq_of_lt hs] at ne ⊢
    have z := hmin ((i + s) % n) (Nat.mod_lt _ (by omega))
    exact Classical.byContradiction fun w => ne (List.le_antisymm (List.not_lt.mp z) (List.not_lt.mp w))
  generalize hr : (fun i => r ((i + s) % n)) = r' at x
  generalize (fun i => c ((i + s) % n)) = c' at x
  have hm : ∀ i, 0 < i → i < n → r' 0 < r' i := fun i i0 hi => by
    have z := hm0 i i0 hi
    rw [← hr]
    exact z
  clear hm0 hmin hr x0
  have gd : ∀ k i, i ≤ k → ((List.range (k + 1)).map r').getD i [] = r' i := fun k i hi => by
    rw [List.getD_eq_getElem?_getD, List.getElem?_map, List.getElem?_range (by omega)]
    rfl
  have ln : ∀ k, ((List.range (k + 1)).map r').length = k + 1 := fun k => by rw [List.length_map, List.length_range]
  have cnt : ∀ k i, k < n → i ≤ k → (i + 1) % n ≤ k → (((List.range (k + 1)).map r').filter fun p => decide (c' i ∈ p)).length = 2 := fun k i hk hi hi2 => by
    refine Nat.le_antisymm (cnt_ge (d := []) (is := [i, (i + 1) % n]) fun j hj hf => ?_) (cnt_le (d := []) (is := [i, (i + 1) % n]) (by
      simp only [List.nodup_cons, List.mem_cons, List.not_mem_nil, or_false, not_false_eq_true, List.nodup_nil, and_true]
      exact (succ_ne n3 (by omega)).symm) fun j hj => ?_)
    · rw [ln] at hj
      rw [gd k j (by omega)] at hf
      have hf := of_decide_eq_true hf
      have z : j = i ∨ j = (i + 1) % n := Classical.byContradiction fun z => by
        rw [not_or] at z
        exact x.no i j (by omega) (by omega) z.1 z.2 hf
      simpa using z
    · have hj : j = i ∨ j = (i + 1) % n := by simpa using hj
      rw [ln]
      rcases hj with rfl | rfl
      · exact ⟨by omega, by rw [gd k _ hi]; exact decide_eq_true (x.one _ (by omega))⟩
      · exact ⟨by omega, by rw [gd k _ hi2]; exact decide_eq_true (x.two _ (by omega))⟩
  have row : ∀ k, k < n → (List.range (k + 1)).map r' ∈ rowsN parts k := by
    intro k
    induction k with
    | zero => exact fun _ => List.mem_map.mpr ⟨r' 0, x.mem 0 (by omega), rfl⟩
    | succ k ih =>
      intro hk
      have e : (List.range (k + 1 + 1)).map r' = (List.range (k + 1)).map r' ++ [r' (k + 1)] := by
        rw [List.range_succ, List.map_append]
        rfl
      refine List.mem_flatMap.mpr ⟨_, ih (by omega), List.mem_map.mpr ⟨r' (k + 1), List.mem_filter.mpr ⟨x.mem _ hk, ?_⟩, e.symm⟩⟩
      rw [gd k 0 (by omega), decide_eq_true (hm (k + 1) (by omega) hk), Bool.true_and, ← e]
      have nm : r' (k + 1) ∉ (List.range (k + 1)).map r' := fun z => by
        obtain ⟨i, hi, ei⟩ := List.mem_map.mp z
        have hi := List.mem_range.mp hi
        exact x.rne (i := i) (j := k + 1) (by omega) hk (by omega) ei
      rw [decide_eq_false nm, Bool.not_false, Bool.true_and, lnk_iff]
      intro i hi
      rw [ln] at hi
      have hi1 : (i + 1) % n = i + 1 := Nat.mod_eq_of_lt (by omega)
      refine List.ne_nil_of_mem (a := c' i) (mem_btw.mpr ⟨?_, ?_, cnt (k + 1) i hk (by omega) (by omega)⟩)
      · rw [gd _ i (by omega)]
        exact x.one i (by omega)
      · rw [ln, Nat.mod_eq_of_lt (show i + 1 < k + 1 + 1 by omega), gd _ (i + 1) (by omega)]
        have := x.two i (by omega)
        rw [hi1] at this
        exact this
  refine List.any_eq_true.mpr ⟨n - 1, by simp; omega, List.any_eq_true.mpr ⟨_, row (n - 1) (by omega), decide_eq_true ?_⟩⟩
  have hz : (n - 1 + 1) % n = 0 := by rw [Nat.sub_add_cancel (by omega), Nat.mod_self]
  refine List.ne_nil_of_mem (a := c' (n - 1)) (mem_btw.mpr ⟨?_, ?_, cnt (n - 1) (n - 1) (by omega) (Nat.le_refl _) (by rw [hz]; omega)⟩)
  · rw [gd _ (n - 1) (Nat.le_refl _)]
    exact x.one _ (by omega)
  · rw [ln, Nat.mod_self, gd _ 0 (by omega)]
    have := x.two (n - 1) (by omega)
    rw [hz] at this
    exact this

end
end Fm
namespace Fm
open PySem PySem.Spec PyProof.Rows L2
section
variable {P : Program} {w : World} {K : PySem.W.Frag} {mg : Str → Option Value} {base : Heap}

theorem cat_ct {K : PySem.W.Frag} {H : Hp} {Q : VK} {x : V} {c : List Int} {j : Int} (hc : Dh K H x (ctD c)) (hl : c.length ≤ 1000) {r : Addr} (hr : H r = some (.tup [.int j]))
    (q : ∀ v H', Same H H' → Dh K H' v (ctD (c ++ [j])) → Q v H') : rCatA K x (.ref r) H Q := by
  obtain ⟨a, rfl, s⟩ := ct_inv hc
  refine ⟨a, r, _, _, rfl, rfl, s, SqT.of hr, ?_, fun e => ?_, fun _ e => (nomatch e), fun _ _ p hp => ?_⟩
  · rw [List.length_map]
    exact Nat.le_of_lt (sz_small (by show c.length + 1 ≤ 100000; omega))
  · have e0 : c = [] := List.map_eq_nil_iff.mp e
    subst e0
    exact q _ _ (Same.refl H) (dh_ct (c := [j]) (SqT.of hr))
  · refine q _ _ (same_new hp) (dh_ct ?_)
    rw [List.map_append]
    exact SqT.of upd_same

/-! ### all patterns -/
/-- patterns of so many columns -/
def CtA (K : PySem.W.Frag) (H : Hp) (n : Nat) (xs : List V) : Prop := ∀ x ∈ xs, ∃ c : List Int, Dh K H x (ctD c) ∧ Asc n (-1) c
theorem CtA.ext {H H' : Hp} {n : Nat} {xs : List V} (e : Ext H H') (h : CtA K H n xs) : CtA K H' n xs := fun x hx => by
  obtain ⟨c, hc, hl⟩ := h x hx
  exact ⟨c, hc.ext e, hl⟩
theorem Asc.snoc {n : Int} : ∀ {l : Int} {ps : List Int}, Asc n l ps → l < n → Asc (n + 1) l (ps ++ [n])
  | _, [], _, h => ⟨h, by omega, True.intro⟩
  | _, c :: r, ⟨h1, h2, h3⟩, _ => ⟨h1, by omega, h3.snoc h2⟩
theorem Asc.wide {n : Int} : ∀ {l : Int} {ps : List Int}, Asc n l ps → Asc (n + 1) l ps
  | _, [], _ => True.intro
  | _, c :: r, ⟨h1, h2, h3⟩ => ⟨h1, by omega, h3.wide⟩

def patsOf : Nat → List (List Int)
  | 0 => [[]]
  | n + 1 => patsOf n ++ (patsOf n).map fun q => q ++ [(n : Int)]
theorem pats_len : ∀ n, (patsOf n).length = 2 ^ n
  | 0 => rfl
  | n + 1 => by
    show (patsOf n ++ (patsOf n).map fun q => q ++ [(n : Int)]).length = _
    rw [List.length_append, List.length_map, pats_len n, Nat.pow_succ]
    omega
theorem Asc.split {n : Int} : ∀ {l : Int} {q : List Int}, Asc (n + 1) l q → Asc n l q ∨ ∃ q', q = q' ++ [n] ∧ Asc n l q'
  | _, [], _ => .inl True.intro
  | l, c :: r, ⟨h1, h2, h3⟩ => by
    by_cases e : c < n
    · rcases h3.split with z | ⟨q', e1, z⟩
      · exact .inl ⟨h1, e, z⟩
      · exact .inr ⟨c :: q', by rw [e1]; rfl, h1, e, z⟩
    · have ec : c = n := by omega
      cases r with
      | nil => exact .inr ⟨[], by rw [ec]; rfl, True.intro⟩
      | cons d r =>
        have := h3.1
        have := h3.2.1
        omega
theorem mem_pats : ∀ {n : Nat} {q : List Int}, q ∈ patsOf n ↔ Asc n (-1) q
  | 0, q => by
    constructor
    · intro h
      rw [List.mem_singleton.mp h]
      exact True.intro
    · intro h
      cases q with
      | nil => exact List.mem_singleton.mpr rfl
      | cons c r =>
        have h1 := h.1
        have h2 := h.2.1
        omega
  | n + 1, q => by
    show q ∈ patsOf n ++ (patsOf n).map (fun q => q ++ [(n : Int)]) ↔ Asc ((n : Int) + 1) (-1) q
    rw [List.mem_append, mem_pats, List.mem_map]
    constructor
    · rintro (h | ⟨p, hp, rfl⟩)
      · exact h.wide
      · exact (mem_pats.mp hp).snoc (by omega)
    · intro h
      rcases h.split with z | ⟨p, e, z⟩
      · exact .inl z
      · exact .inr ⟨p, mem_pats.mpr z, e.symm⟩
theorem pats_nodup : ∀ n, (patsOf n).Nodup
  | 0 => List.nodup_cons.mpr ⟨fun h => (by cases h), List.nodup_nil⟩
  | n + 1 => by
    show (patsOf n ++ (patsOf n).map fun q => q ++ [(n : Int)]).Nodup
    refine List.nodup_append.mpr ⟨pats_nodup n, ?_, fun a ha b hb e => ?_⟩
    · exact List.pairwise_map.mpr ((pats_nodup n).imp fun {x y} hne e => hne (List.append_cancel_right e))
    · obtain ⟨q, _, rfl⟩ := List.mem_map.mp hb
      rw [e] at ha
      have := (mem_pats.mp ha).mem n (List.mem_append_right _ (List.mem_singleton.mpr rfl))
      omega
/-- what a pattern's data tells -/
def unI : PyData → Int
  | .int i => i
  | _ => 0
def unP : PyData → List Int
  | .tuple l => l.map unI
  | _ => []
theorem unP_ct (c : List Int) : unP (ctP c) = c := by
  show (c.map PyData.int).map unI = c
  rw [List.map_map]
  exact (List.map_congr_left fun _ _ => rfl).trans (List.map_id c)
theorem dhs_of {H : Hp} {g : V × PyData → List Int} : ∀ {S : List (V × PyData)}, (∀ b ∈ S, Dh K H b.1 (ctD (g b))) → DhAll K H (S.map (·.1)) ((S.map g).map ctD)
  | [], _ => .nil
  | b :: S, h => .cons (h b (List.mem_cons_self ..)) (dhs_of fun z hz => h z (List.mem_cons_of_mem _ hz))
theorem pats_data {H : Hp} : ∀ {xs : List V} {qs : List (List Int)}, DhAll K H xs (qs.map ctD) → ∃ bs : List (V × PyData), bs.map (·.1) = xs ∧ bs.map (fun b => unP b.2) = qs ∧ ∀ b ∈ bs, Dh K H b.1 (ctD (unP b.2)) ∧ b.2 = ctP (unP b.2)
  | [], [], _ => ⟨[], rfl, rfl, fun b hb => by cases hb⟩
  | x :: xs, c :: qs, h => by
    rw [List.map_cons] at h
    cases h with
    | cons h t =>
      obtain ⟨bs, e, e2, hb⟩ := pats_data t
      refine ⟨(x, ctP c) :: bs, by rw [List.map_cons, e], by rw [List.map_cons, e2, unP_ct], fun b hm => ?_⟩
      rcases List.mem_cons.mp hm with z | z
      · rw [z, unP_ct]
        exact ⟨h, rfl⟩
      · exact hb b z
  | x :: xs, [], h => by cases h
  | [], c :: qs, h => by cases h
theorem le_pats (a b : List Int) : (!PySem.W.dataLt (ctP b) (ctP a)) = decide (a ≤ b) := by
  have e : PySem.W.dataLt (ctP b) (ctP a) = decide (b < a) := (PySem.W.dataLt_tuple _ _).trans (PySem.W.dataLt_ints b a)
  rw [e]
  by_cases h : b < a
  · have h' : ¬ a ≤ b := fun r => List.not_lt.mpr r h
    simp [h, h']
  · have h' : a ≤ b := List.not_lt.mp h
    simp [h, h']
theorem sorted_pats {qs : List (List Int)} (nd : qs.Nodup) : (qs.mergeSort fun a b => decide (a ≤ b)).Pairwise fun a b => HT.lexLt a b = true := by
  have h1 := List.pairwise_mergeSort (le := fun a b : List Int => decide (a ≤ b)) (fun a b c x y => decide_eq_true (List.le_trans (of_decide_eq_true x) (of_decide_eq_true y))) (fun a b => by
    rcases List.le_total a b with x | x <;> simp [x]) qs
  have h2 : (qs.mergeSort fun a b => decide (a ≤ b)).Nodup := (List.mergeSort_perm qs _).nodup_iff.mpr nd
  refine (h1.and h2).imp fun {a b} ⟨x, y⟩ => ?_
  rw [lexLt_dec]
  refine decide_eq_true ?_
  by_cases z : a < b
  · exact z
  · exact absurd (List.le_antisymm (of_decide_eq_true x) (List.not_lt.mp z)) y
theorem sort_pats {H : Hp} {a : Addr} {xs : List V} {qs : List (List Int)} {Q : VK} (hs : SqL K H a xs) (hd : DhAll K H xs (qs.map ctD)) (few : ∀ q ∈ qs, q.length ≤ 5)
    (q : ∀ p ys (qs' : List (List Int)), H p = none → DhAll K H ys (qs'.map ctD) → qs' = (qs.mergeSort fun a b => decide (a ≤ b)) → Q (.ref p) (upd H p (.lst ys))) : rSortTs K [.ref a] H Q := by
  obtain ⟨bs, e, e2, hb⟩ := pats_data hd
  refine ⟨a, bs, rfl, by rw [e]; exact hs, fun b hm => ?_, ?_, fun p np => ?_⟩
  · obtain ⟨h1, h2⟩ := hb b hm
    refine ⟨by rw [h2]; exact dp_ct h1, ⟨_, h2⟩, ?_⟩
    rw [h2]
    have z := (lay_ct (unP b.2)).2
    omega
  · intro d hd d' hd'
    obtain ⟨b, hm, rfl⟩ := List.mem_map.mp hd
    obtain ⟨b', hm', rfl⟩ := List.mem_map.mp hd'
    rw [(hb b hm).2, (hb b' hm').2]
    show PySem.W.alikeAll ((unP b.2).map PyData.int) ((unP b'.2).map PyData.int) = true
    exact PySem.W.alike_ints _ _
  · have pm := List.mergeSort_perm bs (PySem.W.dataLe false (fun b : V × PyData => b.2))
    refine q p _ ((bs.mergeSort (PySem.W.dataLe false (fun b : V × PyData => b.2))).map fun b => unP b.2) np (dhs_of fun b hm => (hb b (pm.mem_iff.mp hm)).1) ?_
    rw [← e2]
    refine List.map_mergeSort (s := fun a b : List Int => decide (a ≤ b)) fun b hm b' hm' => ?_
    rw [PySem.W.dataLe_eq]
    show (!PySem.W.dataLt b'.2 b.2) = _
    rw [(hb b hm).2, (hb b' hm').2, unP_ct, unP_ct]
    exact le_pats _ _
structure PatsAll (n : Nat) (qs : List (List Int)) : Prop where
  nd : qs.Nodup
  all : ∀ q, q ∈ qs ↔ Asc n (-1) q
  len : qs.length = 2 ^ n
  asc : qs.Pairwise fun a b => HT.lexLt a b = true
theorem pats_all {n : Nat} {qs : List (List Int)} (e : qs = (patsOf n).mergeSort fun a b => decide (a ≤ b)) : PatsAll n qs := by
  have h : qs.Perm (patsOf n) := by
    rw [e]
    exact List.mergeSort_perm _ _
  exact ⟨h.nodup_iff.mpr (pats_nodup n), fun q => h.mem_iff.trans mem_pats, by rw [h.length_eq, pats_len], by rw [e]; exact sorted_pats (pats_nodup n)⟩
theorem cta_of {H : Hp} {n : Nat} : ∀ {xs : List V} {qs : List (List Int)}, DhAll K H xs (qs.map ctD) → (∀ q ∈ qs, Asc n (-1) q) → CtA K H n xs
  | [], _, _, _ => fun x hx => by cases hx
  | x :: xs, q :: qs, h, ha => by
    rw [List.map_cons] at h
    cases h with
    | cons h1 t =>
      intro y hy
      rcases List.mem_cons.mp hy with e | e
      · rw [e]
        exact ⟨q, h1, ha q (List.mem_cons_self ..)⟩
      · exact cta_of t (fun z hz => ha z (List.mem_cons_of_mem _ hz)) y e
  | x :: xs, [], h, _ => by cases h
def spPats (K : PySem.W.Frag) : Sp := fun vs H Q _ => ∃ n : Nat, vs = [.int n] ∧ n ≤ 5 ∧ ∀ (p : Addr) (xs : List V) (qs : List (List Int)) (H' : Hp), H p = none → Same H H' → H' p = some (.lst xs) → DhAll K H' xs (qs.map ctD) → PatsAll n qs → Q (.ref p) H'
theorem pow5 {n : Nat} (h : n ≤ 5) : 1 ≤ 2 ^ n ∧ 2 ^ n ≤ 32 := ⟨Nat.one_le_two_pow, Nat.le_trans (Nat.pow_le_pow_right (by decide) h) (by decide)⟩
theorem ok_law_patterns (T : Txt K mg) : FnOk P w K mg base CX0 1 T.f_law_patterns T.d_law_patterns ["columns"] (spPats K) := by
  refine T.F_law_patterns.ok sc_law_patterns (fun vs H Q E h => ?_) (fun cdv A outer s H vs Q E hr h => ?_)
  · obtain ⟨_, rfl, _⟩ := h
    rfl
  · obtain ⟨n, rfl, hn, q⟩ := h
    refine ⟨_, (pss_cons (ps_set (i := 1) sc_law_patterns.nd rfl (.inl rfl) (pe_lst (pa_cons (pe_tup pa_nil) pa_nil)))
      (pss_cons (ps_for PassesOwn.never rfl (pi_range1 (by rfl) T.z_range (pa_cons (pv 0) pa_nil)) (pg_name (i := 2) sc_law_patterns.nd rfl (.inr rfl)) (pss_one (ps_set (i := 1) sc_law_patterns.nd rfl (.inl rfl) (pe_op op_cat (pv 1) (pe_lc (own := [("pattern", 3)]) rfl sc_law_patterns.nd (pi_listK K (pv 1)) (blkOk_by (N := N_law_patterns) (sc := defScope s_law_patterns) (by decide +kernel)) (fun _ _ _ _ _ => (pg_name (i := 3) sc_law_patterns.nd rfl (.inl rfl))) (fun _ _ _ _ _ => pts_nil) (fun _ _ _ _ _ => (pe_op (op_catK K) (pv 3) (pe_tup (pa_cons (pv 2) pa_nil)))))))))
      (pss_one (ps_ret (pe_callB (call_sortTsK (K := K) hr.units) (by rfl) T.z_sorted (by decide +kernel) (pa_cons (pv 1) pa_nil)))))), ?_⟩
    refine ⟨by show 0 ≤ sizeLine; decide, fun t nt => ⟨by show 1 ≤ sizeLine; decide, fun f nf => ?_⟩⟩
    have s1 : Same H (upd H t (.tup [])) := same_new nt
    have e1 : (upd H t (.tup [])) t = some (.tup []) := upd_same
    generalize upd H t (.tup []) = H1 at s1 e1 nf ⊢
    have s2 : Same H1 (upd H1 f (.lst [.ref t])) := same_new nf
    have e2 : (upd H1 f (.lst [.ref t])) f = some (.lst [.ref t]) := upd_same
    generalize upd H1 f (.lst [.ref t]) = H2 at s2 e2 ⊢
    have s12 := s1.trans s2
    refine ⟨_, rfl, n, rfl, by omega, by omega, for_range (lo := 0) (n := ((n : Nat) : Int).toNat) (fun i σ H' => ∃ (f : Addr) (xs : List V) (y2 y3 : Option V), σ = [some (.int n), some (.ref f), y2, y3] ∧ Same H H' ∧ H' f = some (.lst xs) ∧ DhAll K H' xs ((patsOf i).map ctD))
      ⟨f, _, none, none, rfl, s12, e2, .cons (.tup (SqT.of (s2 _ _ e1)) .nil) .nil⟩ ?_ ?_⟩
    · rintro i σ H0 hi ⟨f, xs, y2, y3, rfl, sm, hf, hc⟩
      rw [Int.toNat_natCast] at hi
      have h32 := pow5 (show i ≤ 5 by omega)
      have hlen : xs.length = 2 ^ i := by rw [hc.length, List.length_map, pats_len]
      refine ⟨_, rfl, ?_⟩
      refine ⟨_, rfl, f, rfl, ⟨xs, SqL.of hf⟩, fun D nD => lc_list (K := K) (xs := xs) (fun j H' => ∃ acc, Same H0 H' ∧ H' D = some (.lst acc) ∧ acc.length = j ∧ DhAll K H' acc (((patsOf i).take j).map fun q => ctD (q ++ [(i : Int)]))) ⟨[], same_new nD, upd_same, rfl, by rw [List.take_zero]; exact .nil⟩ (fun j H' _ ⟨_, s', _⟩ => s'.seq (SqL.of hf)) ?_ ?_⟩
      · rintro j x H' hx ⟨acc, s', hD, hal, hac⟩
        obtain ⟨d, hd, hxc⟩ := hc.get hx
        obtain ⟨c, hcq, rfl⟩ := map_at hd
        have hasc := mem_pats.mp (List.mem_of_getElem? hcq)
        have hjl := (List.getElem?_eq_some_iff.mp hx).1
        refine ⟨rfl, ?_⟩
        dsimp only [tYes]
        rw [if_pos rfl]
        have hc5 : c.length ≤ 1000 := by
          have := hasc.len (by omega)
          omega
        refine ⟨_, rfl, _, rfl, by show 1 ≤ sizeLine; decide, fun r nr => cat_ct (K := K) (c := c) (j := (0 + (i : Int))) (hxc.ext (.of (s'.trans (same_new nr)))) hc5 upd_same fun v H3 s4 hv => ?_⟩
        have s5 : Same H' H3 := (same_new nr).trans s4
        refine ⟨acc, s5 _ _ hD, sz_small (by omega), acc ++ [v], Same.put nD (s'.trans s5), upd_same, by rw [List.length_append, hal]; rfl, ?_⟩
        have ep : Ext H3 (upd H3 D (.lst (acc ++ [v]))) := Ext.put (s5 _ _ hD)
        rw [List.take_add_one, hcq, List.map_append]
        refine ((hac.ext (.of s5)).ext ep).snoc ?_
        rw [Int.zero_add] at hv
        exact hv.ext ep
      · rintro H' ⟨acc, s', hD, hal, hac⟩
        have hal2 : acc.length = 2 ^ i := by rw [hal, hlen]
        rw [List.take_of_length_le (by rw [pats_len, hlen]; exact Nat.le_refl _)] at hac
        refine ⟨f, D, xs, acc, rfl, rfl, s' _ _ hf, hD, Nat.le_of_lt (sz_small (by omega)), fun p np => ?_⟩
        have sp : Same H' (upd H' p (.lst (xs ++ acc))) := same_new np
        refine ⟨p, _, _, _, rfl, (sm.trans s').trans sp, upd_same, ?_⟩
        show DhAll K _ (xs ++ acc) ((patsOf i ++ (patsOf i).map fun q => q ++ [(i : Int)]).map ctD)
        rw [List.map_append, List.map_map]
        exact DhAll.append (hc.ext (.of (s'.trans sp))) (hac.ext (.of sp))
    · rintro σ H' ⟨f, xs, y2, y3, rfl, sm, hf, hc⟩
      rw [Int.toNat_natCast] at hc
      refine ⟨_, rfl, sort_pats (SqL.of hf) hc (fun q hq => by have := (mem_pats.mp hq).len (by omega); omega) fun p ys qs' np hd pm => ?_⟩
      have sp : Same H' (upd H' p (.lst ys)) := same_new np
      exact q p ys qs' _ (sm.free np) (sm.trans sp) upd_same (hd.ext (.of sp)) (pats_all pm)

end
end Fm
namespace Fm
open PySem PySem.Spec PyProof.Rows L2
section
variable {P : Program} {w : World} {K : PySem.W.Frag} {mg : Str → Option Value} {base : Heap}

/-! ### lots that are enough -/
def cutL (lot p : List Int) : List Int := p.filter fun x => decide (x ∉ lot)
theorem mem_cutL {lot p : List Int} {x : Int} : x ∈ cutL lot p ↔ x ∈ p ∧ x ∉ lot := by
  unfold cutL
  rw [List.mem_filter, decide_eq_true_iff]
theorem cutL_len (lot p : List Int) : (cutL lot p).length ≤ p.length := List.length_filter_le _ _
theorem cutL_nodup {lot p : List Int} (h : p.Nodup) : (cutL lot p).Nodup := List.Nodup.sublist List.filter_sublist h
theorem cutL_cutL {lot lot' p : List Int} (h : ∀ x ∈ lot, x ∈ lot') : cutL lot' (cutL lot p) = cutL lot' p := by
  unfold cutL
  rw [List.filter_filter]
  refine List.filter_congr fun x _ => ?_
  by_cases e : x ∈ lot'
  · simp [e]
  · have : x ∉ lot := fun z => e (h x z)
    simp [e, this]
def partD (n : Nat) (ps : List (List Int)) (lot : List Int) : List (List Int) := (ps.map (cutL lot)).filter fun q => decide (q ≠ cutL lot (rgI n))
theorem mem_partD {n : Nat} {ps : List (List Int)} {lot q : List Int} : q ∈ partD n ps lot ↔ (∃ p ∈ ps, cutL lot p = q) ∧ q ≠ cutL lot (rgI n) := by
  unfold partD
  rw [List.mem_filter, decide_eq_true_iff, List.mem_map]
def Due (n : Nat) (ps : List (List Int)) (lot : List Int) : Prop := ∀ m r c, ¬ Ring (· ∈ partD n ps lot) (· ∈ cutL lot (rgI n)) m r c
theorem due_mono {n : Nat} {ps : List (List Int)} {lot lot' : List Int} (h : ∀ x ∈ lot, x ∈ lot') (d : Due n ps lot) : Due n ps lot' := fun m r c x => by
  obtain ⟨r', z⟩ := x.lift (F' := (· ∈ partD n ps lot)) (V' := (· ∈ cutL lot (rgI n))) (fun y hy => by
    obtain ⟨h1, h2⟩ := mem_cutL.mp hy
    exact mem_cutL.mpr ⟨h1, fun z => h2 (h y z)⟩) fun f hf => by
      obtain ⟨⟨p, hp, rfl⟩, ne⟩ := mem_partD.mp hf
      refine ⟨cutL lot p, mem_partD.mpr ⟨⟨p, hp, rfl⟩, fun e => ne ?_⟩, fun y hy => ?_⟩
      · rw [← cutL_cutL h, e, cutL_cutL h]
      · have h2 := (mem_cutL.mp hy).2
        rw [mem_cutL, mem_cutL]
        exact ⟨fun z => ⟨z.1, fun w => h2 (h y w)⟩, fun z => ⟨z.1, h2⟩⟩
  exact d m r' c z
def dueB (n : Nat) (ps : List (List Int)) (lot : List Int) : Bool := !hasRing (partD n ps lot)
theorem mem_rgI {n : Nat} {x : Int} : x ∈ rgI n ↔ 0 ≤ x ∧ x < n := by
  unfold rgI
  rw [List.mem_map]
  constructor
  · rintro ⟨i, hi, rfl⟩
    have := List.mem_range.mp hi
    omega
  · rintro ⟨h1, h2⟩
    exact ⟨x.toNat, List.mem_range.mpr (by omega), by omega⟩
def AscAll (n : Nat) (ps : List (List Int)) : Prop := ∀ p ∈ ps, Asc n (-1) p
theorem partD_sub {n : Nat} {ps : List (List Int)} {lot : List Int} (ha : AscAll n ps) : ∀ q ∈ partD n ps lot, ∀ y ∈ q, y ∈ cutL lot (rgI n) := fun q hq y hy => by
  obtain ⟨⟨p, hp, rfl⟩, _⟩ := mem_partD.mp hq
  obtain ⟨h1, h2⟩ := mem_cutL.mp hy
  have := (ha p hp).mem y h1
  exact mem_cutL.mpr ⟨mem_rgI.mpr ⟨by omega, by omega⟩, h2⟩
theorem left5 {n : Nat} (n5 : n ≤ 5) (lot : List Int) : (cutL lot (rgI n)).length ≤ 5 := by
  have := cutL_len lot (rgI n)
  rw [rgI_len] at this
  omega
theorem hasRing_due {n : Nat} {ps qs : List (List Int)} {lot : List Int} (n5 : n ≤ 5) (ha : AscAll n ps) (hq : ∀ q, q ∈ qs ↔ q ∈ partD n ps lot) : hasRing qs = true ↔ ¬ Due n ps lot := by
  have eF : (· ∈ qs) = (· ∈ partD n ps lot) := funext fun q => propext (hq q)
  constructor
  · intro h d
    obtain ⟨m, r, c, x⟩ := hasRing_ring (left := cutL lot (rgI n)) (fun p hp => partD_sub ha p ((hq p).mp hp)) h
    rw [eF] at x
    exact d m r c x
  · intro h
    refine Classical.byContradiction fun z => h fun m r c x => z ?_
    rw [← eF] at x
    exact ring_hasRing (left5 n5 lot) x
theorem dueB_iff {n : Nat} {ps : List (List Int)} {lot : List Int} (n5 : n ≤ 5) (ha : AscAll n ps) : dueB n ps lot = true ↔ Due n ps lot := by
  unfold dueB
  have z := hasRing_due (qs := partD n ps lot) (lot := lot) n5 ha fun q => Iff.rfl
  cases e : hasRing (partD n ps lot) with
  | true =>
    rw [e] at z
    exact ⟨(fun h => by cases h), fun d => absurd d (z.mp rfl)⟩
  | false =>
    rw [e] at z
    exact ⟨fun _ => Classical.byContradiction fun d => (by cases z.mpr d), fun _ => rfl⟩
theorem hasRing_eq {n : Nat} {ps qs : List (List Int)} {lot : List Int} (n5 : n ≤ 5) (ha : AscAll n ps) (hq : ∀ q, q ∈ qs ↔ q ∈ partD n ps lot) : (!hasRing qs) = dueB n ps lot := by
  have h1 := hasRing_due n5 ha hq
  have h2 := dueB_iff (lot := lot) n5 ha
  rw [Bool.eq_iff_iff, h2]
  cases e : hasRing qs with
  | true =>
    rw [e] at h1
    exact ⟨(fun h => by cases h), fun d => absurd d (h1.mp rfl)⟩
  | false =>
    rw [e] at h1
    exact ⟨fun _ => Classical.byContradiction fun d => (by cases h1.mpr d), fun _ => rfl⟩
/-- the program's own look: an order of what is left -/
theorem asc_all_eq {n : Nat} : ∀ {l : Int} {p : List Int}, Asc n l p → (n : Int) ≤ (p.length : Int) + l + 1 → ∀ x, l < x → x < n → x ∈ p
  | l, [], _, h, x, h1, h2 => by
    rw [List.length_nil] at h
    omega
  | l, c :: r, ⟨h1, h2, h3⟩, h, x, h4, h5 => by
    have := h3.lenA h2
    rw [List.length_cons] at h
    have ec : c = l + 1 := by omega
    by_cases e : x = c
    · rw [e]; exact List.mem_cons_self ..
    · exact List.mem_cons_of_mem _ (asc_all_eq h3 (by omega) x (by omega) h5)
theorem asc_ext {n : Int} : ∀ {l : Int} {p q : List Int}, Asc n l p → Asc n l q → (∀ x, x ∈ p ↔ x ∈ q) → p = q
  | _, [], [], _, _, _ => rfl
  | _, [], c :: q, _, _, h => by
    have := (h c).mpr (List.mem_cons_self ..)
    cases this
  | _, c :: p, [], _, _, h => by
    have := (h c).mp (List.mem_cons_self ..)
    cases this
  | l, c :: p, d :: q, ⟨h1, h2, h3⟩, ⟨k1, k2, k3⟩, h => by
    have e : c = d := by
      rcases List.mem_cons.mp ((h c).mp (List.mem_cons_self ..)) with z | z
      · exact z
      · rcases List.mem_cons.mp ((h d).mpr (List.mem_cons_self ..)) with w | w
        · exact w.symm
        · have := (h3.mem d w).1
          have := (k3.mem c z).1
          omega
    subst e
    congr 1
    refine asc_ext h3 k3 fun x => ⟨fun hx => ?_, fun hx => ?_⟩
    · rcases List.mem_cons.mp ((h x).mp (List.mem_cons_of_mem _ hx)) with z | z
      · have := (h3.mem x hx).1; omega
      · exact z
    · rcases List.mem_cons.mp ((h x).mpr (List.mem_cons_of_mem _ hx)) with z | z
      · have := (k3.mem x hx).1; omega
      · exact z
theorem partD_part {n : Nat} {ps : List (List Int)} {lot : List Int} (ha : AscAll n ps) (hr : Asc n (-1) (rgI n)) (q : List Int) : q ∈ partD n (partL n ps) lot ↔ q ∈ partD n ps lot := by
  rw [mem_partD, mem_partD]
  refine ⟨fun ⟨⟨p, hp, e⟩, ne⟩ => ⟨⟨p, (List.mem_filter.mp hp).1, e⟩, ne⟩, fun ⟨⟨p, hp, e⟩, ne⟩ => ⟨⟨p, List.mem_filter.mpr ⟨hp, decide_eq_true (Classical.byContradiction fun z => ne ?_)⟩, e⟩, ne⟩⟩
  have ep : p = rgI n := asc_ext (ha p hp) hr fun x => ⟨fun hx => by
    have := (ha p hp).mem x hx
    exact mem_rgI.mpr ⟨by omega, by omega⟩, fun hx => by
      obtain ⟨h1, h2⟩ := mem_rgI.mp hx
      exact asc_all_eq (ha p hp) (by omega) x (by omega) h2⟩
  rw [← e, ep]
theorem ords_due {n : Nat} {ps : List (List Int)} {lot : List Int} (n5 : n ≤ 5) (ha : AscAll n ps) (hr : Asc n (-1) (rgI n)) : decide ((ords (cutL lot (rgI n)).length (partD n (partL n ps) lot) (cutL lot (rgI n))).head? ≠ none) = dueB n ps lot := by
  have haL : AscAll n (partL n ps) := fun p hp => ha p (List.mem_filter.mp hp).1
  have h1 := ords_ring (left := cutL lot (rgI n)) (ps := partD n (partL n ps) lot) (cutL_nodup (rgI_nodup n)) (partD_sub haL)
  rw [Bool.eq_iff_iff, decide_eq_true_iff, h1, dueB_iff n5 ha]
  have eF : (· ∈ partD n (partL n ps) lot) = (· ∈ partD n ps lot) := funext fun q => propext (partD_part ha hr q)
  unfold Due
  rw [eF]
/-! ### the least of them -/
def leastB (n : Nat) (ps : List (List Int)) (lot : List Int) : Bool := dueB n ps lot && !((List.range lot.length).map fun k => dueB n ps (lot.take k ++ lot.drop (k + 1))).any id
def minB (E : List (List Int)) (lot : List Int) : Bool := !(E.map fun o => decide (o ≠ lot) && sub1 o lot).any id
theorem asc_drop {n : Int} : ∀ {l : Int} {p : List Int} {k : Nat}, Asc n l p → Asc n l (p.take k ++ p.drop (k + 1))
  | _, [], k, _ => by
    rw [List.take_nil, List.drop_nil]
    exact True.intro
  | l, c :: r, 0, ⟨h1, h2, h3⟩ => by
    show Asc n l r
    cases r with
    | nil => exact True.intro
    | cons d r => exact ⟨by have := h3.1; omega, h3.2.1, h3.2.2⟩
  | l, c :: r, k + 1, ⟨h1, h2, h3⟩ => ⟨h1, h2, asc_drop (k := k) h3⟩
theorem asc_nodupD {n : Int} : ∀ {l : Int} {p : List Int}, Asc n l p → p.Nodup
  | _, [], _ => List.nodup_nil
  | l, x :: p, ⟨h1, h2, h3⟩ => List.nodup_cons.mpr ⟨fun hm => by have := (h3.mem x hm).1; omega, asc_nodupD h3⟩
theorem least_min {n : Nat} {ps : List (List Int)} {lot : List Int} (n5 : n ≤ 5) (ha : AscAll n ps) (hl : Asc n (-1) lot) (E : List (List Int)) (hE : ∀ o, o ∈ E ↔ Asc n (-1) o ∧ dueB n ps o = true) (hd : dueB n ps lot = true) :
    minB E lot = leastB n ps lot := by
  unfold leastB minB
  rw [hd, Bool.true_and]
  congr 1
  rw [Bool.eq_iff_iff, List.any_eq_true, List.any_eq_true]
  constructor
  · rintro ⟨b, hb, e⟩
    obtain ⟨o, ho, rfl⟩ := List.mem_map.mp hb
    have e : (decide (o ≠ lot) && sub1 o lot) = true := e
    rw [Bool.and_eq_true, decide_eq_true_iff] at e
    obtain ⟨ho1, ho2⟩ := (hE o).mp ho
    have sub := sub1_iff.mp e.2
    obtain ⟨x, hx, hxo⟩ : ∃ x ∈ lot, x ∉ o := Classical.byContradiction fun z => e.1 (asc_ext ho1 hl fun x => ⟨sub x, fun hx => Classical.byContradiction fun w => z ⟨x, hx, w⟩⟩)
    obtain ⟨k, hk, ek⟩ := List.mem_iff_getElem.mp hx
    refine ⟨_, List.mem_map.mpr ⟨k, List.mem_range.mpr hk, rfl⟩, ?_⟩
    show dueB n ps _ = true
    rw [dueB_iff n5 ha] at ho2 ⊢
    refine due_mono (fun y hy => ?_) ho2
    have hyl := sub y hy
    obtain ⟨j, hj, ej⟩ := List.mem_iff_getElem.mp hyl
    have hjk : j ≠ k := fun z => hxo (by rw [← ek, ← (show lot[j] = lot[k] from by subst z; rfl), ej]; exact hy)
    rw [List.mem_append]
    rcases Nat.lt_or_gt_of_ne hjk with u | u
    · exact .inl (List.mem_take_iff_getElem.mpr ⟨j, by omega, ej⟩)
    · refine .inr (List.mem_drop_iff_getElem.mpr ⟨j - (k + 1), by omega, ?_⟩)
      rw [← ej]
      congr 1
      omega
  · rintro ⟨b, hb, e⟩
    obtain ⟨k, hk, rfl⟩ := List.mem_map.mp hb
    have hk := List.mem_range.mp hk
    have e : dueB n ps (lot.take k ++ lot.drop (k + 1)) = true := e
    refine ⟨_, List.mem_map.mpr ⟨lot.take k ++ lot.drop (k + 1), (hE _).mpr ⟨asc_drop hl, e⟩, rfl⟩, ?_⟩
    show (decide _ && sub1 _ _) = true
    rw [Bool.and_eq_true, decide_eq_true_iff, sub1_iff]
    refine ⟨fun z => ?_, fun x hx => ?_⟩
    · have := congrArg List.length z
      rw [List.length_append, List.length_take, List.length_drop] at this
      omega
    · rcases List.mem_append.mp hx with u | u
      · exact List.mem_of_mem_take u
      · exact List.mem_of_mem_drop u
def lotsOf (n : Nat) (ps : List (List Int)) : List (List Int) := (patsOf n).filter fun l => dueB n ps l
def toldOf (n : Nat) (ps : List (List Int)) : List (List Int) := ((lotsOf n ps).filter fun l => minB (lotsOf n ps) l).mergeSort fun a b => decide (a ≤ b)
theorem mem_lotsOf {n : Nat} {ps : List (List Int)} (o : List Int) : o ∈ lotsOf n ps ↔ Asc n (-1) o ∧ dueB n ps o = true := by
  unfold lotsOf
  rw [List.mem_filter, mem_pats]
theorem mem_told {n : Nat} {ps : List (List Int)} (n5 : n ≤ 5) (ha : AscAll n ps) (o : List Int) : o ∈ toldOf n ps ↔ Asc n (-1) o ∧ leastB n ps o = true := by
  unfold toldOf
  rw [(List.mergeSort_perm _ _).mem_iff, List.mem_filter, mem_lotsOf]
  constructor
  · rintro ⟨⟨h1, h2⟩, h3⟩
    exact ⟨h1, by rw [← least_min n5 ha h1 _ mem_lotsOf h2]; exact h3⟩
  · rintro ⟨h1, h2⟩
    have hd : dueB n ps o = true := by
      unfold leastB at h2
      rw [Bool.and_eq_true] at h2
      exact h2.1
    exact ⟨⟨h1, hd⟩, by rw [least_min n5 ha h1 _ mem_lotsOf hd]; exact h2⟩
theorem told_nodup {n : Nat} {ps : List (List Int)} : (toldOf n ps).Nodup := (List.mergeSort_perm _ _).nodup_iff.mpr (List.Nodup.sublist List.filter_sublist (List.Nodup.sublist List.filter_sublist (pats_nodup n)))
theorem sort_le (l : List (List Int)) : (l.mergeSort fun a b => decide (a ≤ b)).Pairwise fun a b => a ≤ b := (List.pairwise_mergeSort (le := fun a b : List Int => decide (a ≤ b)) (fun a b c x y => decide_eq_true (List.le_trans (of_decide_eq_true x) (of_decide_eq_true y))) (fun a b => by
  rcases List.le_total a b with x | x <;> simp [x]) l).imp fun {a b} h => of_decide_eq_true h
theorem sort_same {l m : List (List Int)} (pm : l.Perm m) (h : l.Pairwise fun a b => a ≤ b) : (m.mergeSort fun a b => decide (a ≤ b)) = l := ((List.mergeSort_perm m _).trans pm.symm).eq_of_pairwise (fun a b _ _ h1 h2 => List.le_antisymm h1 h2) (sort_le m) h
theorem told_sorted {n : Nat} {ps : List (List Int)} : ((toldOf n ps).mergeSort fun a b => decide (a ≤ b)) = toldOf n ps := sort_same (.refl _) (sort_le _)
theorem told_law {n : Nat} {ps qs : List (List Int)} (n5 : n ≤ 5) (ha : AscAll n ps) (pa : PatsAll n qs) : qs.filter (fun l => leastB n ps l) = toldOf n ps := by
  have hs : (qs.filter fun l => leastB n ps l).Pairwise fun a b => a ≤ b := (pa.asc.imp fun {a b} h => by
    rw [lexLt_dec] at h
    exact List.not_lt.mp (List.lt_asymm (of_decide_eq_true h))).sublist List.filter_sublist
  have hn : (qs.filter fun l => leastB n ps l).Nodup := List.Nodup.sublist List.filter_sublist pa.nd
  refine List.Perm.eq_of_pairwise (le := fun a b => a ≤ b) (fun a b _ _ h1 h2 => List.le_antisymm h1 h2) hs (sort_le _) ((List.perm_ext_iff_of_nodup hn told_nodup).mpr fun o => ?_)
  rw [mem_told n5 ha, List.mem_filter, pa.all]
theorem told_some {n : Nat} {ps : List (List Int)} (n5 : n ≤ 5) (ha : AscAll n ps) (hr : Asc n (-1) (rgI n)) : toldOf n ps ≠ [] := by
  have hw : dueB n ps (rgI n) = true := (dueB_iff n5 ha).mpr fun m r c x => by
    have n3 := x.n3
    have z := mem_cutL.mp (x.col 0 (by omega))
    exact z.2 z.1
  obtain ⟨k, ⟨o, ho, ek⟩, least⟩ := least_nat (P := fun k => ∃ o, o ∈ lotsOf n ps ∧ o.length = k) ⟨_, (mem_lotsOf _).mpr ⟨hr, hw⟩, rfl⟩
  obtain ⟨h1, h2⟩ := (mem_lotsOf o).mp ho
  refine List.ne_nil_of_mem (a := o) ((mem_told n5 ha o).mpr ⟨h1, ?_⟩)
  unfold leastB
  rw [h2, Bool.true_and, Bool.not_eq_true']
  rw [List.any_eq_false]
  intro b hb e
  obtain ⟨j, hj, rfl⟩ := List.mem_map.mp hb
  have hj := List.mem_range.mp hj
  have e : dueB n ps (o.take j ++ o.drop (j + 1)) = true := e
  refine least (k - 1) (by omega) ⟨_, (mem_lotsOf _).mpr ⟨asc_drop h1, e⟩, ?_⟩
  rw [List.length_append, List.length_take, List.length_drop]
  omega

end
end Fm
namespace Fm
open PySem PySem.Spec PyProof.Rows L2
section
variable {P : Program} {w : World} {K : PySem.W.Frag} {mg : Str → Option Value} {base : Heap}

theorem cut_map (ns : List Int) (lo hi : Option Int) : ∃ ms : List Int, cutV (ns.map V.int) lo hi = ms.map V.int ∧ ms.length ≤ ns.length := by
  refine ⟨(ns.drop (HT.sIx (ns.map V.int).length 0 lo)).take (HT.sIx (ns.map V.int).length (ns.map V.int).length hi - HT.sIx (ns.map V.int).length 0 lo), ?_, ?_⟩
  · unfold cutV
    rw [List.map_take, List.map_drop]
  · rw [List.length_take, List.length_drop]
    omega

theorem ixN_at {n j : Nat} (hj : j < n) : ixN n (j : Int) = some j := by
  unfold ixN
  rw [if_pos (by omega), if_pos (by omega), Int.toNat_natCast]
/-! ### the drawing pool -/
abbrev pv3 (c : Addr) (seed cnt : Int) : List V := [.int seed, .int cnt, .ref c]
/-- at h a pool: its great numbers at c -/
structure PoolOk (H : Hp) (h c : Addr) : Prop where
  ex : ∃ (seed cnt : Int) (cs : List Int), H h = some (.lst (pv3 c seed cnt)) ∧ H c = some (.lst (cs.map V.int)) ∧ c ≠ h
/-- all but the pool is as it was -/
structure KeepQ (h c : Addr) (H H' : Hp) : Prop where
  rest : ∀ b o, b ≠ h → b ≠ c → H b = some o → H' b = some o
  pool : PoolOk H' h c
theorem PoolOk.same {H H' : Hp} {h c : Addr} (x : PoolOk H h c) (k : Same H H') : PoolOk H' h c := by
  obtain ⟨seed, cnt, cs, e1, e2, r⟩ := x.ex
  exact ⟨seed, cnt, cs, k _ _ e1, k _ _ e2, r⟩
theorem KeepQ.of {H H' : Hp} {h c : Addr} (x : PoolOk H h c) (k : Same H H') : KeepQ h c H H' := ⟨fun b o _ _ e => k b o e, x.same k⟩
theorem KeepQ.trans {H H1 H2 : Hp} {h c : Addr} (a : KeepQ h c H H1) (b : KeepQ h c H1 H2) : KeepQ h c H H2 := ⟨fun z o n1 n2 e => b.rest z o n1 n2 (a.rest z o n1 n2 e), b.pool⟩
theorem KeepQ.same {H H1 H2 : Hp} {h c : Addr} (a : KeepQ h c H H1) (k : Same H1 H2) : KeepQ h c H H2 := a.trans (.of a.pool k)
theorem KeepQ.ext {H H' : Hp} {h c : Addr} (x : PoolOk H h c) (k : KeepQ h c H H') : Ext H H' := fun b o e => by
  obtain ⟨s1, s2, cs, e1, e2, _⟩ := x.ex
  obtain ⟨t1, t2, cs', e1', e2', _⟩ := k.pool.ex
  by_cases hb : b = h
  · subst hb
    rw [e1] at e
    cases e
    exact .inr ⟨⟨_, rfl⟩, _, e1'⟩
  · by_cases hg : b = c
    · subst hg
      rw [e2] at e
      cases e
      exact .inr ⟨⟨_, rfl⟩, _, e2'⟩
    · exact .inl (k.rest b o hb hg e)
theorem PoolOk.ne {H : Hp} {h c p : Addr} (x : PoolOk H h c) (n : H p = none) : p ≠ h ∧ p ≠ c := by
  obtain ⟨_, _, _, e1, e2, _⟩ := x.ex
  exact ⟨(ne_of_none e1 n).symm, (ne_of_none e2 n).symm⟩
theorem KeepQ.free {H H' : Hp} {h c p : Addr} (x : PoolOk H h c) (k : KeepQ h c H H') (n : H' p = none) : H p = none := by
  cases e : H p with
  | none => rfl
  | some o =>
    rcases KeepQ.ext x k p o e with q | ⟨_, ys, q⟩
    · rw [n] at q; cases q
    · rw [n] at q; cases q
/-- a new object that the pool has nothing to do with is changed -/
theorem KeepQ.put {H H' : Hp} {h c D : Addr} {o : HO} (x : PoolOk H h c) (k : KeepQ h c H H') (n : H D = none) : KeepQ h c H (upd H' D o) := by
  obtain ⟨n1, n2⟩ := x.ne n
  refine ⟨fun b u nb nc e => ?_, ?_⟩
  · rw [upd_ne (ne_of_none e n)]
    exact k.rest b u nb nc e
  · obtain ⟨seed, cnt, cs, e1, e2, e3⟩ := k.pool.ex
    refine ⟨seed, cnt, cs, ?_, ?_, e3⟩
    · rw [upd_ne n1.symm]
      exact e1
    · rw [upd_ne n2.symm]
      exact e2
def spDrawQ (_K : PySem.W.Frag) : Sp := fun vs H Q _ => ∃ (h c : Addr) (many : Int), vs = [.ref h, .int many] ∧ PoolOk H h c ∧ 0 < many ∧ many < 1073741824 ∧ ∀ d H', 0 ≤ d → d < many → KeepQ h c H H' → Q (.int d) H'
theorem ok_law_draw (T : Txt K mg) : FnOk P w K mg base CX0 1 T.f_law_draw T.d_law_draw ["pool", "many"] (spDrawQ K) := by
  refine T.F_law_draw.ok sc_law_draw (fun vs H Q E h => ?_) (fun cdv A outer s H vs Q E hr h => ?_)
  · obtain ⟨_, _, _, rfl, _⟩ := h
    rfl
  · obtain ⟨h, c, many, rfl, hx, m0, m1, q⟩ := h
    obtain ⟨seed, cnt, cs, hh, hc, nch⟩ := hx.ex
    refine ⟨_, (pss_cons (ps_asg (pe_op op_add (pe_ix (ix_listK K) (pv 0) pe_int (fun _ _ => rfl)) pe_int) (pg_sub (pv 0) pe_int set_list))
      (pss_cons (ps_set (i := 2) sc_law_draw.nd rfl (.inl rfl) (pe_ix (ix_listK K) (pv 0) pe_int (fun _ _ => rfl)))
      (pss_cons (ps_if (pt_cmpR op_gt (pe_callB (call_lenK K) (by rfl) T.z_len PySem.boot_len (pa_cons (pv 2) pa_nil)) pe_int (nomark _)) (pss_cons (ps_set (i := 4) sc_law_draw.nd rfl (.inl rfl) (pe_op op_mod (pe_callTy call_int1 (by rfl) T.z_int (by decide +kernel) (pa_cons (pe_ix (ix_listK K) (pv 2) pe_int (fun _ _ => rfl)) pa_nil)) (pv 1)))
      (pss_cons (ps_asg (pe_op op_fdiv (pe_callTy call_int1 (by rfl) T.z_int (by decide +kernel) (pa_cons (pe_ix (ix_listK K) (pv 2) pe_int (fun _ _ => rfl)) pa_nil)) (pv 1)) (pg_sub (pv 2) pe_int set_list))
      (pss_cons (ps_if (pt_cmpR op_eq (pe_ix (ix_listK K) (pv 2) pe_int (fun _ _ => rfl)) pe_int (nomark _)) (pss_one (ps_expr (pe_bm PySem.F.plainAttrs_list PySem.F.slot_list_pop PySem.F.type_list_pop mt_popAt (pv 2) (pa_cons pe_int pa_nil)))) pss_nil)
      (pss_one (ps_ret (pv 4)))))) pss_nil)
      (pss_cons (ps_set (i := 3) sc_law_draw.nd rfl (.inl rfl) (pe_op op_mod (pe_callTy call_int1 (by rfl) T.z_int (by decide +kernel) (pa_cons (pe_op op_mul (pe_op op_add (pe_ix (ix_listK K) (pv 0) pe_int (fun _ _ => rfl)) (pe_op op_mul pe_int (pe_ix (ix_listK K) (pv 0) pe_int (fun _ _ => rfl)))) pe_int) pa_nil)) pe_int))
      (pss_cons (ps_set (i := 3) sc_law_draw.nd rfl (.inl rfl) (pe_op op_mod (pe_callTy call_int1 (by rfl) T.z_int (by decide +kernel) (pa_cons (pe_op op_mul (pv 3) (pe_op op_add (pe_op op_fdiv (pv 3) pe_int) pe_int)) pa_nil)) pe_int))
      (pss_cons (ps_set (i := 3) sc_law_draw.nd rfl (.inl rfl) (pe_op op_mod (pe_callTy call_int1 (by rfl) T.z_int (by decide +kernel) (pa_cons (pe_op op_mul (pv 3) (pe_op op_add (pe_op op_fdiv (pv 3) pe_int) pe_int)) pa_nil)) pe_int))
      (pss_one (ps_ret (pe_op op_mod (pe_callTy call_int1 (by rfl) T.z_int (by decide +kernel) (pa_cons (pe_op op_fdiv (pv 3) pe_int) pa_nil)) (pv 1)))))))))), ?_⟩
    refine ⟨_, rfl, h, _, 1, _, rfl, rfl, SqL.of hh, atI_nat (j := 1) rfl, _, _, rfl, rfl, _, rfl, h, _, 1, 1, rfl, rfl, hh, rfl, ?_⟩
    have eh : (upd H h (.lst (pv3 c seed (cnt + 1)))) h = some (.lst (pv3 c seed (cnt + 1))) := upd_same
    have ec : (upd H h (.lst (pv3 c seed (cnt + 1)))) c = some (.lst (cs.map V.int)) := by rw [upd_ne nch]; exact hc
    have kp : ∀ b o, b ≠ h → b ≠ c → H b = some o → (upd H h (.lst (pv3 c seed (cnt + 1)))) b = some o := fun b o n1 _ e => by
      rw [upd_ne n1]
      exact e
    show tSeq _ _ _ _ (upd H h (.lst (pv3 c seed (cnt + 1))))
    generalize upd H h (.lst (pv3 c seed (cnt + 1))) = H1 at eh ec kp ⊢
    dsimp only [tNext, tSeq, tAsg, gName, List.set_cons_succ, List.set_cons_zero]
    refine ⟨_, rfl, h, _, 2, _, rfl, rfl, SqL.of eh, atI_nat (j := 2) rfl, ?_⟩
    dsimp only [tNext, tSeq, tAsg, gName, List.set_cons_succ, List.set_cons_zero]
    refine ⟨_, rfl, c, _, rfl, .inl (SqL.of ec), _, _, rfl, rfl, _, rfl, ?_⟩
    cases cs with
    | cons z gs =>
      rw [decide_eq_true (by rw [List.length_map, List.length_cons]; omega)]
      refine iteT ?_
      dsimp only [tNext, tSeq, tAsg, gName, List.set_cons_succ, List.set_cons_zero]
      refine ⟨_, rfl, c, _, 0, _, rfl, rfl, SqL.of ec, atI_nat (j := 0) rfl, .inl ⟨_, rfl, _, rfl, _, _, rfl, rfl, m0, ?_⟩⟩
      dsimp only [tNext, tSeq, tAsg, gName, List.set_cons_succ, List.set_cons_zero]
      refine ⟨_, rfl, c, _, 0, _, rfl, rfl, SqL.of ec, atI_nat (j := 0) rfl, .inl ⟨_, rfl, _, rfl, _, _, rfl, rfl, ⟨m0, m1⟩, _, rfl, c, _, 0, 0, rfl, rfl, ec, ixN_at (j := 0) (by rw [List.length_map, List.length_cons]; omega), ?_⟩⟩
      have fh : (upd H1 c (.lst (((z :: gs).map V.int).set 0 (.int (z / many))))) h = some (.lst (pv3 c seed (cnt + 1))) := by rw [upd_ne nch.symm]; exact eh
      have fc : (upd H1 c (.lst (((z :: gs).map V.int).set 0 (.int (z / many))))) c = some (.lst (((z / many) :: gs).map V.int)) := upd_same
      have kp2 : ∀ b o, b ≠ h → b ≠ c → H b = some o → (upd H1 c (.lst (((z :: gs).map V.int).set 0 (.int (z / many))))) b = some o := fun b o n1 n2 e => by
        rw [upd_ne n2]
        exact kp b o n1 n2 e
      generalize upd H1 c (.lst (((z :: gs).map V.int).set 0 (.int (z / many)))) = H2 at fh fc kp2 ⊢
      dsimp only [tNext, tSeq, tAsg, gName, List.set_cons_succ, List.set_cons_zero]
      refine ⟨_, rfl, c, _, 0, _, rfl, rfl, SqL.of fc, atI_nat (j := 0) rfl, rfl, _, rfl, ?_⟩
      refine ite2 (fun _ => ?_) (fun _ => ?_)
      · refine ⟨_, rfl, .inl ⟨rfl, _, SqL.of fc⟩, c, _, 0, 0, _, rfl, rfl, fc, by decide, by decide, (ixN_seq (ixN_at (j := 0) (by rw [List.length_map, List.length_cons]; omega))).1, rfl, ?_⟩
        refine ⟨_, rfl, ?_⟩
        refine q _ _ (Int.emod_nonneg _ (by omega)) (Int.emod_lt_of_pos _ m0) ⟨fun b o n1 n2 e => ?_, ⟨seed, cnt + 1, gs, ?_, upd_same, nch⟩⟩
        · rw [upd_ne n2]
          exact kp2 b o n1 n2 e
        · rw [upd_ne nch.symm]
          exact fh
      · refine ⟨_, rfl, ?_⟩
        exact q _ _ (Int.emod_nonneg _ (by omega)) (Int.emod_lt_of_pos _ m0) ⟨kp2, ⟨seed, cnt + 1, _, fh, fc, nch⟩⟩
    | nil =>
      rw [decide_eq_false (by decide)]
      refine iteF ?_
      dsimp only [tNext, tSeq, tAsg, gName, List.set_cons_succ, List.set_cons_zero]
      have kG : KeepQ h c H H1 := ⟨kp, ⟨seed, cnt + 1, [], eh, ec, nch⟩⟩
      refine ⟨_, rfl, h, _, 0, _, rfl, rfl, SqL.of eh, atI_nat (j := 0) rfl, _, rfl, h, _, 1, _, rfl, rfl, SqL.of eh, atI_nat (j := 1) rfl, _, _, rfl, rfl, .inl ⟨by decide, by decide⟩, _, _, rfl, rfl, _, _, rfl, rfl, .inr ⟨by decide, by decide⟩, .inl ⟨_, rfl, _, _, rfl, rfl, show (0 : Int) < 2147483647 by decide, ?_⟩⟩
      have b1 : ∀ x : Int, 0 ≤ x % 2147483647 ∧ x % 2147483647 < 2147483647 := fun x => ⟨Int.emod_nonneg _ (by decide), Int.emod_lt_of_pos _ (by decide)⟩
      generalize hn : ((seed + 7919 * (cnt + 1)) * 48271) % 2147483647 = n1
      have q1 := b1 ((seed + 7919 * (cnt + 1)) * 48271)
      rw [hn] at q1
      refine ⟨_, rfl, _, rfl, _, _, rfl, rfl, ⟨by decide, by decide⟩, _, _, rfl, rfl, _, _, rfl, rfl, .inl ⟨by omega, by omega⟩, .inl ⟨_, rfl, _, _, rfl, rfl, show (0 : Int) < 2147483647 by decide, ?_⟩⟩
      generalize hn2 : (n1 * (n1 / 1009 + 69621)) % 2147483647 = n2
      have q2 := b1 (n1 * (n1 / 1009 + 69621))
      rw [hn2] at q2
      refine ⟨_, rfl, _, rfl, _, _, rfl, rfl, ⟨by decide, by decide⟩, _, _, rfl, rfl, _, _, rfl, rfl, .inl ⟨by omega, by omega⟩, .inl ⟨_, rfl, _, _, rfl, rfl, show (0 : Int) < 2147483399 by decide, ?_⟩⟩
      refine ⟨_, rfl, _, _, rfl, rfl, ⟨by decide, by decide⟩, .inl ⟨_, rfl, _, rfl, _, _, rfl, rfl, m0, ?_⟩⟩
      exact q _ _ (Int.emod_nonneg _ (by omega)) (Int.emod_lt_of_pos _ m0) kG

end
end Fm
namespace Fm
open PySem PySem.Spec PyProof.Rows L2
section
variable {P : Program} {w : World} {K : PySem.W.Frag} {mg : Str → Option Value} {base : Heap}

def spPool (K : PySem.W.Frag) : Sp := fun vs H Q _ => ∃ (a : Addr) (ns : List Int), vs = [.ref a] ∧ SqL K H a (ns.map V.int) ∧ ns.length ≤ 1000 ∧ ∀ h c H', H h = none → Same H H' → PoolOk H' h c → Q (.ref h) H'
theorem ok_law_pool (T : Txt K mg) : FnOk P w K mg base CX0 1 T.f_law_pool T.d_law_pool ["script"] (spPool K) := by
  refine T.F_law_pool.ok sc_law_pool (fun vs H Q E h => ?_) (fun cdv A outer s H vs Q E hr h => ?_)
  · obtain ⟨_, _, rfl, _⟩ := h
    rfl
  · obtain ⟨a, ns, rfl, ha, hl, q⟩ := h
    obtain ⟨ms1, em1, hm1⟩ := cut_map ns none (some 1)
    obtain ⟨ms, em, hm⟩ := cut_map ns none (some 63)
    refine ⟨_, (pss_cons (ps_set (i := 1) sc_law_pool.nd rfl (.inl rfl) (pe_op op_add (pe_op op_add (pe_op op_mod (pe_callTy call_int1 (by rfl) T.z_int (by decide +kernel) (pa_cons (pe_callB (cr_sum rfl) (by rfl) T.z_sum (by decide +kernel) (pa_cons (pe_slice (sl_listK K) (pv 0) po_none (po_some pe_int)) pa_nil)) pa_nil)) pe_int) (pe_callB (call_lenK K) (by rfl) T.z_len PySem.boot_len (pa_cons (pv 0) pa_nil))) pe_int))
      (pss_cons (ps_for PassesOwn.never rfl (pi_listK K (pe_slice (sl_listK K) (pv 0) po_none (po_some pe_int))) (pg_name (i := 2) sc_law_pool.nd rfl (.inl rfl)) (pss_one (ps_set (i := 1) sc_law_pool.nd rfl (.inl rfl) (pe_op op_mod (pe_callTy call_int1 (by rfl) T.z_int (by decide +kernel) (pa_cons (pe_op op_add (pe_op op_add (pe_op op_mul (pv 1) pe_int) (pe_op op_mod (pe_callTy call_int1 (by rfl) T.z_int (by decide +kernel) (pa_cons (pv 2) pa_nil)) pe_int)) pe_int) pa_nil)) pe_int))))
      (pss_one (ps_ret (pe_lst (pa_cons (pv 1) (pa_cons pe_int (pa_cons (pe_lc (own := [("cell", 2)]) rfl sc_law_pool.nd (pi_listK K (pe_slice (sl_listK K) (pv 0) po_none (po_some pe_int))) (blkOk_by (N := N_law_pool) (sc := defScope s_law_pool) (by decide +kernel)) (fun _ _ _ _ _ => (pg_name (i := 2) sc_law_pool.nd rfl (.inl rfl))) (fun _ _ _ _ _ => (pts_one (pt_cmpR op_ge (pe_callB call_abs (by rfl) T.z_abs (by decide +kernel) (pa_cons (pv 2) pa_nil)) (pe_op op_pow pe_int pe_int) (nomark _)))) (fun _ _ _ _ _ => (pe_callB call_abs (by rfl) T.z_abs (by decide +kernel) (pa_cons (pv 2) pa_nil)))) pa_nil)))))))), ?_⟩
    refine ⟨_, rfl, 1, rfl, a, _, rfl, ha, fun p np => ?_⟩
    rw [em1]
    have s1 : Same H (upd H p (.lst (ms1.map V.int))) := same_new np
    have e1 : (upd H p (.lst (ms1.map V.int))) p = some (.lst (ms1.map V.int)) := upd_same
    generalize upd H p (.lst (ms1.map V.int)) = H1 at s1 e1 ⊢
    refine ⟨p, ms1, rfl, SqL.of e1, ?_⟩
    refine .inl ⟨_, rfl, _, _, rfl, rfl, show (0 : Int) < 1000003 by decide, ?_⟩
    refine ⟨_, rfl, a, _, rfl, .inl (s1.seq ha), ?_⟩
    refine ⟨_, _, rfl, rfl, _, _, rfl, rfl, ?_⟩
    dsimp only [tNext, tSeq, tAsg, gName, List.set_cons_succ, List.set_cons_zero]
    refine ⟨_, rfl, 63, rfl, a, _, rfl, s1.seq ha, fun p2 np2 => ?_⟩
    rw [em]
    have s2 : Same H1 (upd H1 p2 (.lst (ms.map V.int))) := same_new np2
    have e2 : (upd H1 p2 (.lst (ms.map V.int))) p2 = some (.lst (ms.map V.int)) := upd_same
    have np2H := s1.free np2
    generalize upd H1 p2 (.lst (ms.map V.int)) = H2 at s2 e2 ⊢
    refine ⟨p2, rfl, ⟨_, SqL.of e2⟩, for_list (K := K) (xs := ms.map V.int) (fun i σ H' => ∃ (z : Int) (y : Option V), σ = [some (.ref a), some (.int z), y] ∧ H' = H2) ⟨_, _, rfl, rfl⟩ (fun i σ H' _ ⟨_, _, _, e⟩ => by rw [e]; exact SqL.of e2) ?_ ?_⟩
    · rintro i x σ H' hx ⟨z, y, rfl, rfl⟩
      obtain ⟨n, rfl, hn⟩ := int_at hx
      dsimp only [tNext, tSeq, tAsg, gName, List.set_cons_succ, List.set_cons_zero]
      refine ⟨_, rfl, _, _, rfl, rfl, .inr ⟨by decide, by decide⟩, _, rfl, .inl ⟨_, rfl, _, _, rfl, rfl, show (0 : Int) < 2147483629 by decide, _, _, rfl, rfl, _, _, rfl, rfl, .inl ⟨_, rfl, _, _, rfl, rfl, show (0 : Int) < 2147483647 by decide, ?_⟩⟩⟩
      exact ⟨_, _, rfl, rfl⟩
    · rintro σ H' ⟨z, y, rfl, rfl⟩
      have s02 := s1.trans s2
      refine ⟨_, rfl, _, rfl, 63, rfl, a, _, rfl, s02.seq ha, fun p3 np3 => ?_⟩
      rw [em]
      have s3 : Same H' (upd H' p3 (.lst (ms.map V.int))) := same_new np3
      have e3 : (upd H' p3 (.lst (ms.map V.int))) p3 = some (.lst (ms.map V.int)) := upd_same
      generalize upd H' p3 (.lst (ms.map V.int)) = H3 at s3 e3 ⊢
      refine ⟨p3, rfl, ⟨_, SqL.of e3⟩, fun D nD => lc_list (K := K) (xs := ms.map V.int) (fun i H4 => ∃ gs : List Int, gs.length ≤ i ∧ Same H3 H4 ∧ H4 D = some (.lst (gs.map V.int))) ⟨[], Nat.le_refl _, same_new nD, upd_same⟩ (fun i H4 _ ⟨_, _, sm, _⟩ => SqL.of (sm _ _ e3)) ?_ ?_⟩
      · rintro i x H4 hx ⟨gs, hgs, sm, hD⟩
        obtain ⟨z2, rfl, hz⟩ := int_at hx
        have hi := (List.getElem?_eq_some_iff.mp hz).1
        refine ⟨rfl, ?_⟩
        refine ⟨_, rfl, _, rfl, _, _, rfl, rfl, ⟨by decide, by decide, by decide⟩, _, _, rfl, rfl, _, rfl, ?_⟩
        by_cases e : (10 : Int) ^ (18 : Int).toNat ≤ if z2 < 0 then -z2 else z2
        · rw [decide_eq_true e]
          dsimp only
          rw [if_pos rfl]
          refine ⟨_, rfl, _, rfl, _, hD, sz_small (by rw [List.length_map]; omega), gs ++ [if z2 < 0 then -z2 else z2], by rw [List.length_append]; show gs.length + 1 ≤ i + 1; omega, Same.put nD sm, ?_⟩
          rw [upd_same, List.map_append]
          rfl
        · rw [decide_eq_false e]
          dsimp only
          rw [if_neg (by decide)]
          exact ⟨gs, by omega, sm, hD⟩
      · rintro H4 ⟨gs, hgs, s4, hD⟩
        refine ⟨by show 3 ≤ sizeLine; decide, fun h nh => ?_⟩
        have nDh : D ≠ h := fun e => by
          rw [← e, hD] at nh
          cases nh
        have s05 := (s02.trans s3).trans s4
        exact q h D _ (s05.free nh) (s05.trans (same_new nh)) ⟨_, _, gs, upd_same, (same_new nh) _ _ hD, nDh⟩
/-! ### the things in a drawn order; one of them -/
def spMixQ (K : PySem.W.Frag) : Sp := fun vs H Q _ => ∃ (h c a : Addr) (xs : List V), vs = [.ref h, .ref a] ∧ PoolOk H h c ∧ SqL K H a xs ∧ xs.length ≤ 1000 ∧ ∀ d ys H', H d = none → KeepQ h c H H' → H' d = some (.lst ys) → ys.Perm xs → Q (.ref d) H'
theorem erase_perm {α : Type} {l : List α} {k : Nat} {x : α} (h : l[k]? = some x) : (x :: l.eraseIdx k).Perm l := by
  obtain ⟨hk, rfl⟩ := List.getElem?_eq_some_iff.mp h
  rw [List.eraseIdx_eq_take_drop_succ]
  have e : l = l.take k ++ l[k] :: l.drop (k + 1) := by rw [← List.drop_eq_getElem_cons hk, List.take_append_drop]
  exact List.perm_middle.symm.trans (by rw [← e])
theorem ok_law_mixed (T : Txt K mg) : FnOk P w K mg base CX0 2 T.f_law_mixed T.d_law_mixed ["pool", "things"] (spMixQ K) := by
  refine T.F_law_mixed.ok sc_law_mixed (fun vs H Q E h => ?_) (fun cdv A outer s H vs Q E hr h => ?_)
  · obtain ⟨_, _, _, _, rfl, _⟩ := h
    rfl
  · obtain ⟨h, c, a, xs, rfl, hx, ha, hl, q⟩ := h
    refine ⟨_, (pss_cons (ps_set (i := 2) sc_law_mixed.nd rfl (.inl rfl) (pe_callTy (call_listK (K := K)) (by rfl) T.z_list (by decide +kernel) (pa_cons (pv 1) pa_nil)))
      (pss_cons (ps_set (i := 3) sc_law_mixed.nd rfl (.inl rfl) (pe_lst pa_nil))
      (pss_cons (ps_for PassesOwn.never rfl (pi_range1 (by rfl) T.z_range (pa_cons (pe_callB (call_lenK K) (by rfl) T.z_len PySem.boot_len (pa_cons (pv 1) pa_nil)) pa_nil)) (pg_name (i := 4) sc_law_mixed.nd rfl (.inl rfl)) (pss_one (ps_expr (pe_bm PySem.F.plainAttrs_list PySem.F.slot_list_append PySem.F.type_list_append mt_append (pv 3) (pa_cons (pe_bm PySem.F.plainAttrs_list PySem.F.slot_list_pop PySem.F.type_list_pop mt_popAt (pv 2) (pa_cons (pe_call (ok_law_draw T) hr (by rfl) T.g_law_draw T.F_law_draw.kp T.b_law_draw .nil pass0 (pa_cons (pv 0) (pa_cons (pe_callB (call_lenK K) (by rfl) T.z_len PySem.boot_len (pa_cons (pv 2) pa_nil)) pa_nil))) pa_nil)) pa_nil)))))
      (pss_one (ps_ret (pv 3)))))), ?_⟩
    refine ⟨_, rfl, a, xs, rfl, .inl ha, fun d nd => ?_⟩
    have s1 : Same H (upd H d (.lst xs)) := same_new nd
    have hd : (upd H d (.lst xs)) d = some (.lst xs) := upd_same
    obtain ⟨dh, dc⟩ := hx.ne nd
    generalize upd H d (.lst xs) = H1 at s1 hd ⊢
    dsimp only [tNext, tSeq, tAsg, gName, List.set_cons_succ, List.set_cons_zero]
    refine ⟨Nat.zero_le _, fun D nD => ?_⟩
    have nDH := s1.free nD
    obtain ⟨Dh, Dc⟩ := hx.ne nDH
    have dD : d ≠ D := fun e => by rw [e, nD] at hd; cases hd
    have s2 : Same H1 (upd H1 D (.lst [])) := same_new nD
    have hD : (upd H1 D (.lst [])) D = some (.lst []) := upd_same
    have hd2 := s2 _ _ hd
    have s12 := s1.trans s2
    generalize upd H1 D (.lst []) = H2 at s12 hD hd2 ⊢
    dsimp only [tNext, tSeq, tAsg, gName, List.set_cons_succ, List.set_cons_zero]
    refine ⟨_, rfl, a, _, rfl, .inl (s12.seq ha), (xs.length : Int), rfl, by omega, by omega, for_range (lo := 0) (n := ((xs.length : Nat) : Int).toNat) (fun i σ H' => ∃ (y4 : Option V) (ls ms : List V), σ = [some (.ref h), some (.ref a), some (.ref d), some (.ref D), y4] ∧ KeepQ h c H H' ∧ H' d = some (.lst ls) ∧ H' D = some (.lst ms) ∧ (ms ++ ls).Perm xs ∧ ms.length = i)
      ⟨none, xs, [], rfl, .of hx s12, hd2, hD, .refl _, rfl⟩ ?_ ?_⟩
    · rintro i σ H' hi ⟨y4, ls, ms, rfl, k, hd', hD', pm, em⟩
      rw [Int.toNat_natCast] at hi
      have yl := pm.length_eq
      rw [List.length_append] at yl
      dsimp only [tNext, tSeq, tAsg, gName, List.set_cons_succ, List.set_cons_zero]
      refine ⟨_, rfl, .inl ⟨rfl, _, SqL.of hD'⟩, _, rfl, .inl ⟨rfl, _, SqL.of hd'⟩, _, rfl, _, rfl, d, _, rfl, .inl (SqL.of hd'), h, c, (ls.length : Int), rfl, k.pool, by omega, by omega, fun o H2 o0 o1 k2 => ?_⟩
      have hd2 := k2.rest d _ dh dc hd'
      have hD2 := k2.rest D _ Dh Dc hD'
      obtain ⟨m, rfl⟩ : ∃ m : Nat, o = (m : Int) := ⟨o.toNat, by omega⟩
      have hm : m < ls.length := by omega
      obtain ⟨x, hxm⟩ : ∃ x, ls[m]? = some x := ⟨_, List.getElem?_eq_getElem hm⟩
      refine ⟨d, ls, m, m, x, rfl, rfl, hd2, by omega, by omega, (ixN_seq (ixN_at hm)).1, hxm, ?_⟩
      refine ⟨D, ms, x, rfl, rfl, by rw [upd_ne dD.symm]; exact hD2, sz_small (by omega), ?_⟩
      refine ⟨_, ls.eraseIdx m, ms ++ [x], rfl, ((k.trans k2).put hx nd).put hx nDH, by rw [upd_ne dD]; exact upd_same, upd_same, ?_, by rw [List.length_append, em]; rfl⟩
      rw [List.append_assoc]
      exact ((erase_perm hxm).append_left ms).trans pm
    · rintro σ H' ⟨y4, ls, ms, rfl, k, hd', hD', pm, em⟩
      have yl := pm.length_eq
      rw [List.length_append] at yl
      rw [Int.toNat_natCast] at em
      have e0 : ls = [] := List.eq_nil_of_length_eq_zero (by omega)
      subst e0
      rw [List.append_nil] at pm
      exact ⟨_, rfl, q D ms H' nDH k hD' pm⟩
def spSomeQ (K : PySem.W.Frag) : Sp := fun vs H Q _ => ∃ (h c a : Addr) (xs : List V), vs = [.ref h, .ref a] ∧ PoolOk H h c ∧ a ≠ h ∧ a ≠ c ∧ H a = some (.lst xs) ∧ 0 < xs.length ∧ xs.length ≤ 1000 ∧ ∀ x H', x ∈ xs → KeepQ h c H H' → Q x H'
theorem ok_law_some (T : Txt K mg) : FnOk P w K mg base CX0 2 T.f_law_some T.d_law_some ["pool", "things"] (spSomeQ K) := by
  refine T.F_law_some.ok sc_law_some (fun vs H Q E h => ?_) (fun cdv A outer s H vs Q E hr h => ?_)
  · obtain ⟨_, _, _, _, rfl, _⟩ := h
    rfl
  · obtain ⟨h, c, a, xs, rfl, hx, n1, n2, ha, l0, l1, q⟩ := h
    refine ⟨_, (pss_one (ps_ret (pe_ix (ix_listK K) (pv 1) (pe_call (ok_law_draw T) hr (by rfl) T.g_law_draw T.F_law_draw.kp T.b_law_draw .nil pass0 (pa_cons (pv 0) (pa_cons (pe_callB (call_lenK K) (by rfl) T.z_len PySem.boot_len (pa_cons (pv 1) pa_nil)) pa_nil))) (fun _ _ => rfl)))), ?_⟩
    refine ⟨_, rfl, _, rfl, _, rfl, a, _, rfl, .inl (SqL.of ha), h, c, (xs.length : Int), rfl, hx, by omega, by omega, fun o H2 o0 o1 k2 => ?_⟩
    obtain ⟨m, rfl⟩ : ∃ m : Nat, o = (m : Int) := ⟨o.toNat, by omega⟩
    have hm : m < xs.length := by omega
    exact ⟨a, _, _, xs[m], rfl, rfl, SqL.of (k2.rest a _ n1 n2 ha), atI_nat (j := m) (List.getElem?_eq_getElem hm), q _ _ (List.getElem_mem hm) k2⟩
def spFlagQ (K : PySem.W.Frag) : Sp := fun vs H Q _ => ∃ a b : Bool, vs = [.bl a, .bl b] ∧ ∀ H', Same H H' → Q (.bl (decide (a = b))) H'
theorem ok_law_is_flag (T : Txt K mg) : FnOk P w K mg base CX0 1 T.f_law_is_flag T.d_law_is_flag ["thing", "due"] (spFlagQ K) := by
  refine T.F_law_is_flag.ok sc_law_is_flag (fun vs H Q E h => ?_) (fun cdv A outer s H vs Q E hr h => ?_)
  · obtain ⟨_, _, rfl, _⟩ := h
    rfl
  · obtain ⟨a, b, rfl, q⟩ := h
    refine ⟨_, (pss_one (ps_ret (pe_and (pe_callB (call_isiK' K) (by rfl) T.z_isinstance (by decide +kernel) (pa_cons (pv 0) (pa_cons (pe_bltn (v := .ty "bool") (by rfl) T.z_bool (by decide +kernel) rfl) pa_nil))) (pe_one (pe_cmpR op_eq (pv 0) (pv 1) (nomark _)))))), ?_⟩
    refine ⟨_, rfl, _, _, _, _, _, rfl, .ty _, .base (.bl a), kit_ty (show kitB "bool" "bool" = some true by decide +kernel), _, rfl, iteT ?_⟩
    refine ⟨_, rfl, _, rfl, ?_⟩
    refine ⟨rfl, ?_⟩
    rw [show decide (V.bl a = V.bl b) = decide (a = b) from decide_eq_decide.mpr ⟨fun h => by injection h, fun h => by rw [h]⟩]
    exact q H (Same.refl H)
/-- a tuple 36 deep -/
def nestD : Nat → Dt
  | 0 => .tup []
  | n + 1 => .tup [nestD n]
def spDeepQ (K : PySem.W.Frag) : Sp := fun vs H Q _ => vs = [] ∧ ∀ v H', Same H H' → Dh K H' v (nestD 36) → Q v H'
theorem ok_law_deep (T : Txt K mg) : FnOk P w K mg base CX0 1 T.f_law_deep T.d_law_deep [] (spDeepQ K) := by
  refine T.F_law_deep.ok sc_law_deep (fun vs H Q E h => ?_) (fun cdv A outer s H vs Q E hr h => ?_)
  · obtain ⟨rfl, _⟩ := h
    rfl
  · obtain ⟨rfl, q⟩ := h
    refine ⟨_, (pss_cons (ps_set (i := 0) sc_law_deep.nd rfl (.inl rfl) (pe_tup pa_nil))
      (pss_cons (ps_for PassesOwn.never rfl (pi_range1 (by rfl) T.z_range (pa_cons pe_int pa_nil)) (pg_name (i := 1) sc_law_deep.nd rfl (.inl rfl)) (pss_one (ps_set (i := 0) sc_law_deep.nd rfl (.inl rfl) (pe_tup (pa_cons (pv 0) pa_nil)))))
      (pss_one (ps_ret (pv 0))))), ?_⟩
    refine ⟨by show 0 ≤ sizeLine; decide, fun p np => ?_⟩
    have s1 : Same H (upd H p (.tup [])) := same_new np
    have e1 : Dh K (upd H p (.tup [])) (.ref p) (nestD 0) := .tup (SqT.of upd_same) .nil
    generalize upd H p (.tup []) = H1 at s1 e1 ⊢
    dsimp only [tNext, tSeq, tAsg, gName, List.set_cons_succ, List.set_cons_zero]
    refine ⟨_, rfl, by omega, by omega, for_range (lo := 0) (n := (36 : Int).toNat) (fun i σ H' => ∃ (v : V) (y : Option V), σ = [some v, y] ∧ Same H H' ∧ Dh K H' v (nestD i)) ⟨_, _, rfl, s1, e1⟩ ?_ ?_⟩
    · rintro i σ H' hi ⟨v, y, rfl, sm, hd⟩
      dsimp only [tNext, tSeq, tAsg, gName, List.set_cons_succ, List.set_cons_zero]
      refine ⟨_, rfl, by show 1 ≤ sizeLine; decide, fun p2 np2 => ?_⟩
      exact ⟨_, _, rfl, sm.trans (same_new np2), .tup (SqT.of upd_same) (.cons (hd.ext (.of (same_new np2))) .nil)⟩
    · rintro σ H' ⟨v, y, rfl, sm, hd⟩
      exact ⟨_, rfl, q _ _ sm hd⟩

end
end Fm
namespace Fm
open PySem PySem.Spec PyProof.Rows L2
section
variable {P : Program} {w : World} {K : PySem.W.Frag} {mg : Str → Option Value} {base : Heap}

/-! ### without, is_ringless_without -/
def spCutL (K : PySem.W.Frag) : Sp := fun vs H Q _ => ∃ (v u : V) (p lot : List Int), vs = [v, u] ∧ Dh K H v (ctD p) ∧ Dh K H u (ctD lot) ∧ p.length ≤ 1000 ∧ ∀ x H', Same H H' → Dh K H' x (ctD (cutL lot p)) → Q x H'
theorem ok_without (T : Txt K mg) : FnOk P w K mg base CX0 1 T.f_without T.d_without ["pattern", "lot"] (spCutL K) := by
  refine T.F_without.ok sc_without (fun vs H Q E h => ?_) (fun cdv A outer s H vs Q E hr h => ?_)
  · obtain ⟨_, _, _, _, rfl, _⟩ := h
    rfl
  · obtain ⟨v, u, p, lot, rfl, hv, hu, hl, q⟩ := h
    obtain ⟨a, rfl, ha⟩ := ct_inv hv
    refine ⟨_, (pss_one (ps_ret (pe_callTy (call_tupleK K) (by rfl) T.z_tuple (by decide +kernel) (pa_cons (pe_lc (own := [("column", 2)]) rfl sc_without.nd (pi_tupK K (pv 0)) (blkOk_by (N := N_without) (sc := defScope s_without) (by decide +kernel)) (fun _ _ _ _ _ => (pg_name (i := 2) sc_without.nd rfl (.inl rfl))) (fun _ _ _ _ _ => (pts_one (pt_cmpR (op_notinT (K := K) (room65 hr)) (pv 2) (pv 1) (by rfl)))) (fun _ _ _ _ _ => (pv 2))) pa_nil)))), ?_⟩
    refine ⟨_, rfl, a, rfl, ⟨_, ha⟩, fun D nD => lc_tup (K := K) (xs := p.map V.int) (fun j H' => Same H H' ∧ H' D = some (.lst (((p.take j).filter fun x => decide (x ∉ lot)).map V.int))) ⟨same_new nD, upd_same⟩ (fun j H' _ ⟨s', _⟩ => (Ext.of s').sqT ha) ?_ ?_⟩
    · rintro j x H1 hx ⟨s1, hD⟩
      rw [List.getElem?_map] at hx
      obtain ⟨z, hz, rfl⟩ := Option.map_eq_some_iff.mp hx
      have hf := take_filter (f := fun x => decide (x ∉ lot)) hz
      refine ⟨rfl, ?_⟩
      have hlt : ∀ k, (((p.take k).filter fun x => decide (x ∉ lot)).map V.int).length ≤ 1000 := fun k => by
        rw [List.length_map]
        have := List.length_filter_le (fun x => decide (x ∉ lot)) (p.take k)
        have := List.length_take (i := k) (l := p)
        omega
      refine ⟨_, rfl, _, rfl, .int z, lot.map PyData.int, .int z, dp_ct (hu.ext (.of s1)), shaped_int z, shaped_ct lot, ?_⟩
      rw [any_mem]
      refine ⟨_, rfl, ?_⟩
      by_cases e : z ∈ lot
      · rw [decide_eq_true e]
        rw [if_neg (by rw [decide_eq_false (fun h => h e)]; decide), List.append_nil] at hf
        try dsimp only [Bool.not_true]
        rw [if_neg (by decide), hf]
        exact ⟨s1, hD⟩
      · rw [decide_eq_false e]
        rw [if_pos (decide_eq_true e)] at hf
        rw [if_pos (show (!false) = true from rfl)]
        refine ⟨_, rfl, _, hD, sz_small (by have := hlt j; omega), Same.put nD s1, ?_⟩
        rw [hf, List.map_append]
        exact upd_same
    · rintro H1 ⟨s1, hD⟩
      have hD : H1 D = some (.lst (((p.take p.length).filter fun x => decide (x ∉ lot)).map V.int)) := by
        rw [← List.length_map (f := V.int)]
        exact hD
      rw [List.take_length] at hD
      exact ⟨D, _, rfl, .inl ⟨SqL.of hD, fun t nt => q _ _ (s1.trans (same_new nt)) (dh_ct (SqT.of upd_same))⟩⟩
def spRingless (K : PySem.W.Frag) : Sp := fun vs H Q _ => ∃ (n : Nat) (v u : V) (ps : List (List Int)) (lot : List Int), vs = [.int n, v, u] ∧ n ≤ 5 ∧ Dh K H v (patsD ps) ∧ Dh K H u (ctD lot) ∧ PsOk ps ∧ ∀ H', Same H H' → Q (.bl (decide ((ords (cutL lot (rgI n)).length (partD n ps lot) (cutL lot (rgI n))).head? ≠ none))) H'
theorem PsOk.cut {ps : List (List Int)} (h : PsOk ps) (lot : List Int) : PsOk (ps.map (cutL lot)) := ⟨by rw [List.length_map]; exact h.1, fun p hp => by
  obtain ⟨q, hq, rfl⟩ := List.mem_map.mp hp
  have := cutL_len lot q
  exact ⟨by have := (h.2 q hq).1; omega, cutL_nodup (h.2 q hq).2⟩⟩
theorem ok_is_ringless_without (T : Txt K mg) : FnOk P w K mg base CX0 10 T.f_is_ringless_without T.d_is_ringless_without ["columns", "parts", "lot"] (spRingless K) := by
  refine T.F_is_ringless_without.ok sc_is_ringless_without (fun vs H Q E h => ?_) (fun cdv A outer s H vs Q E hr h => ?_)
  · obtain ⟨_, _, _, _, _, rfl, _⟩ := h
    rfl
  · obtain ⟨n, v, u, ps, lot, rfl, n5, hv, hu, pok, q⟩ := h
    have hl5 := left5 n5 lot
    refine ⟨_, (pss_cons (ps_set (i := 3) sc_is_ringless_without.nd rfl (.inr rfl) (pe_call (ok_without T) (hr.mono (by decide)) (by rfl) T.g_without T.F_without.kp T.b_without .nil pass0 (pa_cons (pe_call (ok_all_columns T) (hr.mono (by decide)) (by rfl) T.g_all_columns T.F_all_columns.kp T.b_all_columns .nil pass0 (pa_cons (pv 0) pa_nil)) (pa_cons (pv 2) pa_nil))))
      (pss_cons (ps_setLc (i := 4) (own := [("pattern", 5)]) rfl sc_is_ringless_without.nd rfl rfl (sw_true rfl rfl rfl (by decide +kernel)) (pi_tupK K (pv 1)) (blkOk_by (N := N_is_ringless_without) (sc := defScope s_is_ringless_without) (by decide +kernel)) (fun _ _ _ _ _ => (pg_name (i := 5) sc_is_ringless_without.nd rfl (.inl rfl))) (fun _ _ _ _ _ => pts_nil) (fun _ _ _ _ _ => (pe_call (ok_without T) (hr.mono (by decide)) (by rfl) T.g_without T.F_without.kp T.b_without .nil pass0 (pa_cons (pv 5) (pa_cons (pv 2) pa_nil)))))
      (pss_one (ps_ret (pe_cmpR op_notN (pe_call (ok_order_of T) hr (by rfl) T.g_order_of T.F_order_of.kp T.b_order_of .nil pass0 (pa_cons (pe_lc (own := [("pattern", 5)]) rfl sc_is_ringless_without.nd (pi_listK K (pv 4)) (blkOk_by (N := N_is_ringless_without) (sc := defScope s_is_ringless_without) (by decide +kernel)) (fun _ _ _ _ _ => (pg_name (i := 5) sc_is_ringless_without.nd rfl (.inl rfl))) (fun _ _ _ _ _ => (pts_one (pt_cmpR (op_neK K hr.units) (pv 5) (pv 3) (nomark _)))) (fun _ _ _ _ _ => (pv 5))) (pa_cons (pv 3) pa_nil))) pe_non (nomark _)))))), ?_⟩
    refine ⟨_, rfl, n, rfl, by omega, fun x1 H1 s1 h1 => ⟨_, rfl, x1, u, rgI n, lot, rfl, h1, hu.ext (.of s1), by rw [rgI_len]; omega, fun x2 H2 s2 h2 => ?_⟩⟩
    have s12 := s1.trans s2
    dsimp only [tNext, tSeq, tAsg, gName, List.set_cons_succ, List.set_cons_zero]
    obtain ⟨a, xs, rfl, ha, hx⟩ := hv.tup_inv
    have hxl : xs.length = ps.length := by rw [hx.length, List.length_map]
    refine ⟨_, rfl, a, rfl, ⟨_, (Ext.of s12).sqT ha⟩, fun D nD => lc_tup (K := K) (xs := xs) (fun j H' => Got K H2 D ((ps.take j).map fun p => ctD (cutL lot p)) H') (.zero nD) (fun j H' _ g => (Ext.of (s12.trans g.same)).sqT ha) ?_ ?_⟩
    · rintro j x H3 hxj g
      obtain ⟨d, hd, hxd⟩ := dhAll_at hx hxj
      obtain ⟨p, hp1, rfl⟩ := map_at hd
      refine ⟨rfl, ?_⟩
      dsimp only [tYes]
      rw [if_pos rfl]
      refine ⟨_, rfl, _, rfl, x, u, p, lot, rfl, hxd.ext (.of (s12.trans g.same)), hu.ext (.of (s12.trans g.same)), (pok.2 p (List.mem_of_getElem? hp1)).1, fun y H4 s4 hy => ?_⟩
      obtain ⟨acc, k1, k2, k3⟩ := g.put nD s4 hy (by rw [List.length_map]; have := List.length_take (i := j) (l := ps); have := pok.1; omega)
      refine ⟨acc, k1, k2, ?_⟩
      rw [List.take_add_one, hp1, List.map_append]
      exact k3
    · rintro H3 ⟨s3, acc, hD, hac⟩
      rw [hxl, List.take_length] at hac
      have hac : DhAll K H3 acc ((ps.map (cutL lot)).map ctD) := by rw [List.map_map]; exact hac
      have pok2 := pok.cut lot
      have e0 : partD n ps lot = (ps.map (cutL lot)).filter fun q => decide (q ≠ cutL lot (rgI n)) := rfl
      rw [e0] at q
      generalize ps.map (cutL lot) = bs at hac pok2 q
      have hal : acc.length = bs.length := by rw [hac.length, List.length_map]
      have s13 := s12.trans s3
      have h3 := h2.ext (.of s3)
      try dsimp only [tNext, tSeq, tAsg, gName, List.set_cons_succ, List.set_cons_zero]
      refine ⟨_, rfl, D, rfl, ⟨_, SqL.of hD⟩, fun D2 nD2 => lc_list (K := K) (xs := acc) (fun j H' => Got K H3 D2 (((bs.take j).filter fun q => decide (q ≠ cutL lot (rgI n))).map ctD) H') (.zero nD2) (fun j H' _ g => SqL.of (g.same _ _ hD)) ?_ ?_⟩
      · rintro j x H4 hxj g
        obtain ⟨d, hd, hxd⟩ := dhAll_at hac hxj
        obtain ⟨p, hp1, rfl⟩ := map_at hd
        have hxd2 := hxd.ext (.of g.same)
        have hf := take_filter (f := fun q => decide (q ≠ cutL lot (rgI n))) hp1
        have hl2 : (((bs.take j).filter fun q => decide (q ≠ cutL lot (rgI n))).map ctD).length ≤ 10000 := by
          rw [List.length_map]
          have := List.length_filter_le (fun q => decide (q ≠ cutL lot (rgI n))) (bs.take j)
          have := List.length_take (i := j) (l := bs)
          have := pok2.1
          omega
        refine ⟨rfl, ?_⟩
        refine ⟨_, rfl, _, rfl, ctP p, ctP (cutL lot (rgI n)), dp_ct hxd2, dp_ct (h3.ext (.of g.same)), shaped_ct _, shaped_ct _, ?_⟩
        rw [eqv_ct]
        refine ⟨_, rfl, ?_⟩
        by_cases e : p = cutL lot (rgI n)
        · rw [decide_eq_true e]
          try dsimp only [Bool.not_true]
          rw [if_neg (by decide), hf, if_neg (by rw [decide_eq_false (fun h => h e)]; decide), List.append_nil]
          exact g
        · rw [decide_eq_false e]
          try dsimp only [Bool.not_false]
          rw [if_pos (show (!false) = true from rfl), hf, if_pos (decide_eq_true e), List.map_append]
          exact ⟨_, rfl, g.put nD2 (Same.refl H4) hxd2 hl2⟩
      · rintro H4 ⟨s4, acc2, hD2, hac2⟩
        rw [hal, List.take_length] at hac2
        refine ⟨_, rfl, .ref D2, x2, _, cutL lot (rgI n), rfl, ⟨D2, true, acc2, rfl, SqL.of hD2, hac2⟩, h3.ext (.of s4), pok2.filter, cutL_nodup (rgI_nodup n), by omega, by omega, fun w5 H5 s5 hw => ?_⟩
        have q := q H5 ((s13.trans s4).trans s5)
        cases ho : (ords (cutL lot (rgI n)).length (bs.filter fun q => decide (q ≠ cutL lot (rgI n))) (cutL lot (rgI n))).head? with
        | none =>
          rw [ho] at hw q
          have hw : w5 = .non := hw
          subst hw
          exact ⟨rfl, q⟩
        | some r =>
          rw [ho] at hw q
          obtain ⟨b, rfl, hb⟩ := ct_inv hw
          refine ⟨rfl, ?_⟩
          rw [decide_eq_false (by intro z; cases z)]
          rw [decide_eq_true (by intro z; cases z)] at q
          exact q

end
end Fm
namespace Fm
open PySem PySem.Spec PyProof.Rows L2
section
variable {P : Program} {w : World} {K : PySem.W.Frag} {mg : Str → Option Value} {base : Heap}

/-! ### _law_list -/
theorem asc_rgI (n : Nat) : Asc n (-1) (rgI n) := by
  have key : ∀ (m k : Nat), k + m = n → Asc n ((k : Int) - 1) ((List.range' k m).map fun (i : Nat) => (i : Int)) := by
    intro m
    induction m with
    | zero => intro k _; exact True.intro
    | succ m ih =>
      intro k hk
      rw [List.range'_succ, List.map_cons]
      refine ⟨by omega, by omega, ?_⟩
      have z := ih (k + 1) (by omega)
      rw [show ((k + 1 : Nat) : Int) - 1 = (k : Int) by omega] at z
      exact z
  have z := key n 0 (by omega)
  unfold rgI
  rw [List.range_eq_range']
  exact z
theorem asc_nodup5 {n : Int} : ∀ {l : Int} {p : List Int}, Asc n l p → p.Nodup
  | _, [], _ => List.nodup_nil
  | l, x :: p, ⟨h1, h2, h3⟩ => List.nodup_cons.mpr ⟨fun hm => by have := (h3.mem x hm).1; omega, asc_nodup5 h3⟩
theorem lgo_of {n : Nat} : ∀ {ps : List (List Int)} {last : Option (List Int)}, ps.Pairwise (fun a b => HT.lexLt a b = true) → (∀ p ∈ ps, Asc n (-1) p) → (∀ l, last = some l → ∀ p ∈ ps, HT.lexLt l p = true) → lGo n last (ps.map ctD) = true
  | [], _, _, _, _ => rfl
  | p :: ps, last, pw, ha, hl => by
    rw [List.pairwise_cons] at pw
    rw [List.map_cons]
    have e1 : (ctD p).isPat (n : Int) = true := (ha p (List.mem_cons_self ..)).isPat
    have e2 : lGo n (some (ctD p).ints) (ps.map ctD) = true := lgo_of pw.2 (fun q hq => ha q (List.mem_cons_of_mem _ hq)) fun l e q hq => by
      rw [ints_ct] at e
      cases e
      exact pw.1 q hq
    unfold lGo
    rw [if_pos e1]
    cases last with
    | none => exact e2
    | some l =>
      dsimp only
      rw [ints_ct, if_pos (hl l rfl p (List.mem_cons_self ..)), ← ints_ct p]
      exact e2
theorem lsok_of {n : Nat} {ps : List (List Int)} (n1 : 1 ≤ n) (n5 : n ≤ 5) (pw : ps.Pairwise fun a b => HT.lexLt a b = true) (ha : ∀ p ∈ ps, Asc n (-1) p) (hw : rgI n ∈ ps) (hl : ps.length ≤ 12) : LsOk n ps := by
  refine ⟨n1, n5, ?_, hl, by omega, fun p hp => ⟨by have := (ha p hp).len (by omega); omega, asc_nodup5 (ha p hp)⟩⟩
  show (decide (1 ≤ (ps.map ctD).length ∧ (ps.map ctD).length ≤ 12) && (lGo n none (ps.map ctD) && (ps.map ctD).any fun d => decide (d.ints = rgI n))) = true
  rw [List.length_map, decide_eq_true ⟨List.length_pos_of_mem hw, hl⟩, lgo_of pw ha (fun l e => by cases e), Bool.true_and, Bool.true_and, List.any_map, List.any_eq_true]
  exact ⟨rgI n, hw, decide_eq_true (ints_ct _)⟩
structure LsS (n : Nat) (ps : List (List Int)) : Prop where
  n1 : 1 ≤ n
  n5 : n ≤ 5
  pw : ps.Pairwise fun a b => HT.lexLt a b = true
  asc : ∀ p ∈ ps, Asc n (-1) p
  whole : rgI n ∈ ps
  len : ps.length ≤ 12
theorem LsS.ok {n : Nat} {ps : List (List Int)} (x : LsS n ps) : LsOk n ps := lsok_of x.n1 x.n5 x.pw x.asc x.whole x.len
theorem dhs_refs {H : Hp} : ∀ {M : List (Addr × List Int)}, (∀ m ∈ M, SqT K H m.1 (m.2.map V.int)) → DhAll K H (M.map fun m => V.ref m.1) ((M.map (·.2)).map ctD)
  | [], _ => .nil
  | m :: M, h => .cons (dh_ct (h m (List.mem_cons_self ..))) (dhs_refs fun k hk => h k (List.mem_cons_of_mem _ hk))

theorem rgI_at {n k : Nat} (h : k < n) : (rgI n)[k]? = some (k : Int) := by
  unfold rgI
  rw [List.getElem?_map, List.getElem?_range h]
  rfl
/-! ### patterns_within, is_enough, trusts -/
/-- a list of patterns at d -/
def LstP (K : PySem.W.Frag) (H : Hp) (d : Addr) (ps : List (List Int)) : Prop := ∃ xs, H d = some (.lst xs) ∧ DhAll K H xs (ps.map ctD)
theorem LstP.same {H H' : Hp} {d : Addr} {ps : List (List Int)} (s : Same H H') : LstP K H d ps → LstP K H' d ps := fun ⟨xs, h1, h2⟩ => ⟨xs, s _ _ h1, h2.ext (.of s)⟩
def spPatsW (K : PySem.W.Frag) : Sp := fun vs H Q _ => ∃ (n : Nat) (v : V), vs = [v] ∧ n ≤ 5 ∧ Dh K H v (ctD (rgI n)) ∧ ∀ d H', H d = none → Same H H' → LstP K H' d (patsOf n) → Q (.ref d) H'
theorem ok_patterns_within (T : Txt K mg) : FnOk P w K mg base CX0 1 T.f_patterns_within T.d_patterns_within ["pattern"] (spPatsW K) := by
  refine T.F_patterns_within.ok sc_patterns_within (fun vs H Q E h => ?_) (fun cdv A outer s H vs Q E hr h => ?_)
  · obtain ⟨_, _, rfl, _⟩ := h
    rfl
  · obtain ⟨n, v, rfl, hn, hv, q⟩ := h
    obtain ⟨a, rfl, ha⟩ := ct_inv hv
    refine ⟨_, (pss_cons (ps_set (i := 1) sc_patterns_within.nd rfl (.inl rfl) (pe_lst (pa_cons (pe_tup pa_nil) pa_nil)))
      (pss_cons (ps_for PassesOwn.never rfl (pi_tupK K (pv 0)) (pg_name (i := 2) sc_patterns_within.nd rfl (.inr rfl)) (pss_one (ps_set (i := 1) sc_patterns_within.nd rfl (.inl rfl) (pe_op op_cat (pv 1) (pe_lc (own := [("inner", 3)]) rfl sc_patterns_within.nd (pi_listK K (pv 1)) (blkOk_by (N := N_patterns_within) (sc := defScope s_patterns_within) (by decide +kernel)) (fun _ _ _ _ _ => (pg_name (i := 3) sc_patterns_within.nd rfl (.inl rfl))) (fun _ _ _ _ _ => pts_nil) (fun _ _ _ _ _ => (pe_op (op_catK K) (pv 3) (pe_tup (pa_cons (pv 2) pa_nil)))))))))
      (pss_one (ps_ret (pv 1))))), ?_⟩
    refine ⟨by show 0 ≤ sizeLine; decide, fun t nt => ⟨by show 1 ≤ sizeLine; decide, fun f nf => ?_⟩⟩
    have s1 : Same H (upd H t (.tup [])) := same_new nt
    have e1 : (upd H t (.tup [])) t = some (.tup []) := upd_same
    have nf0 : H f = none := s1.free nf
    generalize upd H t (.tup []) = H1 at s1 e1 nf ⊢
    have s2 : Same H1 (upd H1 f (.lst [.ref t])) := same_new nf
    have e2 : (upd H1 f (.lst [.ref t])) f = some (.lst [.ref t]) := upd_same
    generalize upd H1 f (.lst [.ref t]) = H2 at s2 e2 ⊢
    have s12 := s1.trans s2
    refine ⟨_, rfl, a, rfl, ⟨_, (Ext.of s12).sqT ha⟩, for_tup (K := K) (xs := (rgI n).map V.int) (fun i σ H' => ∃ (f : Addr) (xs : List V) (y2 y3 : Option V), σ = [some (.ref a), some (.ref f), y2, y3] ∧ Same H H' ∧ H f = none ∧ H' f = some (.lst xs) ∧ DhAll K H' xs ((patsOf i).map ctD))
      ⟨f, _, none, none, rfl, s12, nf0, e2, .cons (.tup (SqT.of (s2 _ _ e1)) .nil) .nil⟩ (fun i σ H' _ ⟨_, _, _, _, _, s', _⟩ => (Ext.of s').sqT ha) ?_ ?_⟩
    · rintro i xv σ H0 hi ⟨f, xs, y2, y3, rfl, sm, nf0, hf, hc⟩
      have hi5 := (List.getElem?_eq_some_iff.mp hi).1
      rw [List.length_map, rgI_len] at hi5
      rw [List.getElem?_map, rgI_at hi5] at hi
      cases hi
      have h32 := pow5 (show i ≤ 5 by omega)
      have hlen : xs.length = 2 ^ i := by rw [hc.length, List.length_map, pats_len]
      refine ⟨_, rfl, ?_⟩
      refine ⟨_, rfl, f, rfl, ⟨xs, SqL.of hf⟩, fun D nD => lc_list (K := K) (xs := xs) (fun j H' => ∃ acc, Same H0 H' ∧ H' D = some (.lst acc) ∧ acc.length = j ∧ DhAll K H' acc (((patsOf i).take j).map fun q => ctD (q ++ [(i : Int)]))) ⟨[], same_new nD, upd_same, rfl, by rw [List.take_zero]; exact .nil⟩ (fun j H' _ ⟨_, s', _⟩ => s'.seq (SqL.of hf)) ?_ ?_⟩
      · rintro j x H' hx ⟨acc, s', hD, hal, hac⟩
        obtain ⟨d, hd, hxc⟩ := hc.get hx
        obtain ⟨c, hcq, rfl⟩ := map_at hd
        have hasc := mem_pats.mp (List.mem_of_getElem? hcq)
        have hjl := (List.getElem?_eq_some_iff.mp hx).1
        refine ⟨rfl, ?_⟩
        dsimp only [tYes]
        rw [if_pos rfl]
        have hc5 : c.length ≤ 1000 := by
          have := hasc.len (by omega)
          omega
        refine ⟨_, rfl, _, rfl, by show 1 ≤ sizeLine; decide, fun r nr => cat_ct (K := K) (c := c) (j := (i : Int)) (hxc.ext (.of (s'.trans (same_new nr)))) hc5 upd_same fun v H3 s4 hv => ?_⟩
        have s5 : Same H' H3 := (same_new nr).trans s4
        refine ⟨acc, s5 _ _ hD, sz_small (by omega), acc ++ [v], Same.put nD (s'.trans s5), upd_same, by rw [List.length_append, hal]; rfl, ?_⟩
        have ep : Ext H3 (upd H3 D (.lst (acc ++ [v]))) := Ext.put (s5 _ _ hD)
        rw [List.take_add_one, hcq, List.map_append]
        refine ((hac.ext (.of s5)).ext ep).snoc ?_
        exact hv.ext ep
      · rintro H' ⟨acc, s', hD, hal, hac⟩
        have hal2 : acc.length = 2 ^ i := by rw [hal, hlen]
        rw [List.take_of_length_le (by rw [pats_len, hlen]; exact Nat.le_refl _)] at hac
        refine ⟨f, D, xs, acc, rfl, rfl, s' _ _ hf, hD, Nat.le_of_lt (sz_small (by omega)), fun p np => ?_⟩
        have sp : Same H' (upd H' p (.lst (xs ++ acc))) := same_new np
        refine ⟨p, _, _, _, rfl, (sm.trans s').trans sp, (sm.trans s').free np, upd_same, ?_⟩
        show DhAll K _ (xs ++ acc) ((patsOf i ++ (patsOf i).map fun q => q ++ [(i : Int)]).map ctD)
        rw [List.map_append, List.map_map]
        exact DhAll.append (hc.ext (.of (s'.trans sp))) (hac.ext (.of sp))
    · rintro σ H' ⟨f, xs, y2, y3, rfl, sm, nf0, hf, hc⟩
      rw [List.length_map, rgI_len] at hc
      exact ⟨_, rfl, q f _ nf0 sm ⟨xs, hf, hc⟩⟩
theorem LsS.aall {n : Nat} {ps : List (List Int)} (x : LsS n ps) : AscAll n ps := x.asc
theorem LsS.partok {n : Nat} {ps : List (List Int)} (x : LsS n ps) : PsOk (partL n ps) := x.ok.ok.filter
def spEnough (K : PySem.W.Frag) : Sp := fun vs H Q _ => ∃ (n : Nat) (v u : V) (ps : List (List Int)) (d : Dt), vs = [.int n, v, u] ∧ LsS n ps ∧ Dh K H v (patsD ps) ∧ Dh K H u d ∧ ∀ H', Same H H' → Q (.bl (d.isPat n && dueB n ps d.ints)) H'
theorem ok_is_enough (T : Txt K mg) : FnOk P w K mg base CX0 11 T.f_is_enough T.d_is_enough ["columns", "listed", "lot"] (spEnough K) := by
  refine T.F_is_enough.ok sc_is_enough (fun vs H Q E h => ?_) (fun cdv A outer s H vs Q E hr h => ?_)
  · obtain ⟨_, _, _, _, _, rfl, _⟩ := h
    rfl
  · obtain ⟨n, v, u, ps, d, rfl, ls, hv, hu, q⟩ := h
    have lo := ls.ok
    refine ⟨_, (pss_cons (ps_set (i := 3) sc_is_enough.nd rfl (.inl rfl) (pe_call (ok_parts_of T) (hr.mono (by decide)) (by rfl) T.g_parts_of T.F_parts_of.kp T.b_parts_of .nil pass0 (pa_cons (pv 0) (pa_cons (pv 1) pa_nil))))
      (pss_one (ps_ret (pe_and (pe_call (ok_is_pattern T) (hr.mono (by decide)) (by rfl) T.g_is_pattern T.F_is_pattern.kp T.b_is_pattern .nil pass0 (pa_cons (pv 0) (pa_cons (pv 2) pa_nil))) (pe_one (pe_call (ok_is_ringless_without T) hr (by rfl) T.g_is_ringless_without T.F_is_ringless_without.kp T.b_is_ringless_without .nil pass0 (pa_cons (pv 0) (pa_cons (pv 3) (pa_cons (pv 2) pa_nil))))))))), ?_⟩
    refine ⟨_, rfl, _, rfl, n, v, ps, rfl, lo.n1, lo.n5, hv, lo.lst, lo.len, fun u1 H1 s1 h1 => ?_⟩
    dsimp only [tNext, tSeq, tAsg, gName, List.set_cons_succ, List.set_cons_zero]
    refine ⟨_, rfl, _, rfl, spD_bl (.cons (.int _) (.cons (hu.ext (.of s1)) .nil)) rfl fun H2 s2 => ⟨_, rfl, ?_⟩⟩
    cases hp : d.isPat n with
    | false =>
      refine iteF ?_
      rw [hp, Bool.false_and] at q
      exact q H2 (s1.trans s2)
    | true =>
      refine iteT ?_
      rw [hp, Bool.true_and] at q
      obtain ⟨c, rfl, hc⟩ := isPat_ct hp
      rw [ints_ct, ← ords_due ls.n5 ls.aall (asc_rgI n)] at q
      exact ⟨_, rfl, _, rfl, _, rfl, n, u1, u, partL n ps, c, rfl, ls.n5, h1.ext (.of s2), hu.ext (.of (s1.trans s2)), ls.partok, fun H3 s3 => q H3 ((s1.trans s2).trans s3)⟩
def spTrusts (K : PySem.W.Frag) : Sp := fun vs H Q _ => ∃ (n : Nat) (v : V) (ps : List (List Int)), vs = [.int n, v] ∧ LsS n ps ∧ Dh K H v (patsD ps) ∧ ∀ d H', H d = none → Same H H' → LstP K H' d (toldOf n ps) → Q (.ref d) H'
theorem lots_len {n : Nat} {ps : List (List Int)} (n5 : n ≤ 5) : (lotsOf n ps).length ≤ 32 := by
  unfold lotsOf
  have := List.length_filter_le (fun l => dueB n ps l) (patsOf n)
  rw [pats_len] at this
  have := (pow5 n5).2
  omega
theorem ok_trusts (T : Txt K mg) : FnOk P w K mg base CX0 11 T.f_trusts T.d_trusts ["columns", "listed"] (spTrusts K) := by
  refine T.F_trusts.ok sc_trusts (fun vs H Q E h => ?_) (fun cdv A outer s H vs Q E hr h => ?_)
  · obtain ⟨_, _, _, rfl, _⟩ := h
    rfl
  · obtain ⟨n, v, ps, rfl, ls, hv, q⟩ := h
    have lo := ls.ok
    have n5 := ls.n5
    refine ⟨_, (pss_cons (ps_set (i := 2) sc_trusts.nd rfl (.inr rfl) (pe_call (ok_parts_of T) (hr.mono (by decide)) (by rfl) T.g_parts_of T.F_parts_of.kp T.b_parts_of .nil pass0 (pa_cons (pv 0) (pa_cons (pv 1) pa_nil))))
      (pss_cons (ps_set (i := 3) sc_trusts.nd rfl (.inl rfl) (pe_call (ok_patterns_within T) (hr.mono (by decide)) (by rfl) T.g_patterns_within T.F_patterns_within.kp T.b_patterns_within .nil pass0 (pa_cons (pe_call (ok_all_columns T) (hr.mono (by decide)) (by rfl) T.g_all_columns T.F_all_columns.kp T.b_all_columns .nil pass0 (pa_cons (pv 0) pa_nil)) pa_nil)))
      (pss_cons (ps_set (i := 4) sc_trusts.nd rfl (.inr rfl) (pe_lc (own := [("lot", 5)]) rfl sc_trusts.nd (pi_listK K (pv 3)) (blkOk_by (N := N_trusts) (sc := defScope s_trusts) (by decide +kernel)) (fun _ _ _ _ _ => (pg_name (i := 5) sc_trusts.nd rfl (.inl rfl))) (fun _ _ _ _ _ => (pts_one (pt_val (pe_call (ok_is_ringless_without T) hr (by rfl) T.g_is_ringless_without T.F_is_ringless_without.kp T.b_is_ringless_without .nil pass0 (pa_cons (pv 0) (pa_cons (pv 2) (pa_cons (pv 5) pa_nil))))))) (fun _ _ _ _ _ => (pv 5))))
      (pss_one (ps_ret (pe_callB (call_sortTsK (K := K) hr.units) (by rfl) T.z_sorted (by decide +kernel) (pa_cons (pe_lc (own := [("lot", 5)]) rfl sc_trusts.nd (pi_listK K (pv 4)) (blkOk_by (N := N_trusts) (sc := defScope s_trusts) (by decide +kernel)) (fun _ _ _ _ _ => (pg_name (i := 5) sc_trusts.nd rfl (.inr rfl))) (fun _ _ _ _ _ => (pts_one (pt_not (pt_val (pe_callB (call_anyK (K := K) rfl) (by rfl) T.z_any (by decide +kernel) (pa_cons (pe_lc (own := [("other", 6)]) rfl sc_trusts.nd (pi_listK K (pv 4)) (blkOk_by (N := N_trusts) (sc := { kind := .function, names := [(".0", .local), ("lot", .cell), ("any", .globalImplicit), ("enough", .cell)], isGenerator := false, isCoroutine := false }) (by decide +kernel)) (fun _ _ _ _ _ => (pg_name (i := 6) sc_trusts.nd rfl (.inl rfl))) (fun _ _ _ _ _ => pts_nil) (fun _ _ _ _ _ => (pe_and (pe_cmpR (op_neK K hr.units) (pv 6) (pv 5) (nomark _)) (pe_one (pe_call (ok_within T) (hr.mono (by decide)) (by rfl) T.g_within T.F_within.kp T.b_within .nil pass0 (pa_cons (pv 6) (pa_cons (pv 5) pa_nil))))))) pa_nil)))))) (fun _ _ _ _ _ => (pv 5))) pa_nil))))))), ?_⟩
    refine ⟨_, rfl, _, rfl, n, v, ps, rfl, lo.n1, lo.n5, hv, lo.lst, lo.len, fun u1 H1 s1 h1 => ?_⟩
    dsimp only [tNext, tSeq, tAsg, gName, List.set_cons_succ, List.set_cons_zero]
    refine ⟨_, rfl, n, rfl, by omega, fun x2 H2 s2 h2 => ⟨n, x2, rfl, n5, h2, fun d3 H3 nd3 s3 hd3 => ?_⟩⟩
    have s13 := (s1.trans s2).trans s3
    obtain ⟨xs, hxs, hxd⟩ := hd3
    have hxl : xs.length = (patsOf n).length := by rw [hxd.length, List.length_map]
    dsimp only [tNext, tSeq, tAsg, gName, List.set_cons_succ, List.set_cons_zero]
    have p32 := (pow5 n5).2
    refine ⟨_, rfl, d3, rfl, ⟨_, SqL.of hxs⟩, fun D nD => lc_list (K := K) (xs := xs) (fun j H' => Got K H3 D (((((patsOf n).take j)).filter fun l => dueB n ps l).map ctD) H') (.zero nD) (fun j H' _ g => SqL.of (g.same _ _ hxs)) ?_ ?_⟩
    · rintro j x H4 hxj g
      obtain ⟨d, hd, hxd1⟩ := dhAll_at hxd hxj
      obtain ⟨p, hp1, rfl⟩ := map_at hd
      have hf := take_filter (f := fun l => dueB n ps l) hp1
      have hl2 : ((((patsOf n).take j).filter fun l => dueB n ps l).map ctD).length ≤ 10000 := by
        rw [List.length_map]
        have := List.length_filter_le (fun l => dueB n ps l) ((patsOf n).take j)
        have := List.length_take (i := j) (l := patsOf n)
        rw [pats_len] at this
        omega
      have s34 := g.same
      refine ⟨rfl, ?_⟩
      refine ⟨_, rfl, _, rfl, _, rfl, n, u1, x, partL n ps, p, rfl, n5, h1.ext (.of ((s2.trans s3).trans s34)), hxd1.ext (.of s34), ls.partok, fun H5 s5 => ?_⟩
      rw [ords_due n5 ls.aall (asc_rgI n)]
      refine ⟨_, rfl, ?_⟩
      cases e : dueB n ps p with
      | true =>
        rw [if_pos rfl, hf, if_pos e, List.map_append]
        exact ⟨_, rfl, g.put nD s5 ((hxd1.ext (.of s34)).ext (.of s5)) hl2⟩
      | false =>
        rw [if_neg (by decide), hf, if_neg (by rw [e]; decide), List.append_nil]
        obtain ⟨acc, k1, k2⟩ := g.got
        exact ⟨g.same.trans s5, acc, s5 _ _ k1, k2.ext (.of s5)⟩
    · rintro H4 ⟨s4, acc, hD, hac⟩
      rw [hxl, List.take_length] at hac
      have hac : DhAll K H4 acc ((lotsOf n ps).map ctD) := hac
      have hl := lots_len (ps := ps) n5
      have hal : acc.length = (lotsOf n ps).length := by rw [hac.length, List.length_map]
      have s14 := s13.trans s4
      try dsimp only [tNext, tSeq, tAsg, gName, List.set_cons_succ, List.set_cons_zero]
      have eT : toldOf n ps = ((lotsOf n ps).filter fun l => minB (lotsOf n ps) l).mergeSort fun a b => decide (a ≤ b) := rfl
      have hAsc : ∀ o ∈ lotsOf n ps, o.length ≤ 5 := fun o ho => by
        have := ((mem_lotsOf o).mp ho).1.len (by omega)
        omega
      rw [eT] at q
      generalize lotsOf n ps = E0 at hac hl hal q hAsc
      refine ⟨_, rfl, D, rfl, ⟨_, SqL.of hD⟩, fun D2 nD2 => lc_list (K := K) (xs := acc) (fun j H' => Got K H4 D2 (((E0.take j).filter fun l => minB E0 l).map ctD) H') (.zero nD2) (fun j H' _ g => SqL.of (g.same _ _ hD)) ?_ ?_⟩
      · rintro j x H5 hxj g
        obtain ⟨d, hd, hxd1⟩ := dhAll_at hac hxj
        obtain ⟨p, hp1, rfl⟩ := map_at hd
        have hf := take_filter (f := fun l => minB E0 l) hp1
        have hl2 : (((E0.take j).filter fun l => minB E0 l).map ctD).length ≤ 10000 := by
          rw [List.length_map]
          have := List.length_filter_le (fun l => minB E0 l) (E0.take j)
          have := List.length_take (i := j) (l := E0)
          omega
        have s45 := g.same
        have hxd5 := hxd1.ext (.of s45)
        refine ⟨rfl, ?_⟩
        refine ⟨_, rfl, D, rfl, ⟨_, SqL.of (s45 _ _ hD)⟩, fun D3 nD3 => lc_list (K := K) (xs := acc) (fun k H' => Same H5 H' ∧ H' D3 = some (.lst (((E0.take k).map fun o => decide (o ≠ p) && sub1 o p).map V.bl))) ⟨same_new nD3, upd_same⟩ (fun k H' _ ⟨s', _⟩ => SqL.of (s' _ _ (s45 _ _ hD))) ?_ ?_⟩
        · rintro k y H6 hyk ⟨s6, hD3⟩
          obtain ⟨d2, hd2, hyd⟩ := dhAll_at hac hyk
          obtain ⟨o, ho, rfl⟩ := map_at hd2
          have hyd6 := hyd.ext (.of (s45.trans s6))
          have hkl : (((E0.take k).map fun o => decide (o ≠ p) && sub1 o p).map V.bl).length ≤ 1000 := by
            rw [List.length_map, List.length_map]
            have := List.length_take (i := k) (l := E0)
            omega
          have hstep : ((E0.take (k + 1)).map fun o => decide (o ≠ p) && sub1 o p).map V.bl = ((E0.take k).map fun o => decide (o ≠ p) && sub1 o p).map V.bl ++ [.bl (decide (o ≠ p) && sub1 o p)] := by
            rw [List.take_add_one, ho, List.map_append, List.map_append]
            rfl
          refine ⟨rfl, ?_⟩
          dsimp only [tYes]
          rw [if_pos rfl]
          refine ⟨_, rfl, _, rfl, ctP o, ctP p, dp_ct hyd6, dp_ct (hxd5.ext (.of s6)), shaped_ct _, shaped_ct _, ?_⟩
          rw [eqv_ct]
          refine ⟨_, rfl, ?_⟩
          by_cases e : o = p
          · rw [decide_eq_true e]
            rw [show (decide (o ≠ p) && sub1 o p) = false by rw [decide_eq_false (fun h => h e)]; rfl] at hstep
            refine iteF ?_
            refine ⟨_, hD3, sz_small (by omega), Same.put nD3 s6, ?_⟩
            rw [hstep]
            exact upd_same
          · rw [decide_eq_false e]
            rw [show (decide (o ≠ p) && sub1 o p) = sub1 o p by rw [decide_eq_true e]; rfl] at hstep
            refine iteT ?_
            refine ⟨_, rfl, _, rfl, _, _, o, p, rfl, hyd6, hxd5.ext (.of s6), by have := hAsc o (List.mem_of_getElem? ho); omega, fun H7 s7 => ?_⟩
            refine ⟨_, s7 _ _ hD3, sz_small (by omega), Same.put nD3 (s6.trans s7), ?_⟩
            rw [hstep]
            exact upd_same
        · rintro H6 ⟨s6, hD3⟩
          rw [hal, List.take_length] at hD3
          refine ⟨D3, _, rfl, SqL.of hD3, _, rfl, ?_⟩
          have em : minB E0 p = !(E0.map fun o => decide (o ≠ p) && sub1 o p).any id := rfl
          cases e : (E0.map fun o => decide (o ≠ p) && sub1 o p).any id with
          | true =>
            rw [e] at em
            refine iteF ?_
            rw [hf, if_neg (by rw [em]; decide), List.append_nil]
            obtain ⟨acc3, k1, k2⟩ := g.got
            exact ⟨g.same.trans s6, acc3, s6 _ _ k1, k2.ext (.of s6)⟩
          | false =>
            rw [e] at em
            refine iteT ?_
            rw [hf, if_pos (by rw [em]; rfl), List.map_append]
            exact ⟨_, rfl, g.put nD2 s6 (hxd5.ext (.of s6)) hl2⟩
      · rintro H5 ⟨s5, acc2, hD2, hac2⟩
        rw [hal, List.take_length] at hac2
        refine sort_pats (SqL.of hD2) hac2 (fun o ho => hAsc o (List.mem_filter.mp ho).1) fun p ys qs' np hd e => ?_
        have sp : Same H5 (upd H5 p (.lst ys)) := same_new np
        have s15 := s14.trans s5
        rw [e] at hd
        exact q p _ (s15.free np) (s15.trans sp) ⟨ys, upd_same, hd.ext (.of sp)⟩

end
end Fm
namespace Fm
open PySem PySem.Spec PyProof.Rows L2
section
variable {P : Program} {w : World} {K : PySem.W.Frag} {mg : Str → Option Value} {base : Heap}

/-! ### sorted of a tuple of ints -/
/-- the items are taken, laid as a new list, and sorted there -/
theorem sorted_tupI {prog : Program} {w : World} {A : Around} {E : Value → Shared → Prop} {s : Shared} {l : Addr} {vs : List Value} {ns : List Int} {Q : Value → Shared → Prop} (hl : IsTup s.heap l vs.toArray) (hI : IntsAre vs ns) (h64 : vs.length < 64)
    (q : ∀ (D : Addr) (h' : Heap) (out : Array Value) (e : Nat) (ns' : List Int), (∀ b o, s.heap.get? b = some o → h'.get? b = some o) → s.heap.get? D = none → h'.get? D = some (seqObj "list" out e) → IntsAre out.toList ns' → ns'.Perm ns → ns'.Pairwise (· ≤ ·) → Q (.ref D) { s with heap := h' }) :
    wpAny (model prog w) A (call (.builtin "sorted") [.ref l]) Q E s := by
  have few : vs.length ≤ sizeLine := by rw [sizeLine_eq]; omega
  obtain ⟨o, h1, h2, n, h3⟩ := hl
  refine Calls.call_function_entry kind_sorted plain_sorted entry_sorted (args_sorted1 _) ?_
  unfold Builtin.«sorted»
  refine wpAny_bind (m := checkCount "sorted" 1 1 _) (wpAny_pure ?_)
  refine wpAny_bind (wpAny_collect_seq l (.inr rfl) h1 h2 h3 (fun g kg => ?_) (by rw [List.size_toArray]; exact few))
  have old : ∀ b o, s.heap.get? b = some o → b < g.objs.size := fun b o z => Heap.lt_size (kg b o z)
  have new : (g.push (seqObj "list" vs.toArray 0)).get? g.objs.size = some (seqObj "list" vs.toArray 0) := Heap.get?_push_size _ rfl
  refine wpAny_bind (wpAny_newList ?_)
  refine wpAny_bind (wpAny_holding (wpAny_call_entry slot_list_sort ⟨_, new, rfl⟩ entry_list_sort (list_sort_tree (s := { s with heap := g.push (seqObj "list" vs.toArray 0) }) new hI h64 fun out ns' a1 a2 a3 => ⟨_, rfl, ?_⟩) (args_list_sort _)))
  obtain ⟨e, he⟩ := sortedHeap_at (out := out) new
  refine wpAny_pure ⟨_, rfl, q g.objs.size _ out e ns' (fun b o z => ?_) ?_ he a1 a2 a3⟩
  · have lt := old b o z
    rw [sortedHeap_old (Nat.ne_of_lt lt) (by rw [size_push']; exact Nat.lt_succ_of_lt lt), Heap.get?_push_ne _ _ _ (Nat.ne_of_lt lt)]
    exact kg b o z
  · cases z : s.heap.get? g.objs.size with
    | none => rfl
    | some o => exact absurd (old _ o z) (Nat.lt_irrefl _)
/-- sorted(list or tuple of ints) -/
def rSortedTI (K : PySem.W.Frag) : List V → Hp → VK → Prop := fun vs H Q => ∃ (a : Addr) (ns : List Int), vs = [V.ref a] ∧ (SqL K H a (ns.map V.int) ∨ SqT K H a (ns.map V.int)) ∧ ns.length < 64 ∧
  ∀ (ns' : List Int) (p : Addr), ns'.Perm ns → ns'.Pairwise (· ≤ ·) → H p = none → Q (.ref p) (upd H p (.lst (ns'.map V.int)))
theorem call_sortedTI {X : Cx} {K : PySem.W.Frag} (eK : X.K = K := by rfl) : CallR X (.builtin "sorted") (rSortedTI K) := by
  subst eK
  intro pins s σ H vs us Q I r h
  obtain ⟨a, ns, rfl, hs, h64, q⟩ := h
  rcases hs with hs | hs
  · exact cr_sorted pins s σ H _ us Q I r ⟨a, ns, rfl, hs, h64, q⟩
  · obtain ⟨its, rv, hl, _⟩ := I.tuple hs
    rw [Vals.ref1 r]
    have hi := rv.ints
    have hlen : ∀ {ns' : List Int}, ns'.Perm ns → (ns'.map V.int).length ≤ sizeLine := fun p => by rw [List.length_map, p.length_eq]; exact small64 h64
    refine sorted_tupI hl hi (by rw [hi.length]; exact h64) fun D g out e ns' kept hD he a1 a2 a3 => ?_
    have hn : H D = none := by
      cases z : H D with
      | none => rfl
      | some o => exact absurd hD (objOk_there (I.hok D o z))
    obtain ⟨m, hns, _⟩ := id I.loc
    have F : Fr X.base X.env.locals s.heap m := ⟨hns, I.bk, Nat.le_trans I.ok.bsz I.ok.above⟩
    exact ⟨.ref D, upd H D (.lst (ns'.map V.int)), inv_news (t' := s.toks) I (F.kept kept) hns (fun b u _ z => kept b u z) hD hn ⟨hlen a2, out.toList, e, vals_of_ints a1, he⟩, rfl, q ns' D a2 a3 hn⟩

/-! ### the law's own look at rings -/
theorem ok_law_less (T : Txt K mg) : FnOk P w K mg base CX0 1 T.f_law_less T.d_law_less ["pattern", "lot"] (spCutL K) := by
  refine T.F_law_less.ok sc_law_less (fun vs H Q E h => ?_) (fun cdv A outer s H vs Q E hr h => ?_)
  · obtain ⟨_, _, _, _, rfl, _⟩ := h
    rfl
  · obtain ⟨v, u, p, lot, rfl, hv, hu, hl, q⟩ := h
    obtain ⟨a, rfl, ha⟩ := ct_inv hv
    refine ⟨_, (pss_one (ps_ret (pe_callTy (call_tupleK K) (by rfl) T.z_tuple (by decide +kernel) (pa_cons (pe_lc (own := [("c", 2)]) rfl sc_law_less.nd (pi_tupK K (pv 0)) (blkOk_by (N := N_law_less) (sc := defScope s_law_less) (by decide +kernel)) (fun _ _ _ _ _ => (pg_name (i := 2) sc_law_less.nd rfl (.inl rfl))) (fun _ _ _ _ _ => (pts_one (pt_cmpR (op_notinT (K := K) (room65 hr)) (pv 2) (pv 1) (by rfl)))) (fun _ _ _ _ _ => (pv 2))) pa_nil)))), ?_⟩
    refine ⟨_, rfl, a, rfl, ⟨_, ha⟩, fun D nD => lc_tup (K := K) (xs := p.map V.int) (fun j H' => Same H H' ∧ H' D = some (.lst (((p.take j).filter fun x => decide (x ∉ lot)).map V.int))) ⟨same_new nD, upd_same⟩ (fun j H' _ ⟨s', _⟩ => (Ext.of s').sqT ha) ?_ ?_⟩
    · rintro j x H1 hx ⟨s1, hD⟩
      rw [List.getElem?_map] at hx
      obtain ⟨z, hz, rfl⟩ := Option.map_eq_some_iff.mp hx
      have hf := take_filter (f := fun x => decide (x ∉ lot)) hz
      refine ⟨rfl, ?_⟩
      have hlt : ∀ k, (((p.take k).filter fun x => decide (x ∉ lot)).map V.int).length ≤ 1000 := fun k => by
        rw [List.length_map]
        have := List.length_filter_le (fun x => decide (x ∉ lot)) (p.take k)
        have := List.length_take (i := k) (l := p)
        omega
      refine ⟨_, rfl, _, rfl, .int z, lot.map PyData.int, .int z, dp_ct (hu.ext (.of s1)), shaped_int z, shaped_ct lot, ?_⟩
      rw [any_mem]
      refine ⟨_, rfl, ?_⟩
      by_cases e : z ∈ lot
      · rw [decide_eq_true e]
        rw [if_neg (by rw [decide_eq_false (fun h => h e)]; decide), List.append_nil] at hf
        rw [if_neg (by decide), hf]
        exact ⟨s1, hD⟩
      · rw [decide_eq_false e]
        rw [if_pos (decide_eq_true e)] at hf
        rw [if_pos (show (!false) = true from rfl)]
        refine ⟨_, rfl, _, hD, sz_small (by have := hlt j; omega), Same.put nD s1, ?_⟩
        rw [hf, List.map_append]
        exact upd_same
    · rintro H1 ⟨s1, hD⟩
      have hD : H1 D = some (.lst (((p.take p.length).filter fun x => decide (x ∉ lot)).map V.int)) := by
        rw [← List.length_map (f := V.int)]
        exact hD
      rw [List.take_length] at hD
      exact ⟨D, _, rfl, .inl ⟨SqL.of hD, fun t nt => q _ _ (s1.trans (same_new nt)) (dh_ct (SqT.of upd_same))⟩⟩
theorem refs_of {H : Hp} : ∀ {xs : List V} {ps : List (List Int)}, DhAll K H xs (ps.map ctD) → ∃ M : List (Addr × List Int), xs = M.map (fun m => V.ref m.1) ∧ M.map (·.2) = ps ∧ ∀ m ∈ M, SqT K H m.1 (m.2.map V.int)
  | _, [], .nil => ⟨[], rfl, rfl, fun m hm => by cases hm⟩
  | _, p :: ps, .cons h t => by
    obtain ⟨M, h1, h2, h3⟩ := refs_of (ps := ps) t
    obtain ⟨a, rfl, s⟩ := ct_inv h
    refine ⟨(a, p) :: M, by rw [List.map_cons, h1], by rw [List.map_cons, h2], fun m hm => ?_⟩
    rcases List.mem_cons.mp hm with u | u
    · rw [u]
      exact s
    · exact h3 m u
/-- sorted(set(l)) of a list of patterns -/
theorem sort_set {H : Hp} {a : Addr} {xs : List V} {qs : List (List Int)} {Q : VK} (hs : SqL K H a xs) (hd : DhAll K H xs (qs.map ctD)) (few : qs.length < 64)
    (q : ∀ p H' (rs : List (List Int)), H p = none → Same H H' → LstP K H' p rs → rs.Pairwise (fun a b => HT.lexLt a b = true) → (∀ z, z ∈ rs ↔ z ∈ qs) → rs.length ≤ qs.length → Q (.ref p) H') : rSetOfT K P w [.ref a] H fun y H2 => rSortSU K P w [y] H2 Q := by
  obtain ⟨M, m1, m2, m3⟩ := refs_of hd
  subst m1
  refine ⟨a, M, rfl, hs, m3, by rw [← List.length_map (f := fun m : Addr × List Int => m.2), m2]; exact few, fun sa L nsa hL1 hL2 => ?_⟩
  have s4 := same_new (H := H) (o := SetTO P w sa L) nsa
  refine ⟨sa, L, rfl, upd_same, (fun p hp => (Ext.of s4).sqT (m3 p (hL1 p hp))), fun L' p4 pL _ pwL np4 => ?_⟩
  have s5 := s4.trans (same_new (o := HO.lst (L'.map fun m => V.ref m.1)) np4)
  have pw2 : (L'.map (·.2)).Pairwise fun a b => HT.lexLt a b = true := List.pairwise_map.mpr pwL
  have nd : (L'.map (·.2)).Nodup := pw2.imp fun {a b} h e => by
    rw [e, lexLt_dec, decide_eq_false (List.lt_irrefl _)] at h
    cases h
  have hm : ∀ z, z ∈ L'.map (·.2) ↔ z ∈ qs := fun z => by
    rw [(pL.map (·.2)).mem_iff, ← m2]
    constructor
    · intro h
      obtain ⟨m, hm, rfl⟩ := List.mem_map.mp h
      exact List.mem_map_of_mem (hL1 m hm)
    · intro h
      obtain ⟨m, hm, rfl⟩ := List.mem_map.mp h
      exact hL2 m hm
  exact q p4 _ (L'.map (·.2)) (s4.free np4) s5 ⟨_, upd_same, dhs_refs fun m hm => (Ext.of s5).sqT (m3 m (hL1 m (pL.mem_iff.mp hm)))⟩ pw2 hm (nodup_len _ _ nd fun z hz => (hm z).mp hz)
def spLParts (K : PySem.W.Frag) : Sp := fun vs H Q _ => ∃ (n : Nat) (v u : V) (ps : List (List Int)) (lot : List Int), vs = [.int n, v, u] ∧ LsS n ps ∧ Dh K H v (patsD ps) ∧ Dh K H u (ctD lot) ∧ ∀ d H' qs, H d = none → Same H H' → LstP K H' d qs → (∀ z, z ∈ qs ↔ z ∈ partD n ps lot) → qs.length ≤ 12 → Q (.ref d) H'
theorem ok_law_parts (T : Txt K mg) : FnOk P w K mg base CX0 2 T.f_law_parts T.d_law_parts ["columns", "patterns", "lot"] (spLParts K) := by
  refine T.F_law_parts.ok sc_law_parts (fun vs H Q E h => ?_) (fun cdv A outer s H vs Q E hr h => ?_)
  · obtain ⟨_, _, _, _, _, rfl, _⟩ := h
    rfl
  · obtain ⟨n, v, u, ps, lot, rfl, ls, hv, hu, q⟩ := h
    have n5 := ls.n5
    have pok := ls.ok.ok
    refine ⟨_, (pss_cons (ps_set (i := 3) sc_law_parts.nd rfl (.inr rfl) (pe_call (ok_law_less T) hr (by rfl) T.g_law_less T.F_law_less.kp T.b_law_less .nil pass0 (pa_cons (pe_tupRg rfl (by rfl) T.z_tuple (prg_1 (by rfl) T.z_range (pv 0))) (pa_cons (pv 2) pa_nil))))
      (pss_cons (ps_setLc (i := 4) (own := [("pattern", 5)]) rfl sc_law_parts.nd rfl rfl (sw_true rfl rfl rfl (by decide +kernel)) (pi_tupK K (pv 1)) (blkOk_by (N := N_law_parts) (sc := defScope s_law_parts) (by decide +kernel)) (fun _ _ _ _ _ => (pg_name (i := 5) sc_law_parts.nd rfl (.inl rfl))) (fun _ _ _ _ _ => pts_nil) (fun _ _ _ _ _ => (pe_call (ok_law_less T) hr (by rfl) T.g_law_less T.F_law_less.kp T.b_law_less .nil pass0 (pa_cons (pv 5) (pa_cons (pv 2) pa_nil)))))
      (pss_one (ps_ret (pe_callB (call_sortSU (K := K) (P := P) (w := w) rfl hr.units) (by rfl) T.z_sorted (by decide +kernel) (pa_cons (pe_callTy (call_setOfTK (K := K) (P := P) (w := w) rfl hr.units) (by rfl) T.z_set (by decide +kernel) (pa_cons (pe_lc (own := [("pattern", 5)]) rfl sc_law_parts.nd (pi_listK K (pv 4)) (blkOk_by (N := N_law_parts) (sc := defScope s_law_parts) (by decide +kernel)) (fun _ _ _ _ _ => (pg_name (i := 5) sc_law_parts.nd rfl (.inl rfl))) (fun _ _ _ _ _ => (pts_one (pt_cmpR (op_neK K hr.units) (pv 5) (pv 3) (nomark _)))) (fun _ _ _ _ _ => (pv 5))) pa_nil)) pa_nil)))))), ?_⟩
    refine ⟨_, rfl, _, rfl, RgOk.of_le (by omega) (by omega) (by omega) (by omega), fun tw ntw => ?_⟩
    rw [rgV_I]
    have s1 : Same H (upd H tw (.tup ((rgI n).map V.int))) := same_new ntw
    have dtw : Dh K (upd H tw (.tup ((rgI n).map V.int))) (.ref tw) (ctD (rgI n)) := dh_ct (SqT.of upd_same)
    generalize upd H tw (.tup ((rgI n).map V.int)) = H1 at s1 dtw ⊢
    refine ⟨_, rfl, .ref tw, u, rgI n, lot, rfl, dtw, hu.ext (.of s1), by rw [rgI_len]; omega, fun x2 H2 s2 h2 => ?_⟩
    have s12 := s1.trans s2
    dsimp only [tNext, tSeq, tAsg, gName, List.set_cons_succ, List.set_cons_zero]
    obtain ⟨a, xs, rfl, ha, hx⟩ := hv.tup_inv
    have hxl : xs.length = ps.length := by rw [hx.length, List.length_map]
    refine ⟨_, rfl, a, rfl, ⟨_, (Ext.of s12).sqT ha⟩, fun D nD => lc_tup (K := K) (xs := xs) (fun j H' => Got K H2 D ((ps.take j).map fun p => ctD (cutL lot p)) H') (.zero nD) (fun j H' _ g => (Ext.of (s12.trans g.same)).sqT ha) ?_ ?_⟩
    · rintro j x H3 hxj g
      obtain ⟨d, hd, hxd⟩ := dhAll_at hx hxj
      obtain ⟨p, hp1, rfl⟩ := map_at hd
      refine ⟨rfl, ?_⟩
      dsimp only [tYes]
      rw [if_pos rfl]
      refine ⟨_, rfl, _, rfl, x, u, p, lot, rfl, hxd.ext (.of (s12.trans g.same)), hu.ext (.of (s12.trans g.same)), (pok.2 p (List.mem_of_getElem? hp1)).1, fun y H4 s4 hy => ?_⟩
      obtain ⟨acc, k1, k2, k3⟩ := g.put nD s4 hy (by rw [List.length_map]; have := List.length_take (i := j) (l := ps); have := pok.1; omega)
      refine ⟨acc, k1, k2, ?_⟩
      rw [List.take_add_one, hp1, List.map_append]
      exact k3
    · rintro H3 ⟨s3, acc, hD, hac⟩
      rw [hxl, List.take_length] at hac
      have hac : DhAll K H3 acc ((ps.map (cutL lot)).map ctD) := by rw [List.map_map]; exact hac
      have e0 : partD n ps lot = (ps.map (cutL lot)).filter fun q => decide (q ≠ cutL lot (rgI n)) := rfl
      have bl : (ps.map (cutL lot)).length ≤ 12 := by rw [List.length_map]; exact ls.len
      rw [e0] at q
      generalize ps.map (cutL lot) = bs at hac q bl
      have hal : acc.length = bs.length := by rw [hac.length, List.length_map]
      have s13 := s12.trans s3
      have h3 := h2.ext (.of s3)
      try dsimp only [tNext, tSeq, tAsg, gName, List.set_cons_succ, List.set_cons_zero]
      refine ⟨_, rfl, D, rfl, ⟨_, SqL.of hD⟩, fun D2 nD2 => lc_list (K := K) (xs := acc) (fun j H' => Got K H3 D2 (((bs.take j).filter fun q => decide (q ≠ cutL lot (rgI n))).map ctD) H') (.zero nD2) (fun j H' _ g => SqL.of (g.same _ _ hD)) ?_ ?_⟩
      · rintro j x H4 hxj g
        obtain ⟨d, hd, hxd⟩ := dhAll_at hac hxj
        obtain ⟨p, hp1, rfl⟩ := map_at hd
        have hxd2 := hxd.ext (.of g.same)
        have hf := take_filter (f := fun q => decide (q ≠ cutL lot (rgI n))) hp1
        have hl2 : (((bs.take j).filter fun q => decide (q ≠ cutL lot (rgI n))).map ctD).length ≤ 10000 := by
          rw [List.length_map]
          have := List.length_filter_le (fun q => decide (q ≠ cutL lot (rgI n))) (bs.take j)
          have := List.length_take (i := j) (l := bs)
          omega
        refine ⟨rfl, ?_⟩
        refine ⟨_, rfl, _, rfl, ctP p, ctP (cutL lot (rgI n)), dp_ct hxd2, dp_ct (h3.ext (.of g.same)), shaped_ct _, shaped_ct _, ?_⟩
        rw [eqv_ct]
        refine ⟨_, rfl, ?_⟩
        by_cases e : p = cutL lot (rgI n)
        · rw [decide_eq_true e]
          try dsimp only [Bool.not_true]
          rw [if_neg (by decide), hf, if_neg (by rw [decide_eq_false (fun h => h e)]; decide), List.append_nil]
          exact g
        · rw [decide_eq_false e]
          try dsimp only [Bool.not_false]
          rw [if_pos (show (!false) = true from rfl), hf, if_pos (decide_eq_true e), List.map_append]
          exact ⟨_, rfl, g.put nD2 (Same.refl H4) hxd2 hl2⟩
      · rintro H4 ⟨s4, acc2, hD2, hac2⟩
        rw [hal, List.take_length] at hac2
        have hfl := List.length_filter_le (fun q => decide (q ≠ cutL lot (rgI n))) bs
        have s14 := s13.trans s4
        exact sort_set (SqL.of hD2) hac2 (by omega) fun p H5 rs np s5 hp5 pw hm hl => q p H5 rs (s14.free np) (s14.trans s5) hp5 hm (by omega)
/-! ### rows of patterns -/
theorem dp_patsD {H : Hp} {v : V} {rs : List (List Int)} (h : Dh K H v (patsD rs)) : Dp K H v (.tuple (rs.map ctP)) := by
  obtain ⟨a, xs, rfl, ha, hx⟩ := h.tup_inv
  exact .tup ha (dp_ctAll rs hx)
theorem shaped_patsD (rs : List (List Int)) : SeqAt.shaped (.tuple (rs.map ctP)) = true := by
  obtain ⟨h1, h2⟩ := lay_all (f := fun c => ctP c) (n := 1) lay_ct rs
  exact shaped_of (n := 2) ⟨h1, Nat.succ_le_succ h2⟩ (by decide)
theorem any_pats (rs : List (List Int)) (p : List Int) : ((rs.map ctP).any fun z => PyData.eqv z (ctP p)) = decide (p ∈ rs) := by
  rw [Bool.eq_iff_iff, List.any_eq_true, decide_eq_true_iff]
  constructor
  · rintro ⟨z, hz, e⟩
    obtain ⟨r, hr, rfl⟩ := List.mem_map.mp hz
    rw [eqv_ct] at e
    rw [← of_decide_eq_true e]
    exact hr
  · exact fun h => ⟨_, List.mem_map_of_mem h, (eqv_ct p p).trans (decide_eq_true rfl)⟩
def Rok (rs : List (List Int)) : Prop := rs.length ≤ 1000 ∧ ∀ p ∈ rs, p.length ≤ 1000

end
end Fm
namespace Fm
open PySem PySem.Spec PyProof.Rows L2
section
variable {P : Program} {w : World} {K : PySem.W.Frag} {mg : Str → Option Value} {base : Heap}

def spBtw (K : PySem.W.Frag) : Sp := fun vs H Q _ => ∃ (v : V) (k : Nat) (rs : List (List Int)), vs = [v, .int k] ∧ Dh K H v (patsD rs) ∧ k < rs.length ∧ Rok rs ∧ ∀ d H', H d = none → Same H H' → H' d = some (.lst ((btw rs k).map V.int)) → Q (.ref d) H'
theorem ok_law_between (T : Txt K mg) : FnOk P w K mg base CX0 1 T.f_law_between T.d_law_between ["rs", "k"] (spBtw K) := by
  refine T.F_law_between.ok sc_law_between (fun vs H Q E h => ?_) (fun cdv A outer s H vs Q E hr h => ?_)
  · obtain ⟨_, _, _, rfl, _⟩ := h
    rfl
  · obtain ⟨v, k, rs, rfl, hv, hk, rok, q⟩ := h
    obtain ⟨a, xs, rfl, ha, hx⟩ := hv.tup_inv
    have hxl : xs.length = rs.length := by rw [hx.length, List.length_map]
    have hlt : (k + 1) % rs.length < rs.length := Nat.mod_lt _ (by omega)
    refine ⟨_, (pss_cons (ps_set (i := 2) sc_law_between.nd rfl (.inl rfl) (pe_op op_mod (pe_callTy call_int1 (by rfl) T.z_int (by decide +kernel) (pa_cons (pe_op op_add (pv 1) pe_int) pa_nil)) (pe_callB (call_lenK K) (by rfl) T.z_len PySem.boot_len (pa_cons (pv 0) pa_nil))))
      (pss_cons (ps_set (i := 3) sc_law_between.nd rfl (.inl rfl) (pe_lst pa_nil))
      (pss_cons (ps_for PassesOwn.never rfl (pi_tupK K (pe_ix (ix_tupK K) (pv 0) (pv 1) (fun _ _ => rfl))) (pg_name (i := 4) sc_law_between.nd rfl (.inr rfl)) (pss_one (ps_if (PW.pt (pw_and (pt_cmpR (op_inT (K := K) (room65 hr)) (pv 4) (pe_ix (ix_tupK K) (pv 0) (pv 2) (fun _ _ => rfl)) (by rfl)) (pw_and1 (pt_cmpR op_eq (pe_callB (call_lenK K) (by rfl) T.z_len PySem.boot_len (pa_cons (pe_lc (own := [("pattern", 5)]) rfl sc_law_between.nd (pi_tupK K (pv 0)) (blkOk_by (N := N_law_between) (sc := defScope s_law_between) (by decide +kernel)) (fun _ _ _ _ _ => (pg_name (i := 5) sc_law_between.nd rfl (.inl rfl))) (fun _ _ _ _ _ => (pts_one (pt_cmpR (op_inT (K := K) (room65 hr)) (pv 4) (pv 5) (by rfl)))) (fun _ _ _ _ _ => (pv 5))) pa_nil)) pe_int (nomark _))))) (pss_one (ps_expr (pe_bm PySem.F.plainAttrs_list PySem.F.slot_list_append PySem.F.type_list_append mt_append (pv 3) (pa_cons (pv 4) pa_nil)))) pss_nil)))
      (pss_one (ps_ret (pv 3)))))), ?_⟩
    refine ⟨_, rfl, _, _, rfl, rfl, .inl ⟨_, rfl, _, rfl, a, xs, rfl, .inr ha, _, _, rfl, rfl, by omega, ?_⟩⟩
    have e1 : (((k : Int) + 1) % ((xs.length : Nat) : Int)) = (((k + 1) % rs.length : Nat) : Int) := by
      rw [hxl, Int.natCast_emod]
      rfl
    dsimp only [tNext, tSeq, tAsg, gName, List.set_cons_succ, List.set_cons_zero]
    rw [e1]
    generalize hla : (k + 1) % rs.length = la at hlt
    refine ⟨Nat.zero_le _, fun F nF => ?_⟩
    have s1 : Same H (upd H F (.lst [])) := same_new nF
    have hF : (upd H F (.lst [])) F = some (.lst []) := upd_same
    generalize upd H F (.lst []) = H1 at s1 hF ⊢
    obtain ⟨x, hxk⟩ : ∃ x, xs[k]? = some x := ⟨_, List.getElem?_eq_getElem (by omega)⟩
    obtain ⟨d, hd, hxd⟩ := dhAll_at hx hxk
    obtain ⟨p, hp, rfl⟩ := map_at hd
    obtain ⟨b, rfl, hb⟩ := ct_inv hxd
    obtain ⟨x2, hx2⟩ : ∃ x, xs[la]? = some x := ⟨_, List.getElem?_eq_getElem (by omega)⟩
    obtain ⟨d2, hd2, hxd2⟩ := dhAll_at hx hx2
    obtain ⟨p2, hp2, rfl⟩ := map_at hd2
    have ebt : btw rs k = p.filter fun c => decide (c ∈ p2) && decide ((rs.filter fun q => decide (c ∈ q)).length = 2) := by
      have g1 : rs.getD k [] = p := by rw [List.getD_eq_getElem?_getD, hp]; rfl
      have g2 : rs.getD la [] = p2 := by rw [List.getD_eq_getElem?_getD, hp2]; rfl
      unfold btw
      rw [hla, g1, g2]
    have hpl := rok.2 p (List.mem_of_getElem? hp)
    rw [ebt] at q
    dsimp only [tNext, tSeq, tAsg, gName, List.set_cons_succ, List.set_cons_zero]
    refine ⟨_, rfl, _, rfl, a, _, k, _, rfl, rfl, (Ext.of s1).sqT ha, at_of (j := k) rfl hxk, b, rfl, ⟨_, (Ext.of s1).sqT hb⟩, for_tup (K := K) (xs := p.map V.int) (fun j σ H' => ∃ y4 y5 : Option V, σ = [some (.ref a), some (.int k), some (.int la), some (.ref F), y4, y5] ∧ Same H H' ∧ H' F = some (.lst (((p.take j).filter fun c => decide (c ∈ p2) && decide ((rs.filter fun q => decide (c ∈ q)).length = 2)).map V.int)))
      ⟨_, _, rfl, s1, hF⟩ (fun j σ H' _ ⟨_, _, _, s', _⟩ => (Ext.of s').sqT hb) ?_ ?_⟩
    · rintro j x σ H2 hxj ⟨y4, y5, rfl, s2, hF2⟩
      obtain ⟨c, rfl, hc⟩ := int_at hxj
      have hf := take_filter (f := fun c => decide (c ∈ p2) && decide ((rs.filter fun q => decide (c ∈ q)).length = 2)) hc
      have hjl := (List.getElem?_eq_some_iff.mp hc).1
      have hfl : (((p.take j).filter fun c => decide (c ∈ p2) && decide ((rs.filter fun q => decide (c ∈ q)).length = 2)).map V.int).length ≤ 1000 := by
        rw [List.length_map]
        have := List.length_filter_le (fun c => decide (c ∈ p2) && decide ((rs.filter fun q => decide (c ∈ q)).length = 2)) (p.take j)
        have := List.length_take (i := j) (l := p)
        omega
      dsimp only [tNext, tSeq, tAsg, gName, List.set_cons_succ, List.set_cons_zero]
      refine ⟨_, rfl, _, rfl, _, rfl, a, _, la, _, rfl, rfl, (Ext.of s2).sqT ha, at_of (j := la) rfl hx2, .int c, p2.map PyData.int, .int c, dp_ct (hxd2.ext (.of s2)), shaped_int c, shaped_ct p2, ?_⟩
      rw [any_mem]
      refine ⟨_, rfl, ?_⟩
      by_cases e1 : c ∈ p2
      · rw [decide_eq_true e1] at hf ⊢
        rw [Bool.true_and] at hf
        refine iteT ?_
        refine ⟨_, rfl, a, rfl, ⟨_, (Ext.of s2).sqT ha⟩, fun D nD => lc_tup (K := K) (xs := xs) (fun i H' => Got K H2 D (((rs.take i).filter fun q => decide (c ∈ q)).map ctD) H') (.zero nD) (fun i H' _ g => (Ext.of (s2.trans g.same)).sqT ha) ?_ ?_⟩
        · rintro i x H3 hxi g
          obtain ⟨d3, hd3, hxd3⟩ := dhAll_at hx hxi
          obtain ⟨p3, hp3, rfl⟩ := map_at hd3
          have s23 := s2.trans g.same
          have hxd3 := hxd3.ext (.of s23)
          have hf3 := take_filter (f := fun q => decide (c ∈ q)) hp3
          have hl3 : (((rs.take i).filter fun q => decide (c ∈ q)).map ctD).length ≤ 10000 := by
            rw [List.length_map]
            have := List.length_filter_le (fun q => decide (c ∈ q)) (rs.take i)
            have := List.length_take (i := i) (l := rs)
            have := rok.1
            omega
          refine ⟨rfl, _, rfl, _, rfl, .int c, p3.map PyData.int, .int c, dp_ct hxd3, shaped_int c, shaped_ct p3, ?_⟩
          rw [any_mem]
          refine ⟨_, rfl, ?_⟩
          by_cases e : c ∈ p3
          · rw [decide_eq_true e]
            dsimp only
            rw [if_pos rfl, hf3, if_pos (decide_eq_true e), List.map_append]
            exact ⟨_, rfl, g.put nD (Same.refl H3) hxd3 hl3⟩
          · rw [decide_eq_false e]
            dsimp only
            rw [if_neg (by decide), hf3, if_neg (by rw [decide_eq_false e]; decide), List.append_nil]
            exact g
        · rintro H3 ⟨s3, acc, hD, hac⟩
          rw [hxl, List.take_length] at hac
          have hal := hac.length
          rw [List.length_map] at hal
          refine ⟨D, acc, rfl, .inl (SqL.of hD), rfl, _, rfl, ?_⟩
          rw [show decide (V.int (acc.length : Int) = V.int 2) = decide ((rs.filter fun q => decide (c ∈ q)).length = 2) from decide_eq_decide.mpr ⟨fun h => by injection h; omega, fun h => by rw [hal, h]; rfl⟩]
          cases e2 : decide ((rs.filter fun q => decide (c ∈ q)).length = 2) with
          | true =>
            rw [e2, if_pos rfl] at hf
            refine iteT ?_
            have hF3 := s3 _ _ hF2
            refine ⟨_, rfl, .inl ⟨rfl, _, SqL.of hF3⟩, _, rfl, F, _, _, rfl, rfl, hF3, sz_small (by omega), ?_⟩
            refine ⟨_, _, rfl, Same.put nF (s2.trans s3), ?_⟩
            rw [upd_same, hf, List.map_append]
            rfl
          | false =>
            rw [e2, if_neg (by decide), List.append_nil] at hf
            refine iteF ?_
            refine ⟨_, _, rfl, s2.trans s3, ?_⟩
            rw [hf]
            exact s3 _ _ hF2
      · rw [decide_eq_false e1] at hf ⊢
        rw [Bool.false_and, if_neg (by decide), List.append_nil] at hf
        refine iteF ?_
        refine ⟨_, _, rfl, s2, ?_⟩
        rw [hf]
        exact hF2
    · rintro σ H2 ⟨y4, y5, rfl, s2, hF2⟩
      rw [List.length_map, List.take_length] at hF2
      exact ⟨_, rfl, q F _ nF s2 hF2⟩
def spLnk (K : PySem.W.Frag) : Sp := fun vs H Q _ => ∃ (v : V) (rs : List (List Int)), vs = [v] ∧ Dh K H v (patsD rs) ∧ Rok rs ∧ ∀ H', Same H H' → Q (.bl (lnk rs)) H'
theorem ok_law_are_linked (T : Txt K mg) : FnOk P w K mg base CX0 2 T.f_law_are_linked T.d_law_are_linked ["rs"] (spLnk K) := by
  refine T.F_law_are_linked.ok sc_law_are_linked (fun vs H Q E h => ?_) (fun cdv A outer s H vs Q E hr h => ?_)
  · obtain ⟨_, _, rfl, _⟩ := h
    rfl
  · obtain ⟨v, rs, rfl, hv, rok, q⟩ := h
    obtain ⟨a, xs, rfl, ha, hx⟩ := hv.tup_inv
    have hxl : xs.length = rs.length := by rw [hx.length, List.length_map]
    have rl := rok.1
    refine ⟨_, (pss_cons (ps_for PassesOwn.never rfl (pi_range1 (by rfl) T.z_range (pa_cons (pe_op op_sub (pe_callB (call_lenK K) (by rfl) T.z_len PySem.boot_len (pa_cons (pv 0) pa_nil)) pe_int) pa_nil)) (pg_name (i := 1) sc_law_are_linked.nd rfl (.inl rfl)) (pss_one (ps_if (pt_cmpR op_eq (pe_callB (call_lenK K) (by rfl) T.z_len PySem.boot_len (pa_cons (pe_call (ok_law_between T) hr (by rfl) T.g_law_between T.F_law_between.kp T.b_law_between .nil pass0 (pa_cons (pv 0) (pa_cons (pv 1) pa_nil))) pa_nil)) pe_int (nomark _)) (pss_one (ps_ret pe_bl)) pss_nil)))
      (pss_one (ps_ret pe_bl))), ?_⟩
    refine ⟨_, rfl, a, xs, rfl, .inr ha, _, _, rfl, rfl, _, rfl, by omega, by omega, for_range (lo := 0) (n := ((xs.length : Int) - 1).toNat) (fun i σ H' => ∃ y1 : Option V, σ = [some (.ref a), y1] ∧ Same H H' ∧ ∀ k, k < i → btw rs k ≠ []) ⟨_, rfl, Same.refl H, fun k hk => absurd hk (Nat.not_lt_zero _)⟩ ?_ ?_⟩
    · rintro i σ H1 hi ⟨y1, rfl, s1, hno⟩
      have hir : i < rs.length - 1 := by omega
      dsimp only [tNext, tSeq, tAsg, gName, List.set_cons_succ, List.set_cons_zero]
      rw [Int.zero_add]
      refine ⟨_, rfl, _, rfl, _, i, rs, rfl, hv.ext (.of s1), by omega, rok, fun d H2 nd s2 hd => ?_⟩
      refine ⟨d, _, rfl, .inl (SqL.of hd), rfl, _, rfl, ?_⟩
      by_cases e : btw rs i = []
      · rw [e]
        refine iteT ?_
        have el : lnk rs = false := by
          cases z : lnk rs with
          | false => rfl
          | true => exact absurd e (lnk_iff.mp z i hir)
        rw [el] at q
        exact q H2 (s1.trans s2)
      · rw [show decide (V.int ((((btw rs i).map V.int).length : Nat) : Int) = V.int 0) = false from decide_eq_false fun h => e (by
          injection h with h
          rw [List.length_map] at h
          exact List.eq_nil_of_length_eq_zero (by omega))]
        refine iteF ?_
        refine ⟨_, rfl, s1.trans s2, fun k hk => ?_⟩
        by_cases ek : k = i
        · rw [ek]; exact e
        · exact hno k (by omega)
    · rintro σ H1 ⟨y1, rfl, s1, hno⟩
      have el : lnk rs = true := lnk_iff.mpr fun k hk => hno k (by omega)
      rw [el] at q
      exact q H1 s1

end
end Fm
namespace Fm
open PySem PySem.Spec PyProof.Rows L2
section
variable {P : Program} {w : World} {K : PySem.W.Frag} {mg : Str → Option Value} {base : Heap}

theorem sz_big {n : Nat} (h : n ≤ 1000000) : n < sizeLine := Nat.lt_of_le_of_lt h (by decide)
theorem Got.putB {H0 H H' : Hp} {D : Addr} {ds : List Dt} {d : Dt} {v : V} (nD : H0 D = none) (g : Got K H0 D ds H) (s : Same H H') (h : Dh K H' v d) (hl : ds.length ≤ 1000000) : ∃ acc, H' D = some (.lst acc) ∧ acc.length < sizeLine ∧ Got K H0 D (ds ++ [d]) (upd H' D (.lst (acc ++ [v]))) := by
  obtain ⟨acc, h1, h2⟩ := g.got
  have hD := s _ _ h1
  have ep := Ext.put (ys := acc ++ [v]) hD
  exact ⟨acc, hD, sz_big (by have := h2.length; omega), Same.put nD (g.same.trans s), acc ++ [v], upd_same, ((h2.ext (.of s)).ext ep).snoc (h.ext ep)⟩
theorem Got.on {H0 H H' : Hp} {D : Addr} {ds : List Dt} (g : Got K H0 D ds H) (s : Same H H') : Got K H0 D ds H' := by
  obtain ⟨acc, h1, h2⟩ := g.got
  exact ⟨g.same.trans s, acc, s _ _ h1, h2.ext (.of s)⟩
theorem cat_row {H : Hp} {Q : VK} {x v : V} {rs : List (List Int)} {p : List Int} {r : Addr} (hx : Dh K H x (patsD rs)) (h0 : rs ≠ []) (hl : rs.length ≤ 1000) (hr : H r = some (.tup [v])) (hv : Dh K H v (ctD p)) (q : ∀ w H', Same H H' → Dh K H' w (patsD (rs ++ [p])) → Q w H') : rCatA K x (.ref r) H Q := by
  obtain ⟨a, xs, rfl, ha, hxx⟩ := hx.tup_inv
  have hxl : xs.length = rs.length := by rw [hxx.length, List.length_map]
  refine ⟨a, r, _, _, rfl, rfl, ha, SqT.of hr, ?_, fun e => ?_, fun _ e => (nomatch e), fun _ _ t ht => ?_⟩
  · exact Nat.le_of_lt (sz_small (by show xs.length + 1 ≤ 100000; omega))
  · rw [e] at hxl
    exact absurd (List.eq_nil_of_length_eq_zero hxl.symm) h0
  · refine q _ _ (same_new ht) (.tup (SqT.of upd_same) ?_)
    rw [List.map_append]
    exact (hxx.ext (.of (same_new ht))).append (.cons (hv.ext (.of (same_new ht))) .nil)
theorem grow_len (parts rs : List (List Int)) : (grow parts rs).length ≤ parts.length := by
  unfold grow
  rw [List.length_map]
  exact List.length_filter_le _ _
theorem rows_len {parts : List (List Int)} (h : parts.length ≤ 12) : ∀ m, (rowsN parts m).length ≤ 12 ^ (m + 1)
  | 0 => by
    show (parts.map _).length ≤ _
    rw [List.length_map]
    exact h
  | m + 1 => by
    have ih := rows_len h m
    have key : ∀ l : List (List (List Int)), (l.flatMap (grow parts)).length ≤ l.length * 12 := by
      intro l
      induction l with
      | nil => exact Nat.zero_le _
      | cons r l ih =>
        rw [List.flatMap_cons, List.length_append, List.length_cons]
        have := grow_len parts r
        omega
    have z := key (rowsN parts m)
    show ((rowsN parts m).flatMap (grow parts)).length ≤ _
    rw [Nat.pow_succ]
    omega
def spRingQ (K : PySem.W.Frag) : Sp := fun vs H Q _ => ∃ (a : Addr) (parts : List (List Int)), vs = [.ref a] ∧ LstP K H a parts ∧ parts.length ≤ 12 ∧ (∀ p ∈ parts, p.length ≤ 1000) ∧ ∀ H', Same H H' → Q (.bl (hasRing parts)) H'
theorem ok_law_has_ring (T : Txt K mg) : FnOk P w K mg base CX0 3 T.f_law_has_ring T.d_law_has_ring ["parts"] (spRingQ K) := by
  refine T.F_law_has_ring.ok sc_law_has_ring (fun vs H Q E h => ?_) (fun cdv A outer s H vs Q E hr h => ?_)
  · obtain ⟨_, _, rfl, _⟩ := h
    rfl
  · obtain ⟨a, parts, rfl, ⟨xs, ha, hx⟩, hl, hp5, q⟩ := h
    have hxl : xs.length = parts.length := by rw [hx.length, List.length_map]
    refine ⟨_, (pss_cons (ps_setLc (i := 1) (own := [("pattern", 5)]) rfl sc_law_has_ring.nd rfl rfl (sw_true rfl rfl rfl (by decide +kernel)) (pi_listK K (pv 0)) (blkOk_by (N := N_law_has_ring) (sc := defScope s_law_has_ring) (by decide +kernel)) (fun _ _ _ _ _ => (pg_name (i := 5) sc_law_has_ring.nd rfl (.inl rfl))) (fun _ _ _ _ _ => pts_nil) (fun _ _ _ _ _ => (pe_tup (pa_cons (pv 5) pa_nil))))
      (pss_cons (ps_for PassesOwn.never rfl (pi_range2 (by rfl) T.z_range (pa_cons pe_int (pa_cons pe_int pa_nil))) (pg_name (i := 2) sc_law_has_ring.nd rfl (.inr rfl)) (pss_cons (ps_set (i := 3) sc_law_has_ring.nd rfl (.inl rfl) (pe_lst pa_nil))
      (pss_cons (ps_for PassesOwn.never rfl (pi_listK K (pv 1)) (pg_name (i := 4) sc_law_has_ring.nd rfl (.inl rfl)) (pss_one (ps_for PassesOwn.never rfl (pi_listK K (pv 0)) (pg_name (i := 5) sc_law_has_ring.nd rfl (.inl rfl)) (pss_one (ps_if (PW.pt (pw_and (pt_cmpR (op_gtTK (K := K) (room65 hr)) (pv 5) (pe_ix (ix_tupK K) (pv 4) pe_int (fun _ _ => rfl)) (nomark _)) (pw_and (pt_cmpR (op_notinT (K := K) (room65 hr)) (pv 5) (pv 4) (by rfl)) (pw_and1 (pt_val (pe_call (ok_law_are_linked T) hr (by rfl) T.g_law_are_linked T.F_law_are_linked.kp T.b_law_are_linked .nil pass0 (pa_cons (pe_op (op_catK K) (pv 4) (pe_tup (pa_cons (pv 5) pa_nil))) pa_nil))))))) (pss_one (ps_expr (pe_bm PySem.F.plainAttrs_list PySem.F.slot_list_append PySem.F.type_list_append mt_append (pv 3) (pa_cons (pe_op (op_catK K) (pv 4) (pe_tup (pa_cons (pv 5) pa_nil))) pa_nil)))) pss_nil)))))
      (pss_cons (ps_set (i := 1) sc_law_has_ring.nd rfl (.inl rfl) (pv 3))
      (pss_one (ps_if (PW.pt (pw_and (pt_cmpR op_gt (pv 2) pe_int (nomark _)) (pw_and1 (pt_val (pe_callB (call_anyK (K := K) rfl) (by rfl) T.z_any (by decide +kernel) (pa_cons (pe_lc (own := [("rs", 4)]) rfl sc_law_has_ring.nd (pi_listK K (pv 1)) (blkOk_by (N := N_law_has_ring) (sc := defScope s_law_has_ring) (by decide +kernel)) (fun _ _ _ _ _ => (pg_name (i := 4) sc_law_has_ring.nd rfl (.inl rfl))) (fun _ _ _ _ _ => pts_nil) (fun _ _ _ _ _ => (pe_cmpR op_gt (pe_callB (call_lenK K) (by rfl) T.z_len PySem.boot_len (pa_cons (pe_call (ok_law_between T) (hr.mono (by decide)) (by rfl) T.g_law_between T.F_law_between.kp T.b_law_between .nil pass0 (pa_cons (pv 4) (pa_cons (pe_op op_sub (pv 2) pe_int) pa_nil))) pa_nil)) pe_int (nomark _)))) pa_nil)))))) (pss_one (ps_ret pe_bl)) pss_nil))))))
      (pss_one (ps_ret pe_bl)))), ?_⟩
    refine ⟨_, rfl, a, rfl, ⟨_, SqL.of ha⟩, fun R0 nR0 => lc_list (K := K) (xs := xs) (fun j H' => Got K H R0 ((parts.take j).map fun p => patsD [p]) H') (.zero nR0) (fun j H' _ g => SqL.of (g.same _ _ ha)) ?_ ?_⟩
    · rintro j x H1 hxj g
      obtain ⟨d, hd, hxd⟩ := dhAll_at hx hxj
      obtain ⟨p, hp, rfl⟩ := map_at hd
      refine ⟨rfl, ?_⟩
      dsimp only [tYes]
      rw [if_pos rfl]
      refine ⟨_, rfl, by show 1 ≤ sizeLine; decide, fun t nt => ?_⟩
      have st : Same H1 (upd H1 t (.tup [x])) := same_new nt
      obtain ⟨acc, k1, k2, k3⟩ := g.putB nR0 st (.tup (SqT.of upd_same) (.cons (hxd.ext (.of (g.same.trans st))) .nil) : Dh K (upd H1 t (.tup [x])) (.ref t) (patsD [p])) (by rw [List.length_map]; have := List.length_take (i := j) (l := parts); omega)
      refine ⟨acc, k1, k2, ?_⟩
      rw [List.take_add_one, hp, List.map_append]
      exact k3
    · rintro H1 ⟨s1, acc0, hR0, hac0⟩
      rw [hxl, List.take_length] at hac0
      have hac0 : DhAll K H1 acc0 ((rowsN parts 0).map patsD) := by
        show DhAll K H1 acc0 ((parts.map fun p => [p]).map patsD)
        rw [List.map_map]
        exact hac0
      dsimp only [tNext, tSeq, tAsg, gName, List.set_cons_succ, List.set_cons_zero]
      refine ⟨2, 6, rfl, ⟨by decide, by decide, by decide, by decide⟩, for_range (lo := 2) (n := ((6 : Int) - 2).toNat) (fun i σ H' => ∃ (r : Addr) (acc : List V) (y2 y3 y4 y5 : Option V), σ = [some (.ref a), some (.ref r), y2, y3, y4, y5] ∧ Same H H' ∧ H' r = some (.lst acc) ∧ DhAll K H' acc ((rowsN parts i).map patsD) ∧ ∀ m, 2 ≤ m → m ≤ i → ((rowsN parts m).any fun rs => decide (btw rs m ≠ [])) = false)
        ⟨R0, acc0, _, _, _, _, rfl, s1, hR0, hac0, fun m h1 h2 => absurd h1 (by omega)⟩ ?_ ?_⟩
      · rintro i σ H2 hi ⟨r, acc, y2, y3, y4, y5, rfl, s2, hr2, hac, hno⟩
        have hi : i < 4 := hi
        have hrl := rows_len hl i
        have h12 : (12 : Nat) ^ (i + 1) ≤ 20736 := Nat.le_trans (Nat.pow_le_pow_right (by decide) (show i + 1 ≤ 4 by omega)) (by decide)
        have hal : acc.length = (rowsN parts i).length := by rw [hac.length, List.length_map]
        dsimp only [tNext, tSeq, tAsg, gName, List.set_cons_succ, List.set_cons_zero]
        refine ⟨Nat.zero_le _, fun F nF => ?_⟩
        have g0 : Got K H2 F [] (upd H2 F (.lst [])) := .zero nF
        dsimp only [tNext, tSeq, tAsg, gName, List.set_cons_succ, List.set_cons_zero]
        refine ⟨_, rfl, r, rfl, ⟨_, SqL.of (g0.same _ _ hr2)⟩, for_list (K := K) (xs := acc) (fun j σ H' => ∃ y4 y5 : Option V, σ = [some (.ref a), some (.ref r), some (.int (2 + (i : Int))), some (.ref F), y4, y5] ∧ Got K H2 F ((((rowsN parts i).take j).flatMap (grow parts)).map patsD) H') ⟨_, _, rfl, g0⟩ (fun j σ H' _ ⟨_, _, _, g⟩ => SqL.of (g.same _ _ hr2)) ?_ ?_⟩
        · rintro j x σ H3 hxj ⟨y4, y5, rfl, g⟩
          obtain ⟨d, hd, hxd⟩ := dhAll_at hac hxj
          obtain ⟨rs, hrs, rfl⟩ := map_at hd
          have hjl := (List.getElem?_eq_some_iff.mp hrs).1
          obtain ⟨z1, z2, _⟩ := rows_ok (List.mem_of_getElem? hrs)
          have rsl : rs.length ≤ 1000 := by omega
          have rs0 : rs ≠ [] := fun z => by rw [z] at z1; cases z1
          dsimp only [tNext, tSeq, tAsg, gName, List.set_cons_succ, List.set_cons_zero]
          have hfl : (((rowsN parts i).take j).flatMap (grow parts)).length ≤ 12 ^ (i + 1) * 12 := by
            have key : ∀ l : List (List (List Int)), (l.flatMap (grow parts)).length ≤ l.length * 12 := by
              intro l
              induction l with
              | nil => exact Nat.zero_le _
              | cons r l ih =>
                rw [List.flatMap_cons, List.length_append, List.length_cons]
                have := grow_len parts r
                omega
            have := key ((rowsN parts i).take j)
            have := List.length_take (i := j) (l := rowsN parts i)
            omega
          have s23 := g.same
          have ha3 := s23 _ _ (s2 _ _ ha)
          refine ⟨_, rfl, a, rfl, ⟨_, SqL.of ha3⟩, for_list (K := K) (xs := xs) (fun k σ H' => ∃ y5 : Option V, σ = [some (.ref a), some (.ref r), some (.int (2 + (i : Int))), some (.ref F), some x, y5] ∧ Got K H2 F ((((rowsN parts i).take j).flatMap (grow parts) ++ grow (parts.take k) rs).map patsD) H') ⟨_, rfl, by
            have e : grow (parts.take 0) rs = [] := rfl
            rw [e, List.append_nil]
            exact g⟩ (fun k σ H' _ ⟨_, _, g⟩ => SqL.of (g.same _ _ (s2 _ _ ha))) ?_ ?_⟩
          · rintro k y σ H4 hyk ⟨y5, rfl, g4⟩
            obtain ⟨d2, hd2, hyd⟩ := dhAll_at hx hyk
            obtain ⟨p, hp, rfl⟩ := map_at hd2
            have s24 := g4.same
            have hxd4 := hxd.ext (.of s24)
            have hyd4 := hyd.ext (.of (s2.trans s24))
            obtain ⟨xa, xxs, rfl, hxa, hxx⟩ := hxd4.tup_inv
            have xxl : xxs.length = rs.length := by rw [hxx.length, List.length_map]
            obtain ⟨x0, hx0⟩ : ∃ x, xxs[0]? = some x := ⟨_, List.getElem?_eq_getElem (by omega)⟩
            obtain ⟨d0, hd0, hxd0⟩ := dhAll_at hxx hx0
            obtain ⟨p0, hp0, rfl⟩ := map_at hd0
            have eg : grow (parts.take (k + 1)) rs = grow (parts.take k) rs ++ if (decide (p0 < p) && (!decide (p ∈ rs) && lnk (rs ++ [p]))) = true then [rs ++ [p]] else [] := by
              have e0 : rs.getD 0 [] = p0 := by rw [List.getD_eq_getElem?_getD, hp0]; rfl
              unfold grow
              rw [e0, take_filter (f := fun p => decide (p0 < p) && (!decide (p ∈ rs) && lnk (rs ++ [p]))) hp, List.map_append]
              congr 1
              split <;> rfl
            have hgl : ((((rowsN parts i).take j).flatMap (grow parts) ++ grow (parts.take k) rs).map patsD).length ≤ 1000000 := by
              rw [List.length_map, List.length_append]
              have := grow_len (parts.take k) rs
              have := List.length_take (i := k) (l := parts)
              omega
            have no : (decide (p0 < p) && (!decide (p ∈ rs) && lnk (rs ++ [p]))) = false → ∀ H5, Same H4 H5 → ∃ y5 : Option V, ([some (.ref a), some (.ref r), some (.int (2 + (i : Int))), some (.ref F), some (.ref xa), some y] : L2.St) = [some (.ref a), some (.ref r), some (.int (2 + (i : Int))), some (.ref F), some (.ref xa), y5] ∧ Got K H2 F ((((rowsN parts i).take j).flatMap (grow parts) ++ grow (parts.take (k + 1)) rs).map patsD) H5 := fun z H5 s5 => by
              refine ⟨_, rfl, ?_⟩
              rw [eg, z, if_neg (by decide), List.append_nil]
              exact g4.on s5
            dsimp only [tNext, tSeq, tAsg, gName, List.set_cons_succ, List.set_cons_zero]
            refine ⟨_, rfl, _, rfl, xa, _, 0, _, rfl, rfl, hxa, at_of (j := 0) rfl hx0, p, p0, dp_ct hyd4, dp_ct hxd0, _, rfl, ?_⟩
            by_cases c1 : p0 < p
            · rw [decide_eq_true c1] at eg no ⊢
              rw [Bool.true_and] at eg no
              refine iteT ?_
              refine ⟨_, rfl, _, rfl, ctP p, rs.map ctP, dp_ct hyd4, dp_patsD hxd4, shaped_ct p, shaped_patsD rs, ?_⟩
              rw [any_pats]
              refine ⟨_, rfl, ?_⟩
              by_cases c2 : p ∈ rs
              · rw [decide_eq_true c2] at no ⊢
                exact iteF (no rfl H4 (Same.refl H4))
              · rw [decide_eq_false c2] at eg no ⊢
                rw [Bool.not_false, Bool.true_and] at eg no
                refine iteT ?_
                refine ⟨_, rfl, _, rfl, by show 1 ≤ sizeLine; decide, fun t nt => ?_⟩
                have st : Same H4 (upd H4 t (.tup [y])) := same_new nt
                refine cat_row (hxd4.ext (.of st)) rs0 rsl upd_same (hyd4.ext (.of st)) fun w H5 s5 hw => ?_
                have s45 := st.trans s5
                have rok : Rok (rs ++ [p]) := ⟨by rw [List.length_append]; show rs.length + 1 ≤ 1000; omega, fun z hz => by
                  rcases List.mem_append.mp hz with u | u
                  · exact hp5 z (z2 z u)
                  · rw [List.mem_singleton.mp u]; exact hp5 p (List.mem_of_getElem? hp)⟩
                refine ⟨w, rs ++ [p], rfl, hw, rok, fun H6 s6 => ⟨_, rfl, ?_⟩⟩
                have s46 := s45.trans s6
                cases c3 : lnk (rs ++ [p]) with
                | false =>
                  exact iteF (no c3 H6 s46)
                | true =>
                  rw [c3, if_pos rfl] at eg
                  refine iteT ?_
                  have g6 := g4.on s46
                  obtain ⟨acc6, k1, _⟩ := g6.got
                  refine ⟨_, rfl, .inl ⟨rfl, _, SqL.of k1⟩, _, rfl, _, rfl, by show 1 ≤ sizeLine; decide, fun t2 nt2 => ?_⟩
                  have st2 : Same H6 (upd H6 t2 (.tup [y])) := same_new nt2
                  refine cat_row (hxd4.ext (.of (s46.trans st2))) rs0 rsl upd_same (hyd4.ext (.of (s46.trans st2))) fun w2 H7 s7 hw2 => ?_
                  obtain ⟨acc7, k1, k2, k3⟩ := g6.putB nF (st2.trans s7) hw2 hgl
                  refine ⟨F, acc7, w2, rfl, rfl, k1, k2, _, rfl, ?_⟩
                  rw [eg, ← List.append_assoc, List.map_append]
                  exact k3
            · rw [decide_eq_false c1] at no ⊢
              exact iteF (no rfl H4 (Same.refl H4))
          · rintro σ H4 ⟨y5, rfl, g4⟩
            rw [hxl, List.take_length] at g4
            refine ⟨_, _, rfl, ?_⟩
            rw [List.take_add_one, hrs, List.flatMap_append]
            have e : List.flatMap (grow parts) (some rs).toList = grow parts rs := by
              show List.flatMap (grow parts) [rs] = _
              rw [List.flatMap_singleton]
            rw [e]
            exact g4
        · rintro σ H3 ⟨y4, y5, rfl, g⟩
          rw [hal, List.take_length] at g
          have g : Got K H2 F ((rowsN parts (i + 1)).map patsD) H3 := g
          obtain ⟨s3, acc3, hF3, hac3⟩ := g
          have hrl3 := rows_len hl (i + 1)
          have h125 : (12 : Nat) ^ (i + 1 + 1) ≤ 248832 := Nat.le_trans (Nat.pow_le_pow_right (by decide) (show i + 1 + 1 ≤ 5 by omega)) (by decide)
          have hal3 : acc3.length = (rowsN parts (i + 1)).length := by rw [hac3.length, List.length_map]
          have s03 := s2.trans s3
          dsimp only [tNext, tSeq, tAsg, gName, List.set_cons_succ, List.set_cons_zero]
          refine ⟨_, rfl, _, rfl, _, _, rfl, rfl, _, rfl, ?_⟩
          have go : ∀ H4, Same H3 H4 → (2 ≤ i + 1 → ((rowsN parts (i + 1)).any fun rs => decide (btw rs (i + 1) ≠ [])) = false) → ∀ (y4 y5 : Option V), ∃ (r : Addr) (acc : List V) (y2 y3 y4' y5' : Option V), ([some (.ref a), some (.ref F), some (.int (2 + (i : Int))), some (.ref F), y4, y5] : L2.St) = [some (.ref a), some (.ref r), y2, y3, y4', y5'] ∧ Same H H4 ∧ H4 r = some (.lst acc) ∧ DhAll K H4 acc ((rowsN parts (i + 1)).map patsD) ∧ ∀ m, 2 ≤ m → m ≤ i + 1 → ((rowsN parts m).any fun rs => decide (btw rs m ≠ [])) = false := fun H4 s4 h y4 y5 =>
            ⟨F, acc3, _, _, _, _, rfl, s03.trans s4, s4 _ _ hF3, hac3.ext (.of s4), fun m h1 h2 => by
              by_cases e : m = i + 1
              · rw [e]; exact h (by omega)
              · exact hno m h1 (by omega)⟩
          by_cases c0 : (2 : Int) < 2 + (i : Int)
          · rw [decide_eq_true c0]
            refine iteT ?_
            refine ⟨_, rfl, F, rfl, ⟨_, SqL.of hF3⟩, fun D nD => lc_list (K := K) (xs := acc3) (fun j H' => Same H3 H' ∧ H' D = some (.lst ((((rowsN parts (i + 1)).take j).map fun rs => decide (btw rs (i + 1) ≠ [])).map V.bl))) ⟨same_new nD, upd_same⟩ (fun j H' _ ⟨s', _⟩ => SqL.of (s' _ _ hF3)) ?_ ?_⟩
            · rintro j x H4 hxj ⟨s4, hD⟩
              obtain ⟨d, hd, hxd⟩ := dhAll_at hac3 hxj
              obtain ⟨rs, hrs, rfl⟩ := map_at hd
              obtain ⟨z1, z2, _⟩ := rows_ok (List.mem_of_getElem? hrs)
              have hjl := (List.getElem?_eq_some_iff.mp hrs).1
              refine ⟨rfl, ?_⟩
              dsimp only [tYes]
              rw [if_pos rfl]
              refine ⟨_, rfl, _, rfl, _, _, rfl, rfl, x, i + 1, rs, ?_, hxd.ext (.of s4), by omega, ⟨by omega, fun p hp => hp5 p (z2 p hp)⟩, fun d5 H5 nd5 s5 hd5 => ?_⟩
              · show [x, V.int (2 + (i : Int) - 1)] = [x, V.int ((i + 1 : Nat) : Int)]
                rw [show (2 : Int) + (i : Int) - 1 = ((i + 1 : Nat) : Int) by omega]
              refine ⟨d5, _, rfl, .inl (SqL.of hd5), _, _, rfl, rfl, ?_⟩
              refine ⟨_, s5 _ _ hD, sz_big (by rw [List.length_map, List.length_map]; have := List.length_take (i := j) (l := rowsN parts (i + 1)); omega), Same.put nD (s4.trans s5), ?_⟩
              rw [upd_same, List.take_add_one, hrs, List.map_append, List.map_append]
              have eb : decide ((0 : Int) < ((((btw rs (i + 1)).map V.int).length : Nat) : Int)) = decide (btw rs (i + 1) ≠ []) := decide_eq_decide.mpr (by
                rw [List.length_map]
                constructor
                · intro h e
                  rw [e] at h
                  exact absurd h (by decide)
                · intro h
                  have := List.length_pos_iff.mpr h
                  omega)
              try dsimp only
              rw [eb]
              rfl
            · rintro H4 ⟨s4, hD⟩
              rw [hal3, List.take_length] at hD
              refine ⟨D, _, rfl, SqL.of hD, _, rfl, ?_⟩
              have ea : ((rowsN parts (i + 1)).map fun rs => decide (btw rs (i + 1) ≠ [])).any id = (rowsN parts (i + 1)).any fun rs => decide (btw rs (i + 1) ≠ []) := by
                rw [List.any_map]
                rfl
              rw [ea]
              cases c1 : (rowsN parts (i + 1)).any fun rs => decide (btw rs (i + 1) ≠ []) with
              | true =>
                refine iteT ?_
                have eh : hasRing parts = true := List.any_eq_true.mpr ⟨i + 1, by simp; omega, c1⟩
                rw [eh] at q
                exact q H4 (s03.trans s4)
              | false =>
                exact iteF (go H4 s4 (fun _ => c1) _ _)
          · rw [decide_eq_false c0]
            exact iteF (go H3 (Same.refl H3) (fun h => absurd h (by omega)) _ _)
      · rintro σ H2 ⟨r, acc, y2, y3, y4, y5, rfl, s2, hr2, hac, hno⟩
        have eh : hasRing parts = false := by
          unfold hasRing
          rw [List.any_eq_false]
          intro m hm
          have hm : m = 2 ∨ m = 3 ∨ m = 4 := by simpa using hm
          have z := hno m (by omega) (show m ≤ 4 by omega)
          rw [z]
          decide
        rw [eh] at q
        exact q H2 s2

end
end Fm
namespace Fm
open PySem PySem.Spec PyProof.Rows L2
section
variable {P : Program} {w : World} {K : PySem.W.Frag} {mg : Str → Option Value} {base : Heap}

def spDue (K : PySem.W.Frag) : Sp := fun vs H Q _ => ∃ (n : Nat) (v u : V) (ps : List (List Int)) (lot : List Int), vs = [.int n, v, u] ∧ LsS n ps ∧ Dh K H v (patsD ps) ∧ Dh K H u (ctD lot) ∧ ∀ H', Same H H' → Q (.bl (dueB n ps lot)) H'
theorem ok_law_is_due (T : Txt K mg) : FnOk P w K mg base CX0 4 T.f_law_is_due T.d_law_is_due ["columns", "patterns", "lot"] (spDue K) := by
  refine T.F_law_is_due.ok sc_law_is_due (fun vs H Q E h => ?_) (fun cdv A outer s H vs Q E hr h => ?_)
  · obtain ⟨_, _, _, _, _, rfl, _⟩ := h
    rfl
  · obtain ⟨n, v, u, ps, lot, rfl, ls, hv, hu, q⟩ := h
    refine ⟨_, (pss_one (ps_ret (pe_not (pe_call (ok_law_has_ring T) hr (by rfl) T.g_law_has_ring T.F_law_has_ring.kp T.b_law_has_ring .nil pass0 (pa_cons (pe_call (ok_law_parts T) (hr.mono (by decide)) (by rfl) T.g_law_parts T.F_law_parts.kp T.b_law_parts .nil pass0 (pa_cons (pv 0) (pa_cons (pv 1) (pa_cons (pv 2) pa_nil)))) pa_nil))))), ?_⟩
    refine ⟨_, rfl, _, rfl, _, rfl, n, v, u, ps, lot, rfl, ls, hv, hu, fun d H1 qs nd s1 hd hm hl => ⟨d, qs, rfl, hd, hl, fun p hp => ?_, fun H2 s2 => ⟨_, rfl, ?_⟩⟩⟩
    · obtain ⟨⟨p0, hp0, rfl⟩, _⟩ := mem_partD.mp ((hm p).mp hp)
      have := cutL_len lot p0
      have := (ls.ok.ok.2 p0 hp0).1
      omega
    · rw [hasRing_eq ls.n5 ls.aall hm]
      exact q H2 (s1.trans s2)
/-! ### slices and sums of tuples of ints -/
def cutI (c : List Int) (lo hi : Option Int) : List Int := (c.drop (HT.sIx c.length 0 lo)).take (HT.sIx c.length c.length hi - HT.sIx c.length 0 lo)
theorem slice_ct {H : Hp} {x : V} {c : List Int} {lo hi : Option Int} {Q : VK} (hx : Dh K H x (ctD c)) (q : ∀ v H', Same H H' → Dh K H' v (ctD (cutI c lo hi)) → Q v H') : rSlA K x lo hi H Q := by
  obtain ⟨a, rfl, ha⟩ := ct_inv hx
  have e : cutV (c.map V.int) lo hi = (cutI c lo hi).map V.int := by
    unfold cutV cutI
    rw [List.length_map, List.map_take, List.map_drop]
  refine ⟨a, _, rfl, ha, ⟨fun hw => ?_, fun _ p np => ?_⟩⟩
  · have e2 : cutI c lo hi = c := by
      rw [List.length_map] at hw
      unfold cutI
      rw [hw.1, hw.2, List.drop_zero, Nat.sub_zero, List.take_length]
    exact q _ H (Same.refl H) (by rw [e2]; exact hx)
  · rw [e]
    exact q _ _ (same_new np) (dh_ct (SqT.of upd_same))
theorem cutI_take {c : List Int} {k : Nat} (h : k ≤ c.length) : cutI c none (some (k : Int)) = c.take k := by
  unfold cutI
  rw [HT.sIx_none, HT.sIx_nat, List.drop_zero, Nat.sub_zero, Nat.min_eq_left h]
theorem cutI_drop {c : List Int} {k : Nat} (h : k ≤ c.length) : cutI c (some (k : Int)) none = c.drop k := by
  unfold cutI
  rw [HT.sIx_none, HT.sIx_nat, Nat.min_eq_left h]
  exact List.take_of_length_le (by rw [List.length_drop]; omega)
theorem cat_cts {H : Hp} {x y : V} {c d : List Int} {Q : VK} (hx : Dh K H x (ctD c)) (hy : Dh K H y (ctD d)) (hl : c.length + d.length ≤ 1000) (q : ∀ v H', Same H H' → Dh K H' v (ctD (c ++ d)) → Q v H') : rCatA K x y H Q := by
  obtain ⟨a, rfl, ha⟩ := ct_inv hx
  obtain ⟨b, rfl, hb⟩ := ct_inv hy
  refine ⟨a, b, _, _, rfl, rfl, ha, hb, ?_, fun e => ?_, fun _ e => ?_, fun _ _ p hp => ?_⟩
  · rw [List.length_map, List.length_map]
    exact Nat.le_of_lt (sz_small (by omega))
  · have e0 : c = [] := List.map_eq_nil_iff.mp e
    subst e0
    exact q _ H (Same.refl H) hy
  · have e0 : d = [] := List.map_eq_nil_iff.mp e
    subst e0
    exact q _ H (Same.refl H) (by rw [List.append_nil]; exact hx)
  · refine q _ _ (same_new hp) (dh_ct ?_)
    rw [List.map_append]
    exact SqT.of upd_same
def spLeast (K : PySem.W.Frag) : Sp := fun vs H Q _ => ∃ (n : Nat) (v u : V) (ps : List (List Int)) (lot : List Int), vs = [.int n, v, u] ∧ LsS n ps ∧ Dh K H v (patsD ps) ∧ Dh K H u (ctD lot) ∧ lot.length ≤ 5 ∧ ∀ H', Same H H' → Q (.bl (leastB n ps lot)) H'
theorem ok_law_is_least (T : Txt K mg) : FnOk P w K mg base CX0 5 T.f_law_is_least T.d_law_is_least ["columns", "patterns", "lot"] (spLeast K) := by
  refine T.F_law_is_least.ok sc_law_is_least (fun vs H Q E h => ?_) (fun cdv A outer s H vs Q E hr h => ?_)
  · obtain ⟨_, _, _, _, _, rfl, _⟩ := h
    rfl
  · obtain ⟨n, v, u, ps, lot, rfl, ls, hv, hu, l5, q⟩ := h
    obtain ⟨a, rfl, ha⟩ := ct_inv hu
    refine ⟨_, (pss_cons (ps_setLc (i := 3) (own := [("k", 4)]) rfl sc_law_is_least.nd rfl rfl (sw_true rfl rfl rfl (by decide +kernel)) (pi_range1 (by rfl) T.z_range (pa_cons (pe_callB (call_lenK K) (by rfl) T.z_len PySem.boot_len (pa_cons (pv 2) pa_nil)) pa_nil)) (blkOk_by (N := N_law_is_least) (sc := defScope s_law_is_least) (by decide +kernel)) (fun _ _ _ _ _ => (pg_name (i := 4) sc_law_is_least.nd rfl (.inl rfl))) (fun _ _ _ _ _ => pts_nil) (fun _ _ _ _ _ => (pe_op (op_catK K) (pe_slice (sl_tupK K) (pv 2) po_none (po_some (pv 4))) (pe_slice (sl_tupK K) (pv 2) (po_some (pe_op op_add (pv 4) pe_int)) po_none))))
      (pss_cons (ps_if (pt_not (pt_val (pe_call (ok_law_is_due T) hr (by rfl) T.g_law_is_due T.F_law_is_due.kp T.b_law_is_due .nil pass0 (pa_cons (pv 0) (pa_cons (pv 1) (pa_cons (pv 2) pa_nil)))))) (pss_one (ps_ret pe_bl)) pss_nil)
      (pss_one (ps_ret (pe_not (pe_callB (call_anyK (K := K) rfl) (by rfl) T.z_any (by decide +kernel) (pa_cons (pe_lc (own := [("one", 5)]) rfl sc_law_is_least.nd (pi_listK K (pv 3)) (blkOk_by (N := N_law_is_least) (sc := defScope s_law_is_least) (by decide +kernel)) (fun _ _ _ _ _ => (pg_name (i := 5) sc_law_is_least.nd rfl (.inl rfl))) (fun _ _ _ _ _ => pts_nil) (fun _ _ _ _ _ => (pe_call (ok_law_is_due T) hr (by rfl) T.g_law_is_due T.F_law_is_due.kp T.b_law_is_due .nil pass0 (pa_cons (pv 0) (pa_cons (pv 1) (pa_cons (pv 5) pa_nil)))))) pa_nil))))))), ?_⟩
    refine ⟨_, rfl, a, _, rfl, .inr ha, lot.length, by rw [List.length_map], by omega, by omega, fun D nD => lc_range (lo := 0) (n := ((lot.length : Nat) : Int).toNat) (fun i H' => Got K H D ((List.range i).map fun k => ctD (lot.take k ++ lot.drop (k + 1))) H') (.zero nD) ?_ ?_⟩
    · rintro i H1 hi g
      rw [Int.toNat_natCast] at hi
      have ha1 := (Ext.of g.same).sqT ha
      refine ⟨rfl, ?_⟩
      dsimp only [tYes]
      rw [if_pos rfl, Int.zero_add]
      have hu1 := hu.ext (.of g.same)
      refine ⟨_, rfl, _, rfl, _, rfl, slice_ct hu1 fun v1 H2 s2 h1 => ⟨_, rfl, _, rfl, _, _, rfl, rfl, _, rfl, ?_⟩⟩
      dsimp only [tNoPart]
      refine slice_ct (hu1.ext (.of s2)) fun v2 H3 s3 h2 => ?_
      rw [cutI_take (by omega)] at h1
      rw [show (i : Int) + 1 = ((i + 1 : Nat) : Int) from rfl, cutI_drop (by omega)] at h2
      refine cat_cts (h1.ext (.of s3)) h2 (by rw [List.length_take, List.length_drop]; omega) fun v3 H4 s4 h3 => ?_
      obtain ⟨acc, k1, k2, k3⟩ := g.put nD ((s2.trans s3).trans s4) h3 (by rw [List.length_map, List.length_range]; omega)
      refine ⟨acc, k1, k2, ?_⟩
      rw [List.range_succ, List.map_append]
      exact k3
    · rintro H1 ⟨s1, acc, hD, hac⟩
      rw [Int.toNat_natCast] at hac
      have hal := hac.length
      rw [List.length_map, List.length_range] at hal
      dsimp only [tNext, tSeq, tAsg, gName, List.set_cons_succ, List.set_cons_zero]
      refine ⟨_, rfl, _, rfl, _, rfl, n, v, .ref a, ps, lot, rfl, ls, hv.ext (.of s1), hu.ext (.of s1), fun H2 s2 => ⟨_, rfl, ?_⟩⟩
      have eL : leastB n ps lot = (dueB n ps lot && !((List.range lot.length).map fun k => dueB n ps (lot.take k ++ lot.drop (k + 1))).any id) := rfl
      rw [eL] at q
      cases e : dueB n ps lot with
      | false =>
        rw [e, Bool.false_and] at q
        exact iteT (q H2 (s1.trans s2))
      | true =>
        rw [e, Bool.true_and] at q
        refine iteF ?_
        have hD2 := s2 _ _ hD
        refine ⟨_, rfl, D, rfl, ⟨_, SqL.of hD2⟩, fun D2 nD2 => lc_list (K := K) (xs := acc) (fun j H' => Same H2 H' ∧ H' D2 = some (.lst (((List.range j).map fun k => dueB n ps (lot.take k ++ lot.drop (k + 1))).map V.bl))) ⟨same_new nD2, upd_same⟩ (fun j H' _ ⟨s', _⟩ => SqL.of (s' _ _ hD2)) ?_ ?_⟩
        · rintro j x H3 hxj ⟨s3, hD3⟩
          obtain ⟨d, hd, hxd⟩ := dhAll_at hac hxj
          obtain ⟨k, hk, rfl⟩ := map_at hd
          have hjl := (List.getElem?_eq_some_iff.mp hk).1
          rw [List.length_range] at hjl
          rw [List.getElem?_range hjl] at hk
          cases hk
          have s13 := (s1.trans s2).trans s3
          refine ⟨rfl, ?_⟩
          dsimp only [tYes]
          rw [if_pos rfl]
          refine ⟨_, rfl, _, rfl, _, rfl, n, v, x, ps, _, rfl, ls, hv.ext (.of s13), hxd.ext (.of (s2.trans s3)), fun H4 s4 => ?_⟩
          refine ⟨_, s4 _ _ hD3, sz_small (by rw [List.length_map, List.length_map, List.length_range]; omega), Same.put nD2 (s3.trans s4), ?_⟩
          rw [upd_same, List.range_succ, List.map_append, List.map_append]
          rfl
        · rintro H3 ⟨s3, hD3⟩
          rw [hal] at hD3
          refine ⟨D2, _, rfl, SqL.of hD3, ⟨_, rfl, ?_⟩⟩
          exact q H3 ((s1.trans s2).trans s3)

end
end Fm
namespace Fm
open PySem PySem.Spec PyProof.Rows L2
section
variable {P : Program} {w : World} {K : PySem.W.Frag} {mg : Str → Option Value} {base : Heap}

/-! ### _law_is_lot -/
def colB (n : Int) : Dt → Bool
  | .int c => decide (0 ≤ c ∧ c < n)
  | _ => false
theorem colB_ints {n : Int} : ∀ {ds : List Dt}, ds.all (colB n) = true → ∃ ps : List Int, ds = ps.map Dt.int
  | [], _ => ⟨[], rfl⟩
  | d :: ds, h => by
    rw [List.all_cons, Bool.and_eq_true] at h
    obtain ⟨ps, e⟩ := colB_ints h.2
    cases d with
    | int c => exact ⟨c :: ps, by rw [e]; rfl⟩
    | _ => exact absurd h.1 (by intro z; cases z)
theorem Asc.step {n : Int} : ∀ {l : Int} {p : List Int} {k : Nat} {x y : Int}, Asc n l p → p[k]? = some x → p[k + 1]? = some y → x < y
  | l, c :: d :: r, 0, x, y, ⟨_, _, h3⟩, e1, e2 => by
    have e1 : c = x := by simpa using e1
    have e2 : d = y := by simpa using e2
    rw [← e1, ← e2]
    exact h3.1
  | l, c :: r, k + 1, x, y, ⟨_, _, h3⟩, e1, e2 => h3.step (k := k) (by simpa using e1) (by simpa using e2)
  | _, [c], 0, _, _, _, _, e2 => by simp at e2
  | _, [], _, _, _, _, e1, _ => by simp at e1
def spLot (K : PySem.W.Frag) : Sp := fun vs H Q _ => ∃ (n : Nat) (v : V) (d : Dt), vs = [.int n, v] ∧ Dh K H v d ∧ (∀ ds, d = .tup ds → ds.length ≤ 1000) ∧ ∀ b H', Same H H' → (d.isPat n = true → b = true) → Q (.bl b) H'
theorem ok_law_is_lot (T : Txt K mg) : FnOk P w K mg base CX0 1 T.f_law_is_lot T.d_law_is_lot ["columns", "thing"] (spLot K) := by
  refine T.F_law_is_lot.ok sc_law_is_lot (fun vs H Q E h => ?_) (fun cdv A outer s H vs Q E hr h => ?_)
  · obtain ⟨_, _, _, rfl, _⟩ := h
    rfl
  · obtain ⟨n, v, d, rfl, hv, hl, q⟩ := h
    obtain ⟨t, ty, ki, kt, kb⟩ := hv.kinds
    refine ⟨_, (pss_cons (ps_if (pt_not (pt_val (pe_callB (call_isiK' K) (by rfl) T.z_isinstance (by decide +kernel) (pa_cons (pv 1) (pa_cons (pe_bltn (v := .ty "tuple") (by rfl) T.z_tuple (by decide +kernel) rfl) pa_nil))))) (pss_one (ps_ret pe_bl)) pss_nil)
      (pss_cons (ps_if (pt_not (pt_val (pe_callB (call_allK (K := K) rfl) (by rfl) T.z_all (by decide +kernel) (pa_cons (pe_lc (own := [("c", 3)]) rfl sc_law_is_lot.nd (pi_tupK K (pv 1)) (blkOk_by (N := N_law_is_lot) (sc := defScope s_law_is_lot) (by decide +kernel)) (fun _ _ _ _ _ => (pg_name (i := 3) sc_law_is_lot.nd rfl (.inl rfl))) (fun _ _ _ _ _ => pts_nil) (fun _ _ _ _ _ => (pe_and (pe_callB (call_isiK' K) (by rfl) T.z_isinstance (by decide +kernel) (pa_cons (pv 3) (pa_cons (pe_bltn (v := .ty "int") (by rfl) T.z_int (by decide +kernel) rfl) pa_nil))) (pe_and (pe_not (pe_callB (call_isiK' K) (by rfl) T.z_isinstance (by decide +kernel) (pa_cons (pv 3) (pa_cons (pe_bltn (v := .ty "bool") (by rfl) T.z_bool (by decide +kernel) rfl) pa_nil)))) (pe_one (pe_chain op_le op_lt pe_int (pv 3) (pv 0))))))) pa_nil)))) (pss_one (ps_ret pe_bl)) pss_nil)
      (pss_one (ps_ret (pe_callB (call_allK (K := K) rfl) (by rfl) T.z_all (by decide +kernel) (pa_cons (pe_lc (own := [("k", 2)]) rfl sc_law_is_lot.nd (pi_range2 (by rfl) T.z_range (pa_cons pe_int (pa_cons (pe_callB (call_lenK K) (by rfl) T.z_len PySem.boot_len (pa_cons (pv 1) pa_nil)) pa_nil))) (blkOk_by (N := N_law_is_lot) (sc := defScope s_law_is_lot) (by decide +kernel)) (fun _ _ _ _ _ => (pg_name (i := 2) sc_law_is_lot.nd rfl (.inl rfl))) (fun _ _ _ _ _ => pts_nil) (fun _ _ _ _ _ => (pe_cmpR op_lt (pe_ix (ix_tupK K) (pv 1) (pe_op op_sub (pv 2) pe_int) (fun _ _ => rfl)) (pe_ix (ix_tupK K) (pv 1) (pv 2) (fun _ _ => rfl)) (nomark _)))) pa_nil)))))), ?_⟩
    refine ⟨_, rfl, _, _, _, _, _, rfl, .ty _, ty, kt, _, rfl, ?_⟩
    cases hi : d.isTup with
    | false =>
      refine iteT ?_
      have e : d.isPat n = false := by cases d <;> first | rfl | cases hi
      exact q false H (Same.refl H) (fun z => by rw [e] at z; cases z)
    | true =>
      refine iteF ?_
      cases d with
      | tup ds =>
        obtain ⟨a, xs, rfl, ha, hx⟩ := hv.tup_inv
        have hxl := hx.length
        have h1000 := hl ds rfl
        dsimp only [tNext, tSeq, tAsg, gName, List.set_cons_succ, List.set_cons_zero]
        refine ⟨_, rfl, a, rfl, ⟨_, ha⟩, fun D nD => lc_tup (K := K) (xs := xs) (fun j H' => Same H H' ∧ H' D = some (.lst (((ds.take j).map (colB n)).map V.bl))) ⟨same_new nD, upd_same⟩ (fun j H' _ ⟨s', _⟩ => (Ext.of s').sqT ha) ?_ ?_⟩
        · rintro j x H1 hxj ⟨s1, hD⟩
          obtain ⟨dx, hd, hxd⟩ := dhAll_at hx hxj
          have hxd1 := hxd.ext (.of s1)
          have hjl := (List.getElem?_eq_some_iff.mp hd).1
          have put : ∀ b : Bool, b = colB n dx → ∃ acc, H1 D = some (.lst acc) ∧ acc.length < sizeLine ∧ (Same H (upd H1 D (.lst (acc ++ [V.bl b]))) ∧ (upd H1 D (.lst (acc ++ [V.bl b]))) D = some (.lst (((ds.take (j + 1)).map (colB n)).map V.bl))) := fun b e => by
            refine ⟨_, hD, sz_small (by rw [List.length_map, List.length_map]; have := List.length_take (i := j) (l := ds); omega), Same.put nD s1, ?_⟩
            rw [upd_same, List.take_add_one, hd, List.map_append, List.map_append, e]
            rfl
          obtain ⟨t2, ty2, ki2, kt2, kb2⟩ := hxd1.kinds
          refine ⟨rfl, ?_⟩
          dsimp only [tYes]
          rw [if_pos rfl]
          refine ⟨_, rfl, _, _, _, _, _, rfl, .ty _, ty2, ki2, _, rfl, ?_⟩
          cases hi2 : dx.isInt with
          | false =>
            refine iteF ?_
            exact put false (by cases dx <;> first | rfl | cases hi2)
          | true =>
            refine iteT ?_
            refine ⟨_, rfl, _, _, _, _, _, rfl, .ty _, ty2, kb2 hi2, _, rfl, ?_⟩
            refine ⟨_, rfl, ?_⟩
            cases dx with
            | int c =>
              cases hxd1
              refine iteT ?_
              refine ⟨_, rfl, _, _, rfl, rfl, _, rfl, ?_⟩
              by_cases c0 : 0 ≤ c
              · rw [decide_eq_true c0]
                refine iteT ?_
                refine ⟨_, rfl, _, _, rfl, rfl, ?_⟩
                exact put _ (decide_eq_decide.mpr ⟨fun h => ⟨c0, h⟩, fun h => h.2⟩)
              · rw [decide_eq_false c0]
                refine iteF ?_
                exact put _ (decide_eq_false fun h => c0 h.1).symm
            | bl b =>
              refine iteF ?_
              exact put _ rfl
            | _ => cases hi2
        · rintro H1 ⟨s1, hD⟩
          rw [hxl, List.take_length] at hD
          refine ⟨D, _, rfl, SqL.of hD, _, rfl, ?_⟩
          have ea : (ds.map (colB n)).all id = ds.all (colB n) := by
            rw [List.all_map]
            rfl
          rw [ea]
          cases e : ds.all (colB n) with
          | false =>
            refine iteT ?_
            refine q false H1 s1 fun z => ?_
            obtain ⟨ps, e2, hps⟩ := isPat_ct z
            cases e2
            rw [← e, List.all_eq_true]
            intro d hd
            obtain ⟨c, hc, rfl⟩ := List.mem_map.mp hd
            have := hps.mem c hc
            exact decide_eq_true ⟨by omega, this.2⟩
          | true =>
            refine iteF ?_
            obtain ⟨ps, rfl⟩ := colB_ints e
            have ex := dh_ints ps hx
            subst ex
            rw [List.length_map] at hxl h1000
            have ha1 := (Ext.of s1).sqT ha
            dsimp only [tNext, tSeq, tAsg, gName, List.set_cons_succ, List.set_cons_zero]
            refine ⟨_, rfl, a, _, rfl, .inr ha1, 1, (ps.length : Int), by rw [List.length_map], ⟨by decide, by decide, by omega, by omega⟩, fun D2 nD2 => lc_range (lo := 1) (n := ((ps.length : Int) - 1).toNat) (fun i H' => ∃ fs : List Bool, Same H1 H' ∧ H' D2 = some (.lst (fs.map V.bl)) ∧ fs.length = i ∧ ((ctD ps).isPat n = true → ∀ b ∈ fs, b = true)) ⟨[], same_new nD2, upd_same, rfl, fun _ b hb => by cases hb⟩ ?_ ?_⟩
            · rintro i H2 hi ⟨fs, s2, hD2, hfl, hfs⟩
              have hi2 : i + 1 < ps.length := by omega
              obtain ⟨x, hx1⟩ : ∃ x, ps[i]? = some x := ⟨_, List.getElem?_eq_getElem (by omega)⟩
              obtain ⟨y, hy1⟩ : ∃ y, ps[i + 1]? = some y := ⟨_, List.getElem?_eq_getElem hi2⟩
              have ha2 := (Ext.of s2).sqT ha1
              have at1 : (ps.map V.int)[i]? = some (.int x) := by rw [List.getElem?_map, hx1]; rfl
              have at2 : (ps.map V.int)[i + 1]? = some (.int y) := by rw [List.getElem?_map, hy1]; rfl
              refine ⟨rfl, ?_⟩
              dsimp only [tYes]
              rw [if_pos rfl]
              refine ⟨_, rfl, _, rfl, _, _, rfl, rfl, a, _, _, _, rfl, rfl, ha2, at_of (j := i) (by omega) at1, _, rfl, _, rfl, a, _, _, _, rfl, rfl, ha2, at_of (j := i + 1) (by omega) at2, _, _, rfl, rfl, ?_⟩
              refine ⟨_, hD2, sz_small (by rw [List.length_map]; omega), fs ++ [decide (x < y)], Same.put nD2 s2, ?_, by rw [List.length_append, hfl]; rfl, fun z b hb => ?_⟩
              · rw [upd_same, List.map_append]
                rfl
              · rcases List.mem_append.mp hb with u | u
                · exact hfs z b u
                · obtain ⟨ps', e2, hps⟩ := isPat_ct z
                  have e3 : ps = ps' := by rw [← ints_ct ps, e2, ints_ct]
                  subst e3
                  rw [List.mem_singleton.mp u]
                  exact decide_eq_true (hps.step hx1 hy1)
            · rintro H2 ⟨fs, s2, hD2, hfl, hfs⟩
              refine ⟨D2, _, rfl, SqL.of hD2, ?_⟩
              exact q _ H2 (s1.trans s2) fun z => List.all_eq_true.mpr fun b hb => hfs z b hb
      | _ => cases hi

end
end Fm
namespace Fm
open PySem PySem.Spec PyProof.Rows L2
section
variable {P : Program} {w : World} {K : PySem.W.Frag} {mg : Str → Option Value} {base : Heap}

/-! ### _law_list -/
theorem asc_of_lt {n : Int} : ∀ {l : Int} {p : List Int}, p.Pairwise (· < ·) → (∀ x ∈ p, l < x ∧ x < n) → Asc n l p
  | _, [], _, _ => True.intro
  | l, c :: r, pw, h => by
    rw [List.pairwise_cons] at pw
    have hc := h c (List.mem_cons_self ..)
    exact ⟨hc.1, hc.2, asc_of_lt pw.2 fun x hx => ⟨pw.1 x hx, (h x (List.mem_cons_of_mem _ hx)).2⟩⟩
theorem asc_sorted {n : Nat} {ns ns' : List Int} (pm : ns'.Perm ns) (pw : ns'.Pairwise (· ≤ ·)) (nd : ns.Nodup) (hr : ∀ x ∈ ns, 0 ≤ x ∧ x < n) : Asc n (-1) ns' :=
  asc_of_lt ((pw.and (pm.nodup_iff.mpr nd)).imp fun {a b} ⟨h1, h2⟩ => by omega) fun x hx => by
    have := hr x (pm.mem_iff.mp hx)
    omega
/-- lists of patterns that are drawn -/
structure Fnd (K : PySem.W.Frag) (h c : Addr) (n B : Nat) (H0 : Hp) (F : Addr) (H : Hp) : Prop where
  keep : KeepQ h c H0 H
  nh : F ≠ h
  nc : F ≠ c
  ex : ∃ (xs : List V) (fs : List (List Int)), H F = some (.lst xs) ∧ DhAll K H xs (fs.map ctD) ∧ (∀ p ∈ fs, Asc n (-1) p) ∧ fs.length ≤ B
theorem Fnd.on {h c F : Addr} {n B : Nat} {H0 H H' : Hp} (x : Fnd K h c n B H0 F H) (k : KeepQ h c H H') : Fnd K h c n B H0 F H' := by
  obtain ⟨xs, fs, e1, e2, e3, e4⟩ := x.ex
  exact ⟨x.keep.trans k, x.nh, x.nc, xs, fs, k.rest F _ x.nh x.nc e1, e2.ext (k.ext x.keep.pool), e3, e4⟩
theorem Fnd.zero {h c D : Addr} {n : Nat} {H0 H : Hp} (k : KeepQ h c H0 H) (x : PoolOk H0 h c) (nD : H D = none) : Fnd K h c n 0 H0 D (upd H D (.lst [])) := by
  obtain ⟨n1, n2⟩ := k.pool.ne nD
  exact ⟨k.same (same_new nD), n1, n2, [], [], upd_same, .nil, (fun p hp => by cases hp), Nat.le_refl _⟩
/-- one more -/
theorem Fnd.add {h c D : Addr} {n B : Nat} {H0 H : Hp} {v : V} {p : List Int} (x : Fnd K h c n B H0 D H) (p0 : PoolOk H0 h c) (nD : H0 D = none) (hv : Dh K H v (ctD p)) (ha : Asc n (-1) p) (hB : B ≤ 1000) :
    ∃ acc, H D = some (.lst acc) ∧ acc.length < sizeLine ∧ Fnd K h c n (B + 1) H0 D (upd H D (.lst (acc ++ [v]))) := by
  obtain ⟨xs, fs, e1, e2, e3, e4⟩ := x.ex
  have ep := Ext.put (ys := xs ++ [v]) e1
  have hl := e2.length
  rw [List.length_map] at hl
  refine ⟨xs, e1, sz_small (by omega), x.keep.put p0 nD, x.nh, x.nc, xs ++ [v], fs ++ [p], upd_same, ?_, fun q hq => ?_, by rw [List.length_append]; show fs.length + 1 ≤ B + 1; omega⟩
  · rw [List.map_append]
    exact (e2.ext ep).snoc (hv.ext ep)
  · rcases List.mem_append.mp hq with u | u
    · exact e3 q u
    · rw [List.mem_singleton.mp u]; exact ha
theorem Fnd.more {h c D : Addr} {n B B' : Nat} {H0 H : Hp} (x : Fnd K h c n B H0 D H) (hB : B ≤ B') : Fnd K h c n B' H0 D H := by
  obtain ⟨xs, fs, e1, e2, e3, e4⟩ := x.ex
  exact ⟨x.keep, x.nh, x.nc, xs, fs, e1, e2, e3, Nat.le_trans e4 hB⟩
theorem nx_skip {α : Type} {Fa : α → Hp → Prop} {σf : α → L2.St} {t : TS} {D : Ends} {σ : L2.St} {H : Hp} (hr : ∀ x H', Fa x H' → D.nx (σf x) H') (f : (∀ x H', Fa x H' → D.nx (σf x) H') → t D σ H) : t D σ H := f hr
theorem te_skip {t : TE} {σ : L2.St} {H : Hp} {Q : VK} (Fa : Int → Prop) (hr : ∀ m, Fa m → Q (.int m) H) (f : (∀ m, Fa m → Q (.int m) H) → t σ H Q) : t σ H Q := f hr
/-- f = f + g -/
theorem fnd_cat {h c F G : Addr} {n B B' : Nat} {H0 H1 H : Hp} {Q : VK} (p0 : PoolOk H0 h c) (x : Fnd K h c n B H0 F H) (y : Fnd K h c n B' H1 G H) (hB : B + B' ≤ 1000) (q : ∀ p H', H0 p = none → Same H H' → Fnd K h c n (B + B') H0 p H' → Q (.ref p) H') : rCat (.ref F) (.ref G) H Q := by
  obtain ⟨xs, fs, e1, e2, e3, e4⟩ := x.ex
  obtain ⟨ys, gs, k1, k2, k3, k4⟩ := y.ex
  have h1 := e2.length
  have h2 := k2.length
  rw [List.length_map] at h1 h2
  refine ⟨F, G, xs, ys, rfl, rfl, e1, k1, Nat.le_of_lt (sz_small (by omega)), fun p np => ?_⟩
  have sp : Same H (upd H p (.lst (xs ++ ys))) := same_new np
  obtain ⟨n1, n2⟩ := x.keep.pool.ne np
  refine q p _ (KeepQ.free p0 x.keep np) sp ⟨x.keep.same sp, n1, n2, xs ++ ys, fs ++ gs, upd_same, ?_, fun z hz => ?_, by rw [List.length_append]; omega⟩
  · rw [List.map_append]
    exact (e2.ext (.of sp)).append (k2.ext (.of sp))
  · rcases List.mem_append.mp hz with u | u
    · exact e3 z u
    · exact k3 z u
theorem perm_pats {H : Hp} {xs ys : List V} {qs : List (List Int)} (hd : DhAll K H xs (qs.map ctD)) (pm : ys.Perm xs) : ∃ gs : List (List Int), gs.Perm qs ∧ DhAll K H ys (gs.map ctD) := by
  obtain ⟨M, rfl, m2, m3⟩ := refs_of hd
  obtain ⟨M', pM, rfl⟩ := perm_map_inv pm M rfl
  exact ⟨M'.map (·.2), by rw [← m2]; exact pM.map _, dhs_refs fun m hm => m3 m (pM.mem_iff.mp hm)⟩
theorem dhAll_take {H : Hp} : ∀ {xs : List V} {ds : List Dt} (k : Nat), DhAll K H xs ds → DhAll K H (xs.take k) (ds.take k)
  | _, _, 0, _ => by
    rw [List.take_zero, List.take_zero]
    exact .nil
  | [], [], k + 1, _ => .nil
  | _ :: _, _ :: _, k + 1, .cons h t => .cons h (dhAll_take k t)
theorem dhAll_drop {H : Hp} : ∀ {xs : List V} {ds : List Dt} (k : Nat), DhAll K H xs ds → DhAll K H (xs.drop k) (ds.drop k)
  | _, _, 0, h => h
  | [], [], k + 1, _ => .nil
  | _ :: _, _ :: _, k + 1, .cons _ t => dhAll_drop k t
theorem cut_first (xs : List V) {m : Int} (m0 : 0 ≤ m) : cutV xs none (some m) = xs.take m.toNat := by
  obtain ⟨k, rfl⟩ : ∃ k : Nat, m = (k : Int) := ⟨m.toNat, by omega⟩
  unfold cutV
  rw [HT.sIx_none, HT.sIx_nat, List.drop_zero, Nat.sub_zero, Int.toNat_natCast]
  rcases Nat.le_total k xs.length with u | u
  · rw [Nat.min_eq_left u]
  · rw [Nat.min_eq_right u, List.take_length, List.take_of_length_le u]
theorem cut_last (xs : List V) {m : Int} (m0 : 0 < m) : ∃ k, cutV xs (some (-m)) none = xs.drop k ∧ ((xs.length - k : Nat) : Int) ≤ m := by
  have e := HT.clip_eq (-m) xs.length 0
  rw [if_pos (by omega)] at e
  refine ⟨HT.sIx xs.length 0 (some (-m)), ?_, by omega⟩
  unfold cutV
  rw [HT.sIx_none]
  exact List.take_of_length_le (by rw [List.length_drop]; omega)
theorem atI_m1 {xs : List V} {v : V} (h0 : 0 < xs.length) (h : xs[xs.length - 1]? = some v) : atI xs (-1) = some v := by
  unfold atI ixN
  rw [if_neg (by decide), if_pos (by omega)]
  show xs[(-1 + (xs.length : Int)).toNat]? = some v
  rw [show (-1 + (xs.length : Int)).toNat = xs.length - 1 by omega]
  exact h
def spListQ (K : PySem.W.Frag) : Sp := fun vs H Q _ => ∃ (h c : Addr) (n : Nat), vs = [.ref h, .int n] ∧ PoolOk H h c ∧ 1 ≤ n ∧ n ≤ 5 ∧ ∀ v ps H', KeepQ h c H H' → LsS n ps → Dh K H' v (patsD ps) → Q v H'
theorem ok_law_list (T : Txt K mg) : FnOk P w K mg base CX0 3 T.f_law_list T.d_law_list ["pool", "columns"] (spListQ K) := by
  refine T.F_law_list.ok sc_law_list (fun vs H Q E h => ?_) (fun cdv A outer s H vs Q E hr h => ?_)
  · obtain ⟨_, _, _, rfl, _⟩ := h
    rfl
  · obtain ⟨h, c, n, rfl, hx, n1, n5, q⟩ := h
    have p32 := (pow5 n5).2
    refine ⟨_, (pss_cons (ps_set (i := 2) sc_law_list.nd rfl (.inl rfl) (pe_call (ok_law_patterns T) (hr.mono (by decide)) (by rfl) T.g_law_patterns T.F_law_patterns.kp T.b_law_patterns .nil pass0 (pa_cons (pv 1) pa_nil)))
      (pss_cons (ps_set (i := 3) sc_law_list.nd rfl (.inr rfl) (pe_tupRg rfl (by rfl) T.z_tuple (prg_1 (by rfl) T.z_range (pv 1))))
      (pss_cons (ps_set (i := 4) sc_law_list.nd rfl (.inl rfl) (pe_call (ok_law_draw T) (hr.mono (by decide)) (by rfl) T.g_law_draw T.F_law_draw.kp T.b_law_draw .nil pass0 (pa_cons (pv 0) (pa_cons pe_int pa_nil))))
      (pss_cons (ps_set (i := 5) sc_law_list.nd rfl (.inl rfl) (pe_lst (pa_cons (pv 3) pa_nil)))
      (pss_cons (ps_if (pt_cmpR op_eq (pv 4) pe_int (nomark _)) (pss_one (ps_set (i := 5) sc_law_list.nd rfl (.inl rfl) (pe_op op_cat (pv 5) (pe_lc (own := [("pattern", 12)]) rfl sc_law_list.nd (pi_listK K (pv 2)) (blkOk_by (N := N_law_list) (sc := defScope s_law_list) (by decide +kernel)) (fun _ _ _ _ _ => (pg_name (i := 12) sc_law_list.nd rfl (.inl rfl))) (fun _ _ _ _ _ => (pts_one (PW.pt (pw_and (pt_cmpR op_eq (pe_callB (call_lenK K) (by rfl) T.z_len PySem.boot_len (pa_cons (pv 12) pa_nil)) pe_int (nomark _)) (pw_and1 (pt_cmpR op_gt (pe_call (ok_law_draw T) (hr.mono (by decide)) (by rfl) T.g_law_draw T.F_law_draw.kp T.b_law_draw .nil pass0 (pa_cons (pv 0) (pa_cons pe_int pa_nil))) pe_int (nomark _))))))) (fun _ _ _ _ _ => (pv 12)))))) (pss_one (ps_if (pt_cmpR op_eq (pv 4) pe_int (nomark _)) (pss_cons (ps_set (i := 9) sc_law_list.nd rfl (.inr rfl) (pe_call (ok_law_mixed T) hr (by rfl) T.g_law_mixed T.F_law_mixed.kp T.b_law_mixed .nil pass0 (pa_cons (pv 0) (pa_cons (pe_callTy (call_listK (K := K)) (by rfl) T.z_list (by decide +kernel) (pa_cons (pv 3) pa_nil)) pa_nil))))
      (pss_cons (ps_set (i := 5) sc_law_list.nd rfl (.inl rfl) (pe_op op_cat (pv 5) (pe_lc (own := [("many", 8)]) rfl sc_law_list.nd (pi_range1 (by rfl) T.z_range (pa_cons (pv 1) pa_nil)) (blkOk_by (N := N_law_list) (sc := defScope s_law_list) (by decide +kernel)) (fun _ _ _ _ _ => (pg_name (i := 8) sc_law_list.nd rfl (.inl rfl))) (fun _ _ _ _ _ => (pts_one (pt_cmpR op_gt (pe_call (ok_law_draw T) (hr.mono (by decide)) (by rfl) T.g_law_draw T.F_law_draw.kp T.b_law_draw .nil pass0 (pa_cons (pv 0) (pa_cons pe_int pa_nil))) pe_int (nomark _)))) (fun _ _ _ _ _ => (pe_callTy (call_tupleK K) (by rfl) T.z_tuple (by decide +kernel) (pa_cons (pe_callB (call_sortedTI (K := K)) (by rfl) T.z_sorted (by decide +kernel) (pa_cons (pe_slice (sl_listK K) (pv 9) po_none (po_some (pv 8))) pa_nil)) pa_nil))))))
      (pss_one (ps_expr (pe_bm PySem.F.plainAttrs_list PySem.F.slot_list_append PySem.F.type_list_append mt_append (pv 5) (pa_cons (pe_call (ok_law_some T) hr (by rfl) T.g_law_some T.F_law_some.kp T.b_law_some .nil pass0 (pa_cons (pv 0) (pa_cons (pv 2) pa_nil))) pa_nil)))))) (pss_one (ps_set (i := 5) sc_law_list.nd rfl (.inl rfl) (pe_op op_cat (pv 5) (pe_slice (sl_listK K) (pe_call (ok_law_mixed T) hr (by rfl) T.g_law_mixed T.F_law_mixed.kp T.b_law_mixed .nil pass0 (pa_cons (pv 0) (pa_cons (pv 2) pa_nil))) po_none (po_some (pe_call (ok_law_draw T) (hr.mono (by decide)) (by rfl) T.g_law_draw T.F_law_draw.kp T.b_law_draw .nil pass0 (pa_cons (pv 0) (pa_cons pe_int pa_nil)))))))))))
      (pss_cons (ps_if (PW.pt (pw_and (pt_cmpR op_eq (pv 4) pe_int (nomark _)) (pw_and1 (pt_cmpR op_gt (pv 1) pe_int (nomark _))))) (pss_cons (ps_set (i := 8) sc_law_list.nd rfl (.inl rfl) (pe_op op_add pe_int (pe_call (ok_law_draw T) (hr.mono (by decide)) (by rfl) T.g_law_draw T.F_law_draw.kp T.b_law_draw .nil pass0 (pa_cons (pv 0) (pa_cons (pe_op op_sub (pv 1) pe_int) pa_nil)))))
      (pss_cons (ps_set (i := 9) sc_law_list.nd rfl (.inr rfl) (pe_slice (sl_listK K) (pe_call (ok_law_mixed T) hr (by rfl) T.g_law_mixed T.F_law_mixed.kp T.b_law_mixed .nil pass0 (pa_cons (pv 0) (pa_cons (pe_callTy (call_listK (K := K)) (by rfl) T.z_list (by decide +kernel) (pa_cons (pv 3) pa_nil)) pa_nil))) po_none (po_some (pv 8))))
      (pss_one (ps_for PassesOwn.never rfl (pi_range1 (by rfl) T.z_range (pa_cons (pv 8) pa_nil)) (pg_name (i := 10) sc_law_list.nd rfl (.inl rfl)) (pss_cons (ps_set (i := 11) sc_law_list.nd rfl (.inl rfl) (pe_callTy (call_tupleK K) (by rfl) T.z_tuple (by decide +kernel) (pa_cons (pe_callB (call_sortedTI (K := K)) (by rfl) T.z_sorted (by decide +kernel) (pa_cons (pe_lst (pa_cons (pe_ix (ix_listK K) (pv 9) (pe_op op_sub (pv 10) pe_int) (fun _ _ => rfl)) (pa_cons (pe_ix (ix_listK K) (pv 9) (pv 10) (fun _ _ => rfl)) pa_nil))) pa_nil)) pa_nil)))
      (pss_one (ps_expr (pe_bm PySem.F.plainAttrs_list PySem.F.slot_list_append PySem.F.type_list_append mt_append (pv 5) (pa_cons (pv 11) pa_nil))))))))) pss_nil)
      (pss_cons (ps_setLc (i := 6) (own := [("pattern", 12)]) rfl sc_law_list.nd rfl rfl (sw_true rfl rfl rfl (by decide +kernel)) (pi_listK K (pe_callB (call_sortSU (K := K) (P := P) (w := w) rfl hr.units) (by rfl) T.z_sorted (by decide +kernel) (pa_cons (pe_callTy (call_setOfTK (K := K) (P := P) (w := w) rfl hr.units) (by rfl) T.z_set (by decide +kernel) (pa_cons (pv 5) pa_nil)) pa_nil))) (blkOk_by (N := N_law_list) (sc := defScope s_law_list) (by decide +kernel)) (fun _ _ _ _ _ => (pg_name (i := 12) sc_law_list.nd rfl (.inl rfl))) (fun _ _ _ _ _ => (pts_one (pt_cmpR (op_neK K hr.units) (pv 12) (pv 3) (nomark _)))) (fun _ _ _ _ _ => (pv 12)))
      (pss_cons (ps_set (i := 7) sc_law_list.nd rfl (.inl rfl) (pe_ifExp (pt_cmpR op_lt (pv 1) pe_int (nomark _)) pe_int pe_int))
      (pss_one (ps_ret (pe_callTy (call_tupleK K) (by rfl) T.z_tuple (by decide +kernel) (pa_cons (pe_callB (call_sortTsK (K := K) hr.units) (by rfl) T.z_sorted (by decide +kernel) (pa_cons (pe_op op_cat (pe_slice (sl_listK K) (pv 6) (po_some (pe_un un_neg (pv 7))) po_none) (pe_lst (pa_cons (pv 3) pa_nil))) pa_nil)) pa_nil)))))))))))), ?_⟩
    refine ⟨_, rfl, n, rfl, n5, fun pe xe qs H1 npe s1 hpe hxe pa => ?_⟩
    have hel : xe.length ≤ 32 := by rw [hxe.length, List.length_map, pa.len]; exact p32
    dsimp only [tNext, tSeq, tAsg, gName, List.set_cons_succ, List.set_cons_zero]
    refine ⟨_, rfl, _, rfl, RgOk.of_le (by omega) (by omega) (by omega) (by omega), fun tw ntw => ?_⟩
    rw [rgV_I]
    have s2 : Same H1 (upd H1 tw (.tup ((rgI n).map V.int))) := same_new ntw
    have htw : (upd H1 tw (.tup ((rgI n).map V.int))) tw = some (.tup ((rgI n).map V.int)) := upd_same
    generalize upd H1 tw (.tup ((rgI n).map V.int)) = H2 at s2 htw ⊢
    have s12 := s1.trans s2
    have hx2 := hx.same s12
    obtain ⟨peh, pec⟩ := hx.ne npe
    have hpe2 := s2 _ _ hpe
    have hxe2 := hxe.ext (.of s2)
    have twh : tw ≠ h ∧ tw ≠ c := (hx.same s1).ne ntw
    clear hpe hxe s1 s2 ntw
    dsimp only [tNext, tSeq, tAsg, gName, List.set_cons_succ, List.set_cons_zero]
    refine ⟨_, rfl, h, c, 4, rfl, hx2, by decide, by decide, fun way H3 w0 w4 k3 => ?_⟩
    dsimp only [tNext, tSeq, tAsg, gName, List.set_cons_succ, List.set_cons_zero]
    refine ⟨_, rfl, by show 1 ≤ sizeLine; decide, fun F0 nF0 => ?_⟩
    have s4 : Same H3 (upd H3 F0 (.lst [.ref tw])) := same_new nF0
    have hF0 : (upd H3 F0 (.lst [.ref tw])) F0 = some (.lst [.ref tw]) := upd_same
    obtain ⟨F0h, F0c⟩ := k3.pool.ne nF0
    have htw3 := k3.rest tw _ twh.1 twh.2 htw
    generalize upd H3 F0 (.lst [.ref tw]) = H4 at s4 hF0 ⊢
    have k4 := k3.same s4
    have dtw4 : Dh K H4 (.ref tw) (ctD (rgI n)) := dh_ct (SqT.of (s4 _ _ htw3))
    have fnd4 : Fnd K h c n 1 H2 F0 H4 := ⟨k4, F0h, F0c, _, [rgI n], hF0, .cons dtw4 .nil, fun p hp => by rw [List.mem_singleton.mp hp]; exact asc_rgI n, Nat.le_refl _⟩
    clear htw3 s4 k3 hF0 F0h F0c nF0
    -- what the pool leaves alone
    have everyAt : ∀ H', KeepQ h c H2 H' → H' pe = some (.lst xe) ∧ DhAll K H' xe (qs.map ctD) := fun H' k => ⟨k.rest pe _ peh pec hpe2, hxe2.ext (k.ext hx2)⟩
    have wholeAt : ∀ H', KeepQ h c H2 H' → H' tw = some (.tup ((rgI n).map V.int)) := fun H' k => k.rest tw _ twh.1 twh.2 htw
    dsimp only [tNext, tSeq, tAsg, gName, List.set_cons_succ, List.set_cons_zero]
    refine nx_skip (α := Addr × Option V × Option V × Option V) (Fa := fun x H' => H2 x.1 = none ∧ Fnd K h c n 40 H2 x.1 H') (σf := fun x => [some (.ref h), some (.int n), some (.ref pe), some (.ref tw), some (.int way), some (.ref x.1), none, none, x.2.1, x.2.2.1, none, none, x.2.2.2]) ?rest ?first
    case first =>
      intro go
      refine ⟨_, rfl, rfl, _, rfl, ?_⟩
      refine ite2 (fun _ => ?_) (fun _ => ?_)
      · -- way 0
        refine ⟨_, rfl, ?_⟩
        refine ⟨_, rfl, pe, rfl, ⟨_, SqL.of (everyAt H4 k4).1⟩, fun D nD => lc_list (K := K) (xs := xe) (fun j H' => Fnd K h c n j H4 D H') (Fnd.zero (.of k4.pool (Same.refl H4)) k4.pool nD) (fun j H' _ y => SqL.of (everyAt H' (k4.trans y.keep)).1) ?_ ?_⟩
        · rintro j x H5 hxj y
          obtain ⟨ea, ed⟩ := everyAt H5 (k4.trans y.keep)
          obtain ⟨d, hd, hxd⟩ := dhAll_at ed hxj
          obtain ⟨p, hp, rfl⟩ := map_at hd
          have hpa := (pa.all p).mp (List.mem_of_getElem? hp)
          have hjl := (List.getElem?_eq_some_iff.mp hxj).1
          obtain ⟨b, rfl, hb⟩ := ct_inv hxd
          refine ⟨rfl, ?_⟩
          refine ⟨_, rfl, b, _, rfl, .inr hb, rfl, _, rfl, ?_⟩
          refine ite2 (fun _ => ?_) (fun _ => y.more (by omega))
          refine ⟨_, rfl, h, c, 4, rfl, y.keep.pool, by decide, by decide, fun d6 H6 d0 d1 k6 => ⟨_, _, rfl, rfl, _, rfl, ?_⟩⟩
          have y6 := y.on k6
          refine ite2 (fun _ => ?_) (fun _ => y6.more (by omega))
          refine ⟨_, rfl, y6.add k4.pool nD (hxd.ext (k6.ext y.keep.pool)) hpa (by omega)⟩
        · rintro H5 y
          refine fnd_cat hx2 (fnd4.on y.keep) y (by omega) fun p H6 np s6 z => ?_
          exact go ⟨p, none, none, none⟩ H6 ⟨np, z.more (by omega)⟩
      · refine ⟨_, rfl, rfl, _, rfl, ?_⟩
        refine ite2 (fun _ => ?_) (fun _ => ?_)
        · refine ⟨_, rfl, _, rfl, tw, _, rfl, .inr (SqT.of (wholeAt H4 k4)), fun p1 np1 => ?_⟩
          have s5 : Same H4 (upd H4 p1 (.lst ((rgI n).map V.int))) := same_new np1
          have hp1 : (upd H4 p1 (.lst ((rgI n).map V.int))) p1 = some (.lst ((rgI n).map V.int)) := upd_same
          generalize upd H4 p1 (.lst ((rgI n).map V.int)) = H5 at s5 hp1 ⊢
          have k5 := k4.same s5
          refine ⟨h, c, p1, _, rfl, k5.pool, SqL.of hp1, by rw [List.length_map, rgI_len]; omega, fun d ys H6 nd k6 hd pm => ?_⟩
          obtain ⟨dh, dc⟩ := k5.pool.ne nd
          obtain ⟨ls, pl, rfl⟩ := perm_map_inv pm (rgI n) rfl
          have hll : ls.length = n := by rw [pl.length_eq, rgI_len]
          have lnd : ls.Nodup := pl.nodup_iff.mpr (rgI_nodup n)
          have lin : ∀ x ∈ ls, 0 ≤ x ∧ x < n := fun x hx => mem_rgI.mp (pl.mem_iff.mp hx)
          have fnd6 := fnd4.on ((KeepQ.of k4.pool s5).trans k6)
          have k26 := k5.trans k6
          dsimp only [tNext, tSeq, tAsg, gName, List.set_cons_succ, List.set_cons_zero]
          refine ⟨_, rfl, ?_⟩
          refine ⟨_, rfl, n, rfl, by omega, by omega, fun D nD => lc_range (lo := 0) (n := ((n : Nat) : Int).toNat) (fun j H' => Fnd K h c n j H6 D H') (Fnd.zero (.of k6.pool (Same.refl H6)) k6.pool nD) ?_ ?_⟩
          · rintro j H7 hj y
            rw [Int.toNat_natCast] at hj
            refine ⟨rfl, ?_⟩
            refine ⟨_, rfl, h, c, 3, rfl, y.keep.pool, by decide, by decide, fun d6 H8 d0 d1 k8 => ⟨_, _, rfl, rfl, _, rfl, ?_⟩⟩
            have y8 := y.on k8
            refine ite2 (fun _ => ?_) (fun _ => y8.more (by omega))
            have hd8 := y8.keep.rest d _ dh dc hd
            rw [Int.zero_add]
            refine ⟨_, rfl, _, rfl, j, rfl, d, _, rfl, SqL.of hd8, fun p9 np9 => ?_⟩
            rw [cut_first _ (by omega), Int.toNat_natCast, ← List.map_take]
            have s9 : Same H8 (upd H8 p9 (.lst ((ls.take j).map V.int))) := same_new np9
            have hp9 : (upd H8 p9 (.lst ((ls.take j).map V.int))) p9 = some (.lst ((ls.take j).map V.int)) := upd_same
            generalize upd H8 p9 (.lst ((ls.take j).map V.int)) = H9 at s9 hp9 ⊢
            refine ⟨p9, ls.take j, rfl, .inl (SqL.of hp9), by rw [List.length_take]; omega, fun ns' p10 pm2 pw np10 => ?_⟩
            have s10 := s9.trans (same_new (o := HO.lst (ns'.map V.int)) np10)
            refine ⟨p10, _, rfl, .inl ⟨SqL.of upd_same, fun t nt => ?_⟩⟩
            have s11 := s10.trans (same_new (o := HO.tup (ns'.map V.int)) nt)
            exact (y8.on (.of y8.keep.pool s11)).add k6.pool nD (dh_ct (SqT.of upd_same)) (asc_sorted pm2 pw (List.Nodup.sublist (List.take_sublist _ _) lnd) fun x hx => lin x (List.mem_of_mem_take hx)) (by omega)
          · rintro H7 y
            rw [Int.toNat_natCast] at y
            refine fnd_cat hx2 (fnd6.on y.keep) y (by omega) fun p H8 np s8 z => ?_
            try dsimp only [tNext, tSeq, tAsg, gName, List.set_cons_succ, List.set_cons_zero]
            obtain ⟨ea, _⟩ := everyAt H8 z.keep
            have hq1 : 0 < xe.length := by rw [hxe2.length, List.length_map, pa.len]; exact (pow5 n5).1
            obtain ⟨xs, fs, e1, e2, _⟩ := z.ex
            refine ⟨_, rfl, .inl ⟨rfl, _, SqL.of e1⟩, _, rfl, _, rfl, h, c, pe, xe, rfl, z.keep.pool, peh, pec, ea, hq1, by omega, fun x H9 hxm k9 => ?_⟩
            obtain ⟨ea9, ed9⟩ := everyAt H9 (z.keep.trans k9)
            obtain ⟨jx, hjx⟩ := List.mem_iff_getElem?.mp hxm
            obtain ⟨dd, hdd, hxd⟩ := dhAll_at ed9 hjx
            obtain ⟨p', hp', rfl⟩ := map_at hdd
            obtain ⟨acc, a1, a2, a3⟩ := (z.on k9).add hx2 np hxd ((pa.all p').mp (List.mem_of_getElem? hp')) (by omega)
            refine ⟨p, acc, x, rfl, rfl, a1, a2, ?_⟩
            exact go ⟨p, none, some (.ref d), none⟩ _ ⟨np, a3.more (by omega)⟩
        · refine ⟨_, rfl, ?_⟩
          refine ⟨_, rfl, _, rfl, h, c, pe, xe, rfl, k4.pool, SqL.of (everyAt H4 k4).1, by omega, fun d ys H5 nd k5 hd pm => ?_⟩
          obtain ⟨dh, dc⟩ := k4.pool.ne nd
          refine ⟨_, rfl, h, c, 7, rfl, k5.pool, by decide, by decide, fun m H6 m0 m7 k6 => ?_⟩
          have hd6 := k6.rest d _ dh dc hd
          refine ⟨m, rfl, d, _, rfl, SqL.of hd6, fun p1 np1 => ?_⟩
          rw [cut_first _ m0]
          obtain ⟨gs, pg, hg⟩ := perm_pats (everyAt H4 k4).2 pm
          have hyl := hg.length
          rw [List.length_map] at hyl
          have hgl := pg.length_eq
          have hql : qs.length ≤ 32 := by rw [pa.len]; exact p32
          have k46 := k5.trans k6
          have s7 : Same H6 (upd H6 p1 (.lst (ys.take m.toNat))) := same_new np1
          obtain ⟨p1h, p1c⟩ := k6.pool.ne np1
          have fg : Fnd K h c n 32 H4 p1 (upd H6 p1 (.lst (ys.take m.toNat))) := ⟨k46.same s7, p1h, p1c, _, gs.take m.toNat, upd_same, by
            have z := (hg.ext (k46.ext k4.pool)).ext (.of s7)
            have z := dhAll_take m.toNat z
            rw [← List.map_take] at z
            exact z, fun p hp => (pa.all p).mp (pg.mem_iff.mp (List.mem_of_mem_take hp)), by rw [List.length_take]; omega⟩
          generalize upd H6 p1 (.lst (ys.take m.toNat)) = H7 at fg
          refine fnd_cat hx2 (fnd4.on fg.keep) fg (by omega) fun p H8 np s8 z => ?_
          exact go ⟨p, none, none, none⟩ H8 ⟨np, z.more (by omega)⟩
    case rest =>
      rintro ⟨F, y8, y9, y12⟩ H5 ⟨nF, fn5⟩
      dsimp only [tNext, tSeq, tAsg, gName, List.set_cons_succ, List.set_cons_zero]
      refine nx_skip (α := Addr × Option V × Option V × Option V × Option V × Option V) (Fa := fun x H' => H2 x.1 = none ∧ Fnd K h c n 48 H2 x.1 H') (σf := fun x => [some (.ref h), some (.int n), some (.ref pe), some (.ref tw), some (.int way), some (.ref x.1), none, none, x.2.1, x.2.2.1, x.2.2.2.1, x.2.2.2.2.1, x.2.2.2.2.2]) ?rest2 ?second
      case second =>
        intro go
        refine ⟨_, rfl, rfl, _, rfl, ?_⟩
        refine ite2 (fun _ => ?_) (fun _ => iteF (go ⟨F, _, _, _, _, _⟩ _ ⟨nF, fn5.more (by omega)⟩))
        refine ⟨_, rfl, _, _, rfl, rfl, _, rfl, ?_⟩
        refine ite2 (fun hn3 => ?_) (fun _ => go ⟨F, _, _, _, _, _⟩ _ ⟨nF, fn5.more (by omega)⟩)
        have hn3 : (2 : Int) < n := of_decide_eq_true hn3
        refine ⟨_, rfl, _, rfl, _, _, rfl, rfl, h, c, (n : Int) - 2, rfl, fn5.keep.pool, by omega, by omega, fun d6 H6 d0 d1 k6 => ⟨_, _, rfl, rfl, ?_⟩⟩
        have fn6 := fn5.on k6
        obtain ⟨m, hm, m3, mn⟩ : ∃ m : Nat, (3 : Int) + d6 = (m : Int) ∧ 3 ≤ m ∧ m ≤ n := ⟨(3 + d6).toNat, by omega, by omega, by omega⟩
        dsimp only [tNext, tSeq, tAsg, gName, List.set_cons_succ, List.set_cons_zero]
        rw [hm]
        refine ⟨_, rfl, _, rfl, tw, _, rfl, .inr (SqT.of (wholeAt H6 fn6.keep)), fun p1 np1 => ?_⟩
        have s7 : Same H6 (upd H6 p1 (.lst ((rgI n).map V.int))) := same_new np1
        have hp1 : (upd H6 p1 (.lst ((rgI n).map V.int))) p1 = some (.lst ((rgI n).map V.int)) := upd_same
        generalize upd H6 p1 (.lst ((rgI n).map V.int)) = H7 at s7 hp1 ⊢
        have k67 : KeepQ h c H6 H7 := .of fn6.keep.pool s7
        refine ⟨h, c, p1, _, rfl, k67.pool, SqL.of hp1, by rw [List.length_map, rgI_len]; omega, fun d ys H8 nd k8 hd pm => ?_⟩
        obtain ⟨ls0, pl, rfl⟩ := perm_map_inv pm (rgI n) rfl
        refine ⟨_, rfl, m, rfl, d, _, rfl, SqL.of hd, fun p2 np2 => ?_⟩
        rw [cut_first _ (by omega), Int.toNat_natCast, ← List.map_take]
        have hll : (ls0.take m).length = m := by rw [List.length_take, pl.length_eq, rgI_len]; omega
        have lnd : (ls0.take m).Nodup := List.Nodup.sublist (List.take_sublist _ _) (pl.nodup_iff.mpr (rgI_nodup n))
        have lin : ∀ x ∈ ls0.take m, 0 ≤ x ∧ x < n := fun x hx => mem_rgI.mp (pl.mem_iff.mp (List.mem_of_mem_take hx))
        generalize ls0.take m = ls at hll lnd lin
        have s9 : Same H8 (upd H8 p2 (.lst (ls.map V.int))) := same_new np2
        have hp2 : (upd H8 p2 (.lst (ls.map V.int))) p2 = some (.lst (ls.map V.int)) := upd_same
        obtain ⟨p2h, p2c⟩ := k8.pool.ne np2
        generalize upd H8 p2 (.lst (ls.map V.int)) = H9 at s9 hp2 ⊢
        have k69 : KeepQ h c H6 H9 := (k67.trans k8).same s9
        have fn9 := fn6.on k69
        dsimp only [tNext, tSeq, tAsg, gName, List.set_cons_succ, List.set_cons_zero]
        refine ⟨_, rfl, m, rfl, by omega, by omega, for_range (lo := 0) (n := ((m : Nat) : Int).toNat) (fun i σ H' => ∃ y10 y11 : Option V, σ = [some (.ref h), some (.int n), some (.ref pe), some (.ref tw), some (.int way), some (.ref F), none, none, some (.int m), some (.ref p2), y10, y11, y12] ∧ H' p2 = some (.lst (ls.map V.int)) ∧ Fnd K h c n (40 + i) H2 F H') ⟨_, _, rfl, hp2, fn9⟩ ?_ ?_⟩
        · rintro i σ H10 hi ⟨y10, y11, rfl, hp10, fn10⟩
          rw [Int.toNat_natCast] at hi
          obtain ⟨x, hx1⟩ : ∃ x, ls[i]? = some x := ⟨_, List.getElem?_eq_getElem (by omega)⟩
          obtain ⟨j, hj1, hj2, hj3⟩ : ∃ j, j < ls.length ∧ j ≠ i ∧ (if i = 0 then j = ls.length - 1 else j = i - 1) := by
            by_cases e : i = 0
            · exact ⟨ls.length - 1, by omega, by omega, by rw [if_pos e]⟩
            · exact ⟨i - 1, by omega, by omega, by rw [if_neg e]⟩
          obtain ⟨y, hy1⟩ : ∃ y, ls[j]? = some y := ⟨_, List.getElem?_eq_getElem hj1⟩
          have at1 : atI (ls.map V.int) ((0 : Int) + (i : Int) - 1) = some (.int y) := by
            have hm1 : (ls.map V.int)[j]? = some (.int y) := by rw [List.getElem?_map, hy1]; rfl
            by_cases e : i = 0
            · rw [if_pos e] at hj3
              subst e
              exact atI_m1 (by rw [List.length_map]; omega) (by rw [List.length_map, ← hj3]; exact hm1)
            · rw [if_neg e] at hj3
              exact at_of (j := j) (by omega) hm1
          have at2 : atI (ls.map V.int) ((0 : Int) + (i : Int)) = some (.int x) := at_of (j := i) (by omega) (by rw [List.getElem?_map, hx1]; rfl)
          have hyx : y ≠ x := fun e => by
            have := (List.getElem?_inj hj1 lnd).mp (hy1.trans (by rw [e]; exact hx1.symm))
            exact hj2 this
          dsimp only [tNext, tSeq, tAsg, gName, List.set_cons_succ, List.set_cons_zero]
          refine ⟨_, rfl, _, rfl, _, _, rfl, rfl, p2, _, _, _, rfl, rfl, SqL.of hp10, at1, _, rfl, _, rfl, p2, _, _, _, rfl, rfl, SqL.of hp10, at2, by show 2 ≤ sizeLine; decide, fun p11 np11 => ?_⟩
          have s11 : Same H10 (upd H10 p11 (.lst ([y, x].map V.int))) := same_new np11
          have hp11 : (upd H10 p11 (.lst ([y, x].map V.int))) p11 = some (.lst ([y, x].map V.int)) := upd_same
          refine ⟨p11, [y, x], rfl, .inl (SqL.of hp11), by show 2 < 64; decide, fun ns' p12 pm2 pw np12 => ?_⟩
          have s12 := s11.trans (same_new (o := HO.lst (ns'.map V.int)) np12)
          refine ⟨p12, _, rfl, .inl ⟨SqL.of upd_same, fun t nt => ?_⟩⟩
          have s13 := s12.trans (same_new (o := HO.tup (ns'.map V.int)) nt)
          have dt : Dh K _ (.ref t) (ctD ns') := dh_ct (K := K) (SqT.of (upd_same (H := upd (upd H10 p11 (.lst ([y, x].map V.int))) p12 (.lst (ns'.map V.int))) (a := t) (o := .tup (ns'.map V.int))))
          have hA : Asc n (-1) ns' := asc_sorted pm2 pw (by simp [hyx]) fun z hz => by
            have hz : z = y ∨ z = x := by simpa using hz
            rcases hz with rfl | rfl
            · exact lin _ (List.mem_of_getElem? hy1)
            · exact lin _ (List.mem_of_getElem? hx1)
          have s13 : Same H10 (upd (upd (upd H10 p11 (.lst ([y, x].map V.int))) p12 (.lst (ns'.map V.int))) t (.tup (ns'.map V.int))) := s13
          have kt : KeepQ h c H10 _ := .of fn10.keep.pool s13
          obtain ⟨acc, a1, a2, a3⟩ := (fn10.on kt).add hx2 nF dt hA (by omega)
          dsimp only [tNext, tSeq, tAsg, gName, List.set_cons_succ, List.set_cons_zero]
          refine ⟨_, rfl, .inl ⟨rfl, _, SqL.of a1⟩, _, rfl, F, acc, _, rfl, rfl, a1, a2, ?_⟩
          refine ⟨_, _, rfl, ?_, a3⟩
          have nFp : p2 ≠ F := fun e => by
            obtain ⟨xs, fs, e1, e2, _⟩ := (fn6.on (k67.trans k8)).ex
            rw [← e, np2] at e1
            cases e1
          rw [upd_ne nFp]
          exact s13 _ _ hp10
        · rintro σ H10 ⟨y10, y11, rfl, hp10, fn10⟩
          rw [Int.toNat_natCast] at fn10
          exact go ⟨F, _, _, _, _, _⟩ _ ⟨nF, fn10.more (by omega)⟩
      case rest2 =>
        rintro ⟨F, y8, y9, y10, y11, y12⟩ H6 ⟨nF, fn6⟩
        have k6 := fn6.keep
        obtain ⟨xs, fs, e1, e2, e3, e4⟩ := fn6.ex
        dsimp only [tNext, tSeq, tAsg, gName, List.set_cons_succ, List.set_cons_zero]
        refine ⟨_, rfl, ?_⟩
        dsimp only [tNil]
        refine sort_set (P := P) (w := w) (SqL.of e1) e2 (by omega) fun p H7 rs np s7 hrs pw hm hl => ?_
        obtain ⟨xr, xr1, xr2⟩ := hrs
        have hrl : xr.length = rs.length := by rw [xr2.length, List.length_map]
        have k7 := k6.same s7
        have dtw7 : Dh K H7 (.ref tw) (ctD (rgI n)) := dh_ct (SqT.of (wholeAt H7 k7))
        refine ⟨p, rfl, ⟨_, SqL.of xr1⟩, fun D nD => lc_list (K := K) (xs := xr) (fun j H' => Got K H7 D (((rs.take j).filter fun z => decide (z ≠ rgI n)).map ctD) H') (.zero nD) (fun j H' _ y => SqL.of (y.same _ _ xr1)) ?_ ?_⟩
        · rintro j x H8 hxj y
          obtain ⟨d, hd, hxd⟩ := dhAll_at xr2 hxj
          obtain ⟨z, hz, rfl⟩ := map_at hd
          have hxd2 := hxd.ext (.of y.same)
          have hf := take_filter (f := fun z => decide (z ≠ rgI n)) hz
          have hl2 : (((rs.take j).filter fun z => decide (z ≠ rgI n)).map ctD).length ≤ 10000 := by
            rw [List.length_map]
            have := List.length_filter_le (fun z : List Int => decide (z ≠ rgI n)) (rs.take j)
            have := List.length_take (i := j) (l := rs)
            omega
          refine ⟨rfl, ?_⟩
          refine ⟨_, rfl, _, rfl, ctP z, ctP (rgI n), dp_ct hxd2, dp_ct (dtw7.ext (.of y.same)), shaped_ct _, shaped_ct _, ?_⟩
          rw [eqv_ct]
          refine ⟨_, rfl, ?_⟩
          by_cases e : z = rgI n
          · rw [decide_eq_true e]
            dsimp only [Bool.not_true]
            rw [if_neg (by decide)]
            rw [hf, if_neg (by rw [decide_eq_false (fun h => h e)]; decide), List.append_nil]
            exact y
          · rw [decide_eq_false e]
            dsimp only [Bool.not_false]
            rw [if_pos (show (!false) = true from rfl)]
            rw [hf, if_pos (decide_eq_true e), List.map_append]
            exact ⟨_, rfl, y.put nD (Same.refl H8) hxd2 hl2⟩
        · rintro H8 ⟨s8, acc, hD, hac⟩
          rw [hrl, List.take_length] at hac
          have hnd : (rs.filter fun z => decide (z ≠ rgI n)).Nodup := List.Nodup.sublist List.filter_sublist (pw.imp fun {a b} h e => by
            rw [e, lexLt_dec, decide_eq_false (List.lt_irrefl _)] at h
            cases h)
          have hne : ∀ z ∈ rs.filter (fun z => decide (z ≠ rgI n)), Asc n (-1) z ∧ z ≠ rgI n := fun z hz => ⟨e3 z ((hm z).mp (List.mem_filter.mp hz).1), of_decide_eq_true (List.mem_filter.mp hz).2⟩
          have hfl : (rs.filter fun z => decide (z ≠ rgI n)).length ≤ 48 := by
            have := List.length_filter_le (fun z : List Int => decide (z ≠ rgI n)) rs
            omega
          generalize rs.filter (fun z => decide (z ≠ rgI n)) = fs2 at hac hnd hne hfl
          have hal : acc.length = fs2.length := by rw [hac.length, List.length_map]
          have k8 := k7.same s8
          have dtw8 := dtw7.ext (.of s8)
          clear e1 e2 e3 e4 xr1 xr2 hrl nD pw hm hl s7 np
          try dsimp only [tNext, tSeq, tAsg, gName, List.set_cons_succ, List.set_cons_zero]
          refine te_skip (fun m => 0 < m ∧ m ≤ 11) ?rest3 ?third
          case third =>
            intro go
            refine ⟨_, rfl, _, _, rfl, rfl, _, rfl, ?_⟩
            exact ite2 (fun _ => go 11 ⟨by decide, by decide⟩) (fun _ => go 6 ⟨by decide, by decide⟩)
          case rest3 =>
            rintro m ⟨m0, m11⟩
            obtain ⟨k, ek, hk⟩ := cut_last acc m0
            try dsimp only [tNext, tSeq, tAsg, gName, List.set_cons_succ, List.set_cons_zero]
            refine ⟨_, rfl, _, rfl, m, rfl, _, rfl, ?_⟩
            dsimp only [tNoPart]
            refine ⟨D, _, rfl, SqL.of hD, fun p1 np1 => ?_⟩
            rw [ek]
            have s9 : Same H8 (upd H8 p1 (.lst (acc.drop k))) := same_new np1
            have hp1 : (upd H8 p1 (.lst (acc.drop k))) p1 = some (.lst (acc.drop k)) := upd_same
            generalize upd H8 p1 (.lst (acc.drop k)) = H10 at s9 hp1 ⊢
            refine ⟨_, rfl, by show 1 ≤ sizeLine; decide, fun p2 np2 => ?_⟩
            have s10 : Same H10 (upd H10 p2 (.lst [.ref tw])) := same_new np2
            have hp2 : (upd H10 p2 (.lst [.ref tw])) p2 = some (.lst [.ref tw]) := upd_same
            generalize upd H10 p2 (.lst [.ref tw]) = H11 at s10 hp2 ⊢
            have hkl : (acc.drop k).length ≤ 11 := by rw [List.length_drop]; omega
            refine ⟨p1, p2, _, _, rfl, rfl, s10 _ _ hp1, hp2, Nat.le_of_lt (sz_small (by show (acc.drop k).length + 1 ≤ 100000; omega)), fun p3 np3 => ?_⟩
            have s11 : Same H11 (upd H11 p3 (.lst (acc.drop k ++ [.ref tw]))) := same_new np3
            have hp3 : (upd H11 p3 (.lst (acc.drop k ++ [.ref tw]))) p3 = some (.lst (acc.drop k ++ [.ref tw])) := upd_same
            generalize upd H11 p3 (.lst (acc.drop k ++ [.ref tw])) = H12 at s11 hp3 ⊢
            have s912 := (s9.trans s10).trans s11
            have hda : DhAll K H12 (acc.drop k ++ [.ref tw]) ((fs2.drop k ++ [rgI n]).map ctD) := by
              rw [List.map_append, List.map_drop]
              exact (dhAll_drop k (hac.ext (.of s912))).append (.cons (dtw8.ext (.of s912)) .nil)
            have hdl : (fs2.drop k).length ≤ 11 := by
              rw [List.length_drop] at hkl ⊢
              omega
            have ndk : (fs2.drop k ++ [rgI n]).Nodup := by
              refine List.nodup_append.mpr ⟨List.Nodup.sublist (List.drop_sublist _ _) hnd, by simp, fun y hy z hz e => ?_⟩
              have ez : z = rgI n := by simpa using hz
              exact (hne y (List.mem_of_mem_drop hy)).2 (e.trans ez)
            have hall : ∀ z ∈ fs2.drop k ++ [rgI n], Asc n (-1) z := fun z hz => by
              rcases List.mem_append.mp hz with u | u
              · exact (hne z (List.mem_of_mem_drop u)).1
              · rw [List.mem_singleton.mp u]
                exact asc_rgI n
            dsimp only [tNil]
            refine sort_pats (SqL.of hp3) hda (fun z hz => ?_) fun p4 ys4 qs4 np4 hys4 eq4 => ?_
            · have := (hall z hz).len (by omega)
              omega
            · have pq := List.mergeSort_perm (fs2.drop k ++ [rgI n]) fun a b : List Int => decide (a ≤ b)
              rw [← eq4] at pq
              have s13 : Same H12 (upd H12 p4 (.lst ys4)) := same_new np4
              refine ⟨p4, _, rfl, .inl ⟨SqL.of upd_same, fun t nt => ?_⟩⟩
              have s14 := s13.trans (same_new (o := HO.tup ys4) nt)
              refine q (.ref t) qs4 _ (((KeepQ.of hx s12).trans k8).same (s912.trans s14)) ⟨n1, n5, by rw [eq4]; exact sorted_pats ndk, fun z hz => hall z (pq.mem_iff.mp hz), pq.mem_iff.mpr (List.mem_append_right _ (List.mem_singleton.mpr rfl)), ?_⟩ (.tup (SqT.of upd_same) (hys4.ext (.of s14)))
              rw [pq.length_eq, List.length_append]
              show (fs2.drop k).length + 1 ≤ 12
              omega

end
end Fm
namespace Fm
open PySem PySem.Spec PyProof.Rows L2
section
variable {P : Program} {w : World} {K : PySem.W.Frag} {mg : Str → Option Value} {base : Heap}

/-! ### _law_right -/
theorem partD_nil {n : Nat} {ps : List (List Int)} : partD n (partL n ps) [] = partL n ps := by
  have e : ∀ p : List Int, cutL [] p = p := fun p => List.filter_eq_self.mpr fun x _ => decide_eq_true (by intro z; cases z)
  unfold partD
  rw [show (partL n ps).map (cutL []) = partL n ps from (List.map_congr_left fun p _ => e p).trans (List.map_id _), e]
  refine List.filter_eq_self.mpr fun p hp => decide_eq_true fun z => ?_
  have := of_decide_eq_true (List.mem_filter.mp hp).2
  rw [z, rgI_len] at this
  omega
theorem order_due {n : Nat} {ps : List (List Int)} (ls : LsS n ps) : decide ((ords n (partL n ps) (rgI n)).head? ≠ none) = dueB n ps [] := by
  have e : cutL [] (rgI n) = rgI n := List.filter_eq_self.mpr fun x _ => decide_eq_true (by intro z; cases z)
  have z := ords_due (lot := []) ls.n5 ls.aall (asc_rgI n)
  rw [partD_nil, e, rgI_len] at z
  exact z
/-- the flags of all lots so far -/
structure Flg (K : PySem.W.Frag) (P : Program) (w : World) (B : Hp) (f : Addr) (n : Nat) (ps es : List (List Int)) (H : Hp) : Prop where
  ex : ∃ L : TupL, H f = some (DTO P w f (ValF L)) ∧ KeysT K B L ∧ L.length ≤ es.length ∧ ∀ l ∈ es, findT L l = some (.bl (dueB n ps l))
/-- what is odd -/
def Odd1 (K : PySem.W.Frag) (H : Hp) (x : V) : Prop := ∃ d, Dh K H x d ∧ ∀ ds, d = .tup ds → ds.length ≤ 1000
theorem Odd1.ext {H H' : Hp} {x : V} (e : Ext H H') : Odd1 K H x → Odd1 K H' x := fun ⟨d, h, s⟩ => ⟨d, h.ext e, s⟩
theorem odd_all {H H' : Hp} {xs : List V} (e : Ext H H') (h : ∀ x ∈ xs, Odd1 K H x) : ∀ x ∈ xs, Odd1 K H' x := fun x hx => (h x hx).ext e
theorem odd_snoc {H : Hp} {xs : List V} {x : V} (h : ∀ x ∈ xs, Odd1 K H x) (hx : Odd1 K H x) : ∀ y ∈ xs ++ [x], Odd1 K H y := fun y hy => by
  rcases List.mem_append.mp hy with u | u
  · exact h y u
  · rw [List.mem_singleton.mp u]; exact hx
theorem odd_tup {H : Hp} {p : Addr} {xs : List V} {ds : List Dt} (e : H p = some (.tup xs)) (h : DhAll K H xs ds) (hl : ds.length ≤ 1000) : Odd1 K H (.ref p) := ⟨_, .tup (SqT.of e) h, fun es z => by cases z; exact hl⟩
theorem odd_lst {H : Hp} {p : Addr} {xs : List V} (e : H p = some (.lst xs)) : Odd1 K H (.ref p) := ⟨_, .oth (.base (.lst e)) (kit_ty (show kitB "list" "int" = some false by decide +kernel)) (kit_ty (show kitB "list" "tuple" = some false by decide +kernel)), fun ds z => by cases z⟩
theorem odd_dct {H : Hp} {p : Addr} {kvs : List (Key × V)} (e : H p = some (.dK kvs)) : Odd1 K H (.ref p) := ⟨_, .oth (.base (.dK e)) (kit_ty (show kitB "dict" "int" = some false by decide +kernel)) (kit_ty (show kitB "dict" "tuple" = some false by decide +kernel)), fun ds z => by cases z⟩
def spRightQ (K : PySem.W.Frag) : Sp := fun vs H Q _ => ∃ (h c : Addr) (n : Nat) (v : V) (ps : List (List Int)), vs = [.ref h, .int n, v] ∧ PoolOk H h c ∧ LsS n ps ∧ Dh K H v (patsD ps) ∧ ∀ H', KeepQ h c H H' → Q (.bl true) H'
theorem ok_law_right (T : Txt K mg) : FnOk P w K mg base CX0 12 T.f_law_right T.d_law_right ["pool", "columns", "patterns"] (spRightQ K) := by
  refine T.F_law_right.ok sc_law_right (fun vs H Q E h => ?_) (fun cdv A outer s H vs Q E hr h => ?_)
  · obtain ⟨_, _, _, _, _, rfl, _⟩ := h
    rfl
  · obtain ⟨h, c, n, v, ps, rfl, hx, ls, hv, q⟩ := h
    have n5 := ls.n5
    have p32 := (pow5 n5).2
    refine ⟨_, (pss_cons (ps_set (i := 3) sc_law_right.nd rfl (.inl rfl) (pe_call (ok_law_patterns T) (hr.mono (by decide)) (by rfl) T.g_law_patterns T.F_law_patterns.kp T.b_law_patterns .nil pass0 (pa_cons (pv 1) pa_nil)))
      (pss_cons (ps_if (pt_cmpR op_eq (pv 1) pe_int (nomark _)) (pss_one (ps_set (i := 3) sc_law_right.nd rfl (.inl rfl) (pe_op op_cat (pe_lst (pa_cons (pe_tup pa_nil) pa_nil)) (pe_slice (sl_listK K) (pe_call (ok_law_mixed T) (hr.mono (by decide)) (by rfl) T.g_law_mixed T.F_law_mixed.kp T.b_law_mixed .nil pass0 (pa_cons (pv 0) (pa_cons (pv 3) pa_nil))) po_none (po_some pe_int))))) pss_nil)
      (pss_cons (ps_set (i := 4) sc_law_right.nd rfl (.inl rfl) (pe_dnewT (P := P) (w := w)))
      (pss_cons (ps_for PassesOwn.never rfl (pi_listK K (pv 3)) (pg_name (i := 5) sc_law_right.nd rfl (.inl rfl)) (pss_cons (ps_dputT (K := K) (P := P) (w := w) hr.units (pv 4) (pv 5) (pe_call (ok_law_is_due T) (hr.mono (by decide)) (by rfl) T.g_law_is_due T.F_law_is_due.kp T.b_law_is_due .nil pass0 (pa_cons (pv 1) (pa_cons (pv 2) (pa_cons (pv 5) pa_nil)))) rfl)
      (pss_one (ps_if (pt_not (pt_val (pe_call (ok_law_is_flag T) (hr.mono (by decide)) (by rfl) T.g_law_is_flag T.F_law_is_flag.kp T.b_law_is_flag .nil pass0 (pa_cons (pe_call (ok_is_enough T) hr (by rfl) T.g_is_enough T.F_is_enough.kp T.b_is_enough .nil pass0 (pa_cons (pv 1) (pa_cons (pv 2) (pa_cons (pv 5) pa_nil)))) (pa_cons (pe_dgetK (K := K) (P := P) (w := w) hr.units (pv 4) (pv 5) (fun _ _ => rfl)) pa_nil))))) (pss_one (ps_ret pe_bl)) pss_nil))))
      (pss_cons (ps_for PassesOwn.never rfl (pi_listK K (pv 3)) (pg_name (i := 5) sc_law_right.nd rfl (.inl rfl)) (pss_one (ps_for PassesOwn.never rfl (pi_listK K (pv 3)) (pg_name (i := 8) sc_law_right.nd rfl (.inr rfl)) (pss_one (ps_if (PW.pt (pw_and (pt_val (pe_dgetK (K := K) (P := P) (w := w) hr.units (pv 4) (pv 5) (fun _ _ => rfl))) (pw_and (pt_val (pe_callB (call_allK (K := K) rfl) (by rfl) T.z_all (by decide +kernel) (pa_cons (pe_lc (own := [("c", 9)]) rfl sc_law_right.nd (pi_tupK K (pv 5)) (blkOk_by (N := N_law_right) (sc := defScope s_law_right) (by decide +kernel)) (fun _ _ _ _ _ => (pg_name (i := 9) sc_law_right.nd rfl (.inl rfl))) (fun _ _ _ _ _ => pts_nil) (fun _ _ _ _ _ => (pe_cmpR (op_inT (K := K) (room65 hr)) (pv 9) (pv 8) (by rfl)))) pa_nil))) (pw_and1 (pt_not (pt_val (pe_dgetK (K := K) (P := P) (w := w) hr.units (pv 4) (pv 8) (fun _ _ => rfl)))))))) (pss_one (ps_ret pe_bl)) pss_nil)))))
      (pss_cons (ps_set (i := 6) sc_law_right.nd rfl (.inl rfl) (pe_lst (pa_cons pe_non (pa_cons pe_int (pa_cons pe_str (pa_cons (pe_lst (pa_cons pe_int pa_nil)) (pa_cons (pe_tup (pa_cons (pv 1) pa_nil)) (pa_cons (pe_tup (pa_cons (pe_un un_neg pe_int) pa_nil)) (pa_cons (pe_tup (pa_cons pe_int (pa_cons pe_int pa_nil))) (pa_cons (pe_tup (pa_cons pe_int (pa_cons pe_int pa_nil))) (pa_cons (pe_tup (pa_cons pe_bl pa_nil)) (pa_cons (pe_tup (pa_cons pe_str pa_nil)) (pa_cons pe_dnewK (pa_cons (pe_call0 (ok_law_deep T) (hr.mono (by decide)) (by rfl) T.g_law_deep T.F_law_deep.kp T.b_law_deep .nil pass0) pa_nil))))))))))))))
      (pss_cons (ps_set (i := 7) sc_law_right.nd rfl (.inl rfl) (pe_call (ok_law_some T) (hr.mono (by decide)) (by rfl) T.g_law_some T.F_law_some.kp T.b_law_some .nil pass0 (pa_cons (pv 0) (pa_cons (pv 6) pa_nil))))
      (pss_cons (ps_if (pt_val (pe_call (ok_law_is_lot T) (hr.mono (by decide)) (by rfl) T.g_law_is_lot T.F_law_is_lot.kp T.b_law_is_lot .nil pass0 (pa_cons (pv 1) (pa_cons (pv 7) pa_nil)))) (pss_one (ps_ret pe_bl)) pss_nil)
      (pss_cons (ps_if (pt_cmpR op_isnot_bl (pe_call (ok_is_enough T) hr (by rfl) T.g_is_enough T.F_is_enough.kp T.b_is_enough .nil pass0 (pa_cons (pv 1) (pa_cons (pv 2) (pa_cons (pv 7) pa_nil)))) pe_bl (nomark _)) (pss_one (ps_ret pe_bl)) pss_nil)
      (pss_one (ps_ret (pe_cmpR op_eq (pe_cmpR op_notN (pe_call (ok_order T) (hr.mono (by decide)) (by rfl) T.g_order T.F_order.kp T.b_order .nil pass0 (pa_cons (pv 1) (pa_cons (pv 2) pa_nil))) pe_non (nomark _)) (pe_dgetK (K := K) (P := P) (w := w) hr.units (pv 4) (pe_tup pa_nil) (fun _ _ => rfl)) (nomark _))))))))))))), ?_⟩
    refine ⟨_, rfl, n, rfl, n5, fun pe xe qs H1 npe s1 hpe hxe pa => ?_⟩
    have hql : qs.length ≤ 32 := by rw [pa.len]; exact p32
    try dsimp only [tNext, tSeq, tAsg, gName, List.set_cons_succ, List.set_cons_zero]
    refine nx_skip (α := Addr × List V × List (List Int)) (Fa := fun x H' => KeepQ h c H H' ∧ x.1 ≠ h ∧ x.1 ≠ c ∧ H' x.1 = some (.lst x.2.1) ∧ DhAll K H' x.2.1 (x.2.2.map ctD) ∧ (∀ l ∈ x.2.2, Asc n (-1) l) ∧ [] ∈ x.2.2 ∧ x.2.2.length ≤ 40) (σf := fun x => [some (.ref h), some (.int n), some v, some (.ref x.1), none, none, none, none, none, none]) ?rest ?first
    case first =>
      intro go
      obtain ⟨peh, pec⟩ := hx.ne npe
      have hx1 := hx.same s1
      refine ⟨_, rfl, rfl, _, rfl, ?_⟩
      refine ite2 (fun _ => ?_) (fun _ => ?_)
      · refine ⟨by show 0 ≤ sizeLine; decide, fun t nt => ⟨by show 1 ≤ sizeLine; decide, fun p1 np1 => ?_⟩⟩
        have s2 : Same H1 (upd H1 t (.tup [])) := same_new nt
        have ht : (upd H1 t (.tup [])) t = some (.tup []) := upd_same
        generalize upd H1 t (.tup []) = H2 at s2 ht np1 ⊢
        have s3 : Same H2 (upd H2 p1 (.lst [.ref t])) := same_new np1
        have hp1 : (upd H2 p1 (.lst [.ref t])) p1 = some (.lst [.ref t]) := upd_same
        obtain ⟨p1h, p1c⟩ := (hx1.same s2).ne np1
        generalize upd H2 p1 (.lst [.ref t]) = H3 at s3 hp1 ⊢
        have s13 := s2.trans s3
        have dt3 : Dh K H3 (.ref t) (ctD []) := dh_ct (c := []) (SqT.of (s3 _ _ ht))
        refine ⟨_, rfl, _, rfl, h, c, pe, xe, rfl, hx1.same s13, SqL.of (s13 _ _ hpe), by rw [hxe.length, List.length_map]; omega, fun d ys H4 nd k4 hd pm => ?_⟩
        refine ⟨5, rfl, d, _, rfl, SqL.of hd, fun p2 np2 => ?_⟩
        rw [cut_first _ (by decide)]
        obtain ⟨gs, pg, hg⟩ := perm_pats (hxe.ext (.of s13)) pm
        have k14 : KeepQ h c H1 H4 := (KeepQ.of hx1 s13).trans k4
        have hg4 := hg.ext (k4.ext (hx1.same s13))
        have s5 : Same H4 (upd H4 p2 (.lst (ys.take (5 : Int).toNat))) := same_new np2
        have hp2 : (upd H4 p2 (.lst (ys.take (5 : Int).toNat))) p2 = some (.lst (ys.take (5 : Int).toNat)) := upd_same
        generalize upd H4 p2 (.lst (ys.take (5 : Int).toNat)) = H5 at s5 hp2 ⊢
        have hp15 : H5 p1 = some (.lst [.ref t]) := s5 _ _ (k4.rest p1 _ p1h p1c hp1)
        have hgl := pg.length_eq
        refine ⟨p1, p2, _, _, rfl, rfl, hp15, hp2, Nat.le_of_lt (sz_small (by rw [List.length_take]; show 1 + min 5 ys.length ≤ 100000; omega)), fun p3 np3 => ?_⟩
        have s6 : Same H5 (upd H5 p3 (.lst ([.ref t] ++ ys.take (5 : Int).toNat))) := same_new np3
        have k16 : KeepQ h c H1 (upd H5 p3 (.lst ([.ref t] ++ ys.take (5 : Int).toNat))) := (k14.same s5).same s6
        obtain ⟨p3h, p3c⟩ := (k14.same s5).pool.ne np3
        refine go ⟨p3, [.ref t] ++ ys.take (5 : Int).toNat, [] :: gs.take 5⟩ _ ⟨(KeepQ.of hx s1).trans k16, p3h, p3c, upd_same, ?_, fun l hl => ?_, List.mem_cons_self .., ?_⟩
        · have z := dhAll_take (5 : Int).toNat ((hg4.ext (.of s5)).ext (.of s6))
          rw [← List.map_take] at z
          exact .cons (((dt3.ext (k4.ext (hx1.same s13))).ext (.of s5)).ext (.of s6)) z
        · rcases List.mem_cons.mp hl with u | u
          · rw [u]; exact True.intro
          · exact (pa.all l).mp (pg.mem_iff.mp (List.mem_of_mem_take u))
        · rw [List.length_cons, List.length_take]
          omega
      · exact go ⟨pe, xe, qs⟩ H1 ⟨.of hx s1, peh, pec, hpe, hxe, fun l hl => (pa.all l).mp hl, (pa.all []).mpr True.intro, show qs.length ≤ 40 by omega⟩
    case rest =>
      rintro ⟨pe, xe, es⟩ B ⟨kB, peh, pec, hpe, hxe, hAsc, hnil, hel⟩
      dsimp only at peh pec hpe hxe hAsc hnil hel
      have hvB := hv.ext (kB.ext hx)
      have hxl : xe.length = es.length := by rw [hxe.length, List.length_map]
      try dsimp only [tNext, tSeq, tAsg, gName, List.set_cons_succ, List.set_cons_zero]
      intro f nf
      obtain ⟨fh, fc⟩ := kB.pool.ne nf
      have s1 : Same B (upd B f (DTO P w f (ValF []))) := same_new nf
      have hf1 : (upd B f (DTO P w f (ValF []))) f = some (DTO P w f (ValF [])) := upd_same
      generalize upd B f (DTO P w f (ValF [])) = H1 at s1 hf1 ⊢
      try dsimp only [tNext, tSeq, tAsg, gName, List.set_cons_succ, List.set_cons_zero]
      refine ⟨_, rfl, pe, rfl, ⟨_, SqL.of (s1 _ _ hpe)⟩, for_list (K := K) (xs := xe) (fun j σ H' => ∃ y5 : Option V, σ = [some (.ref h), some (.int n), some v, some (.ref pe), some (.ref f), y5, none, none, none, none] ∧ Same B H' ∧ Flg K P w B f n ps (es.take j) H') ⟨_, rfl, s1, [], hf1, (fun p hp => by cases hp), Nat.zero_le _, fun l hl => by cases hl⟩ (fun j σ H' _ ⟨_, _, s', _⟩ => SqL.of (s' _ _ hpe)) ?_ ?_⟩
      · rintro j x σ H2 hxj ⟨y5, rfl, s2, ⟨L, hf2, hk, hLl, hL⟩⟩
        obtain ⟨d, hd, hxd⟩ := dhAll_at hxe hxj
        obtain ⟨l, hl, rfl⟩ := map_at hd
        have hla := hAsc l (List.mem_of_getElem? hl)
        have hjl := (List.getElem?_eq_some_iff.mp hl).1
        obtain ⟨b, rfl, hb⟩ := ct_inv hxd
        have htl := List.length_take (i := j) (l := es)
        try dsimp only [tNext, tSeq, tAsg, gName, List.set_cons_succ, List.set_cons_zero]
        refine ⟨_, rfl, _, rfl, _, rfl, n, v, .ref b, ps, l, rfl, ls, hvB.ext (.of s2), hxd.ext (.of s2), fun H3 s3 => ?_⟩
        have s23 := s2.trans s3
        refine ⟨_, rfl, _, rfl, f, b, l, L, rfl, rfl, s3 _ _ hf2, fun p hp => (Ext.of s23).sqT (hk p hp), (Ext.of s23).sqT hb, by omega, ?_⟩
        have s4 : Same B (upd H3 f (DTO P w f (ValF (storeT L b l (.bl (dueB n ps l)))))) := Same.put nf s23
        have hf4 : (upd H3 f (DTO P w f (ValF (storeT L b l (.bl (dueB n ps l)))))) f = some (DTO P w f (ValF (storeT L b l (.bl (dueB n ps l))))) := upd_same
        generalize upd H3 f (DTO P w f (ValF (storeT L b l (.bl (dueB n ps l))))) = H4 at s4 hf4 ⊢
        have hk4 : KeysT K B (storeT L b l (.bl (dueB n ps l))) := fun p hp => by
          rcases storeT_keys p hp with ⟨p', hp', e1, e2⟩ | ⟨e1, e2⟩
          · rw [e1, e2]; exact hk p' hp'
          · rw [e1, e2]; exact hb
        have hL4 : ∀ l' ∈ es.take (j + 1), findT (storeT L b l (.bl (dueB n ps l))) l' = some (.bl (dueB n ps l')) := fun l' hl' => by
          rw [findT_store]
          by_cases e : l' = l
          · rw [if_pos e, e]
          · rw [if_neg e]
            rw [List.take_add_one, hl] at hl'
            rcases List.mem_append.mp hl' with u | u
            · exact hL l' u
            · exact absurd (by simpa using u) e
        have hLl4 : (storeT L b l (.bl (dueB n ps l))).length ≤ (es.take (j + 1)).length := by
          have := storeT_len (L := L) (b := b) (q := l) (v := .bl (dueB n ps l))
          rw [List.length_take] at hLl ⊢
          omega
        have hself := hL4 l (by rw [List.take_add_one, hl]; exact List.mem_append_right _ (List.mem_singleton.mpr rfl))
        try dsimp only [tNext, tSeq, tAsg, gName, List.set_cons_succ, List.set_cons_zero]
        refine ⟨_, rfl, _, rfl, _, rfl, n, v, .ref b, ps, ctD l, rfl, ls, hvB.ext (.of s4), hxd.ext (.of s4), fun H5 s5 => ?_⟩
        rw [hla.isPat, Bool.true_and, ints_ct]
        have s45 := s4.trans s5
        refine ⟨_, rfl, _, rfl, f, b, l, _, _, rfl, rfl, s5 _ _ hf4, fun p hp => (Ext.of s45).sqT (hk4 p hp), (Ext.of s45).sqT hb, hself, ?_⟩
        refine ⟨_, _, rfl, fun H6 s6 => ⟨_, rfl, ?_⟩⟩
        rw [decide_eq_true rfl]
        refine iteF ?_
        exact ⟨_, rfl, s45.trans s6, _, s6 _ _ (s5 _ _ hf4), hk4, hLl4, hL4⟩
      · rintro σ H2 ⟨y5, rfl, s2, hF⟩
        rw [hxl, List.take_length] at hF
        obtain ⟨L, hf2, hk, hLl, hL⟩ := hF
        try dsimp only [tNext, tSeq, tAsg, gName, List.set_cons_succ, List.set_cons_zero]
        -- a flag that is read
        have get : ∀ (H' : Hp) (b : Addr) (l : List Int), Same H2 H' → l ∈ es → SqT K B b (l.map V.int) → ∃ (a b' : Addr) (q : List Int) (L' : TupL) (u : V), V.ref f = V.ref a ∧ V.ref b = V.ref b' ∧ H' a = some (DTO P w a (ValF L')) ∧ KeysT K H' L' ∧ SqT K H' b' (q.map V.int) ∧ findT L' q = some u ∧ u = .bl (dueB n ps l) := fun H' b l s' hl hb =>
          ⟨f, b, l, L, _, rfl, rfl, s' _ _ hf2, fun p hp => (Ext.of (s2.trans s')).sqT (hk p hp), (Ext.of (s2.trans s')).sqT hb, hL l hl, rfl⟩
        refine ⟨_, rfl, pe, rfl, ⟨_, SqL.of (s2 _ _ hpe)⟩, for_list (K := K) (xs := xe) (fun j σ H' => ∃ y5 y8 : Option V, σ = [some (.ref h), some (.int n), some v, some (.ref pe), some (.ref f), y5, none, none, y8, none] ∧ Same H2 H') ⟨_, _, rfl, Same.refl H2⟩ (fun j σ H' _ ⟨_, _, _, s'⟩ => SqL.of (s' _ _ (s2 _ _ hpe))) ?_ ?_⟩
        · rintro j x σ H3 hxj ⟨y5, y8, rfl, s3⟩
          obtain ⟨d, hd, hxd⟩ := dhAll_at hxe hxj
          obtain ⟨l, hl, rfl⟩ := map_at hd
          have hlm := List.mem_of_getElem? hl
          obtain ⟨b, rfl, hb⟩ := ct_inv hxd
          try dsimp only [tNext, tSeq, tAsg, gName, List.set_cons_succ, List.set_cons_zero]
          refine ⟨_, rfl, pe, rfl, ⟨_, SqL.of (s3 _ _ (s2 _ _ hpe))⟩, for_list (K := K) (xs := xe) (fun k σ H' => ∃ y8 : Option V, σ = [some (.ref h), some (.int n), some v, some (.ref pe), some (.ref f), some (.ref b), none, none, y8, none] ∧ Same H2 H') ⟨_, rfl, s3⟩ (fun k σ H' _ ⟨_, _, s'⟩ => SqL.of (s' _ _ (s2 _ _ hpe))) ?_ ?_⟩
          · rintro k y σ H4 hyk ⟨y8, rfl, s4⟩
            obtain ⟨d2, hd2, hyd⟩ := dhAll_at hxe hyk
            obtain ⟨o, ho, rfl⟩ := map_at hd2
            have hom := List.mem_of_getElem? ho
            obtain ⟨b2, rfl, hb2⟩ := ct_inv hyd
            have s24 := s2.trans s4
            try dsimp only [tNext, tSeq, tAsg, gName, List.set_cons_succ, List.set_cons_zero]
            obtain ⟨a1, a2, a3, a4, a5, g1, g2, g3, g4, g5, g6, g7⟩ := get H4 b l s4 hlm hb
            refine ⟨_, rfl, _, rfl, a1, a2, a3, a4, a5, g1, g2, g3, g4, g5, g6, ?_⟩
            rw [g7]
            refine ⟨_, rfl, ?_⟩
            cases c1 : dueB n ps l with
            | false => exact iteF ⟨_, rfl, s4⟩
            | true =>
              refine iteT ?_
              have hbl := (hAsc l hlm).len (by omega)
              refine ⟨_, rfl, b, rfl, ⟨_, (Ext.of s24).sqT hb⟩, fun D nD => lc_tup (K := K) (xs := l.map V.int) (fun i H' => Same H4 H' ∧ H' D = some (.lst (((l.take i).map fun x => decide (x ∈ o)).map V.bl))) ⟨same_new nD, upd_same⟩ (fun i H' _ ⟨s', _⟩ => (Ext.of (s24.trans s')).sqT hb) ?_ ?_⟩
              · rintro i z H5 hz ⟨s5, hD⟩
                obtain ⟨zi, rfl, hzi⟩ := int_at hz
                refine ⟨rfl, ?_⟩
                dsimp only [tYes]
                rw [if_pos rfl]
                refine ⟨_, rfl, _, rfl, .int zi, o.map PyData.int, .int zi, dp_ct (hyd.ext (.of (s24.trans s5))), shaped_int zi, shaped_ct o, ?_⟩
                rw [any_mem]
                refine ⟨_, hD, sz_small (by rw [List.length_map, List.length_map]; have := List.length_take (i := i) (l := l); omega), Same.put nD s5, ?_⟩
                rw [List.take_add_one, hzi, List.map_append, List.map_append]
                exact upd_same
              · rintro H5 ⟨s5, hD⟩
                rw [List.length_map, List.take_length] at hD
                refine ⟨D, _, rfl, SqL.of hD, _, rfl, ?_⟩
                have e : (l.map fun x => decide (x ∈ o)).all id = sub1 l o := by
                  unfold sub1
                  rw [List.all_map]
                  rfl
                rw [e]
                cases c2 : sub1 l o with
                | false => exact iteF ⟨_, rfl, s4.trans s5⟩
                | true =>
                  refine iteT ?_
                  obtain ⟨a1, a2, a3, a4, a5, g1, g2, g3, g4, g5, g6, g7⟩ := get H5 b2 o (s4.trans s5) hom hb2
                  refine ⟨_, rfl, _, rfl, a1, a2, a3, a4, a5, g1, g2, g3, g4, g5, g6, ?_⟩
                  rw [g7]
                  refine ⟨_, rfl, ?_⟩
                  have c3 : dueB n ps o = true := by
                    rw [dueB_iff n5 ls.aall] at c1 ⊢
                    exact due_mono (sub1_iff.mp c2) c1
                  rw [c3]
                  exact iteF ⟨_, rfl, s4.trans s5⟩
          · rintro σ H4 ⟨y8, rfl, s4⟩
            exact ⟨_, _, rfl, s4⟩
        · rintro σ H3 ⟨y5, y8, rfl, s3⟩
          have s03 := s2.trans s3
          have sz1 : (1 : Nat) ≤ sizeLine := by decide
          have sz2 : (2 : Nat) ≤ sizeLine := by decide
          refine ⟨sz1, fun p1 n1 => ?_⟩
          have t1 : Same H3 (upd H3 p1 (.lst [.int 0])) := same_new n1
          have o1 : Odd1 K (upd H3 p1 (.lst [.int 0])) (.ref p1) := odd_lst upd_same
          generalize upd H3 p1 (.lst [.int 0]) = G1 at t1 o1 ⊢
          refine ⟨_, rfl, sz1, fun p2 n2 => ?_⟩
          have t2 : Same G1 (upd G1 p2 (.tup [.int n])) := same_new n2
          have o2 : Odd1 K (upd G1 p2 (.tup [.int n])) (.ref p2) := odd_tup upd_same (.cons (.int _) .nil) (show 1 ≤ 1000 by decide)
          generalize upd G1 p2 (.tup [.int n]) = G2 at t2 o2 ⊢
          refine ⟨1, rfl, sz1, fun p3 n3 => ?_⟩
          have t3 : Same G2 (upd G2 p3 (.tup [.int (-1)])) := same_new n3
          have o3 : Odd1 K (upd G2 p3 (.tup [.int (-1)])) (.ref p3) := odd_tup upd_same (.cons (.int _) .nil) (show 1 ≤ 1000 by decide)
          generalize upd G2 p3 (.tup [.int (-1)]) = G3 at t3 o3 ⊢
          refine ⟨sz2, fun p4 n4 => ?_⟩
          have t4 : Same G3 (upd G3 p4 (.tup [.int 0, .int 0])) := same_new n4
          have o4 : Odd1 K (upd G3 p4 (.tup [.int 0, .int 0])) (.ref p4) := odd_tup upd_same (.cons (.int _) (.cons (.int _) .nil)) (show 2 ≤ 1000 by decide)
          generalize upd G3 p4 (.tup [.int 0, .int 0]) = G4 at t4 o4 ⊢
          refine ⟨sz2, fun p5 n5' => ?_⟩
          have t5 : Same G4 (upd G4 p5 (.tup [.int 1, .int 0])) := same_new n5'
          have o5 : Odd1 K (upd G4 p5 (.tup [.int 1, .int 0])) (.ref p5) := odd_tup upd_same (.cons (.int _) (.cons (.int _) .nil)) (show 2 ≤ 1000 by decide)
          generalize upd G4 p5 (.tup [.int 1, .int 0]) = G5 at t5 o5 ⊢
          refine ⟨sz1, fun p6 n6 => ?_⟩
          have t6 : Same G5 (upd G5 p6 (.tup [.bl true])) := same_new n6
          have o6 : Odd1 K (upd G5 p6 (.tup [.bl true])) (.ref p6) := odd_tup upd_same (.cons (.bl _) .nil) (show 1 ≤ 1000 by decide)
          generalize upd G5 p6 (.tup [.bl true]) = G6 at t6 o6 ⊢
          refine ⟨sz1, fun p7 n7 => ?_⟩
          have t7 : Same G6 (upd G6 p7 (.tup [.str (Str.ofString "0")])) := same_new n7
          have o7 : Odd1 K (upd G6 p7 (.tup [.str (Str.ofString "0")])) (.ref p7) := odd_tup upd_same (.cons (.str _) .nil) (show 1 ≤ 1000 by decide)
          generalize upd G6 p7 (.tup [.str (Str.ofString "0")]) = G7 at t7 o7 ⊢
          refine fun p8 n8 => ?_
          have t8 : Same G7 (upd G7 p8 (.dK [])) := same_new n8
          have o8 : Odd1 K (upd G7 p8 (.dK [])) (.ref p8) := odd_dct upd_same
          generalize upd G7 p8 (.dK []) = G8 at t8 o8 ⊢
          refine ⟨rfl, fun v9 G9 t9 h9 => ?_⟩
          have o9 : Odd1 K G9 v9 := ⟨_, h9, fun ds z => by
            have z : Dt.tup [nestD 35] = Dt.tup ds := z
            cases z
            decide⟩
          have u7 := t8.trans t9
          have u6 := t7.trans u7
          have u5 := t6.trans u6
          have u4 := t5.trans u5
          have u3 := t4.trans u4
          have u2 := t3.trans u3
          have u1 := t2.trans u2
          have u0 := t1.trans u1
          have hall : ∀ x ∈ [V.non, .int 0, .str (Str.ofString "0"), .ref p1, .ref p2, .ref p3, .ref p4, .ref p5, .ref p6, .ref p7, .ref p8, v9], Odd1 K G9 x := fun x hx => by
            simp only [List.mem_cons, List.not_mem_nil, or_false] at hx
            rcases hx with rfl | rfl | rfl | rfl | rfl | rfl | rfl | rfl | rfl | rfl | rfl | rfl
            · exact ⟨_, .non, fun ds z => by cases z⟩
            · exact ⟨_, .int _, fun ds z => by cases z⟩
            · exact ⟨_, .str _, fun ds z => by cases z⟩
            · exact o1.ext (.of u1)
            · exact o2.ext (.of u2)
            · exact o3.ext (.of u3)
            · exact o4.ext (.of u4)
            · exact o5.ext (.of u5)
            · exact o6.ext (.of u6)
            · exact o7.ext (.of u7)
            · exact o8.ext (.of t9)
            · exact o9
          clear o1 o2 o3 o4 o5 o6 o7 o8 o9 n1 n2 n3 n4 n5' n6 n7 n8 h9 u1 u2 u3 u4 u5 u6 u7 t1 t2 t3 t4 t5 t6 t7 t8 t9
          refine ⟨by show 12 ≤ sizeLine; decide, fun o no => ?_⟩
          have sB9 := s03.trans u0
          obtain ⟨oh, oc⟩ := (kB.pool.same sB9).ne no
          generalize hxs : [V.non, .int 0, .str (Str.ofString "0"), .ref p1, .ref p2, .ref p3, .ref p4, .ref p5, .ref p6, .ref p7, .ref p8, v9] = xs at hall
          have hxsl : xs.length = 12 := by rw [← hxs]; rfl
          have t10 : Same G9 (upd G9 o (.lst xs)) := same_new no
          have ho : (upd G9 o (.lst xs)) o = some (.lst xs) := upd_same
          have hall : ∀ x ∈ xs, Odd1 K (upd G9 o (.lst xs)) x := odd_all (.of t10) hall
          clear hxs
          generalize upd G9 o (.lst xs) = G10 at t10 ho hall ⊢
          have sB := sB9.trans t10
          have s210 := (s3.trans u0).trans t10
          refine ⟨_, rfl, _, rfl, h, c, o, xs, rfl, kB.pool.same sB, oh, oc, ho, by omega, by omega, fun x G11 hxm k11 => ?_⟩
          obtain ⟨d, hd, hds⟩ := (hall x hxm).ext (k11.ext (kB.pool.same sB))
          have kB11 : KeepQ h c B G11 := (KeepQ.of kB.pool sB).trans k11
          have eB := kB11.ext kB.pool
          have hf11 : G11 f = some (DTO P w f (ValF L)) := k11.rest f _ fh fc (s210 _ _ hf2)
          refine ⟨_, rfl, _, rfl, n, x, d, rfl, hd, hds, fun b G12 s12 hb => ⟨_, rfl, ?_⟩⟩
          have kB12 := kB11.same s12
          cases b with
          | true => exact iteT (q G12 (kB.trans kB12))
          | false =>
            refine iteF ?_
            have ep : d.isPat n = false := by
              cases z : d.isPat n with
              | false => rfl
              | true => exact absurd (hb z) (by decide)
            refine ⟨_, rfl, _, rfl, _, rfl, n, v, x, ps, d, rfl, ls, (hvB.ext eB).ext (.of s12), hd.ext (.of s12), fun G13 s13 => ?_⟩
            rw [ep, Bool.false_and]
            refine ⟨_, _, rfl, rfl, _, rfl, ?_⟩
            rw [decide_eq_true rfl]
            refine iteF ?_
            have s1113 := s12.trans s13
            refine ⟨_, rfl, _, rfl, n, v, ps, rfl, ls.ok, (hvB.ext eB).ext (.of s1113), fun u G14 s14 hu => ⟨rfl, ?_⟩⟩
            have s1114 := s1113.trans s14
            refine ⟨_, rfl, by show 0 ≤ sizeLine; decide, fun t nt => ?_⟩
            have s15 : Same G14 (upd G14 t (.tup [])) := same_new nt
            have ht : (upd G14 t (.tup [])) t = some (.tup []) := upd_same
            generalize upd G14 t (.tup []) = G15 at s15 ht ⊢
            have s1115 := s1114.trans s15
            refine ⟨f, t, [], L, _, rfl, rfl, s1115 _ _ hf11, fun p hp => (Ext.of s1115).sqT (eB.sqT (hk p hp)), SqT.of ht, hL [] hnil, ?_⟩
            have eo := order_due ls
            have fin : ∀ b : Bool, b = dueB n ps [] → (V.bl b : V) = V.bl (dueB n ps []) := fun b e => by rw [e]
            cases ho2 : (ords n (partL n ps) (rgI n)).head? with
            | none =>
              rw [ho2] at hu eo
              have hu : u = .non := hu
              subst hu
              refine ⟨rfl, ?_⟩
              rw [decide_eq_true (show V.bl (!decide (V.non = V.non)) = V.bl (dueB n ps []) by rw [← eo]; rfl)]
              exact q _ (kB.trans (kB11.same s1115))
            | some r =>
              rw [ho2] at hu eo
              obtain ⟨b2, rfl, hb2⟩ := ct_inv (show Dh K G14 u (ctD r) from hu)
              refine ⟨rfl, ?_⟩
              rw [decide_eq_true (show V.bl (!decide (V.ref b2 = V.non)) = V.bl (dueB n ps []) by
                rw [← eo, decide_eq_false (by intro z; cases z), decide_eq_true (by intro z; cases z)]
                rfl)]
              exact q _ (kB.trans (kB11.same s1115))

end
end Fm
namespace Fm
open PySem PySem.Spec PyProof.Rows L2
section
variable {P : Program} {w : World} {K : PySem.W.Frag} {mg : Str → Option Value} {base : Heap}

/-! ### the law -/
def spLaw (K : PySem.W.Frag) : Sp := fun vs H Q _ => ∃ (a : Addr) (ns : List Int), vs = [.ref a] ∧ SqL K H a (ns.map V.int) ∧ ns.length ≤ 63 ∧ ∀ H', Q (.bl true) H'
def nonP : Option (List Int) → PyData
  | some c => ctP c
  | none => .none
theorem lay_non (x : Option (List Int)) : (nonP x).canLay0 = true ∧ (nonP x).depth ≤ 1 := by
  cases x with
  | none => exact ⟨rfl, Nat.zero_le _⟩
  | some c => exact lay_ct c
theorem shaped_non (l : List (Option (List Int))) : SeqAt.shaped (.list (l.map nonP)) = true := by
  obtain ⟨h1, h2⟩ := lay_all (f := nonP) (n := 1) lay_non l
  exact shaped_of (n := 2) ⟨h1, Nat.succ_le_succ h2⟩ (by decide)
theorem non_list (cs : List (List Int)) : (cs.map some ++ [none]).map nonP = cs.map ctP ++ [.none] := by
  rw [List.map_append, List.map_map]
  rfl
theorem eqv_more : ∀ (l : List PyData) (x : PyData), PyData.eqvAll l (l ++ [x]) = false
  | [], x => by rw [List.nil_append, PyData.eqvAll]
  | y :: l, x => by
    rw [List.cons_append, PyData.eqvAll, eqv_more l x, Bool.and_false]
theorem dp_app {H : Hp} : ∀ {xs ys : List V} {ds es : List PyData}, DpAll K H xs ds → DpAll K H ys es → DpAll K H (xs ++ ys) (ds ++ es)
  | [], _, [], _, .nil, h => h
  | _ :: _, _, _ :: _, _, .cons h t, h2 => .cons h (dp_app t h2)
theorem seven {d : Int} (h0 : 0 ≤ d) (h7 : d < 7) : ∃ m : Nat, 1 ≤ m ∧ m ≤ 5 ∧ ([.int 1, .int 2, .int 3, .int 3, .int 4, .int 4, .int 5] : List V)[d.toNat]? = some (.int m) := by
  have : d = 0 ∨ d = 1 ∨ d = 2 ∨ d = 3 ∨ d = 4 ∨ d = 5 ∨ d = 6 := by omega
  rcases this with rfl | rfl | rfl | rfl | rfl | rfl | rfl
  · exact ⟨1, by decide, by decide, rfl⟩
  · exact ⟨2, by decide, by decide, rfl⟩
  · exact ⟨3, by decide, by decide, rfl⟩
  · exact ⟨3, by decide, by decide, rfl⟩
  · exact ⟨4, by decide, by decide, rfl⟩
  · exact ⟨4, by decide, by decide, rfl⟩
  · exact ⟨5, by decide, by decide, rfl⟩
theorem ok_law (T : Txt K mg) {f : Addr} {fd : FuncData} (F : Fun K "law" "law" s_law f fd) : FnOk P w K mg base CX0 13 f fd ["script"] (spLaw K) := by
  refine F.ok sc_law (fun vs H Q E h => ?_) (fun cdv A outer s H vs Q E hr h => ?_)
  · obtain ⟨_, _, rfl, _⟩ := h
    rfl
  · obtain ⟨a, ns, rfl, ha, hl, q⟩ := h
    refine ⟨_, (pss_cons (ps_set (i := 1) sc_law.nd rfl (.inl rfl) (pe_call (ok_law_pool T) (hr.mono (by decide)) (by rfl) T.g_law_pool T.F_law_pool.kp T.b_law_pool .nil pass0 (pa_cons (pv 0) pa_nil)))
      (pss_cons (ps_for PassesOwn.never rfl (pi_range1 (by rfl) T.z_range (pa_cons pe_int pa_nil)) (pg_name (i := 2) sc_law.nd rfl (.inl rfl)) (pss_cons (ps_set (i := 3) sc_law.nd rfl (.inr rfl) (pe_ix (ix_listK K) (pe_lst (pa_cons pe_int (pa_cons pe_int (pa_cons pe_int (pa_cons pe_int (pa_cons pe_int (pa_cons pe_int (pa_cons pe_int pa_nil)))))))) (pe_call (ok_law_draw T) (hr.mono (by decide)) (by rfl) T.g_law_draw T.F_law_draw.kp T.b_law_draw .nil pass0 (pa_cons (pv 1) (pa_cons pe_int pa_nil))) (fun _ _ => rfl)))
      (pss_cons (ps_set (i := 4) sc_law.nd rfl (.inr rfl) (pe_call (ok_law_list T) (hr.mono (by decide)) (by rfl) T.g_law_list T.F_law_list.kp T.b_law_list .nil pass0 (pa_cons (pv 1) (pa_cons (pv 3) pa_nil))))
      (pss_cons (ps_if (pt_not (pt_val (pe_call (ok_law_right T) hr (by rfl) T.g_law_right T.F_law_right.kp T.b_law_right .nil pass0 (pa_cons (pv 1) (pa_cons (pv 3) (pa_cons (pv 4) pa_nil)))))) (pss_one (ps_ret pe_bl)) pss_nil)
      (pss_cons (ps_set (i := 5) sc_law.nd rfl (.inl rfl) (pe_call (ok_trusts T) (hr.mono (by decide)) (by rfl) T.g_trusts T.F_trusts.kp T.b_trusts .nil pass0 (pa_cons (pv 3) (pa_cons (pv 4) pa_nil))))
      (pss_cons (ps_if (PW.pt (pw_or (pt_not (pt_val (pe_callB (call_isiK' K) (by rfl) T.z_isinstance (by decide +kernel) (pa_cons (pv 5) (pa_cons (pe_bltn (v := .ty "list") (by rfl) T.z_list (by decide +kernel) rfl) pa_nil))))) (pw_or (pt_cmpR (op_neK K hr.units) (pv 5) (pe_callB (call_sortTsK (K := K) hr.units) (by rfl) T.z_sorted (by decide +kernel) (pa_cons (pv 5) pa_nil)) (nomark _)) (pw_or1 (pt_cmpR op_eq (pe_callB (call_lenK K) (by rfl) T.z_len PySem.boot_len (pa_cons (pv 5) pa_nil)) pe_int (nomark _)))))) (pss_one (ps_ret pe_bl)) pss_nil)
      (pss_cons (ps_for PassesOwn.never rfl (pi_listK K (pv 5)) (pg_name (i := 6) sc_law.nd rfl (.inl rfl)) (pss_one (ps_if (pt_not (pt_val (pe_call (ok_law_is_least T) (hr.mono (by decide)) (by rfl) T.g_law_is_least T.F_law_is_least.kp T.b_law_is_least .nil pass0 (pa_cons (pv 3) (pa_cons (pv 4) (pa_cons (pv 6) pa_nil)))))) (pss_one (ps_ret pe_bl)) pss_nil)))
      (pss_cons (ps_if (pt_cmpR op_lt (pv 3) pe_int (nomark _)) (pss_one (ps_if (pt_cmpR (op_neK K hr.units) (pv 5) (pe_lc (own := [("lot", 6)]) rfl sc_law.nd (pi_listK K (pe_call (ok_law_patterns T) (hr.mono (by decide)) (by rfl) T.g_law_patterns T.F_law_patterns.kp T.b_law_patterns .nil pass0 (pa_cons (pv 3) pa_nil))) (blkOk_by (N := N_law) (sc := defScope s_law) (by decide +kernel)) (fun _ _ _ _ _ => (pg_name (i := 6) sc_law.nd rfl (.inl rfl))) (fun _ _ _ _ _ => (pts_one (pt_val (pe_call (ok_law_is_least T) (hr.mono (by decide)) (by rfl) T.g_law_is_least T.F_law_is_least.kp T.b_law_is_least .nil pass0 (pa_cons (pv 3) (pa_cons (pv 4) (pa_cons (pv 6) pa_nil))))))) (fun _ _ _ _ _ => (pv 6))) (nomark _)) (pss_one (ps_ret pe_bl)) pss_nil)) pss_nil)
      (pss_cons (ps_expr (pe_bm PySem.F.plainAttrs_list PySem.F.slot_list_append PySem.F.type_list_append mt_append (pv 5) (pa_cons pe_non pa_nil)))
      (pss_one (ps_if (pt_cmpR (op_eqK K hr.units) (pe_call (ok_trusts T) (hr.mono (by decide)) (by rfl) T.g_trusts T.F_trusts.kp T.b_trusts .nil pass0 (pa_cons (pv 3) (pa_cons (pv 4) pa_nil))) (pv 5) (nomark _)) (pss_one (ps_ret pe_bl)) pss_nil)))))))))))
      (pss_one (ps_ret pe_bl)))), ?_⟩
    refine ⟨_, rfl, a, ns, rfl, ha, by omega, fun h c H1 nh s1 hx1 => ?_⟩
    try dsimp only [tNext, tSeq, tAsg, gName, List.set_cons_succ, List.set_cons_zero]
    refine ⟨2, rfl, by decide, by decide, for_range (lo := 0) (n := (2 : Int).toNat) (fun i σ H' => ∃ y2 y3 y4 y5 y6 : Option V, σ = [some (.ref a), some (.ref h), y2, y3, y4, y5, y6] ∧ PoolOk H' h c) ⟨_, _, _, _, _, rfl, hx1⟩ ?_ (fun σ H' _ => q _)⟩
    rintro i σ H2 hi ⟨y2, y3, y4, y5, y6, rfl, hx2⟩
    try dsimp only [tNext, tSeq, tAsg, gName, List.set_cons_succ, List.set_cons_zero]
    refine ⟨by show 7 ≤ sizeLine; decide, fun p0 np0 => ?_⟩
    have s3 : Same H2 (upd H2 p0 (.lst [.int 1, .int 2, .int 3, .int 3, .int 4, .int 4, .int 5])) := same_new np0
    have hp0 : (upd H2 p0 (.lst [.int 1, .int 2, .int 3, .int 3, .int 4, .int 4, .int 5])) p0 = some (.lst [.int 1, .int 2, .int 3, .int 3, .int 4, .int 4, .int 5]) := upd_same
    obtain ⟨p0h, p0c⟩ := hx2.ne np0
    generalize upd H2 p0 (.lst [.int 1, .int 2, .int 3, .int 3, .int 4, .int 4, .int 5]) = H3 at s3 hp0 ⊢
    refine ⟨_, rfl, h, c, 7, rfl, hx2.same s3, by decide, by decide, fun d H4 d0 d7 k4 => ?_⟩
    obtain ⟨n, n1, n5, hn⟩ := seven d0 d7
    refine ⟨p0, _, d, .int n, rfl, rfl, SqL.of (k4.rest p0 _ p0h p0c hp0), at_of (j := d.toNat) (by omega) hn, ?_⟩
    clear hp0 p0h p0c np0 hn d0 d7 hx2 s3
    try dsimp only [tNext, tSeq, tAsg, gName, List.set_cons_succ, List.set_cons_zero]
    refine ⟨_, rfl, _, rfl, h, c, n, rfl, k4.pool, n1, n5, fun v ps H5 k5 ls hv => ?_⟩
    try dsimp only [tNext, tSeq, tAsg, gName, List.set_cons_succ, List.set_cons_zero]
    refine ⟨_, rfl, _, rfl, _, rfl, h, c, n, v, ps, rfl, k5.pool, ls, hv, fun H6 k6 => ⟨_, rfl, iteF ?_⟩⟩
    have hv6 := hv.ext (k6.ext k5.pool)
    have hx6 := k6.pool
    clear k4 k5 k6 hv
    try dsimp only [tNext, tSeq, tAsg, gName, List.set_cons_succ, List.set_cons_zero]
    refine ⟨_, rfl, _, rfl, n, v, ps, rfl, ls, hv6, fun t H7 nt s7 ht => ?_⟩
    obtain ⟨xs, ht7, hxt⟩ := ht
    have hmt := mem_told (ps := ps) n5 ls.aall
    have t5 : ∀ o ∈ toldOf n ps, o.length ≤ 5 := fun o ho => by
      have := ((hmt o).mp ho).1.len (by omega)
      omega
    have tne := told_some n5 ls.aall (asc_rgI n)
    have tso := told_sorted (n := n) (ps := ps)
    have tla := fun qs pa => told_law (qs := qs) n5 ls.aall pa
    have tl32 : (toldOf n ps).length ≤ 32 := by
      unfold toldOf
      rw [(List.mergeSort_perm _ _).length_eq]
      have := List.length_filter_le (fun l => minB (lotsOf n ps) l) (lotsOf n ps)
      have := lots_len (ps := ps) n5
      omega
    have hxl : xs.length = (toldOf n ps).length := by rw [hxt.length, List.length_map]
    try dsimp only [tNext, tSeq, tAsg, gName, List.set_cons_succ, List.set_cons_zero]
    refine ⟨_, rfl, _, _, _, _, _, rfl, .ty _, .base (.lst ht7), kit_ty (show kitB "list" "list" = some true by decide +kernel), _, rfl, ?_⟩
    refine iteF ?_
    refine ⟨_, rfl, _, rfl, ?_⟩
    dsimp only [tNil]
    refine sort_pats (SqL.of ht7) hxt t5 fun p8 ys8 qs8 np8 hys8 e8 => ?_
    have s8 : Same H7 (upd H7 p8 (.lst ys8)) := same_new np8
    have hp8 : (upd H7 p8 (.lst ys8)) p8 = some (.lst ys8) := upd_same
    have hys9 := hys8.ext (.of s8)
    generalize upd H7 p8 (.lst ys8) = H8 at s8 hp8 hys9 ⊢
    rw [tso] at e8
    subst e8
    refine ⟨_, _, dp_cts (SqL.of (s8 _ _ ht7)) (hxt.ext (.of s8)), dp_cts (SqL.of hp8) hys9, shaped_cts _, shaped_cts _, ?_⟩
    rw [eqv_cts, decide_eq_true rfl]
    refine ⟨_, rfl, iteF ?_⟩
    have ht8 := s8 _ _ ht7
    have hxt8 := hxt.ext (.of s8)
    have s68 := s7.trans s8
    clear hys8 hys9 hp8 np8 hxt ht7
    refine ⟨_, rfl, t, _, rfl, .inl (SqL.of ht8), rfl, _, rfl, ?_⟩
    rw [show decide (V.int ((xs.length : Nat) : Int) = V.int 0) = false from decide_eq_false fun z => tne (List.eq_nil_of_length_eq_zero (by injection z with z; omega))]
    refine iteF ?_
    try dsimp only [tNext, tSeq, tAsg, gName, List.set_cons_succ, List.set_cons_zero]
    have hv8 := hv6.ext (.of s68)
    generalize htl : toldOf n ps = tl at hmt t5 tne tso tla tl32 hxl hxt8
    refine ⟨_, rfl, t, rfl, ⟨_, SqL.of ht8⟩, for_list (K := K) (xs := xs) (fun j σ H' => ∃ y6 : Option V, σ = [some (.ref a), some (.ref h), some (.int (0 + (i : Int))), some (.int n), some v, some (.ref t), y6] ∧ Same H8 H') ⟨_, rfl, Same.refl H8⟩ (fun j σ H' _ ⟨_, _, s'⟩ => SqL.of (s' _ _ ht8)) ?_ ?_⟩
    · rintro j x σ H9 hxj ⟨y6, rfl, s9⟩
      obtain ⟨d, hd, hxd⟩ := dhAll_at hxt8 hxj
      obtain ⟨o, ho, rfl⟩ := map_at hd
      have hom := List.mem_of_getElem? ho
      try dsimp only [tNext, tSeq, tAsg, gName, List.set_cons_succ, List.set_cons_zero]
      refine ⟨_, rfl, _, rfl, _, rfl, n, v, x, ps, o, rfl, ls, hv8.ext (.of s9), hxd.ext (.of s9), t5 o hom, fun H10 s10 => ⟨_, rfl, ?_⟩⟩
      rw [((hmt o).mp hom).2]
      exact iteF ⟨_, rfl, s9.trans s10⟩
    · rintro σ H9 ⟨y6', rfl, s9⟩
      have ht9 := s9 _ _ ht8
      have hxt9 := hxt8.ext (.of s9)
      have s69 := s68.trans s9
      try dsimp only [tNext, tSeq, tAsg, gName, List.set_cons_succ, List.set_cons_zero]
      refine nx_skip (α := Option V) (Fa := fun _ H' => Same H6 H' ∧ H' t = some (.lst xs) ∧ DhAll K H' xs (tl.map ctD)) (σf := fun y => [some (.ref a), some (.ref h), some (.int (0 + (i : Int))), some (.int n), some v, some (.ref t), y]) ?rest ?first
      case first =>
        intro go
        refine ⟨_, rfl, _, _, rfl, rfl, _, rfl, ?_⟩
        refine ite2 (fun _ => ?_) (fun _ => go _ _ ⟨s69, ht9, hxt9⟩)
        refine ⟨_, rfl, _, rfl, n, rfl, n5, fun p10 xe qs H10 np10 s10 hp10 hxe pa => ⟨p10, rfl, ⟨_, SqL.of hp10⟩, fun D nD => lc_list (K := K) (xs := xe) (fun j H' => Got K H10 D (((qs.take j).filter fun l => leastB n ps l).map ctD) H') (.zero nD) (fun j H' _ g => SqL.of (g.same _ _ hp10)) ?_ ?_⟩⟩
        · rintro j x H11 hxj g
          obtain ⟨d, hd, hxd⟩ := dhAll_at hxe hxj
          obtain ⟨o, ho, rfl⟩ := map_at hd
          have hoa := (pa.all o).mp (List.mem_of_getElem? ho)
          have hf := take_filter (f := fun l => leastB n ps l) ho
          have hl2 : (((qs.take j).filter fun l => leastB n ps l).map ctD).length ≤ 10000 := by
            rw [List.length_map]
            have := List.length_filter_le (fun l => leastB n ps l) (qs.take j)
            have := List.length_take (i := j) (l := qs)
            have := pa.len
            have := (pow5 n5).2
            omega
          have s1011 := g.same
          have hv11 := hv6.ext (.of ((s69.trans s10).trans s1011))
          refine ⟨rfl, ?_⟩
          refine ⟨_, rfl, _, rfl, _, rfl, n, v, x, ps, o, rfl, ls, hv11, hxd.ext (.of s1011), by have := hoa.len (by omega); omega, fun H12 s12 => ⟨_, rfl, ?_⟩⟩
          cases e : leastB n ps o with
          | true =>
            rw [if_pos rfl, hf, if_pos e, List.map_append]
            exact ⟨_, rfl, g.put nD s12 (hxd.ext (.of (s1011.trans s12))) hl2⟩
          | false =>
            rw [if_neg (by decide), hf, if_neg (by rw [e]; decide), List.append_nil]
            exact g.on s12
        · rintro H11 ⟨s11, acc, hD, hac⟩
          rw [List.take_of_length_le (by rw [hxe.length, List.length_map]; exact Nat.le_refl _), tla qs pa] at hac
          have s911 := s10.trans s11
          refine ⟨_, _, dp_cts (SqL.of (s911 _ _ ht9)) (hxt9.ext (.of s911)), dp_cts (SqL.of hD) hac, shaped_cts _, shaped_cts _, ?_⟩
          rw [eqv_cts, decide_eq_true rfl]
          exact ⟨_, rfl, iteF (go _ _ ⟨s69.trans s911, s911 _ _ ht9, hxt9.ext (.of s911)⟩)⟩
      case rest =>
        rintro y6 H10 ⟨s10, ht10, hxt10⟩
        try dsimp only [tNext, tSeq, tAsg, gName, List.set_cons_succ, List.set_cons_zero]
        refine ⟨_, rfl, .inl ⟨rfl, _, SqL.of ht10⟩, t, xs, .non, rfl, rfl, ht10, sz_small (by omega), ?_⟩
        have ep := Ext.put (ys := xs ++ [V.non]) ht10
        have hx11 : PoolOk (upd H10 t (.lst (xs ++ [V.non]))) h c := ((KeepQ.of hx6 s10).put hx6 nt).pool
        have ht11 : (upd H10 t (.lst (xs ++ [V.non]))) t = some (.lst (xs ++ [V.non])) := upd_same
        have hxt11 := hxt10.ext ep
        have hv11 := (hv6.ext (.of s10)).ext ep
        generalize upd H10 t (.lst (xs ++ [V.non])) = H11 at hx11 ht11 hxt11 hv11 ⊢
        try dsimp only [tNext, tSeq, tAsg, gName, List.set_cons_succ, List.set_cons_zero]
        refine ⟨_, rfl, _, rfl, n, v, ps, rfl, ls, hv11, fun t2 H12 nt2 s12 ht2 => ?_⟩
        obtain ⟨xs2, ht2, hxt2⟩ := ht2
        rw [htl] at hxt2
        have hd2 : Dp K H12 (.ref t) (.list (tl.map ctP ++ [.none])) := .lst (SqL.of (s12 _ _ ht11)) (dp_app (dp_ctAll tl (hxt11.ext (.of s12))) (.cons .non .nil))
        have hsh : SeqAt.shaped (.list (tl.map ctP ++ [.none])) = true := by
          rw [← non_list]
          exact shaped_non _
        refine ⟨_, rfl, .list (tl.map ctP), .list (tl.map ctP ++ [.none]), dp_cts (SqL.of ht2) hxt2, hd2, shaped_cts tl, hsh, ?_⟩
        rw [show PyData.eqv (.list (tl.map ctP)) (.list (tl.map ctP ++ [.none])) = false by rw [PyData.eqv, eqv_more]]
        exact ⟨_, rfl, iteF ⟨_, _, _, _, _, rfl, hx11.same s12⟩⟩

end
end Fm
namespace Fm
open PySem PySem.Spec PyProof.Rows L2
section
variable {P : Program} {w : World} {K : PySem.W.Frag} {mg : Str → Option Value} {base : Heap}

/-! ### isinstance and except among the classes of the text -/
theorem kit_own {K : PySem.W.Frag} {D C : Addr} {b : Bool} (hne : D ≠ C) (hdct : PySem.W.hasDictIn K C = true) (ht : PySem.W.typeIn K (.ref C) = some (.type "type")) (h : PySem.W.subIn K (.ref D) (.ref C) = some b) : PySem.W.kitOne K (.ref D) (.ref C) = some b := by
  obtain ⟨cd, hc, _⟩ := PySem.W.any_some hdct
  unfold PySem.W.kitOne
  rw [if_neg fun e => hne (Value.ref.inj (beq_iff_eq.mp e))]
  have e2 : ((PySem.W.clsIn K C).isSome && PySem.W.typeIn K (.ref C) == some (.type "type")) = true := by rw [hc, ht] <;> rfl
  show (if ((PySem.W.clsIn K C).isSome && PySem.W.typeIn K (.ref C) == some (.type "type")) = true then PySem.W.subIn K (.ref D) (.ref C) else none) = some b
  rw [if_pos e2]
  exact h
theorem kit_typ {K : PySem.W.Frag} {C : Addr} {T : String} {b : Bool} (hm : PySem.W.kitMeta T = true) (h : PySem.W.subIn K (.ref C) (.type T) = some b) : PySem.W.kitOne K (.ref C) (.type T) = some b := by
  unfold PySem.W.kitOne
  rw [if_neg fun e => by cases (beq_iff_eq.mp e)]
  show (if PySem.W.kitMeta T = true then PySem.W.subIn K (.ref C) (.type T) else none) = some b
  rw [if_pos hm]
  exact h
theorem oexC_mk {K : PySem.W.Frag} {C N : Addr} {nm q : Str} {bs bm sub : List Value} {sn : List Str} {ab : Bool} {col : Option Bool} {dd : Option Addr} {k0 k1 k2 k3 k5 : Option Value} (l : K.lookup C = some (excClassObj nm q C N bs bm true sn sub ab col dd k0 k1 k2 k3 k5 "ValueError.__new__"))
    (r : PySem.HandSPX.refsVE bm = true) (sa : PySem.W.findIn K (.ref C) "__setattr__" = some (some (.builtin "object.__setattr__"))) (ex : PySem.W.subIn K (.ref C) (.type "BaseException") = some true) (ty : PySem.W.typeIn K (.ref C) = some (.type "type")) (kC : PySem.W.keepIn K (.ref C) = true) : OexC K C :=
  ⟨⟨nm, q, N, bs, bm, sn, sub, ab, col, dd, k0, k1, k2, k3, k5, l, r⟩, sa, ex, ty, kC⟩
theorem sqK_mk {K : PySem.W.Frag} {a : Addr} {o : Obj} {xs : List V} (l : K.lookup a = some o) (h : ∃ its n, o.cls = .type "tuple" ∧ o.data = .seq its n ∧ its.size ≤ sizeLine ∧ Vals xs its.toList) (H : Hp) : SqT K H a xs := by
  obtain ⟨its, n, h1, h2, h3, h4⟩ := h
  exact .inr ⟨o, its, n, l, h1, h2, h3, h4⟩
theorem kit_base {K : PySem.W.Frag} {C : Addr} {T : String} {b : Bool} (hdct : PySem.W.hasDictIn K C = true) (ht : PySem.W.typeIn K (.ref C) = some (.type "type")) (h : PySem.W.subIn K (.type T) (.ref C) = some b) : PySem.W.kitOne K (.type T) (.ref C) = some b := by
  obtain ⟨cd, hc, _⟩ := PySem.W.any_some hdct
  unfold PySem.W.kitOne
  rw [if_neg fun e => by cases (beq_iff_eq.mp e)]
  have e2 : ((PySem.W.clsIn K C).isSome && PySem.W.typeIn K (.ref C) == some (.type "type")) = true := by rw [hc, ht] <;> rfl
  show (if ((PySem.W.clsIn K C).isSome && PySem.W.typeIn K (.ref C) == some (.type "type")) = true then PySem.W.subIn K (.type T) (.ref C) else none) = some b
  rw [if_pos e2]
  exact h

/-! ### what the top has left, the head -/
theorem all_mk {l : PySem.W.OpenLaw} {w : World} {K : PySem.W.Frag} {h : Heap} {mg : Str → Option Value} {fa f1 f2 f3 f4 f5 f6 f7 f8 f9 f10 f11 f12 f13 f14 f15 f16 f17 f18 f19 f20 f21 f22 f23 f24 f25 f26 f27 f28 f29 f30 f31 f32 f33 f34 f35 f36 c_NoNumber c_NoList c_MaskError : Addr} (X : K.In h) (G : h.Ns mainGlobals mg) (hfa : mg "law" = some (.ref fa))
    {od1 an1 od2 an2 od3 an3 od4 an4 od5 an5 od6 an6 od7 an7 od8 an8 od9 an9 od10 an10 od11 an11 od12 an12 od13 an13 od14 an14 od15 an15 od16 an16 od17 an17 od18 an18 od19 an19 od20 an20 od21 an21 od22 an22 od23 an23 od24 an24 od25 an25 od26 an26 od27 an27 od28 an28 od29 an29 od30 an30 od31 an31 od32 an32 od33 an33 od34 an34 od35 an35 od36 an36 : Option Addr} {sl1 sl2 sl3 sl4 sl5 sl6 sl7 sl8 sl9 sl10 sl11 sl12 sl13 sl14 sl15 sl16 sl17 sl18 sl19 sl20 sl21 sl22 sl23 sl24 sl25 sl26 sl27 sl28 sl29 sl30 sl31 sl32 sl33 sl34 sl35 sl36 : Array (Option Value)} {oc1 kV1 dc1 pm1 cd1 ct1 oc2 kV2 dc2 pm2 cd2 ct2 oc3 kV3 dc3 pm3 cd3 ct3 oc4 kV4 dc4 pm4 cd4 ct4 oc5 kV5 dc5 pm5 cd5 ct5 oc6 kV6 dc6 pm6 cd6 ct6 oc7 kV7 dc7 pm7 cd7 ct7 oc8 kV8 dc8 pm8 cd8 ct8 oc9 kV9 dc9 pm9 cd9 ct9 oc10 kV10 dc10 pm10 cd10 ct10 oc11 kV11 dc11 pm11 cd11 ct11 oc12 kV12 dc12 pm12 cd12 ct12 oc13 kV13 dc13 pm13 cd13 ct13 oc14 kV14 dc14 pm14 cd14 ct14 oc15 kV15 dc15 pm15 cd15 ct15 oc16 kV16 dc16 pm16 cd16 ct16 oc17 kV17 dc17 pm17 cd17 ct17 oc18 kV18 dc18 pm18 cd18 ct18 oc19 kV19 dc19 pm19 cd19 ct19 oc20 kV20 dc20 pm20 cd20 ct20 oc21 kV21 dc21 pm21 cd21 ct21 oc22 kV22 dc22 pm22 cd22 ct22 oc23 kV23 dc23 pm23 cd23 ct23 oc24 kV24 dc24 pm24 cd24 ct24 oc25 kV25 dc25 pm25 cd25 ct25 oc26 kV26 dc26 pm26 cd26 ct26 oc27 kV27 dc27 pm27 cd27 ct27 oc28 kV28 dc28 pm28 cd28 ct28 oc29 kV29 dc29 pm29 cd29 ct29 oc30 kV30 dc30 pm30 cd30 ct30 oc31 kV31 dc31 pm31 cd31 ct31 oc32 kV32 dc32 pm32 cd32 ct32 oc33 kV33 dc33 pm33 cd33 ct33 oc34 kV34 dc34 pm34 cd34 ct34 oc35 kV35 dc35 pm35 cd35 ct35 oc36 kV36 dc36 pm36 cd36 ct36 m_MaskError : Value} {t1 t2 : _}
    (n_NoNumber : PySem.W.nsIn K mainGlobals "NoNumber" = some (some (.ref c_NoNumber)))
    (n_NoList : PySem.W.nsIn K mainGlobals "NoList" = some (some (.ref c_NoList)))
    (n_MaskError : PySem.W.nsIn K mainGlobals "MaskError" = some (some (.ref c_MaskError)))
    (a1 : PySem.W.nsIn K mainGlobals "is_whole" = some (some (.ref f1))) (l1 : K.lookup f1 = some ⟨oc1, od1, .func (PySem.W.fnOf "is_whole" "is_whole" (defArgs s_is_whole) (defBody s_is_whole) (defScope s_is_whole) .none kV1 dc1 pm1 an1 cd1 ct1), sl1⟩) (c1 : PySem.W.codeIn K cd1 "is_whole" = true) (k1 : PySem.W.keepIn K (.ref f1) = true)
    (a2 : PySem.W.nsIn K mainGlobals "is_pattern" = some (some (.ref f2))) (l2 : K.lookup f2 = some ⟨oc2, od2, .func (PySem.W.fnOf "is_pattern" "is_pattern" (defArgs s_is_pattern) (defBody s_is_pattern) (defScope s_is_pattern) .none kV2 dc2 pm2 an2 cd2 ct2), sl2⟩) (c2 : PySem.W.codeIn K cd2 "is_pattern" = true) (k2 : PySem.W.keepIn K (.ref f2) = true)
    (a3 : PySem.W.nsIn K mainGlobals "all_columns" = some (some (.ref f3))) (l3 : K.lookup f3 = some ⟨oc3, od3, .func (PySem.W.fnOf "all_columns" "all_columns" (defArgs s_all_columns) (defBody s_all_columns) (defScope s_all_columns) .none kV3 dc3 pm3 an3 cd3 ct3), sl3⟩) (c3 : PySem.W.codeIn K cd3 "all_columns" = true) (k3 : PySem.W.keepIn K (.ref f3) = true)
    (a4 : PySem.W.nsIn K mainGlobals "less" = some (some (.ref f4))) (l4 : K.lookup f4 = some ⟨oc4, od4, .func (PySem.W.fnOf "less" "less" (defArgs s_less) (defBody s_less) (defScope s_less) .none kV4 dc4 pm4 an4 cd4 ct4), sl4⟩) (c4 : PySem.W.codeIn K cd4 "less" = true) (k4 : PySem.W.keepIn K (.ref f4) = true)
    (a5 : PySem.W.nsIn K mainGlobals "patterns_within" = some (some (.ref f5))) (l5 : K.lookup f5 = some ⟨oc5, od5, .func (PySem.W.fnOf "patterns_within" "patterns_within" (defArgs s_patterns_within) (defBody s_patterns_within) (defScope s_patterns_within) .none kV5 dc5 pm5 an5 cd5 ct5), sl5⟩) (c5 : PySem.W.codeIn K cd5 "patterns_within" = true) (k5 : PySem.W.keepIn K (.ref f5) = true)
    (a6 : PySem.W.nsIn K mainGlobals "is_list" = some (some (.ref f6))) (l6 : K.lookup f6 = some ⟨oc6, od6, .func (PySem.W.fnOf "is_list" "is_list" (defArgs s_is_list) (defBody s_is_list) (defScope s_is_list) .none kV6 dc6 pm6 an6 cd6 ct6), sl6⟩) (c6 : PySem.W.codeIn K cd6 "is_list" = true) (k6 : PySem.W.keepIn K (.ref f6) = true)
    (a7 : PySem.W.nsIn K mainGlobals "parts_of" = some (some (.ref f7))) (l7 : K.lookup f7 = some ⟨oc7, od7, .func (PySem.W.fnOf "parts_of" "parts_of" (defArgs s_parts_of) (defBody s_parts_of) (defScope s_parts_of) .none kV7 dc7 pm7 an7 cd7 ct7), sl7⟩) (c7 : PySem.W.codeIn K cd7 "parts_of" = true) (k7 : PySem.W.keepIn K (.ref f7) = true)
    (a8 : PySem.W.nsIn K mainGlobals "within" = some (some (.ref f8))) (l8 : K.lookup f8 = some ⟨oc8, od8, .func (PySem.W.fnOf "within" "within" (defArgs s_within) (defBody s_within) (defScope s_within) .none kV8 dc8 pm8 an8 cd8 ct8), sl8⟩) (c8 : PySem.W.codeIn K cd8 "within" = true) (k8 : PySem.W.keepIn K (.ref f8) = true)
    (a9 : PySem.W.nsIn K mainGlobals "is_nest" = some (some (.ref f9))) (l9 : K.lookup f9 = some ⟨oc9, od9, .func (PySem.W.fnOf "is_nest" "is_nest" (defArgs s_is_nest) (defBody s_is_nest) (defScope s_is_nest) .none kV9 dc9 pm9 an9 cd9 ct9), sl9⟩) (c9 : PySem.W.codeIn K cd9 "is_nest" = true) (k9 : PySem.W.keepIn K (.ref f9) = true)
    (a10 : PySem.W.nsIn K mainGlobals "struck" = some (some (.ref f10))) (l10 : K.lookup f10 = some ⟨oc10, od10, .func (PySem.W.fnOf "struck" "struck" (defArgs s_struck) (defBody s_struck) (defScope s_struck) .none kV10 dc10 pm10 an10 cd10 ct10), sl10⟩) (c10 : PySem.W.codeIn K cd10 "struck" = true) (k10 : PySem.W.keepIn K (.ref f10) = true)
    (a11 : PySem.W.nsIn K mainGlobals "order_of" = some (some (.ref f11))) (l11 : K.lookup f11 = some ⟨oc11, od11, .func (PySem.W.fnOf "order_of" "order_of" (defArgs s_order_of) (defBody s_order_of) (defScope s_order_of) .none kV11 dc11 pm11 an11 cd11 ct11), sl11⟩) (c11 : PySem.W.codeIn K cd11 "order_of" = true) (k11 : PySem.W.keepIn K (.ref f11) = true)
    (a12 : PySem.W.nsIn K mainGlobals "order" = some (some (.ref f12))) (l12 : K.lookup f12 = some ⟨oc12, od12, .func (PySem.W.fnOf "order" "order" (defArgs s_order) (defBody s_order) (defScope s_order) .none kV12 dc12 pm12 an12 cd12 ct12), sl12⟩) (c12 : PySem.W.codeIn K cd12 "order" = true) (k12 : PySem.W.keepIn K (.ref f12) = true)
    (a13 : PySem.W.nsIn K mainGlobals "is_enough" = some (some (.ref f13))) (l13 : K.lookup f13 = some ⟨oc13, od13, .func (PySem.W.fnOf "is_enough" "is_enough" (defArgs s_is_enough) (defBody s_is_enough) (defScope s_is_enough) .none kV13 dc13 pm13 an13 cd13 ct13), sl13⟩) (c13 : PySem.W.codeIn K cd13 "is_enough" = true) (k13 : PySem.W.keepIn K (.ref f13) = true)
    (a14 : PySem.W.nsIn K mainGlobals "trusts" = some (some (.ref f14))) (l14 : K.lookup f14 = some ⟨oc14, od14, .func (PySem.W.fnOf "trusts" "trusts" (defArgs s_trusts) (defBody s_trusts) (defScope s_trusts) .none kV14 dc14 pm14 an14 cd14 ct14), sl14⟩) (c14 : PySem.W.codeIn K cd14 "trusts" = true) (k14 : PySem.W.keepIn K (.ref f14) = true)
    (a15 : PySem.W.nsIn K mainGlobals "is_ringless_without" = some (some (.ref f15))) (l15 : K.lookup f15 = some ⟨oc15, od15, .func (PySem.W.fnOf "is_ringless_without" "is_ringless_without" (defArgs s_is_ringless_without) (defBody s_is_ringless_without) (defScope s_is_ringless_without) .none kV15 dc15 pm15 an15 cd15 ct15), sl15⟩) (c15 : PySem.W.codeIn K cd15 "is_ringless_without" = true) (k15 : PySem.W.keepIn K (.ref f15) = true)
    (a16 : PySem.W.nsIn K mainGlobals "without" = some (some (.ref f16))) (l16 : K.lookup f16 = some ⟨oc16, od16, .func (PySem.W.fnOf "without" "without" (defArgs s_without) (defBody s_without) (defScope s_without) .none kV16 dc16 pm16 an16 cd16 ct16), sl16⟩) (c16 : PySem.W.codeIn K cd16 "without" = true) (k16 : PySem.W.keepIn K (.ref f16) = true)
    (a17 : PySem.W.nsIn K mainGlobals "_law_pool" = some (some (.ref f17))) (l17 : K.lookup f17 = some ⟨oc17, od17, .func (PySem.W.fnOf "_law_pool" "_law_pool" (defArgs s_law_pool) (defBody s_law_pool) (defScope s_law_pool) .none kV17 dc17 pm17 an17 cd17 ct17), sl17⟩) (c17 : PySem.W.codeIn K cd17 "_law_pool" = true) (k17 : PySem.W.keepIn K (.ref f17) = true)
    (a18 : PySem.W.nsIn K mainGlobals "_law_draw" = some (some (.ref f18))) (l18 : K.lookup f18 = some ⟨oc18, od18, .func (PySem.W.fnOf "_law_draw" "_law_draw" (defArgs s_law_draw) (defBody s_law_draw) (defScope s_law_draw) .none kV18 dc18 pm18 an18 cd18 ct18), sl18⟩) (c18 : PySem.W.codeIn K cd18 "_law_draw" = true) (k18 : PySem.W.keepIn K (.ref f18) = true)
    (a19 : PySem.W.nsIn K mainGlobals "_law_mixed" = some (some (.ref f19))) (l19 : K.lookup f19 = some ⟨oc19, od19, .func (PySem.W.fnOf "_law_mixed" "_law_mixed" (defArgs s_law_mixed) (defBody s_law_mixed) (defScope s_law_mixed) .none kV19 dc19 pm19 an19 cd19 ct19), sl19⟩) (c19 : PySem.W.codeIn K cd19 "_law_mixed" = true) (k19 : PySem.W.keepIn K (.ref f19) = true)
    (a20 : PySem.W.nsIn K mainGlobals "_law_some" = some (some (.ref f20))) (l20 : K.lookup f20 = some ⟨oc20, od20, .func (PySem.W.fnOf "_law_some" "_law_some" (defArgs s_law_some) (defBody s_law_some) (defScope s_law_some) .none kV20 dc20 pm20 an20 cd20 ct20), sl20⟩) (c20 : PySem.W.codeIn K cd20 "_law_some" = true) (k20 : PySem.W.keepIn K (.ref f20) = true)
    (a21 : PySem.W.nsIn K mainGlobals "_law_is_flag" = some (some (.ref f21))) (l21 : K.lookup f21 = some ⟨oc21, od21, .func (PySem.W.fnOf "_law_is_flag" "_law_is_flag" (defArgs s_law_is_flag) (defBody s_law_is_flag) (defScope s_law_is_flag) .none kV21 dc21 pm21 an21 cd21 ct21), sl21⟩) (c21 : PySem.W.codeIn K cd21 "_law_is_flag" = true) (k21 : PySem.W.keepIn K (.ref f21) = true)
    (a22 : PySem.W.nsIn K mainGlobals "_law_deep" = some (some (.ref f22))) (l22 : K.lookup f22 = some ⟨oc22, od22, .func (PySem.W.fnOf "_law_deep" "_law_deep" (defArgs s_law_deep) (defBody s_law_deep) (defScope s_law_deep) .none kV22 dc22 pm22 an22 cd22 ct22), sl22⟩) (c22 : PySem.W.codeIn K cd22 "_law_deep" = true) (k22 : PySem.W.keepIn K (.ref f22) = true)
    (a23 : PySem.W.nsIn K mainGlobals "_law_patterns" = some (some (.ref f23))) (l23 : K.lookup f23 = some ⟨oc23, od23, .func (PySem.W.fnOf "_law_patterns" "_law_patterns" (defArgs s_law_patterns) (defBody s_law_patterns) (defScope s_law_patterns) .none kV23 dc23 pm23 an23 cd23 ct23), sl23⟩) (c23 : PySem.W.codeIn K cd23 "_law_patterns" = true) (k23 : PySem.W.keepIn K (.ref f23) = true)
    (a24 : PySem.W.nsIn K mainGlobals "_law_list" = some (some (.ref f24))) (l24 : K.lookup f24 = some ⟨oc24, od24, .func (PySem.W.fnOf "_law_list" "_law_list" (defArgs s_law_list) (defBody s_law_list) (defScope s_law_list) .none kV24 dc24 pm24 an24 cd24 ct24), sl24⟩) (c24 : PySem.W.codeIn K cd24 "_law_list" = true) (k24 : PySem.W.keepIn K (.ref f24) = true)
    (a25 : PySem.W.nsIn K mainGlobals "_law_less" = some (some (.ref f25))) (l25 : K.lookup f25 = some ⟨oc25, od25, .func (PySem.W.fnOf "_law_less" "_law_less" (defArgs s_law_less) (defBody s_law_less) (defScope s_law_less) .none kV25 dc25 pm25 an25 cd25 ct25), sl25⟩) (c25 : PySem.W.codeIn K cd25 "_law_less" = true) (k25 : PySem.W.keepIn K (.ref f25) = true)
    (a26 : PySem.W.nsIn K mainGlobals "_law_parts" = some (some (.ref f26))) (l26 : K.lookup f26 = some ⟨oc26, od26, .func (PySem.W.fnOf "_law_parts" "_law_parts" (defArgs s_law_parts) (defBody s_law_parts) (defScope s_law_parts) .none kV26 dc26 pm26 an26 cd26 ct26), sl26⟩) (c26 : PySem.W.codeIn K cd26 "_law_parts" = true) (k26 : PySem.W.keepIn K (.ref f26) = true)
    (a27 : PySem.W.nsIn K mainGlobals "_law_between" = some (some (.ref f27))) (l27 : K.lookup f27 = some ⟨oc27, od27, .func (PySem.W.fnOf "_law_between" "_law_between" (defArgs s_law_between) (defBody s_law_between) (defScope s_law_between) .none kV27 dc27 pm27 an27 cd27 ct27), sl27⟩) (c27 : PySem.W.codeIn K cd27 "_law_between" = true) (k27 : PySem.W.keepIn K (.ref f27) = true)
    (a28 : PySem.W.nsIn K mainGlobals "_law_are_linked" = some (some (.ref f28))) (l28 : K.lookup f28 = some ⟨oc28, od28, .func (PySem.W.fnOf "_law_are_linked" "_law_are_linked" (defArgs s_law_are_linked) (defBody s_law_are_linked) (defScope s_law_are_linked) .none kV28 dc28 pm28 an28 cd28 ct28), sl28⟩) (c28 : PySem.W.codeIn K cd28 "_law_are_linked" = true) (k28 : PySem.W.keepIn K (.ref f28) = true)
    (a29 : PySem.W.nsIn K mainGlobals "_law_has_ring" = some (some (.ref f29))) (l29 : K.lookup f29 = some ⟨oc29, od29, .func (PySem.W.fnOf "_law_has_ring" "_law_has_ring" (defArgs s_law_has_ring) (defBody s_law_has_ring) (defScope s_law_has_ring) .none kV29 dc29 pm29 an29 cd29 ct29), sl29⟩) (c29 : PySem.W.codeIn K cd29 "_law_has_ring" = true) (k29 : PySem.W.keepIn K (.ref f29) = true)
    (a30 : PySem.W.nsIn K mainGlobals "_law_is_due" = some (some (.ref f30))) (l30 : K.lookup f30 = some ⟨oc30, od30, .func (PySem.W.fnOf "_law_is_due" "_law_is_due" (defArgs s_law_is_due) (defBody s_law_is_due) (defScope s_law_is_due) .none kV30 dc30 pm30 an30 cd30 ct30), sl30⟩) (c30 : PySem.W.codeIn K cd30 "_law_is_due" = true) (k30 : PySem.W.keepIn K (.ref f30) = true)
    (a31 : PySem.W.nsIn K mainGlobals "_law_is_least" = some (some (.ref f31))) (l31 : K.lookup f31 = some ⟨oc31, od31, .func (PySem.W.fnOf "_law_is_least" "_law_is_least" (defArgs s_law_is_least) (defBody s_law_is_least) (defScope s_law_is_least) .none kV31 dc31 pm31 an31 cd31 ct31), sl31⟩) (c31 : PySem.W.codeIn K cd31 "_law_is_least" = true) (k31 : PySem.W.keepIn K (.ref f31) = true)
    (a32 : PySem.W.nsIn K mainGlobals "_law_is_lot" = some (some (.ref f32))) (l32 : K.lookup f32 = some ⟨oc32, od32, .func (PySem.W.fnOf "_law_is_lot" "_law_is_lot" (defArgs s_law_is_lot) (defBody s_law_is_lot) (defScope s_law_is_lot) .none kV32 dc32 pm32 an32 cd32 ct32), sl32⟩) (c32 : PySem.W.codeIn K cd32 "_law_is_lot" = true) (k32 : PySem.W.keepIn K (.ref f32) = true)
    (a33 : PySem.W.nsIn K mainGlobals "_law_right" = some (some (.ref f33))) (l33 : K.lookup f33 = some ⟨oc33, od33, .func (PySem.W.fnOf "_law_right" "_law_right" (defArgs s_law_right) (defBody s_law_right) (defScope s_law_right) .none kV33 dc33 pm33 an33 cd33 ct33), sl33⟩) (c33 : PySem.W.codeIn K cd33 "_law_right" = true) (k33 : PySem.W.keepIn K (.ref f33) = true)
    (a34 : PySem.W.nsIn K mainGlobals "law" = some (some (.ref f34))) (l34 : K.lookup f34 = some ⟨oc34, od34, .func (PySem.W.fnOf "law" "law" (defArgs s_law) (defBody s_law) (defScope s_law) .none kV34 dc34 pm34 an34 cd34 ct34), sl34⟩) (c34 : PySem.W.codeIn K cd34 "law" = true) (k34 : PySem.W.keepIn K (.ref f34) = true)
    (a35 : PySem.W.findIn K (.ref c_NoNumber) "__init__" = some (some (.ref f35))) (l35 : K.lookup f35 = some ⟨oc35, od35, .func (PySem.W.fnOf "__init__" "NoNumber.__init__" (defArgs s_NoNumber_init) (defBody s_NoNumber_init) (defScope s_NoNumber_init) .none kV35 dc35 pm35 an35 cd35 ct35), sl35⟩) (c35 : PySem.W.codeIn K cd35 "NoNumber.__init__" = true) (k35 : PySem.W.keepIn K (.ref f35) = true)
    (a36 : PySem.W.findIn K (.ref c_NoList) "__init__" = some (some (.ref f36))) (l36 : K.lookup f36 = some ⟨oc36, od36, .func (PySem.W.fnOf "__init__" "NoList.__init__" (defArgs s_NoList_init) (defBody s_NoList_init) (defScope s_NoList_init) .none kV36 dc36 pm36 an36 cd36 ct36), sl36⟩) (c36 : PySem.W.codeIn K cd36 "NoList.__init__" = true) (k36 : PySem.W.keepIn K (.ref f36) = true)
    (y_MaskError : PySem.W.typeIn K (.ref c_MaskError) = some m_MaskError)
    (U_MaskError : UpC K c_MaskError m_MaskError)
    (o_NoNumber : OexC K c_NoNumber)
    (t_NoNumber : PySem.W.typeIn K (.ref f35) = some (.type "function"))
    (e_NoNumber : ExcC K c_NoNumber)
    (x_NoNumber : PySem.W.exmOne K (.ref c_NoNumber) (.ref c_MaskError) = some true)
    (o_NoList : OexC K c_NoList)
    (t_NoList : PySem.W.typeIn K (.ref f36) = some (.type "function"))
    (e_NoList : ExcC K c_NoList)
    (x_NoList : PySem.W.exmOne K (.ref c_NoList) (.ref c_MaskError) = some true)
    (q_NoNumber_NoNumber : PySem.W.kitOne K (.ref c_NoNumber) (.ref c_NoNumber) = some true)
    (q_NoNumber_NoList : PySem.W.kitOne K (.ref c_NoNumber) (.ref c_NoList) = some false)
    (q_NoList_NoNumber : PySem.W.kitOne K (.ref c_NoList) (.ref c_NoNumber) = some false)
    (q_NoList_NoList : PySem.W.kitOne K (.ref c_NoList) (.ref c_NoList) = some true)
    (u1 : PySem.W.nsIn K mainGlobals "MOST_COLUMNS" = some (some (.int 5 t1)))
    (u2 : PySem.W.nsIn K mainGlobals "MOST_PATTERNS" = some (some (.int 12 t2)))
    (z1 : PySem.W.nsIn K mainGlobals "len" = some none)
    (z2 : PySem.W.nsIn K mainGlobals "isinstance" = some none)
    (z3 : PySem.W.nsIn K mainGlobals "range" = some none)
    (z4 : PySem.W.nsIn K mainGlobals "zip" = some none)
    (z5 : PySem.W.nsIn K mainGlobals "tuple" = some none)
    (z6 : PySem.W.nsIn K mainGlobals "list" = some none)
    (z7 : PySem.W.nsIn K mainGlobals "int" = some none)
    (z8 : PySem.W.nsIn K mainGlobals "bool" = some none)
    (z9 : PySem.W.nsIn K mainGlobals "abs" = some none)
    (z10 : PySem.W.nsIn K mainGlobals "sorted" = some none)
    (z11 : PySem.W.nsIn K mainGlobals "set" = some none)
    (z12 : PySem.W.nsIn K mainGlobals "sum" = some none)
    (z13 : PySem.W.nsIn K mainGlobals "all" = some none)
    (z14 : PySem.W.nsIn K mainGlobals "any" = some none)
    : ∃ fd : FuncData, (∀ (s : Shared) (v : Value), BindsTo s fd ⟨[v], []⟩ [("script", v)]) ∧ ∀ base : Heap, K.In base → base.Ns mainGlobals mg → FnOk l.prog w K mg base CX0 13 fa fd ["script"] (spLaw K) := by
  have e := hfa.symm.trans (PySem.W.mg_of X G a34)
  cases e
  have F1 := fun_mk (st := s_is_whole) l1 c1 k1
  have b1 := F1.binds (ps := ["thing"]) fun _ _ _ _ _ _ us hl => match us, hl with | [_], _ => rfl
  have F2 := fun_mk (st := s_is_pattern) l2 c2 k2
  have b2 := F2.binds (ps := ["columns", "thing"]) fun _ _ _ _ _ _ us hl => match us, hl with | [_, _], _ => rfl
  have F3 := fun_mk (st := s_all_columns) l3 c3 k3
  have b3 := F3.binds (ps := ["columns"]) fun _ _ _ _ _ _ us hl => match us, hl with | [_], _ => rfl
  have F4 := fun_mk (st := s_less) l4 c4 k4
  have b4 := F4.binds (ps := ["pattern", "column"]) fun _ _ _ _ _ _ us hl => match us, hl with | [_, _], _ => rfl
  have F5 := fun_mk (st := s_patterns_within) l5 c5 k5
  have b5 := F5.binds (ps := ["pattern"]) fun _ _ _ _ _ _ us hl => match us, hl with | [_], _ => rfl
  have F6 := fun_mk (st := s_is_list) l6 c6 k6
  have b6 := F6.binds (ps := ["columns", "thing"]) fun _ _ _ _ _ _ us hl => match us, hl with | [_, _], _ => rfl
  have F7 := fun_mk (st := s_parts_of) l7 c7 k7
  have b7 := F7.binds (ps := ["columns", "listed"]) fun _ _ _ _ _ _ us hl => match us, hl with | [_, _], _ => rfl
  have F8 := fun_mk (st := s_within) l8 c8 k8
  have b8 := F8.binds (ps := ["inner", "outer"]) fun _ _ _ _ _ _ us hl => match us, hl with | [_, _], _ => rfl
  have F9 := fun_mk (st := s_is_nest) l9 c9 k9
  have b9 := F9.binds (ps := ["parts", "column"]) fun _ _ _ _ _ _ us hl => match us, hl with | [_, _], _ => rfl
  have F10 := fun_mk (st := s_struck) l10 c10 k10
  have b10 := F10.binds (ps := ["parts", "column"]) fun _ _ _ _ _ _ us hl => match us, hl with | [_, _], _ => rfl
  have F11 := fun_mk (st := s_order_of) l11 c11 k11
  have b11 := F11.binds (ps := ["parts", "left"]) fun _ _ _ _ _ _ us hl => match us, hl with | [_, _], _ => rfl
  have F12 := fun_mk (st := s_order) l12 c12 k12
  have b12 := F12.binds (ps := ["columns", "listed"]) fun _ _ _ _ _ _ us hl => match us, hl with | [_, _], _ => rfl
  have F13 := fun_mk (st := s_is_enough) l13 c13 k13
  have b13 := F13.binds (ps := ["columns", "listed", "lot"]) fun _ _ _ _ _ _ us hl => match us, hl with | [_, _, _], _ => rfl
  have F14 := fun_mk (st := s_trusts) l14 c14 k14
  have b14 := F14.binds (ps := ["columns", "listed"]) fun _ _ _ _ _ _ us hl => match us, hl with | [_, _], _ => rfl
  have F15 := fun_mk (st := s_is_ringless_without) l15 c15 k15
  have b15 := F15.binds (ps := ["columns", "parts", "lot"]) fun _ _ _ _ _ _ us hl => match us, hl with | [_, _, _], _ => rfl
  have F16 := fun_mk (st := s_without) l16 c16 k16
  have b16 := F16.binds (ps := ["pattern", "lot"]) fun _ _ _ _ _ _ us hl => match us, hl with | [_, _], _ => rfl
  have F17 := fun_mk (st := s_law_pool) l17 c17 k17
  have b17 := F17.binds (ps := ["script"]) fun _ _ _ _ _ _ us hl => match us, hl with | [_], _ => rfl
  have F18 := fun_mk (st := s_law_draw) l18 c18 k18
  have b18 := F18.binds (ps := ["pool", "many"]) fun _ _ _ _ _ _ us hl => match us, hl with | [_, _], _ => rfl
  have F19 := fun_mk (st := s_law_mixed) l19 c19 k19
  have b19 := F19.binds (ps := ["pool", "things"]) fun _ _ _ _ _ _ us hl => match us, hl with | [_, _], _ => rfl
  have F20 := fun_mk (st := s_law_some) l20 c20 k20
  have b20 := F20.binds (ps := ["pool", "things"]) fun _ _ _ _ _ _ us hl => match us, hl with | [_, _], _ => rfl
  have F21 := fun_mk (st := s_law_is_flag) l21 c21 k21
  have b21 := F21.binds (ps := ["thing", "due"]) fun _ _ _ _ _ _ us hl => match us, hl with | [_, _], _ => rfl
  have F22 := fun_mk (st := s_law_deep) l22 c22 k22
  have b22 := F22.binds (ps := []) fun _ _ _ _ _ _ us hl => match us, hl with | [], _ => rfl
  have F23 := fun_mk (st := s_law_patterns) l23 c23 k23
  have b23 := F23.binds (ps := ["columns"]) fun _ _ _ _ _ _ us hl => match us, hl with | [_], _ => rfl
  have F24 := fun_mk (st := s_law_list) l24 c24 k24
  have b24 := F24.binds (ps := ["pool", "columns"]) fun _ _ _ _ _ _ us hl => match us, hl with | [_, _], _ => rfl
  have F25 := fun_mk (st := s_law_less) l25 c25 k25
  have b25 := F25.binds (ps := ["pattern", "lot"]) fun _ _ _ _ _ _ us hl => match us, hl with | [_, _], _ => rfl
  have F26 := fun_mk (st := s_law_parts) l26 c26 k26
  have b26 := F26.binds (ps := ["columns", "patterns", "lot"]) fun _ _ _ _ _ _ us hl => match us, hl with | [_, _, _], _ => rfl
  have F27 := fun_mk (st := s_law_between) l27 c27 k27
  have b27 := F27.binds (ps := ["rs", "k"]) fun _ _ _ _ _ _ us hl => match us, hl with | [_, _], _ => rfl
  have F28 := fun_mk (st := s_law_are_linked) l28 c28 k28
  have b28 := F28.binds (ps := ["rs"]) fun _ _ _ _ _ _ us hl => match us, hl with | [_], _ => rfl
  have F29 := fun_mk (st := s_law_has_ring) l29 c29 k29
  have b29 := F29.binds (ps := ["parts"]) fun _ _ _ _ _ _ us hl => match us, hl with | [_], _ => rfl
  have F30 := fun_mk (st := s_law_is_due) l30 c30 k30
  have b30 := F30.binds (ps := ["columns", "patterns", "lot"]) fun _ _ _ _ _ _ us hl => match us, hl with | [_, _, _], _ => rfl
  have F31 := fun_mk (st := s_law_is_least) l31 c31 k31
  have b31 := F31.binds (ps := ["columns", "patterns", "lot"]) fun _ _ _ _ _ _ us hl => match us, hl with | [_, _, _], _ => rfl
  have F32 := fun_mk (st := s_law_is_lot) l32 c32 k32
  have b32 := F32.binds (ps := ["columns", "thing"]) fun _ _ _ _ _ _ us hl => match us, hl with | [_, _], _ => rfl
  have F33 := fun_mk (st := s_law_right) l33 c33 k33
  have b33 := F33.binds (ps := ["pool", "columns", "patterns"]) fun _ _ _ _ _ _ us hl => match us, hl with | [_, _, _], _ => rfl
  have F34 := fun_mk (st := s_law) l34 c34 k34
  have F35 := fun_mk (st := s_NoNumber_init) l35 c35 k35
  have b35 := F35.binds (ps := ["self"]) fun _ _ _ _ _ _ us hl => match us, hl with | [_], _ => rfl
  have F36 := fun_mk (st := s_NoList_init) l36 c36 k36
  have b36 := F36.binds (ps := ["self"]) fun _ _ _ _ _ _ us hl => match us, hl with | [_], _ => rfl
  let T : Txt K mg := { f_is_whole := f1, d_is_whole := _, F_is_whole := F1, b_is_whole := b1, g_is_whole := PySem.W.mg_of X G a1, f_is_pattern := f2, d_is_pattern := _, F_is_pattern := F2, b_is_pattern := b2, g_is_pattern := PySem.W.mg_of X G a2, f_all_columns := f3, d_all_columns := _, F_all_columns := F3, b_all_columns := b3, g_all_columns := PySem.W.mg_of X G a3, f_less := f4, d_less := _, F_less := F4, b_less := b4, g_less := PySem.W.mg_of X G a4, f_patterns_within := f5, d_patterns_within := _, F_patterns_within := F5, b_patterns_within := b5, g_patterns_within := PySem.W.mg_of X G a5, f_is_list := f6, d_is_list := _, F_is_list := F6, b_is_list := b6, g_is_list := PySem.W.mg_of X G a6, f_parts_of := f7, d_parts_of := _, F_parts_of := F7, b_parts_of := b7, g_parts_of := PySem.W.mg_of X G a7, f_within := f8, d_within := _, F_within := F8, b_within := b8, g_within := PySem.W.mg_of X G a8, f_is_nest := f9, d_is_nest := _, F_is_nest := F9, b_is_nest := b9, g_is_nest := PySem.W.mg_of X G a9, f_struck := f10, d_struck := _, F_struck := F10, b_struck := b10, g_struck := PySem.W.mg_of X G a10, f_order_of := f11, d_order_of := _, F_order_of := F11, b_order_of := b11, g_order_of := PySem.W.mg_of X G a11, f_order := f12, d_order := _, F_order := F12, b_order := b12, g_order := PySem.W.mg_of X G a12, f_is_enough := f13, d_is_enough := _, F_is_enough := F13, b_is_enough := b13, g_is_enough := PySem.W.mg_of X G a13, f_trusts := f14, d_trusts := _, F_trusts := F14, b_trusts := b14, g_trusts := PySem.W.mg_of X G a14, f_is_ringless_without := f15, d_is_ringless_without := _, F_is_ringless_without := F15, b_is_ringless_without := b15, g_is_ringless_without := PySem.W.mg_of X G a15, f_without := f16, d_without := _, F_without := F16, b_without := b16, g_without := PySem.W.mg_of X G a16, f_law_pool := f17, d_law_pool := _, F_law_pool := F17, b_law_pool := b17, g_law_pool := PySem.W.mg_of X G a17, f_law_draw := f18, d_law_draw := _, F_law_draw := F18, b_law_draw := b18, g_law_draw := PySem.W.mg_of X G a18, f_law_mixed := f19, d_law_mixed := _, F_law_mixed := F19, b_law_mixed := b19, g_law_mixed := PySem.W.mg_of X G a19, f_law_some := f20, d_law_some := _, F_law_some := F20, b_law_some := b20, g_law_some := PySem.W.mg_of X G a20, f_law_is_flag := f21, d_law_is_flag := _, F_law_is_flag := F21, b_law_is_flag := b21, g_law_is_flag := PySem.W.mg_of X G a21, f_law_deep := f22, d_law_deep := _, F_law_deep := F22, b_law_deep := b22, g_law_deep := PySem.W.mg_of X G a22, f_law_patterns := f23, d_law_patterns := _, F_law_patterns := F23, b_law_patterns := b23, g_law_patterns := PySem.W.mg_of X G a23, f_law_list := f24, d_law_list := _, F_law_list := F24, b_law_list := b24, g_law_list := PySem.W.mg_of X G a24, f_law_less := f25, d_law_less := _, F_law_less := F25, b_law_less := b25, g_law_less := PySem.W.mg_of X G a25, f_law_parts := f26, d_law_parts := _, F_law_parts := F26, b_law_parts := b26, g_law_parts := PySem.W.mg_of X G a26, f_law_between := f27, d_law_between := _, F_law_between := F27, b_law_between := b27, g_law_between := PySem.W.mg_of X G a27, f_law_are_linked := f28, d_law_are_linked := _, F_law_are_linked := F28, b_law_are_linked := b28, g_law_are_linked := PySem.W.mg_of X G a28, f_law_has_ring := f29, d_law_has_ring := _, F_law_has_ring := F29, b_law_has_ring := b29, g_law_has_ring := PySem.W.mg_of X G a29, f_law_is_due := f30, d_law_is_due := _, F_law_is_due := F30, b_law_is_due := b30, g_law_is_due := PySem.W.mg_of X G a30, f_law_is_least := f31, d_law_is_least := _, F_law_is_least := F31, b_law_is_least := b31, g_law_is_least := PySem.W.mg_of X G a31, f_law_is_lot := f32, d_law_is_lot := _, F_law_is_lot := F32, b_law_is_lot := b32, g_law_is_lot := PySem.W.mg_of X G a32, f_law_right := f33, d_law_right := _, F_law_right := F33, b_law_right := b33, g_law_right := PySem.W.mg_of X G a33, f_NoNumber_init := f35, d_NoNumber_init := _, F_NoNumber_init := F35, b_NoNumber_init := b35, f_NoList_init := f36, d_NoList_init := _, F_NoList_init := F36, b_NoList_init := b36, c_NoNumber := c_NoNumber, g_NoNumber := PySem.W.mg_of X G n_NoNumber, c_NoList := c_NoList, g_NoList := PySem.W.mg_of X G n_NoList, c_MaskError := c_MaskError, g_MaskError := PySem.W.mg_of X G n_MaskError, m_MaskError := m_MaskError, U_MaskError := U_MaskError, o_NoNumber := o_NoNumber, t_NoNumber := t_NoNumber, e_NoNumber := e_NoNumber, x_NoNumber := x_NoNumber, i_NoNumber := a35, o_NoList := o_NoList, t_NoList := t_NoList, e_NoList := e_NoList, x_NoList := x_NoList, i_NoList := a36, q_NoNumber_NoNumber := q_NoNumber_NoNumber, q_NoNumber_NoList := q_NoNumber_NoList, q_NoList_NoNumber := q_NoList_NoNumber, q_NoList_NoList := q_NoList_NoList, u_MOST_COLUMNS := _, k_MOST_COLUMNS := ⟨PySem.W.mg_of X G u1, ⟨_, rfl⟩⟩, u_MOST_PATTERNS := _, k_MOST_PATTERNS := ⟨PySem.W.mg_of X G u2, ⟨_, rfl⟩⟩, z_len := PySem.W.mg_none_of X G z1, z_isinstance := PySem.W.mg_none_of X G z2, z_range := PySem.W.mg_none_of X G z3, z_zip := PySem.W.mg_none_of X G z4, z_tuple := PySem.W.mg_none_of X G z5, z_list := PySem.W.mg_none_of X G z6, z_int := PySem.W.mg_none_of X G z7, z_bool := PySem.W.mg_none_of X G z8, z_abs := PySem.W.mg_none_of X G z9, z_sorted := PySem.W.mg_none_of X G z10, z_set := PySem.W.mg_none_of X G z11, z_sum := PySem.W.mg_none_of X G z12, z_all := PySem.W.mg_none_of X G z13, z_any := PySem.W.mg_none_of X G z14 }
  exact ⟨PySem.W.fnOf "law" "law" (defArgs s_law) (defBody s_law) (defScope s_law) .none kV34 dc34 pm34 an34 cd34 ct34, fun s v => .of_eq rfl, fun base _ _ => ok_law T F34⟩

end
end Fm
open PySem PySem.W PyProof.Rows
set_option maxHeartbeats 0 in
theorem PySem.Challenge.cw_fairmasks_k39_whole_who_must_be_trusted_holds : PySem.Challenge.rw_fairmasks_k39_whole_who_must_be_trusted.Holds := by
  w_on; o_law; k_head; (case hw => w_witness2)
  k_fill
  refine L2.walk_of (l := PySem.Challenge.rw_fairmasks_k39_whole_who_must_be_trusted) (n := 63) (k := 13) (x := "script") (CX := fun _ => L2.CX0) (sp := fun w => Fm.spLaw _) rfl (by decide) rfl ⟨rfl, by decide, by decide⟩ (fun w h Y => PySem.W.kIn_of Y) ?F (fun _ _ a ns hl _ hS => ⟨a, ns, rfl, hS, hl, fun _ => rfl⟩) (fun _ _ _ _ _ h => h)
  case F =>
    intro w mg fa h KX G hmg
    refine' Fm.all_mk KX G hmg ?n_NoNumber ?n_NoList ?n_MaskError ?a1 ?l1 ?c1 ?k1 ?a2 ?l2 ?c2 ?k2 ?a3 ?l3 ?c3 ?k3 ?a4 ?l4 ?c4 ?k4 ?a5 ?l5 ?c5 ?k5 ?a6 ?l6 ?c6 ?k6 ?a7 ?l7 ?c7 ?k7 ?a8 ?l8 ?c8 ?k8 ?a9 ?l9 ?c9 ?k9 ?a10 ?l10 ?c10 ?k10 ?a11 ?l11 ?c11 ?k11 ?a12 ?l12 ?c12 ?k12 ?a13 ?l13 ?c13 ?k13 ?a14 ?l14 ?c14 ?k14 ?a15 ?l15 ?c15 ?k15 ?a16 ?l16 ?c16 ?k16 ?a17 ?l17 ?c17 ?k17 ?a18 ?l18 ?c18 ?k18 ?a19 ?l19 ?c19 ?k19 ?a20 ?l20 ?c20 ?k20 ?a21 ?l21 ?c21 ?k21 ?a22 ?l22 ?c22 ?k22 ?a23 ?l23 ?c23 ?k23 ?a24 ?l24 ?c24 ?k24 ?a25 ?l25 ?c25 ?k25 ?a26 ?l26 ?c26 ?k26 ?a27 ?l27 ?c27 ?k27 ?a28 ?l28 ?c28 ?k28 ?a29 ?l29 ?c29 ?k29 ?a30 ?l30 ?c30 ?k30 ?a31 ?l31 ?c31 ?k31 ?a32 ?l32 ?c32 ?k32 ?a33 ?l33 ?c33 ?k33 ?a34 ?l34 ?c34 ?k34 ?a35 ?l35 ?c35 ?k35 ?a36 ?l36 ?c36 ?k36 ?y_MaskError ?U_MaskError ?o_NoNumber ?t_NoNumber ?e_NoNumber ?x_NoNumber ?o_NoList ?t_NoList ?e_NoList ?x_NoList ?q_NoNumber_NoNumber ?q_NoNumber_NoList ?q_NoList_NoNumber ?q_NoList_NoList ?u1 ?u2 ?z1 ?z2 ?z3 ?z4 ?z5 ?z6 ?z7 ?z8 ?z9 ?z10 ?z11 ?z12 ?z13 ?z14
    case n_NoNumber => k_is
    case n_NoList => k_is
    case n_MaskError => k_is
    case a1 => k_is
    case l1 => k_is
    case c1 => k_is
    case k1 => k_is
    case a2 => k_is
    case l2 => k_is
    case c2 => k_is
    case k2 => k_is
    case a3 => k_is
    case l3 => k_is
    case c3 => k_is
    case k3 => k_is
    case a4 => k_is
    case l4 => k_is
    case c4 => k_is
    case k4 => k_is
    case a5 => k_is
    case l5 => k_is
    case c5 => k_is
    case k5 => k_is
    case a6 => k_is
    case l6 => k_is
    case c6 => k_is
    case k6 => k_is
    case a7 => k_is
    case l7 => k_is
    case c7 => k_is
    case k7 => k_is
    case a8 => k_is
    case l8 => k_is
    case c8 => k_is
    case k8 => k_is
    case a9 => k_is
    case l9 => k_is
    case c9 => k_is
    case k9 => k_is
    case a10 => k_is
    case l10 => k_is
    case c10 => k_is
    case k10 => k_is
    case a11 => k_is
    case l11 => k_is
    case c11 => k_is
    case k11 => k_is
    case a12 => k_is
    case l12 => k_is
    case c12 => k_is
    case k12 => k_is
    case a13 => k_is
    case l13 => k_is
    case c13 => k_is
    case k13 => k_is
    case a14 => k_is
    case l14 => k_is
    case c14 => k_is
    case k14 => k_is
    case a15 => k_is
    case l15 => k_is
    case c15 => k_is
    case k15 => k_is
    case a16 => k_is
    case l16 => k_is
    case c16 => k_is
    case k16 => k_is
    case a17 => k_is
    case l17 => k_is
    case c17 => k_is
    case k17 => k_is
    case a18 => k_is
    case l18 => k_is
    case c18 => k_is
    case k18 => k_is
    case a19 => k_is
    case l19 => k_is
    case c19 => k_is
    case k19 => k_is
    case a20 => k_is
    case l20 => k_is
    case c20 => k_is
    case k20 => k_is
    case a21 => k_is
    case l21 => k_is
    case c21 => k_is
    case k21 => k_is
    case a22 => k_is
    case l22 => k_is
    case c22 => k_is
    case k22 => k_is
    case a23 => k_is
    case l23 => k_is
    case c23 => k_is
    case k23 => k_is
    case a24 => k_is
    case l24 => k_is
    case c24 => k_is
    case k24 => k_is
    case a25 => k_is
    case l25 => k_is
    case c25 => k_is
    case k25 => k_is
    case a26 => k_is
    case l26 => k_is
    case c26 => k_is
    case k26 => k_is
    case a27 => k_is
    case l27 => k_is
    case c27 => k_is
    case k27 => k_is
    case a28 => k_is
    case l28 => k_is
    case c28 => k_is
    case k28 => k_is
    case a29 => k_is
    case l29 => k_is
    case c29 => k_is
    case k29 => k_is
    case a30 => k_is
    case l30 => k_is
    case c30 => k_is
    case k30 => k_is
    case a31 => k_is
    case l31 => k_is
    case c31 => k_is
    case k31 => k_is
    case a32 => k_is
    case l32 => k_is
    case c32 => k_is
    case k32 => k_is
    case a33 => k_is
    case l33 => k_is
    case c33 => k_is
    case k33 => k_is
    case a34 => k_is
    case l34 => k_is
    case c34 => k_is
    case k34 => k_is
    case a35 => k_is
    case l35 => k_is
    case c35 => k_is
    case k35 => k_is
    case a36 => k_is
    case l36 => k_is
    case c36 => k_is
    case k36 => k_is
    case y_MaskError => k_is
    case U_MaskError => refine' ⟨?g_U_MaskError_z1, ?g_U_MaskError_z2, ?g_U_MaskError_z3⟩ <;> k_is
    case o_NoNumber => refine' Fm.oexC_mk ?g_o_NoNumber_z1 ?g_o_NoNumber_z2 ?g_o_NoNumber_z3 ?g_o_NoNumber_z4 ?g_o_NoNumber_z5 ?g_o_NoNumber_z6; (case g_o_NoNumber_z1 => k_is); (case g_o_NoNumber_z2 => decide +kernel); (case g_o_NoNumber_z3 => k_is); (case g_o_NoNumber_z4 => k_is); (case g_o_NoNumber_z5 => k_is); (case g_o_NoNumber_z6 => k_is)
    case t_NoNumber => k_is
    case e_NoNumber => refine' ⟨?g_e_NoNumber_z1, ?g_e_NoNumber_z2, ?g_e_NoNumber_z3, ?g_e_NoNumber_z4, ?g_e_NoNumber_z5, ?g_e_NoNumber_z6, ?g_e_NoNumber_z7, ?g_e_NoNumber_z8⟩ <;> k_is
    case x_NoNumber => refine' PySem.W.exm_ref ?g_x_NoNumber_z1 ?g_x_NoNumber_z2 ?g_x_NoNumber_z3 ?g_x_NoNumber_z4 <;> k_is
    case o_NoList => refine' Fm.oexC_mk ?g_o_NoList_z1 ?g_o_NoList_z2 ?g_o_NoList_z3 ?g_o_NoList_z4 ?g_o_NoList_z5 ?g_o_NoList_z6; (case g_o_NoList_z1 => k_is); (case g_o_NoList_z2 => decide +kernel); (case g_o_NoList_z3 => k_is); (case g_o_NoList_z4 => k_is); (case g_o_NoList_z5 => k_is); (case g_o_NoList_z6 => k_is)
    case t_NoList => k_is
    case e_NoList => refine' ⟨?g_e_NoList_z1, ?g_e_NoList_z2, ?g_e_NoList_z3, ?g_e_NoList_z4, ?g_e_NoList_z5, ?g_e_NoList_z6, ?g_e_NoList_z7, ?g_e_NoList_z8⟩ <;> k_is
    case x_NoList => refine' PySem.W.exm_ref ?g_x_NoList_z1 ?g_x_NoList_z2 ?g_x_NoList_z3 ?g_x_NoList_z4 <;> k_is
    case q_NoNumber_NoNumber => exact if_pos (beq_self_eq_true _)
    case q_NoNumber_NoList => refine' Fm.kit_own ?g_q_NoNumber_NoList_z1 ?g_q_NoNumber_NoList_z2 ?g_q_NoNumber_NoList_z3 ?g_q_NoNumber_NoList_z4; (case g_q_NoNumber_NoList_z1 => decide); (case g_q_NoNumber_NoList_z2 => k_is); (case g_q_NoNumber_NoList_z3 => k_is); (case g_q_NoNumber_NoList_z4 => k_is)
    case q_NoList_NoNumber => refine' Fm.kit_own ?g_q_NoList_NoNumber_z1 ?g_q_NoList_NoNumber_z2 ?g_q_NoList_NoNumber_z3 ?g_q_NoList_NoNumber_z4; (case g_q_NoList_NoNumber_z1 => decide); (case g_q_NoList_NoNumber_z2 => k_is); (case g_q_NoList_NoNumber_z3 => k_is); (case g_q_NoList_NoNumber_z4 => k_is)
    case q_NoList_NoList => exact if_pos (beq_self_eq_true _)
    case u1 => k_is
    case u2 => k_is
    case z1 => k_is
    case z2 => k_is
    case z3 => k_is
    case z4 => k_is
    case z5 => k_is
    case z6 => k_is
    case z7 => k_is
    case z8 => k_is
    case z9 => k_is
    case z10 => k_is
    case z11 => k_is
    case z12 => k_is
    case z13 => k_is
    case z14 => k_is
