import PyProof.Rows.All
import Wide.All
import OpenK.AllK
import Wide.FinOn
import HandS.ForMost
import HandS.IsInst
import HandS.TupAny
import HandS.SetKeys
import HandS.DictComp
import HandS.Zip
import HandS.TupLe
import HandS.More
import HandS.Conv
import HandS.Codes
import KE.GoesNew
import KE.KDictZip
import HandS.Zip0
import KE.SortCalls
import KE.SortData
import HandS.Exc
import HandS.ExcInit
import HandS.ExcIs
import HandS.ClsMeth
import HandS.ForExc
import HandS.Deep
import HandS.TupMul
import HandS.Gcd
import HandS.WordsExc
import HandS.OwnEq
import HandS.TupSets
import HandS.Wide
import HandS.ExcField
import PyProof.InstNe
import PySem.Challenge.RW_fairmasks_k03_habits_judged_and_refused
set_option Elab.async false
set_option maxRecDepth 100000
set_option maxHeartbeats 4000000
/-! Plain things of the fairmasks laws: data that a value stands for, heaps that go on, the drawing hand. -/
namespace Fm
open PySem PySem.Spec PyProof.Rows L2

/-- a thing that is judged: lists, dicts, instances are told by their type alone -/
inductive Dt where
  | non | bl (b : Bool) | int (i : Int) | str (s : Str) | tup (ds : List Dt) | oth (t : Value)

/-- only lists may have changed, and they are lists still -/
def Ext (H H' : Hp) : Prop := ∀ b o, H b = some o → H' b = some o ∨ ((∃ xs, o = .lst xs) ∧ ∃ ys, H' b = some (.lst ys))
theorem Ext.refl (H : Hp) : Ext H H := fun _ _ e => .inl e
theorem Ext.of {H H' : Hp} (s : Same H H') : Ext H H' := fun b o e => .inl (s b o e)
theorem Ext.trans {H H1 H2 : Hp} (a : Ext H H1) (b : Ext H1 H2) : Ext H H2 := fun c o e => by
  rcases a c o e with e1 | ⟨⟨xs, rfl⟩, ys, e1⟩
  · exact b c o e1
  · rcases b c _ e1 with e2 | ⟨_, zs, e2⟩
    · exact .inr ⟨⟨xs, rfl⟩, ys, e2⟩
    · exact .inr ⟨⟨xs, rfl⟩, zs, e2⟩
theorem Ext.tup {H H' : Hp} (e : Ext H H') {a : Addr} {xs : List V} (h : H a = some (.tup xs)) : H' a = some (.tup xs) := by
  rcases e a _ h with e1 | ⟨⟨ys, q⟩, _⟩
  · exact e1
  · cases q
theorem Ext.frz {H H' : Hp} (e : Ext H H') {a : Addr} {o : Obj} {u : HO} (h : H a = some (.frz o u)) : H' a = some (.frz o u) := by
  rcases e a _ h with e1 | ⟨⟨ys, q⟩, _⟩
  · exact e1
  · cases q
theorem Ext.sqT {K : PySem.W.Frag} {H H' : Hp} (e : Ext H H') {a : Addr} {xs : List V} (h : SqT K H a xs) : SqT K H' a xs := by
  rcases h with (h | ⟨o, h⟩) | h
  · exact .inl (.inl (e.tup h))
  · exact .inl (.inr ⟨o, e.frz h⟩)
  · exact .inr h
theorem same_new {H : Hp} {p : Addr} {o : HO} (h : H p = none) : Same H (upd H p o) := fun b x e => by
  rw [upd_ne (ne_of_none e h)]
  exact e
theorem Ext.new {H : Hp} {p : Addr} {o : HO} (h : H p = none) : Ext H (upd H p o) := .of (same_new h)
theorem TyX.ext {K : PySem.W.Frag} {H H' : Hp} {v : V} {t : Value} (e : Ext H H') (h : TyX K H v t) : TyX K H' v t := by
  have go : ∀ {a : Addr} {o : HO}, H a = some o → (∀ xs, o ≠ .lst xs) → H' a = some o := fun {a o} q n => by
    rcases e a _ q with e1 | ⟨⟨ys, z⟩, _⟩
    · exact e1
    · exact absurd z (n ys)
  cases h with
  | base b =>
    cases b with
    | non => exact .base .non
    | bl x => exact .base (.bl x)
    | int i => exact .base (.int i)
    | str x => exact .base (.str x)
    | flt x => exact .base (.flt x)
    | @lst a xs q =>
      rcases e a _ q with e1 | ⟨_, ys, e1⟩
      · exact .base (.lst e1)
      · exact .base (.lst e1)
    | frz q => exact .base (.frz (e.frz q))
    | tup q => exact .base (.tup (e.tup q))
    | dK q => exact .base (.dK (go q fun _ z => nomatch z))
    | dT q => exact .base (.dT (go q fun _ z => nomatch z))
    | ins q cl ha hn htk hm => exact .base (.ins (go q fun _ z => nomatch z) cl ha hn htk hm)
  | byt b => exact .byt b
  | set q => exact .set (go q fun _ z => nomatch z)
  | kList q c => exact .kList q c
  | kTuple q c => exact .kTuple q c
  | kDict q c => exact .kDict q c
  | fTuple q => exact .fTuple (e.frz q)
  | fDict q => exact .fDict (e.frz q)

mutual
inductive Dh (K : PySem.W.Frag) (H : Hp) : V → Dt → Prop
  | non : Dh K H .non .non
  | bl (b : Bool) : Dh K H (.bl b) (.bl b)
  | int (i : Int) : Dh K H (.int i) (.int i)
  | str (x : Str) : Dh K H (.str x) (.str x)
  | tup {a : Addr} {xs : List V} {ds : List Dt} : SqT K H a xs → DhAll K H xs ds → Dh K H (.ref a) (.tup ds)
  | oth {v : V} {t : Value} : TyX K H v t → PySem.W.kitOne K t (.type "int") = some false → PySem.W.kitOne K t (.type "tuple") = some false → Dh K H v (.oth t)
inductive DhAll (K : PySem.W.Frag) (H : Hp) : List V → List Dt → Prop
  | nil : DhAll K H [] []
  | cons {v : V} {vs : List V} {d : Dt} {ds : List Dt} : Dh K H v d → DhAll K H vs ds → DhAll K H (v :: vs) (d :: ds)
end
section
variable {K : PySem.W.Frag} {H H' : Hp}
mutual
theorem Dh.ext (e : Ext H H') : ∀ {v : V} {d : Dt}, Dh K H v d → Dh K H' v d
  | _, _, .non => .non
  | _, _, .bl b => .bl b
  | _, _, .int i => .int i
  | _, _, .str x => .str x
  | _, _, .tup s h => .tup (e.sqT s) (DhAll.ext e h)
  | _, _, .oth t k1 k2 => .oth (TyX.ext e t) k1 k2
theorem DhAll.ext (e : Ext H H') : ∀ {vs : List V} {ds : List Dt}, DhAll K H vs ds → DhAll K H' vs ds
  | _, _, .nil => .nil
  | _, _, .cons h t => .cons (Dh.ext e h) (DhAll.ext e t)
end
theorem DhAll.length : ∀ {vs : List V} {ds : List Dt}, DhAll K H vs ds → vs.length = ds.length
  | _, _, .nil => rfl
  | _, _, .cons _ t => congrArg (· + 1) (DhAll.length t)
theorem DhAll.get : ∀ {vs : List V} {ds : List Dt} {i : Nat} {v : V}, DhAll K H vs ds → vs[i]? = some v → ∃ d, ds[i]? = some d ∧ Dh K H v d
  | _, _, _, _, .nil, e => by simp at e
  | _, _, 0, _, .cons h _, e => by simp at e; subst e; exact ⟨_, rfl, h⟩
  | _, _, i + 1, v, .cons _ t, e => by
    obtain ⟨d, h1, h2⟩ := DhAll.get (i := i) (v := v) t (by simpa using e)
    exact ⟨d, by simpa using h1, h2⟩
theorem DhAll.at : ∀ {vs : List V} {ds : List Dt} {i : Nat} {d : Dt}, DhAll K H vs ds → ds[i]? = some d → ∃ v, vs[i]? = some v ∧ Dh K H v d
  | _, _, _, _, .nil, e => by simp at e
  | _, _, 0, _, .cons h _, e => by simp at e; subst e; exact ⟨_, rfl, h⟩
  | _, _, i + 1, d, .cons _ t, e => by
    obtain ⟨v, h1, h2⟩ := DhAll.at (i := i) (d := d) t (by simpa using e)
    exact ⟨v, by simpa using h1, h2⟩
theorem DhAll.snoc : ∀ {vs : List V} {ds : List Dt} {v : V} {d : Dt}, DhAll K H vs ds → Dh K H v d → DhAll K H (vs ++ [v]) (ds ++ [d])
  | _, _, _, _, .nil, h => .cons h .nil
  | _, _, _, _, .cons q t, h => .cons q (DhAll.snoc t h)
theorem DhAll.append : ∀ {vs ws : List V} {ds es : List Dt}, DhAll K H vs ds → DhAll K H ws es → DhAll K H (vs ++ ws) (ds ++ es)
  | _, _, _, _, .nil, h => h
  | _, _, _, _, .cons q t, h => .cons q (DhAll.append t h)

/-! ### what isinstance tells -/
def Dt.isInt : Dt → Bool
  | .int _ => true
  | .bl _ => true
  | _ => false
def Dt.isW : Dt → Bool
  | .int _ => true
  | _ => false
def Dt.isTup : Dt → Bool
  | .tup _ => true
  | _ => false
theorem tyx_tup {a : Addr} {xs : List V} (h : SqT K H a xs) : TyX K H (.ref a) (.type "tuple") := by
  rcases h with (h | ⟨o, h⟩) | ⟨o, its, n, h1, h2, _⟩
  · exact .base (.tup h)
  · exact .fTuple h
  · exact .kTuple h1 h2
theorem Dh.kinds {v : V} {d : Dt} (h : Dh K H v d) : ∃ t, TyX K H v t ∧ PySem.W.kitOne K t (.type "int") = some d.isInt ∧ PySem.W.kitOne K t (.type "tuple") = some d.isTup ∧ (d.isInt = true → PySem.W.kitOne K t (.type "bool") = some (!d.isW)) := by
  cases h with
  | non => exact ⟨_, .base .non, kit_ty (by decide +kernel), kit_ty (by decide +kernel), fun z => nomatch z⟩
  | bl b => exact ⟨_, .base (.bl b), kit_ty (show kitB "bool" "int" = some true by decide +kernel), kit_ty (show kitB "bool" "tuple" = some false by decide +kernel), fun _ => kit_ty (show kitB "bool" "bool" = some true by decide +kernel)⟩
  | int i => exact ⟨_, .base (.int i), kit_ty (show kitB "int" "int" = some true by decide +kernel), kit_ty (show kitB "int" "tuple" = some false by decide +kernel), fun _ => kit_ty (show kitB "int" "bool" = some false by decide +kernel)⟩
  | str x => exact ⟨_, .base (.str x), kit_ty (show kitB "str" "int" = some false by decide +kernel), kit_ty (show kitB "str" "tuple" = some false by decide +kernel), fun z => nomatch z⟩
  | tup s _ => exact ⟨_, tyx_tup s, kit_ty (show kitB "tuple" "int" = some false by decide +kernel), kit_ty (show kitB "tuple" "tuple" = some true by decide +kernel), fun z => nomatch z⟩
  | oth t k1 k2 => exact ⟨_, t, k1, k2, fun z => nomatch z⟩
end

/-! ### promises of defs over data -/
/-- plain: some data come in, one comes out, nothing is changed -/
def spD (K : PySem.W.Frag) (f : List Dt → Option Dt) : Sp := fun vs H Q _ => ∃ ds r, DhAll K H vs ds ∧ f ds = some r ∧ ∀ v H', Same H H' → Dh K H' v r → Q v H'
/-- .. a new list of data comes out -/
def spL (K : PySem.W.Frag) (f : List Dt → Option (List Dt)) : Sp := fun vs H Q _ => ∃ ds rs, DhAll K H vs ds ∧ f ds = some rs ∧ ∀ p xs H', H p = none → Same H H' → H' p = some (.lst xs) → DhAll K H' xs rs → Q (.ref p) H'
theorem Dh.bl_inv {K : PySem.W.Frag} {H : Hp} {v : V} {b : Bool} (h : Dh K H v (.bl b)) : v = .bl b := by cases h; rfl
theorem Dh.int_inv {K : PySem.W.Frag} {H : Hp} {v : V} {i : Int} (h : Dh K H v (.int i)) : v = .int i := by cases h; rfl
theorem Dh.non_inv {K : PySem.W.Frag} {H : Hp} {v : V} (h : Dh K H v .non) : v = .non := by cases h; rfl
theorem Dh.tup_inv {K : PySem.W.Frag} {H : Hp} {v : V} {ds : List Dt} (h : Dh K H v (.tup ds)) : ∃ a xs, v = .ref a ∧ SqT K H a xs ∧ DhAll K H xs ds := by
  cases h with
  | tup s t => exact ⟨_, _, rfl, s, t⟩
/-- the call of such a def -/
theorem spD_of {K : PySem.W.Frag} {f : List Dt → Option Dt} {vs : List V} {H : Hp} {Q : VK} {ds : List Dt} {r : Dt} (h : DhAll K H vs ds) (e : f ds = some r) (q : ∀ v H', Same H H' → Dh K H' v r → Q v H') : spD K f vs H Q E0 := ⟨ds, r, h, e, q⟩
theorem spD_bl {K : PySem.W.Frag} {f : List Dt → Option Dt} {vs : List V} {H : Hp} {Q : VK} {ds : List Dt} {b : Bool} (h : DhAll K H vs ds) (e : f ds = some (.bl b)) (q : ∀ H', Same H H' → Q (.bl b) H') : spD K f vs H Q E0 :=
  ⟨ds, _, h, e, fun v H' s d => by rw [d.bl_inv]; exact q H' s⟩
theorem spD_int {K : PySem.W.Frag} {f : List Dt → Option Dt} {vs : List V} {H : Hp} {Q : VK} {ds : List Dt} {b : Int} (h : DhAll K H vs ds) (e : f ds = some (.int b)) (q : ∀ H', Same H H' → Q (.int b) H') : spD K f vs H Q E0 :=
  ⟨ds, _, h, e, fun v H' s d => by rw [d.int_inv]; exact q H' s⟩
end Fm
namespace Fm
open PySem PySem.Spec PyProof.Rows L2
/-! ### zip of a list and a tuple that both stay as they are -/
/-- a list (true), a tuple (false) that is read -/
def SqA (L : Bool) (K : PySem.W.Frag) (H : Hp) (a : Addr) (xs : List V) : Prop := match L with
  | true => SqL K H a xs
  | false => SqT K H a xs
theorem Ext.sqTs {K : PySem.W.Frag} {H H' : Hp} {a : Addr} {xs : List V} {L : Bool} (e : Same H H') (h : SqA L K H a xs) : SqA L K H' a xs := match L, h with
  | true, h => e.seq h
  | false, h => (Ext.of e).sqT h
theorem SqA.any {K : PySem.W.Frag} {H : Hp} {a : Addr} {xs : List V} {L : Bool} (h : SqA L K H a xs) : SqL K H a xs ∨ SqT K H a xs := match L, h with
  | true, h => .inl h
  | false, h => .inr h
/-- pairs of the items of a list or tuple and of a tuple that stay as they are -/
def ItM (L : Bool) (K : PySem.W.Frag) (a b : Addr) (xs ys : List V) : It where
  go := fun i H => SqA L K H a xs ∧ SqT K H b ys ∧ i < xs.length ∧ i < ys.length
  yld := fun i H v H' => ∃ T x y, v = .ref T ∧ H T = none ∧ H' = upd H T (.tup [x, y]) ∧ xs[i]? = some x ∧ ys[i]? = some y
  stop := fun i H => SqA L K H a xs ∧ SqT K H b ys ∧ i = min xs.length ys.length
theorem vals_at {xs : List V} {us : List Value} {i : Nat} {u : Value} (r : Vals xs us) (h : us[i]? = some u) : ∃ x, xs[i]? = some x ∧ RelV x u := by
  obtain ⟨hl, e⟩ := List.getElem?_eq_some_iff.mp h
  have hx : i < xs.length := by rw [r.length]; exact hl
  obtain ⟨u', e1, e2⟩ := r.get (List.getElem?_eq_getElem hx)
  rw [h] at e1
  cases e1
  exact ⟨_, List.getElem?_eq_getElem hx, e2⟩
theorem turn_m {P : Program} {w : World} {K : PySem.W.Frag} {elts : List Expr} {kk : Nat} {tp : Pos} {a b z TI TO i1 i2 : Addr} {xs ys : List V} (S : ZipSep2 z TI TO i1 i2 [i1, a] [i2, b]) (n1 : a ≠ i1) (n2 : b ≠ i2) :
    Turn P w K (.Tuple elts kk tp) (ItM true K a b xs ys) [z, TI, TO, i1, i2] z
      (fun i h => IsZip h z TI TO .none ∧ IsTupOf2 h TI (.ref i1) (.ref i2) ∧ (∃ u v, IsTupOf2 h TO u v) ∧ h.IsListIter i1 a i ∧ h.IsTupleIter i2 b i) where
  mem := List.mem_cons_self ..
  obj := by
    rintro i h ⟨q1, q2, ⟨u, v, q3⟩, ⟨o4, q4, _, d4⟩, ⟨o5, q5, _, d5⟩⟩ c hc
    rcases (show c = z ∨ c = TI ∨ c = TO ∨ c = i1 ∨ c = i2 by simpa using hc) with e | e | e | e | e <;> subst e
    · exact ⟨_, q1, fun _ y => nomatch y⟩
    · exact ⟨_, q2, fun _ y => nomatch y⟩
    · exact ⟨_, q3, fun _ y => nomatch y⟩
    · exact ⟨o4, q4, fun _ y => by rw [d4] at y; cases y⟩
    · exact ⟨o5, q5, fun _ y => by rw [d5] at y; cases y⟩
  keep := by
    rintro i h h' ⟨q1, q2, ⟨u, v, q3⟩, q4, q5⟩ k
    exact ⟨k _ (by simp) _ q1, k _ (by simp) _ q2, ⟨u, v, k _ (by simp) _ q3⟩, q4.at fun o e => k _ (by simp) o e, q5.at fun o e => k _ (by simp) o e⟩
  item := by
    intro X hP hw hK hc i pins s σ H E I hf st hg
    subst hP hw hK
    obtain ⟨hx, hy, lx, ly⟩ := hg
    obtain ⟨us, rx, px, _⟩ := I.list hx
    obtain ⟨ws, ry, py, _⟩ := I.tuple hy
    have hd : X.A.in1.handled = none := I.ok.hd hc
    have W := GoesN.zip2 (elts := elts) (x1 := kk) (pos := tp) S (Draws.list (prog := X.prog) (w := X.w) hd i1 a n1 us.toArray) (Draws.tuple (prog := X.prog) (w := X.w) hd i2 b n2 ws.toArray)
    have hlt : i < min us.toArray.size ws.toArray.size := by
      rw [List.size_toArray, List.size_toArray, ← rx.length, ← ry.length]
      omega
    obtain ⟨q1, q2, q3, q4, q5⟩ := st
    refine W.goes i s (fun v s2 => ∃ x H', Inv X pins σ H' s2 ∧ RelV x v ∧ (ItM true X.K a b xs ys).yld i H x H' ∧ (IsZip s2.heap z TI TO .none ∧ IsTupOf2 s2.heap TI (.ref i1) (.ref i2) ∧ (∃ u v, IsTupOf2 s2.heap TO u v) ∧ s2.heap.IsListIter i1 a (i + 1) ∧ s2.heap.IsTupleIter i2 b (i + 1)) ∧ ∀ c ∈ [z, TI, TO, i1, i2], H' c = none) E hlt
      ⟨q1, q2, q3, ⟨q4, px.isList⟩, q5, py⟩ fun v h' tk hY st' hk _ => ?_
    obtain ⟨T, u, v', rfl, hT, hu, hv, hTt⟩ := hY
    obtain ⟨g1, g2, g3, ⟨g4, _⟩, g5, _⟩ := st'
    obtain ⟨x, ex, rxu⟩ := vals_at rx (show us[i]? = some u by simpa using hu)
    obtain ⟨y, ey, ryu⟩ := vals_at ry (show ws[i]? = some v' by simpa using hv)
    have new : ObjOk X.prog X.w (upd H T (.tup [x, y])) h' T (.tup [x, y]) := ⟨by show 2 ≤ sizeLine; decide, [u, v'], .cons rxu (.cons ryu .nil), hTt⟩
    refine ⟨.ref T, _, I.turnedNew (t' := tk) (ch := [z, TI, TO, i1, i2]) (fun c o hn e => hk c o (fun m => hn ?_) e) hf hT new, rfl, ⟨T, x, y, rfl, I.hok.fresh hT, rfl, ex, ey⟩, ⟨g1, g2, g3, g4, g5⟩, fun c hm => ?_⟩
    · simp only [List.mem_cons, List.not_mem_nil, or_false] at m ⊢
      rcases m with m | m | m | m <;> simp [m]
    · obtain ⟨o, e⟩ : ∃ o, s.heap.get? c = some o := by
        rcases (show c = z ∨ c = TI ∨ c = TO ∨ c = i1 ∨ c = i2 by simpa using hm) with e | e | e | e | e <;> subst e
        · exact ⟨_, q1⟩
        · exact ⟨_, q2⟩
        · obtain ⟨_, _, q⟩ := q3
          exact ⟨_, q⟩
        · obtain ⟨o, q, _⟩ := q4
          exact ⟨o, q⟩
        · obtain ⟨o, q, _⟩ := q5
          exact ⟨o, q⟩
      rw [upd_ne (Nat.ne_of_lt (Nat.lt_of_lt_of_le (Heap.lt_size e) hT))]
      exact (hf c hm).1
  done := by
    intro X hP hw hK hc i pins s σ H E I hf st hg
    subst hP hw hK
    obtain ⟨hx, hy, hi⟩ := hg
    obtain ⟨us, rx, px, _⟩ := I.list hx
    obtain ⟨ws, ry, py, _⟩ := I.tuple hy
    have hd : X.A.in1.handled = none := I.ok.hd hc
    have W := GoesN.zip2 (elts := elts) (x1 := kk) (pos := tp) S (Draws.list (prog := X.prog) (w := X.w) hd i1 a n1 us.toArray) (Draws.tuple (prog := X.prog) (w := X.w) hd i2 b n2 ws.toArray)
    have hn : i = min us.toArray.size ws.toArray.size := by
      rw [List.size_toArray, List.size_toArray, ← rx.length, ← ry.length]
      exact hi
    subst hn
    obtain ⟨q1, q2, q3, q4, q5⟩ := st
    refine W.stops s (fun s1 => Inv X pins σ H s1) E ⟨q1, q2, q3, ⟨q4, px.isList⟩, q5, py⟩ fun h' tk hk _ => ?_
    refine I.turnedL (t' := tk) (ch := [z, TI, TO, i1, i2]) (fun c o hn e => hk c o (fun m => hn ?_) e) hf
    simp only [List.mem_cons, List.not_mem_nil, or_false] at m ⊢
    rcases m with m | m | m | m <;> simp [m]
  self := fun _ _ _ _ _ st q => wpAny_pyIter_zip st.1 q
theorem turn_t {P : Program} {w : World} {K : PySem.W.Frag} {elts : List Expr} {kk : Nat} {tp : Pos} {a b z TI TO i1 i2 : Addr} {xs ys : List V} (S : ZipSep2 z TI TO i1 i2 [i1, a] [i2, b]) (n1 : a ≠ i1) (n2 : b ≠ i2) :
    Turn P w K (.Tuple elts kk tp) (ItM false K a b xs ys) [z, TI, TO, i1, i2] z
      (fun i h => IsZip h z TI TO .none ∧ IsTupOf2 h TI (.ref i1) (.ref i2) ∧ (∃ u v, IsTupOf2 h TO u v) ∧ h.IsTupleIter i1 a i ∧ h.IsTupleIter i2 b i) where
  mem := List.mem_cons_self ..
  obj := by
    rintro i h ⟨q1, q2, ⟨u, v, q3⟩, ⟨o4, q4, _, d4⟩, ⟨o5, q5, _, d5⟩⟩ c hc
    rcases (show c = z ∨ c = TI ∨ c = TO ∨ c = i1 ∨ c = i2 by simpa using hc) with e | e | e | e | e <;> subst e
    · exact ⟨_, q1, fun _ y => nomatch y⟩
    · exact ⟨_, q2, fun _ y => nomatch y⟩
    · exact ⟨_, q3, fun _ y => nomatch y⟩
    · exact ⟨o4, q4, fun _ y => by rw [d4] at y; cases y⟩
    · exact ⟨o5, q5, fun _ y => by rw [d5] at y; cases y⟩
  keep := by
    rintro i h h' ⟨q1, q2, ⟨u, v, q3⟩, q4, q5⟩ k
    exact ⟨k _ (by simp) _ q1, k _ (by simp) _ q2, ⟨u, v, k _ (by simp) _ q3⟩, q4.at fun o e => k _ (by simp) o e, q5.at fun o e => k _ (by simp) o e⟩
  item := by
    intro X hP hw hK hc i pins s σ H E I hf st hg
    subst hP hw hK
    obtain ⟨hx, hy, lx, ly⟩ := hg
    obtain ⟨us, rx, px, _⟩ := I.tuple hx
    obtain ⟨ws, ry, py, _⟩ := I.tuple hy
    have hd : X.A.in1.handled = none := I.ok.hd hc
    have W := GoesN.zip2 (elts := elts) (x1 := kk) (pos := tp) S (Draws.tuple (prog := X.prog) (w := X.w) hd i1 a n1 us.toArray) (Draws.tuple (prog := X.prog) (w := X.w) hd i2 b n2 ws.toArray)
    have hlt : i < min us.toArray.size ws.toArray.size := by
      rw [List.size_toArray, List.size_toArray, ← rx.length, ← ry.length]
      omega
    obtain ⟨q1, q2, q3, q4, q5⟩ := st
    refine W.goes i s (fun v s2 => ∃ x H', Inv X pins σ H' s2 ∧ RelV x v ∧ (ItM false X.K a b xs ys).yld i H x H' ∧ (IsZip s2.heap z TI TO .none ∧ IsTupOf2 s2.heap TI (.ref i1) (.ref i2) ∧ (∃ u v, IsTupOf2 s2.heap TO u v) ∧ s2.heap.IsTupleIter i1 a (i + 1) ∧ s2.heap.IsTupleIter i2 b (i + 1)) ∧ ∀ c ∈ [z, TI, TO, i1, i2], H' c = none) E hlt
      ⟨q1, q2, q3, ⟨q4, px⟩, q5, py⟩ fun v h' tk hY st' hk _ => ?_
    obtain ⟨T, u, v', rfl, hT, hu, hv, hTt⟩ := hY
    obtain ⟨g1, g2, g3, ⟨g4, _⟩, g5, _⟩ := st'
    obtain ⟨x, ex, rxu⟩ := vals_at rx (show us[i]? = some u by simpa using hu)
    obtain ⟨y, ey, ryu⟩ := vals_at ry (show ws[i]? = some v' by simpa using hv)
    have new : ObjOk X.prog X.w (upd H T (.tup [x, y])) h' T (.tup [x, y]) := ⟨by show 2 ≤ sizeLine; decide, [u, v'], .cons rxu (.cons ryu .nil), hTt⟩
    refine ⟨.ref T, _, I.turnedNew (t' := tk) (ch := [z, TI, TO, i1, i2]) (fun c o hn e => hk c o (fun m => hn ?_) e) hf hT new, rfl, ⟨T, x, y, rfl, I.hok.fresh hT, rfl, ex, ey⟩, ⟨g1, g2, g3, g4, g5⟩, fun c hm => ?_⟩
    · simp only [List.mem_cons, List.not_mem_nil, or_false] at m ⊢
      rcases m with m | m | m | m <;> simp [m]
    · obtain ⟨o, e⟩ : ∃ o, s.heap.get? c = some o := by
        rcases (show c = z ∨ c = TI ∨ c = TO ∨ c = i1 ∨ c = i2 by simpa using hm) with e | e | e | e | e <;> subst e
        · exact ⟨_, q1⟩
        · exact ⟨_, q2⟩
        · obtain ⟨_, _, q⟩ := q3
          exact ⟨_, q⟩
        · obtain ⟨o, q, _⟩ := q4
          exact ⟨o, q⟩
        · obtain ⟨o, q, _⟩ := q5
          exact ⟨o, q⟩
      rw [upd_ne (Nat.ne_of_lt (Nat.lt_of_lt_of_le (Heap.lt_size e) hT))]
      exact (hf c hm).1
  done := by
    intro X hP hw hK hc i pins s σ H E I hf st hg
    subst hP hw hK
    obtain ⟨hx, hy, hi⟩ := hg
    obtain ⟨us, rx, px, _⟩ := I.tuple hx
    obtain ⟨ws, ry, py, _⟩ := I.tuple hy
    have hd : X.A.in1.handled = none := I.ok.hd hc
    have W := GoesN.zip2 (elts := elts) (x1 := kk) (pos := tp) S (Draws.tuple (prog := X.prog) (w := X.w) hd i1 a n1 us.toArray) (Draws.tuple (prog := X.prog) (w := X.w) hd i2 b n2 ws.toArray)
    have hn : i = min us.toArray.size ws.toArray.size := by
      rw [List.size_toArray, List.size_toArray, ← rx.length, ← ry.length]
      exact hi
    subst hn
    obtain ⟨q1, q2, q3, q4, q5⟩ := st
    refine W.stops s (fun s1 => Inv X pins σ H s1) E ⟨q1, q2, q3, ⟨q4, px⟩, q5, py⟩ fun h' tk hk _ => ?_
    refine I.turnedL (t' := tk) (ch := [z, TI, TO, i1, i2]) (fun c o hn e => hk c o (fun m => hn ?_) e) hf
    simp only [List.mem_cons, List.not_mem_nil, or_false] at m ⊢
    rcases m with m | m | m | m <;> simp [m]
  self := fun _ _ _ _ _ st q => wpAny_pyIter_zip st.1 q
/-- zip(list or tuple, tuple) as what a for walks -/
def iZipM (K : PySem.W.Frag) (ta : TA) : TI := fun σ H R => ta σ H fun vs H1 => ∃ (L : Bool) (a b : Addr) (xs ys : List V), vs = [.ref a, .ref b] ∧ SqA L K H1 a xs ∧ SqT K H1 b ys ∧ R (ItM L K a b xs ys) H1
theorem pi_zipM {X : Cx} {e e2 : Expr} {ta : TA} {p pos tp : Pos} {elts : List Expr} {kk : Nat} (hg : Gl X "zip") (hm : X.mg "zip" = none) (ha : PA X [e, e2] ta)
    (h1 : starEach [e, e2] X.env = (false, eval e X.env) :: starEach [e2] X.env := by rfl) (h2 : (backTo pos (starEach [e2] X.env)).any (·.1) = false := by rfl) :
    PI X (.Tuple elts kk tp) (.Call (.Name "zip" p) [e, e2] [] pos) (iZipM X.K ta) := by
  constructor
  intro pins s σ H R I h
  refine Call_ (ld_blt I hg hm PyProof.Rows.boot_zip (PyProof.Rows.callWith_type1 (thn (ha.run pos pins s σ H _ I h) fun us s1 q => ?_) h1 h2))
  obtain ⟨vs, H1, I1, r1, L, a, b, xs, ys, rfl, hx, hy, q⟩ := q
  match us, r1 with
  | [_, _], .cons ra (.cons rb .nil) =>
    cases ra
    cases rb
    cases L with
    | true =>
      have hx : SqL X.K H1 a xs := hx
      obtain ⟨us, rx, px, _⟩ := I1.list hx
      obtain ⟨ws, ry, py, _⟩ := I1.tuple hy
      have la : a < s1.heap.objs.size := px.lt
      have lb : b < s1.heap.objs.size := by
        obtain ⟨o, e, _⟩ := py
        exact Heap.lt_size e
      refine zip_begins2 (begins_list a us.toArray) (begins_tuple b ws.toArray) px.isList py fun h' k1 k2 k3 k4 k5 k6 k7 => wpAny_pyIter_zip k1 ?_
      have I2 : Inv X pins σ H1 { s1 with heap := h' } := I1.kept (t' := s1.toks) k7
      refine ⟨_, [s1.heap.objs.size + 4, s1.heap.objs.size + 2, s1.heap.objs.size + 3, s1.heap.objs.size, s1.heap.objs.size + 1], _, _, H1, rfl, I2,
        turn_m (zip_sep2 (N := s1.heap.objs.size) (fp1 := [a]) (fp2 := [b]) (by simpa using la) (by simpa using lb)) (Nat.ne_of_lt la) (Nat.ne_of_lt (Nat.lt_succ_of_lt lb)), ⟨k1, k2, ⟨_, _, k3⟩, ⟨_, k4, rfl, rfl⟩, ⟨_, k5, rfl, rfl⟩⟩, fun c hc => ?_, q⟩
      have hle : s1.heap.objs.size ≤ c := by
        simp only [List.mem_cons, List.not_mem_nil, or_false] at hc
        rcases hc with e | e | e | e | e <;> (rw [e]; first | exact Nat.le_refl _ | exact Nat.le_add_right _ _)
      exact I1.fpOk hle (I1.hok.fresh hle)
    | false =>
      have hx : SqT X.K H1 a xs := hx
      obtain ⟨us, rx, px, _⟩ := I1.tuple hx
      obtain ⟨ws, ry, py, _⟩ := I1.tuple hy
      have la : a < s1.heap.objs.size := by
        obtain ⟨o, e, _⟩ := px
        exact Heap.lt_size e
      have lb : b < s1.heap.objs.size := by
        obtain ⟨o, e, _⟩ := py
        exact Heap.lt_size e
      refine zip_begins2 (begins_tuple a us.toArray) (begins_tuple b ws.toArray) px py fun h' k1 k2 k3 k4 k5 k6 k7 => wpAny_pyIter_zip k1 ?_
      have I2 : Inv X pins σ H1 { s1 with heap := h' } := I1.kept (t' := s1.toks) k7
      refine ⟨_, [s1.heap.objs.size + 4, s1.heap.objs.size + 2, s1.heap.objs.size + 3, s1.heap.objs.size, s1.heap.objs.size + 1], _, _, H1, rfl, I2,
        turn_t (zip_sep2 (N := s1.heap.objs.size) (fp1 := [a]) (fp2 := [b]) (by simpa using la) (by simpa using lb)) (Nat.ne_of_lt la) (Nat.ne_of_lt (Nat.lt_succ_of_lt lb)), ⟨k1, k2, ⟨_, _, k3⟩, ⟨_, k4, rfl, rfl⟩, ⟨_, k5, rfl, rfl⟩⟩, fun c hc => ?_, q⟩
      have hle : s1.heap.objs.size ≤ c := by
        simp only [List.mem_cons, List.not_mem_nil, or_false] at hc
        rcases hc with e | e | e | e | e <;> (rw [e]; first | exact Nat.le_refl _ | exact Nat.le_add_right _ _)
      exact I1.fpOk hle (I1.hok.fresh hle)
/-- a loop over such pairs -/
theorem for_zipM {L : Bool} {K : PySem.W.Frag} {a b : Addr} {xs ys : List V} {g : TG} {tb : TS} {D : Ends} {σ : L2.St} {H : Hp} (Pv : Nat → L2.St → Hp → Prop) (h0 : Pv 0 σ H) (hq : ∀ i σ H, Pv i σ H → SqA L K H a xs ∧ SqT K H b ys)
    (hs : ∀ (i : Nat) (x y : V) (T : Addr) (σ : L2.St) (H : Hp), xs[i]? = some x → ys[i]? = some y → Pv i σ H → H T = none → g (.ref T) σ (upd H T (.tup [x, y])) fun σ2 H2 => tb { D with nx := Pv (i + 1), ct := Pv (i + 1), bk := D.nx } σ2 H2)
    (hd : ∀ σ H, Pv (min xs.length ys.length) σ H → D.nx σ H) :
    ∃ W : Nat → Nat → L2.St → Hp → Prop, (∃ m, W 0 m σ H) ∧ ∀ i m σ H, W i m σ H →
      ((ItM L K a b xs ys).stop i H ∧ D.nx σ H) ∨ ((ItM L K a b xs ys).go i H ∧ ∃ N : L2.St → Hp → Prop, (∀ σ' H', N σ' H' → ∃ m', m' < m ∧ W (i + 1) m' σ' H') ∧ ∀ v H', (ItM L K a b xs ys).yld i H v H' → g v σ H' fun σ2 H2 => tb { D with nx := N, ct := N, bk := D.nx } σ2 H2) := by
  refine ⟨fun i m σ H => i + m = min xs.length ys.length ∧ Pv i σ H, ⟨_, Nat.zero_add _, h0⟩, ?_⟩
  rintro i m σ H ⟨em, p⟩
  obtain ⟨qx, qy⟩ := hq i σ H p
  cases m with
  | zero =>
    have ei : i = min xs.length ys.length := em
    refine .inl ⟨⟨qx, qy, ei⟩, hd σ H ?_⟩
    rw [← ei]
    exact p
  | succ m =>
    refine .inr ⟨⟨qx, qy, by omega, by omega⟩, Pv (i + 1), fun σ' H' p' => ⟨m, Nat.lt_succ_self m, by omega, p'⟩, fun v H' y => ?_⟩
    obtain ⟨T, x, y', rfl, hT, rfl, f1, f2⟩ := y
    exact hs i x y' T σ H f1 f2 p hT
end Fm
namespace Fm
open PySem PySem.Spec PyProof.Rows L2
/-- a comprehension over a list, within it over range(n): Pv by both turns and the heap -/
theorem lc2_lr {K : PySem.W.Frag} {a : Addr} {xs : List V} {n : Nat} {i0 j0 : Nat} {ta : TA} {te : TE} {vs vs1 : List Nat} {σ : L2.St} {H1 : Hp} {D : Addr} {Qd : Hp → Prop} (Pv : Nat → Nat → Hp → Prop) (hn : n < 2 ^ 62)
    (hw : ∀ x, wipe ((wipe σ vs).set i0 (some x)) vs = wipe σ vs) (hw1 : ∀ x y, wipe ((wipe ((wipe σ vs).set i0 (some x)) vs1).set j0 (some y)) vs1 = wipe ((wipe σ vs).set i0 (some x)) vs1) (h0 : Pv 0 0 (upd H1 D (.lst []))) (hl : ∀ i j H, Pv i j H → SqL K H a xs)
    (hr : ∀ i x H, xs[i]? = some x → Pv i 0 H → ∀ R : List V → Hp → Prop, R [.int n] H → ta ((wipe σ vs).set i0 (some x)) H R)
    (hs : ∀ (i j : Nat) x H, xs[i]? = some x → j < n → Pv i j H → te ((wipe ((wipe σ vs).set i0 (some x)) vs1).set j0 (some (.int (j : Int)))) H fun y H7 => ∃ acc, H7 D = some (.lst acc) ∧ acc.length < sizeLine ∧ Pv i (j + 1) (upd H7 D (.lst (acc ++ [y]))))
    (hj : ∀ i H, i < xs.length → Pv i n H → Pv (i + 1) 0 H) (hd : ∀ H, Pv xs.length 0 H → Qd H) :
    ∃ W : Nat → Nat → Hp → Prop, (∃ m, W 0 m (upd H1 D (.lst []))) ∧ ∀ i m H, W i m H →
      ((Itl K a).stop i H ∧ Qd H) ∨ ((Itl K a).go i H ∧ ∃ Nx : Hp → Prop, (∀ H', Nx H' → ∃ m', m' < m ∧ W (i + 1) m' H') ∧ ∀ x H', (Itl K a).yld i H x H' → gName i0 x (wipe σ vs) H' fun σ2 H2 => wipe σ2 vs = wipe σ vs ∧ tYes σ2 H2 fun b H3 =>
        if b = true then (iRng1 ta) σ2 H3 fun J1 H4 => ∃ W1 : Nat → Nat → Hp → Prop, (∃ m, W1 0 m H4) ∧ ∀ j k H, W1 j k H →
          (J1.stop j H ∧ Nx H) ∨ (J1.go j H ∧ ∃ Nx1 : Hp → Prop, (∀ H', Nx1 H' → ∃ k', k' < k ∧ W1 (j + 1) k' H') ∧ ∀ x H', J1.yld j H x H' → gName j0 x (wipe σ2 vs1) H' fun σ3 H5 => wipe σ3 vs1 = wipe σ2 vs1 ∧ tYes σ3 H5 fun b H6 =>
            if b = true then te σ3 H6 fun y H7 => ∃ acc, H7 D = some (.lst acc) ∧ acc.length < sizeLine ∧ Nx1 (upd H7 D (.lst (acc ++ [y]))) else Nx1 H6)
        else Nx H3) := by
  refine ⟨fun i m H => i + m = xs.length ∧ Pv i 0 H, ⟨xs.length, Nat.zero_add _, h0⟩, fun i m H h => ?_⟩
  obtain ⟨em, p⟩ := h
  have q := hl i 0 H p
  cases m with
  | zero =>
    have ei : i = xs.length := em
    subst ei
    exact .inl ⟨⟨xs, q, Nat.le_refl _⟩, hd H p⟩
  | succ m =>
    have hlt : i < xs.length := by omega
    refine .inr ⟨⟨xs, xs[i], q, List.getElem?_eq_getElem hlt⟩, Pv (i + 1) 0, fun H' p' => ⟨m, Nat.lt_succ_self m, by omega, p'⟩, fun x H' y => ?_⟩
    obtain ⟨rfl, y⟩ := y
    have hx := y xs q
    refine ⟨hw x, ?_⟩
    dsimp only [tYes]
    rw [if_pos rfl]
    refine hr i x _ hx p _ ⟨(n : Int), rfl, by omega, by omega, ?_⟩
    refine ⟨fun j k H => j + k = n ∧ Pv i j H, ⟨n, Nat.zero_add _, p⟩, fun j k H h => ?_⟩
    obtain ⟨ek, pj⟩ := h
    cases k with
    | zero =>
      have ej : j = n := ek
      subst ej
      exact .inl ⟨by show ((j : Nat) : Int).toNat ≤ j; omega, hj i H hlt pj⟩
    | succ k =>
      have hjn : j < n := by omega
      refine .inr ⟨by show j < ((n : Nat) : Int).toNat; omega, Pv i (j + 1), fun H' p' => ⟨k, Nat.lt_succ_self k, by omega, p'⟩, fun y H' e => ?_⟩
      obtain ⟨rfl, rfl⟩ := e
      have e0 : (0 : Int) + (j : Int) = (j : Int) := Int.zero_add _
      rw [e0]
      refine ⟨hw1 x _, ?_⟩
      rw [if_pos rfl]
      exact hs i j x _ hx hjn pj
end Fm
namespace Fm
open PySem PySem.Spec PyProof.Rows L2
/-! ### rules whose reading is to name the written part by itself (within a comprehension's block) -/
section
variable {X : Cx} (K : PySem.W.Frag)
theorem op_catK (e : X.K = K := by rfl) : OpR X (binaryOp .Add) (rCatA K) := e ▸ op_catA
theorem op_eqK (hu : X.A.units + 64 < cLine) (e : X.K = K := by rfl) : OpR X (compareOp .Eq) (rEqD K) := e ▸ op_eqD hu
theorem op_neK (hu : X.A.units + 64 < cLine) (e : X.K = K := by rfl) : OpR X (compareOp .NotEq) (rNeD K) := e ▸ op_neD hu
theorem ix_tupK (e : X.K = K := by rfl) : IxR X (rIxT K) := e ▸ ix_tup
theorem ix_listK (e : X.K = K := by rfl) : IxR X (rIxL K) := e ▸ ix_list
theorem call_isiK' (e : X.K = K := by rfl) : CallR X (.builtin "isinstance") (rIsi K) := e ▸ call_isi
theorem pg_tupK {es : List Expr} {k : Nat} {t : TGs} {n : Nat} {pos : Pos} (hc : X.calm = true) (h : PGs X es t) (e : X.K = K := by rfl) (hn : (assignEach es X.env).length = n := by rfl) (hst : (assignEach es X.env).findIdx? (·.1) = none := by rfl) :
    PG X (.Tuple es k pos) (gTup K n t) := e ▸ pg_tup hc h hn hst
theorem pi_tupK {tg l : Expr} {tl : TE} (hl : PE X l tl) (e : X.K = K := by rfl) : PI X tg l (iTup K tl) := e ▸ pi_tup hl
theorem pi_listK {tg l : Expr} {tl : TE} (hl : PE X l tl) (e : X.K = K := by rfl) : PI X tg l (iList K tl) := e ▸ pi_list hl
theorem sl_tupK (e : X.K = K := by rfl) : SlR X (rSlA K) := e ▸ sl_tupA
theorem sl_listK (e : X.K = K := by rfl) : SlR X (rSlL K) := e ▸ sl_list
/-- len of a list or tuple; tuple(list or tuple) -/
def rLenK (K : PySem.W.Frag) : List V → Hp → VK → Prop := fun xs H Q => ∃ p ys, xs = [.ref p] ∧ (SqL K H p ys ∨ SqT K H p ys) ∧ Q (.int ys.length) H
theorem call_lenK (e : X.K = K := by rfl) : CallR X (.builtin "len") (rLenK K) := e ▸ call_len_seq
def rTupK (K : PySem.W.Frag) : List V → Hp → VK → Prop := fun xs H Q => ∃ p ys, xs = [.ref p] ∧ ((SqL K H p ys ∧ ∀ l, H l = none → Q (.ref l) (upd H l (.tup ys))) ∨ (SqT K H p ys ∧ Q (.ref p) H))
theorem call_tupleK (e : X.K = K := by rfl) : CallR X (.type "tuple") (rTupK K) := e ▸ call_tuple_of
end
end Fm
namespace Fm
open PySem PySem.Spec PyProof.Rows L2
/-! ### dict(zip(t, u)) of two tuples: the pair that zip gave out before is still held -/
section
variable {prog : Program} {w : World} {A : Around} {E : Value → Shared → Prop} {s : Shared}
theorem zh_item {z TI TO T i1 i2 l1 l2 : Addr} {f : Bool} {oT : Obj} {k1 k2 : Nat} {xs ys : Array Value} {x y : Value} {Q : Value → Shared → Prop} (D : ZipApart z TI TO i1 i2 l1 l2) (hz : IsZipHeld s.heap z TI TO T f) (hT : s.heap.get? T = some oT) (hTI : IsPair s.heap TI (.ref i1) (.ref i2))
    (g1 : s.heap.IsTupleIter i1 l1 k1) (g2 : s.heap.IsTupleIter i2 l2 k2) (t1 : s.heap.IsTuple l1 xs) (t2 : s.heap.IsTuple l2 ys) (hx : xs[k1]? = some x) (hy : ys[k2]? = some y)
    (q : ∀ h', IsZipHeld h' z TI TO T true → h'.IsTupleIter i1 l1 (k1 + 1) → h'.IsTupleIter i2 l2 (k2 + 1) → IsPair h' s.heap.objs.size x y → (∀ c o, c ≠ z → c ≠ i1 → c ≠ i2 → s.heap.get? c = some o → h'.get? c = some o) → Q (.ref s.heap.objs.size) { s with heap := h' }) :
    wpAny (model prog w) A (Builtin.«zip.__next__» ⟨[.ref z], []⟩) (fun fin s' => ∃ v, fin = .done (.ret v) ∧ Q v s') E s := by
  show wpAny _ _ (field (.ref z) 2 >>= _) _ _ _; refine wpAny_bind (wpAny_field hz rfl (x := .bool false) rfl ?_)
  show wpAny _ _ (field (.ref z) 3 >>= _) _ _ _; refine wpAny_bind (wpAny_field hz rfl (x := .ref TI) rfl (wpAny_bind (wpAny_seqItems hTI rfl ?_)))
  show wpAny _ _ (Builtin.SmallTypes.ownedTupleIsFree (.ref z) >>= _) _ _ _; refine wpAny_bind (wpAny_tupleHeld_zip hz hT fun ha za sa => ?_)
  simp only [Bool.false_eq_true, if_false]; refine wpAny_bind ?_; rw [← Array.forIn_toList]; simp only [List.forIn_cons, List.forIn_nil]
  refine wpAny_bind (wpAny_bind (wpAny_holding ?_)); show wpAny _ _ (Builtin.SmallTypes.nextOf (.ref i1) >>= _) _ _ _
  refine wpAny_bind (RZ.nextOf_tuple_item (s := { s with heap := ha }) (g1.at fun o e => sa.extBut _ _ D.i1z e) (t1.at fun o e => sa.extBut _ _ D.l1z e) hx fun hb gb sb => wpAny_pure (wpAny_pure ?_))
  refine wpAny_bind (wpAny_bind (wpAny_holding ?_)); show wpAny _ _ (Builtin.SmallTypes.nextOf (.ref i2) >>= _) _ _ _
  refine wpAny_bind (RZ.nextOf_tuple_item (s := { s with heap := hb }) (g2.at fun o e => sb.extBut _ _ D.i12.symm (sa.extBut _ _ D.i2z e)) (t2.at fun o e => sb.extBut _ _ D.l2i1 (sa.extBut _ _ D.l2z e)) hy fun hc gc sc => wpAny_pure (wpAny_pure (wpAny_pure ?_)))
  show wpAny _ _ (newTuple [x, y] >>= _) _ _ _; refine wpAny_bind (wpAny_newTuple (wpAny_pure ⟨_, rfl, ?_⟩))
  have ez : hc.objs.size = s.heap.objs.size := by rw [sc.1, sb.1, sa.1]
  have kk : ∀ c o, c ≠ z → c ≠ i1 → c ≠ i2 → s.heap.get? c = some o → hc.get? c = some o := fun c o c1 c2 c3 e => sc.extBut _ _ c3 (sb.extBut _ _ c2 (sa.extBut _ _ c1 e))
  have hp : IsPair (hc.push { cls := .type "tuple", data := .seq #[x, y] }) hc.objs.size x y := Heap.get?_push_size _ rfl
  show Q (.ref hc.objs.size) _
  rw [ez] at hp ⊢
  exact q _ (Heap.get?_push_of_some _ (sc.extBut _ _ D.i2z.symm (sb.extBut _ _ D.i1z.symm za))) (gb.at fun o e => Heap.get?_push_of_some _ (sc.extBut _ _ D.i12 e)) (gc.at fun o e => Heap.get?_push_of_some _ e) hp fun c o c1 c2 c3 e => Heap.get?_push_of_some _ (kk c o c1 c2 c3 e)
theorem zh_end {z TI TO T i1 i2 l1 l2 : Addr} {f : Bool} {oT : Obj} {k1 k2 : Nat} {xs ys : Array Value} {Q : Fin → Shared → Prop} (hh : A.handled = none) (D : ZipApart z TI TO i1 i2 l1 l2) (hz : IsZipHeld s.heap z TI TO T f) (hT : s.heap.get? T = some oT) (hTI : IsPair s.heap TI (.ref i1) (.ref i2))
    (g1 : s.heap.IsTupleIter i1 l1 k1) (g2 : s.heap.IsTupleIter i2 l2 k2) (t1 : s.heap.IsTuple l1 xs) (t2 : s.heap.IsTuple l2 ys) (hend : xs[k1]? = none ∨ ys[k2]? = none)
    (q : ∀ h' e, (∀ c o, c ≠ z → c ≠ i1 → c ≠ i2 → s.heap.get? c = some o → h'.get? c = some o) → (∃ o, h'.get? e = some o ∧ o.cls = .type "StopIteration") → E (.ref e) { s with heap := h' }) :
    wpAny (model prog w) A (Builtin.«zip.__next__» ⟨[.ref z], []⟩) Q E s := by
  show wpAny _ _ (field (.ref z) 2 >>= _) _ _ _; refine wpAny_bind (wpAny_field hz rfl (x := .bool false) rfl ?_)
  show wpAny _ _ (field (.ref z) 3 >>= _) _ _ _; refine wpAny_bind (wpAny_field hz rfl (x := .ref TI) rfl (wpAny_bind (wpAny_seqItems hTI rfl ?_)))
  show wpAny _ _ (Builtin.SmallTypes.ownedTupleIsFree (.ref z) >>= _) _ _ _; refine wpAny_bind (wpAny_tupleHeld_zip hz hT fun ha za sa => ?_)
  simp only [Bool.false_eq_true, if_false]; refine wpAny_bind ?_; rw [← Array.forIn_toList]; simp only [List.forIn_cons, List.forIn_nil]
  refine wpAny_bind (wpAny_bind (wpAny_holding ?_)); show wpAny _ _ (Builtin.SmallTypes.nextOf (.ref i1) >>= _) _ _ _
  cases hx : xs[k1]? with
  | none => exact wpAny_bind (RZ.nextOf_tuple_end (s := { s with heap := ha }) hh (g1.at fun o e => sa.extBut _ _ D.i1z e) (t1.at fun o e => sa.extBut _ _ D.l1z e) hx fun hb e sb he => q hb e (fun c o c1 c2 _ x => sb _ _ c2 (sa.extBut _ _ c1 x)) he)
  | some x =>
    have hy : ys[k2]? = none := by
      rcases hend with n | n
      · rw [hx] at n; cases n
      · exact n
    refine wpAny_bind (RZ.nextOf_tuple_item (s := { s with heap := ha }) (g1.at fun o e => sa.extBut _ _ D.i1z e) (t1.at fun o e => sa.extBut _ _ D.l1z e) hx fun hb gb sb => wpAny_pure (wpAny_pure ?_))
    refine wpAny_bind (wpAny_bind (wpAny_holding ?_)); show wpAny _ _ (Builtin.SmallTypes.nextOf (.ref i2) >>= _) _ _ _
    exact wpAny_bind (RZ.nextOf_tuple_end (s := { s with heap := hb }) hh (g2.at fun o e => sb.extBut _ _ D.i12.symm (sa.extBut _ _ D.i2z e)) (t2.at fun o e => sb.extBut _ _ D.l2i1 (sa.extBut _ _ D.l2z e)) hy fun hc e sc he => q hc e (fun c o c1 c2 c3 x => sc _ _ c3 (sb.extBut _ _ c2 (sa.extBut _ _ c1 x))) he)
theorem zh_next {z TI TO T i1 i2 l1 l2 : Addr} {f : Bool} {oT : Obj} {k1 k2 : Nat} {xs ys : Array Value} {x y : Value} {Q : Option Value → Shared → Prop} (D : ZipApart z TI TO i1 i2 l1 l2) (hz : IsZipHeld s.heap z TI TO T f) (hT : s.heap.get? T = some oT) (hTI : IsPair s.heap TI (.ref i1) (.ref i2))
    (g1 : s.heap.IsTupleIter i1 l1 k1) (g2 : s.heap.IsTupleIter i2 l2 k2) (t1 : s.heap.IsTuple l1 xs) (t2 : s.heap.IsTuple l2 ys) (hx : xs[k1]? = some x) (hy : ys[k2]? = some y)
    (q : ∀ h', IsZipHeld h' z TI TO T true → h'.IsTupleIter i1 l1 (k1 + 1) → h'.IsTupleIter i2 l2 (k2 + 1) → IsPair h' s.heap.objs.size x y → (∀ c o, c ≠ z → c ≠ i1 → c ≠ i2 → s.heap.get? c = some o → h'.get? c = some o) → Q (some (.ref s.heap.objs.size)) { s with heap := h' }) :
    wpAny (model prog w) A (pyNext (.ref z)) Q E s := by
  have ty : s.TypeIs (.ref z) "zip" := ⟨_, hz, rfl⟩
  unfold pyNext
  exact wpAny_bind (wpAny_attempt (wpAny_callSpecial?_slot (name := Str.ofString "__next__") ty F.slot_zip_next (wpAny_call_entry F.slot_zip_next ty F.entry_zip_next (zh_item D hz hT hTI g1 g2 t1 t2 hx hy fun h' a1 a2 a3 a4 a5 => wpAny_pure (q h' a1 a2 a3 a4 a5)) (F.args_zip_next_1 _))))
theorem zh_stop {z TI TO T i1 i2 l1 l2 : Addr} {f : Bool} {oT : Obj} {k1 k2 : Nat} {xs ys : Array Value} {Q : Option Value → Shared → Prop} (hh : A.handled = none) (D : ZipApart z TI TO i1 i2 l1 l2) (hz : IsZipHeld s.heap z TI TO T f) (hT : s.heap.get? T = some oT) (hTI : IsPair s.heap TI (.ref i1) (.ref i2))
    (g1 : s.heap.IsTupleIter i1 l1 k1) (g2 : s.heap.IsTupleIter i2 l2 k2) (t1 : s.heap.IsTuple l1 xs) (t2 : s.heap.IsTuple l2 ys) (hend : xs[k1]? = none ∨ ys[k2]? = none)
    (q : ∀ h', (∀ c o, c ≠ z → c ≠ i1 → c ≠ i2 → s.heap.get? c = some o → h'.get? c = some o) → Q none { s with heap := h' }) : wpAny (model prog w) A (pyNext (.ref z)) Q E s := by
  have ty : s.TypeIs (.ref z) "zip" := ⟨_, hz, rfl⟩
  unfold pyNext
  refine wpAny_bind (wpAny_attempt (wpAny_callSpecial?_slot (name := Str.ofString "__next__") ty F.slot_zip_next (wpAny_call_entry F.slot_zip_next ty F.entry_zip_next (zh_end hh D hz hT hTI g1 g2 t1 t2 hend fun h' e k he => ?_) (F.args_zip_next_1 _))))
  obtain ⟨o, ho, hc⟩ := he
  exact wpAny_bind (wpAny_isInstance (T := "StopIteration") (b := true) ⟨o, ho, hc⟩ isSubtype_stop (wpAny_pure (q _ k)))
end
section
variable {prog : Program} {w : World}
theorem zipArg (z TI TO i1 i2 l1 l2 : Addr) (D : ZipApart z TI TO i1 i2 l1 l2) (xs ys : Array Value) : PairArg prog w "zip" z [z, TI, TO, i1, i2, l1, l2] [z, TO, i1, i2] (min xs.size ys.size) (fun i k v => xs[i]? = some k ∧ ys[i]? = some v)
    (fun h => IsZip h z TI TO .none ∧ IsPair h TI (.ref i1) (.ref i2) ∧ (∃ a b, IsPair h TO a b) ∧ h.IsTupleIter i1 l1 0 ∧ h.IsTupleIter i2 l2 0 ∧ h.IsTuple l1 xs ∧ h.IsTuple l2 ys) where
  type := fun s ok => ⟨_, ok.1, rfl⟩
  notDict := by decide
  keep := fun h h' ⟨a1, a2, ⟨u, v, a3⟩, a4, a5, a6, a7⟩ k => ⟨k _ _ a1, k _ _ a2, ⟨u, v, k _ _ a3⟩, a4.at fun o e => k _ o e, a5.at fun o e => k _ o e, a6.at fun o e => k _ o e, a7.at fun o e => k _ o e⟩
  there := fun h ⟨a1, a2, ⟨_, _, a3⟩, ⟨_, a4, _⟩, ⟨_, a5, _⟩, ⟨_, a6, _⟩, ⟨_, a7, _⟩⟩ b hb => by
    rcases (show b = z ∨ b = TI ∨ b = TO ∨ b = i1 ∨ b = i2 ∨ b = l1 ∨ b = l2 by simpa using hb) with e | e | e | e | e | e | e <;> rw [e]
    · exact ⟨_, a1⟩
    · exact ⟨_, a2⟩
    · exact ⟨_, a3⟩
    · exact ⟨_, a4⟩
    · exact ⟨_, a5⟩
    · exact ⟨_, a6⟩
    · exact ⟨_, a7⟩
  sub := fun b hb => by
    rcases (show b = z ∨ b = TO ∨ b = i1 ∨ b = i2 by simpa using hb) with e | e | e | e <;> simp [e]
  noKeys := fun A s Q E hA ok q => getAttrOr_miss_zip ok.1 rfl rfl rfl zip_no_keys (by decide +kernel) hA q
  iter := fun A s d Q E hA ⟨a1, a2, ⟨u0, v0, a3⟩, a4, a5, a6, a7⟩ hd hdf q => by
    have df : d ≠ z ∧ d ≠ TI ∧ d ≠ TO ∧ d ≠ i1 ∧ d ≠ i2 ∧ d ≠ l1 ∧ d ≠ l2 := by simpa [not_or] using hdf
    obtain ⟨d1, d2, d3, d4, d5, d6, d7⟩ := df
    refine wpAny_pyIter_zip a1 (q z [z, TO, i1, i2] (fun i h => IsPair h TI (.ref i1) (.ref i2) ∧ h.IsTupleIter i1 l1 i ∧ h.IsTupleIter i2 l2 i ∧ h.IsTuple l1 xs ∧ h.IsTuple l2 ys ∧
      ((IsZip h z TI TO .none ∧ ∃ a b, IsPair h TO a b) ∨ ∃ T f oT, IsZipHeld h z TI TO T f ∧ h.get? T = some oT ∧ T ≠ z ∧ T ≠ i1 ∧ T ≠ i2 ∧ T ≠ d)) s.heap s.toks ?_ ⟨a2, a4, a5, a6, a7, .inl ⟨a1, u0, v0, a3⟩⟩ (fun _ _ e => e) fun b hb => .inl hb)
    have out : ∀ {c : Addr}, c ∉ [z, TO, i1, i2] → c ≠ z ∧ c ≠ TO ∧ c ≠ i1 ∧ c ≠ i2 := fun {c} hc => by simpa [not_or] using hc
    constructor
    · intro m
      rcases (show d = z ∨ d = TO ∨ d = i1 ∨ d = i2 by simpa using m) with e | e | e | e
      · exact d1 e
      · exact d3 e
      · exact d4 e
      · exact d5 e
    · rintro i ha hb ⟨b2, b4, b5, b6, b7, st⟩ k
      refine ⟨k _ _ d2.symm b2, b4.at fun o e => k _ o d4.symm e, b5.at fun o e => k _ o d5.symm e, b6.at fun o e => k _ o d6.symm e, b7.at fun o e => k _ o d7.symm e, ?_⟩
      rcases st with ⟨b1, u, v, b3⟩ | ⟨T, f, oT, b1, bT, r1, r2, r3, r4⟩
      · exact .inl ⟨k _ _ d1.symm b1, u, v, k _ _ d3.symm b3⟩
      · exact .inr ⟨T, f, oT, k _ _ d1.symm b1, k _ _ r4 bT, r1, r2, r3, r4⟩
    · rintro i s1 Q1 E1 hi ⟨b2, b4, b5, b6, b7, st⟩ hds hQ
      have ex := Array.getElem?_eq_getElem (Nat.lt_of_lt_of_le hi (Nat.min_le_left xs.size ys.size))
      have ey := Array.getElem?_eq_getElem (Nat.lt_of_lt_of_le hi (Nat.min_le_right xs.size ys.size))
      have lt : ∀ {c o}, s1.heap.get? c = some o → s1.heap.objs.size ≠ c := fun e => Nat.ne_of_gt (Heap.lt_size e)
      have n1 : s1.heap.objs.size ≠ i1 := let ⟨_, e, _⟩ := b4; lt e
      have n2 : s1.heap.objs.size ≠ i2 := let ⟨_, e, _⟩ := b5; lt e
      rcases st with ⟨b1, u, v, b3⟩ | ⟨T, f, oT, b1, bT, r1, r2, r3, r4⟩
      · refine RZ.pyNext_zipT_item D b1 b2 b3 b4 b5 b6 b7 ex ey fun h' c1 c2 c3 c4 c5 c6 k => ?_
        exact hQ s1.heap.objs.size _ _ h' s1.toks ⟨ex, ey⟩ (.inl ⟨_, c5, rfl, _, rfl⟩) ⟨k _ _ D.TIz D.TITO D.TIi1 D.TIi2 b2, c3, c4, b6.at fun o e => k _ o D.l1z D.l1TO D.l1i1 D.l1i2 e, b7.at fun o e => k _ o D.l2z D.l2TO D.l2i1 D.l2i2 e,
          .inr ⟨s1.heap.objs.size, false, _, c1, c5, lt b1, n1, n2, Nat.ne_of_gt hds⟩⟩ fun c o hc e => k c o (out hc).1 (out hc).2.1 (out hc).2.2.1 (out hc).2.2.2 e
      · refine zh_next D b1 bT b2 b4 b5 b6 b7 ex ey fun h' c1 c3 c4 c5 k => ?_
        exact hQ s1.heap.objs.size _ _ h' s1.toks ⟨ex, ey⟩ (.inl ⟨_, c5, rfl, _, rfl⟩) ⟨k _ _ D.TIz D.TIi1 D.TIi2 b2, c3, c4, b6.at fun o e => k _ o D.l1z D.l1i1 D.l1i2 e, b7.at fun o e => k _ o D.l2z D.l2i1 D.l2i2 e,
          .inr ⟨T, true, oT, c1, k _ _ r1 r2 r3 bT, r1, r2, r3, r4⟩⟩ fun c o hc e => k c o (out hc).1 (out hc).2.2.1 (out hc).2.2.2 e
    · rintro s1 Q1 E1 ⟨b2, b4, b5, b6, b7, st⟩ hQ
      have hend : xs[min xs.size ys.size]? = none ∨ ys[min xs.size ys.size]? = none := by
        rcases Nat.le_total xs.size ys.size with h | h
        · exact .inl (Array.getElem?_eq_none (by omega))
        · exact .inr (Array.getElem?_eq_none (by omega))
      rcases st with ⟨b1, u, v, b3⟩ | ⟨T, f, oT, b1, bT, r1, r2, r3, r4⟩
      · exact RZ.pyNext_zipT_end hA D b1 b2 b3 b4 b5 b6 b7 hend fun h' k => hQ h' s1.toks fun c o hc e => k c o (out hc).1 (out hc).2.1 (out hc).2.2.1 (out hc).2.2.2 e
      · exact zh_stop hA D b1 bT b2 b4 b5 b6 b7 hend fun h' k => hQ h' s1.toks fun c o hc e => k c o (out hc).1 (out hc).2.2.1 (out hc).2.2.2 e
end
end Fm
namespace Fm
open PySem PySem.Spec PyProof.Rows L2
def tDZ (K : PySem.W.Frag) (ta : TA) : TE := fun σ H Q => ta σ H fun vs H1 => ∃ (a b : Addr) (kvs : List (Key × V)), vs = [.ref a, .ref b] ∧ SqT K H1 a (kvs.map fun p => kV p.1) ∧ SqT K H1 b (kvs.map fun p => p.2) ∧ ∀ p, H1 p = none → Q (.ref p) (upd H1 p (.dK (mergeK [] kvs)))
theorem kv_zip : ∀ {kvs : List (Key × V)} {us : List Value}, Vals (kvs.map fun p => p.2) us → KV kvs ((kvs.map fun p => p.1).zip us)
  | [], _, .nil => .nil
  | _ :: _, _, .cons r t => .cons ⟨rfl, r⟩ (kv_zip t)
theorem pe_dictZip {X : Cx} {e e2 : Expr} {ta : TA} {p p2 pos pos2 : Pos} (hgD : Gl X "dict") (hmD : X.mg "dict" = none) (hgZ : Gl X "zip") (hmZ : X.mg "zip" = none) (hcalm : X.calm = true) (ha : PA X [e, e2] ta)
    (h1 : starEach [e, e2] X.env = (false, eval e X.env) :: starEach [e2] X.env := by rfl) (h2 : (backTo pos2 (starEach [e2] X.env)).any (·.1) = false := by rfl)
    (h3 : starEach [.Call (.Name "zip" p2) [e, e2] [] pos2] X.env = (false, eval (.Call (.Name "zip" p2) [e, e2] [] pos2) X.env) :: starEach [] X.env := by rfl) :
    PE X (.Call (.Name "dict" p) [.Call (.Name "zip" p2) [e, e2] [] pos2] [] pos) (tDZ X.K ta) := by
  constructor
  intro pins s σ H Q I h
  refine Call_ (ld_blt I hgD hmD (show bootBuiltins "dict" = some (.type "dict") by decide +kernel) (PyProof.Rows.callWith_type1 (args_cons ?_ h3) h3 rfl))
  refine Call_ (ld_blt I hgZ hmZ PyProof.Rows.boot_zip (PyProof.Rows.callWith_type1 (thn (ha.run pos2 pins s σ H _ I h) fun us s1 q => ?_) h1 h2))
  obtain ⟨vs, H1, I1, r1, a, b, kvs, rfl, hx, hy, q⟩ := q
  match us, r1 with
  | [_, _], .cons ra (.cons rb .nil) =>
    cases ra
    cases rb
    obtain ⟨us, rx, px, lx⟩ := I1.tuple hx
    obtain ⟨ws, ry, py, ly⟩ := I1.tuple hy
    have la : a < s1.heap.objs.size := by
      obtain ⟨o, e, _⟩ := px
      exact Heap.lt_size e
    have lb : b < s1.heap.objs.size := by
      obtain ⟨o, e, _⟩ := py
      exact Heap.lt_size e
    refine RZ.call_zipT px py fun h' k1 k2 k3 k4 k5 k6 k7 => args_nil ?_
    have eu : us.length = kvs.length := by rw [← rx.length, List.length_map]
    have ew : ws.length = kvs.length := by rw [← ry.length, List.length_map]
    rw [List.length_map] at lx
    have px' : s1.heap.IsTuple a us.toArray := px
    have py' : s1.heap.IsTuple b ws.toArray := py
    refine PySem.call_dict_pairs (knd := mixKind X.prog X.w) (kvs := (kvs.map fun p => p.1).zip ws) (s := { s1 with heap := h' }) (zipArg _ _ _ _ _ a b (PySem.W.ktu_apart s1.heap.objs.size a b la lb) us.toArray ws.toArray) (I1.ok.hd hcalm) ⟨k1, k2, ⟨_, _, k3⟩, k4, k5, px'.at fun o e => k7 _ o e, py'.at fun o e => k7 _ o e⟩ ⟨?_, fun i key v ⟨e1, e2⟩ => ?_⟩ ?_ fun h2 tk hd k => ?_
    · rw [List.length_zip, List.length_map, List.size_toArray, List.size_toArray, eu, ew]
    · have e1' : us[i]? = some key := by simpa using e1
      have e2' : ws[i]? = some v := by simpa using e2
      obtain ⟨x, ex, rxu⟩ := vals_at rx e1'
      rw [List.getElem?_map] at ex
      cases ek : kvs[i]? with
      | none =>
        rw [ek] at ex
        cases ex
      | some kv =>
        rw [ek] at ex
        cases ex
        refine ⟨kv.1, ?_, kV_is rxu⟩
        rw [List.getElem?_zip_eq_some]
        exact ⟨by rw [List.getElem?_map, ek]; rfl, e2'⟩
    · rw [List.size_toArray, List.size_toArray, eu, ew, Nat.min_self]
      exact lx
    · have hlen : (mergeK [] kvs).length ≤ sizeLine := by
        refine Nat.le_trans (length_mergeK kvs []) ?_
        rw [List.length_nil, Nat.zero_add]
        exact lx
      have big : (h'.objs.size == sysModules) = false := beq_eq_false_iff_ne.mpr (Nat.ne_of_gt (Nat.lt_of_lt_of_le I1.big (by rw [k6]; exact Nat.le_add_right _ _)))
      have kk : ∀ c o, s1.heap.get? c = some o → h2.get? c = some o := fun c o e => by
        have hc := Heap.lt_size e
        refine k c o (fun m => ?_) (k7 c o e)
        simp only [List.mem_cons, List.not_mem_nil, or_false] at m
        rcases m with m | m | m | m <;> (rw [m] at hc; first | exact absurd hc (Nat.lt_irrefl _) | exact absurd hc (Nat.not_lt.mpr (Nat.le_add_right _ _)))
      have J := I1.laid (t' := tk) (h' := h2) (a := h'.objs.size) (o := .dK (mergeK [] kvs)) kk (by rw [k6]; exact Nat.le_add_right _ _) ⟨hlen, big, _, KV.merge (kv_zip ry) .nil, hd⟩
      exact ⟨.ref h'.objs.size, _, J, rfl, q _ (I1.hok.fresh (by rw [k6]; exact Nat.le_add_right _ _))⟩
end Fm
/-! sorted of lists of tuples of any lengths, the empty one among them. -/
namespace FmSort
open PySem PySem.W PySem.SeqAt PyProof.Rows
def nonE : PyData → Bool
  | .tuple (_ :: _) => true
  | _ => false
section
variable {prog : Program} {w : World} {A : Around} {E : Value → Shared → Prop} {s : Shared} {vs : List Value} {ds : List PyData}
theorem call_tuple_lt {Q : Value → Shared → Prop} {l b : Addr} {items items2 : Array Value} {e r : Nat → Bool} (hl : s.heap.IsTuple l items) (hb : s.heap.IsTuple b items2)
    (he : ∀ j (h1 : j < items.size) (h2 : j < items2.size), EqAt A.in1 s items[j] items2[j] (e j)) (hr : ∀ j (h1 : j < items.size) (h2 : j < items2.size), e j = false → RcLt A.in1 s items[j] items2[j] (r j))
    (h : Q (.bool (firstLt e r (decide (items.size < items2.size)) (List.range (min items.size items2.size)))) s) : wpAny (model prog w) A (call (.builtin "tuple.__lt__") [.ref l, .ref b]) Q E s := by
  obtain ⟨⟨c1, u1, m1, p1⟩, g1, k1, n1, z1⟩ := id hl
  obtain ⟨⟨c2, u2, m2, p2⟩, g2, k2, n2, z2⟩ := id hb
  simp only at k1 z1 k2 z2
  subst k1 z1 k2 z2
  exact call_meets F.slot_tuple_lt ⟨_, g1, rfl⟩ F.entry_tuple_lt (F.args_tuple_lt_2 _ _) (tuple_ltAt l b items items2 n1 n2 u1 u2 p1 p2 e r) ⟨g1, g2, he, hr, h⟩
/-- two tuples, both of one type: by the slot itself -/
theorem oneLt_tup {xs ys : List PyData} {a b : Value} {as bs : List Addr} {Q : Bool → Shared → Prop} (ra : Reads s.heap a (.tuple xs) as) (rb : Reads s.heap b (.tuple ys) bs) (hal : alikeAll xs ys = true)
    (hu : A.units + min (PyData.tuple xs).depth (PyData.tuple ys).depth < cLine) (hq : Q (dataLt (.tuple xs) (.tuple ys)) s) : wpAny (model prog w) A (oneLt' true a b) Q E s := by
  cases ra with
  | @tuple l o us n _ as1 a1 a2 a3 a4 =>
    cases rb with
    | @tuple l2 o2 us2 n2 _ bs1 b1 b2 b3 b4 =>
      have z1 : us.size = xs.length := by simpa using ReadsAll.length _ _ _ a4
      have z2 : us2.size = ys.length := by simpa using ReadsAll.length _ _ _ b4
      rw [dataLt_tuple, ← firstLt_toks xs ys hal, ← z1, ← z2] at hq
      rw [oneLt'_eq]
      simp only [if_true]
      refine wpAny_bind (wpAny_cRoomFor (room_here hu) ?_)
      refine wpAny_bind (wpAny_callSpecialIfBound?_slot (T := "tuple") ⟨_, a1, a2⟩ F.slot_tuple_lt (call_tuple_lt (e := pairEq xs ys) (r := fun j => dataLt (xs.getD j .none) (ys.getD j .none)) ⟨_, a1, a2, _, a3⟩ ⟨_, b1, b2, _, b3⟩ (fun j j1 j2 => ?_) (fun j j1 j2 hj => ?_) ?_))
      · have t := eqAt_alikeAll xs ys A.in1 s us.toList us2.toList _ _ a4 b4 hal (room_in hu) j (by simpa using j1) (by simpa using j2)
        simpa using t
      · have t := rcLt_alikeAll xs ys A.in1 s us.toList us2.toList _ _ a4 b4 hal (room_in hu) j (by simpa using j1) (by simpa using j2) hj
        simpa using t
      · exact wpAny_truthy_bool hq
theorem firsts_each {M : Model} : ∀ {vs : List Value} {ds : List PyData} {Q : List (Option Value) → Shared → Prop}, EachIs (fun v d => ∃ as, Reads s.heap v d as) vs ds → (∀ d ∈ ds, ∃ xs, d = .tuple xs) →
    (∀ fs : List (Option Value), fs.map Option.isSome = ds.map nonE → Q fs s) → wpAny M A (vs.mapM firstOfTuple') Q E s
  | _, _, _, .nil, _, h => by
    rw [List.mapM_nil]
    exact wpAny_pure (h [] rfl)
  | _, _, Q, .cons (as := vs) ⟨as, r⟩ t, ht, h => by
    obtain ⟨xs, rfl⟩ := ht _ (List.mem_cons_self ..)
    rw [List.mapM_cons]
    refine wpAny_bind ?_
    rw [kas_first_eq]
    cases r with
    | @tuple l o us n _ as1 a1 a2 a3 a4 =>
      refine wpAny_bind (Looks.here (show Looks M s.heap (typeOf (.ref l)) o.cls from (Looks.ld a1).andThen .now) ?_)
      rw [a2, if_neg (by first | decide | simp)]
      refine wpAny_bind (listItems_at a1 a3 (wpAny_pure ?_))
      refine wpAny_bind (firsts_each (Q := fun bs s' => wpAny M A (pure (us[0]? :: bs)) Q E s') t (fun d hd => ht d (List.mem_cons_of_mem _ hd)) fun fs e => wpAny_pure (h _ ?_))
      rw [List.map_cons, List.map_cons, e]
      congr 1
      have z : us.toList.length = xs.length := by simpa using ReadsAll.length _ _ _ a4
      cases xs with
      | nil =>
        have e0 : us.size = 0 := by simpa using z
        rw [Array.getElem?_eq_none (by omega)]
        rfl
      | cons x r =>
        have e0 : us.size = r.length + 1 := by simpa using z
        rw [Array.getElem?_eq_getElem (by omega)]
        rfl
theorem sortsAt_tups (e : EachIs (fun v d => ∃ as, Reads s.heap v d as) vs ds) (hal : AllAlike ds) (ht : ∀ d ∈ ds, ∃ xs, d = .tuple xs) (hu : ∀ d ∈ ds, A.units + d.depth < cLine) : SortsAt prog w A s (dataKind s.heap ds) vs := by
  have room : ∀ {d d' : PyData}, d ∈ ds → A.units + min d.depth d'.depth < cLine := fun {d d'} hd => Nat.lt_of_le_of_lt (Nat.add_le_add_left (Nat.min_le_left _ _) _) (hu d hd)
  by_cases hne : ∀ d ∈ ds, nonE d = true
  · refine SortsAt.data e hal (.inl fun d hd => ?_) hu
    obtain ⟨xs, rfl⟩ := ht d hd
    cases xs with
    | nil => cases hne _ hd
    | cons x r => exact ⟨x, r, rfl⟩
  · have hall : (ds.map nonE).all id = false := by
      rw [List.all_map]
      cases q : ds.all (id ∘ nonE) with
      | false => rfl
      | true => exact absurd (fun d hd => List.all_eq_true.mp q d hd) hne
    have lt : ∀ f : Bool, H.LtAt prog w A s (dataKind s.heap ds) (if f = true then oneType' else general') := by
      intro f E x y a b Q ha hb hq
      obtain ⟨d, as, hd, ra, rfl⟩ := dataKind_inv ha
      obtain ⟨d', as', hd', rb, rfl⟩ := dataKind_inv hb
      obtain ⟨xs, rfl⟩ := ht d hd
      obtain ⟨ys, rfl⟩ := ht d' hd'
      have al := hal _ hd _ hd'
      cases f with
      | true => exact oneLt_tup ra rb (by simpa [alike] using al) (room hd) hq
      | false => exact oneLt_alike (f := false) (fun z => by cases z) ra rb al (fun z => by cases z) (room hd) hq
    refine ⟨fun v hv => ?_, (if (ds.map nonE).head? = some true then general' else oneType'), ?_, fun h2 E Q hq => ?_⟩
    · obtain ⟨d, hd, as, r⟩ := e.left v hv
      exact ⟨_, dataKind_some hal hd r⟩
    · by_cases q : (ds.map nonE).head? = some true
      · rw [if_pos q]
        exact lt false
      · rw [if_neg q]
        exact lt true
    · rw [keyKind'_eq, List.mapM_toArray, map_eq_pure_bind]
      refine wpAny_bind (wpAny_bind (firsts_each e ht fun fs hfs => wpAny_pure ?_))
      have e1 : (fs.toArray.all fun x => x.isSome) = false := by
        rw [List.all_toArray]
        have z : (fs.map Option.isSome).all id = false := by rw [hfs]; exact hall
        rw [List.all_map] at z
        exact z
      rw [if_neg (by rw [e1]; exact Bool.false_ne_true)]
      have e2 : ((fs.toArray)[0]?.bind id).isSome = decide ((ds.map nonE).head? = some true) := by
        rw [← hfs]
        cases fs with
        | nil => rfl
        | cons f r =>
          show (((f :: r).toArray)[0]?.bind id).isSome = _
          rw [List.getElem?_toArray]
          show f.isSome = decide (some f.isSome = some true)
          cases f <;> rfl
      rw [e2]
      by_cases q : (ds.map nonE).head? = some true
      · rw [if_pos (decide_eq_true q)]
        rw [if_pos q] at hq
        exact wpAny_pure hq
      · rw [if_neg (fun z => q (of_decide_eq_true z))]
        rw [if_neg q] at hq
        obtain ⟨v1, v2, r, rfl⟩ : ∃ v1 v2 r, vs = v1 :: v2 :: r := by
          match vs, h2 with
          | [], h2 => simp at h2
          | [_], h2 => simp at h2
          | v1 :: v2 :: r, _ => exact ⟨v1, v2, r, rfl⟩
        rw [oneTypeOnly'_eq, List.mapM_toArray, map_eq_pure_bind]
        refine wpAny_bind (wpAny_bind (wpAny_bind (kas_mapM (r := Value.type "tuple") _ (fun v hv Q' hq => ?_) (wpAny_pure ?_))))
        · obtain ⟨d, hd, as, rd⟩ := e.left v hv
          obtain ⟨xs, rfl⟩ := ht d hd
          exact (looks_reads rd).here hq
        · have a1 : ((List.map (fun _ => Value.type "tuple") (v1 :: v2 :: r)).toArray.all fun x => x == Value.type "tuple") = true := by
            simp only [List.all_toArray, List.all_map, List.all_eq_true]
            intro _ _
            rfl
          have a2 : (List.map (fun _ => Value.type "tuple") (v1 :: v2 :: r)).toArray[0]? = some (Value.type "tuple") := by simp
          rw [a2]
          simp only [a1, if_true]
          exact wpAny_pure (wpAny_pure hq)
end
end FmSort
namespace Fm
open PySem PySem.Spec PyProof.Rows L2 PySem.W
theorem each_vals : ∀ {bs : List (V × PyData)} {us : List Value}, Vals (bs.map (·.1)) us → EachIs (fun u b => RelV b.1 u) us bs
  | [], _, r => by
    cases r
    exact .nil
  | b :: bs, _, r => by
    cases r with
    | cons h t => exact .cons h (each_vals t)
theorem vals_each : ∀ {bs : List (V × PyData)} {us : List Value}, EachIs (fun u b => RelV b.1 u) us bs → Vals (bs.map (·.1)) us
  | _, _, .nil => .nil
  | _, _, .cons h t => .cons h (vals_each t)
theorem each_and {R S : Value → V × PyData → Prop} : ∀ {bs : List (V × PyData)} {us : List Value}, EachIs R us bs → (∀ u b, b ∈ bs → R u b → S u b) → EachIs S us bs
  | _, _, .nil, _ => .nil
  | _, _, .cons h t, k => .cons (k _ _ (List.mem_cons_self ..) h) (each_and t fun u b hb => k u b (List.mem_cons_of_mem _ hb))
/-- sorted of a list of tuples: each value goes with its data -/
def rSortTs (K : PySem.W.Frag) : List V → Hp → VK → Prop := fun vs H Q => ∃ (a : Addr) (bs : List (V × PyData)), vs = [.ref a] ∧ SqL K H a (bs.map (·.1)) ∧ (∀ b ∈ bs, Dp K H b.1 b.2 ∧ (∃ zs, b.2 = .tuple zs) ∧ b.2.depth ≤ 60) ∧ AllAlike (bs.map (·.2)) ∧
  ∀ p, H p = none → Q (.ref p) (upd H p (.lst ((bs.mergeSort (dataLe false (fun b : V × PyData => b.2))).map (·.1))))
theorem cr_sortTs {X : Cx} (hu : X.A.units + 64 < cLine) : CallR X (.builtin "sorted") (rSortTs X.K) := by
  intro pins s σ H vs us Q I r h
  obtain ⟨a, bs, rfl, hs, hb, hal, q⟩ := h
  obtain ⟨its, rv, hl, hz⟩ := I.list hs
  rw [Vals.ref1 r]
  have e0 := each_vals rv
  have er : EachIs (fun (v : Value) (b : V × PyData) => ∃ as, Reads (sortingHeap (copyHeap s.heap its) (s.heap.objs.size + 1) its) v b.2 as) its bs := each_and e0 fun u b hm hr => by
    obtain ⟨as, rd⟩ := Dp.reads I b.2 b.1 u (hb b hm).1 hr
    exact ⟨as, PyProof.Rows.Reads.keeps (fun _ _ => sorting_copy_old) rd⟩
  have hL : its.length ≤ sizeLine := by
    rw [← rv.length]
    exact hz
  refine sorted_vals hl.isList (FmSort.sortsAt_tups (s := { s with heap := sortingHeap (copyHeap s.heap its) (s.heap.objs.size + 1) its }) (each_map (R := fun v d => ∃ as, Reads (sortingHeap (copyHeap s.heap its) (s.heap.objs.size + 1) its) v d as) (fun b : V × PyData => b.2) er) hal (fun d hd => ?_) fun d hd => ?_) hL ?_
  · obtain ⟨b, hm, rfl⟩ := List.mem_map.mp hd
    exact (hb b hm).2.1
  · obtain ⟨b, hm, rfl⟩ := List.mem_map.mp hd
    have := (hb b hm).2.2
    show X.A.units + 1 + 1 + b.2.depth < cLine
    omega
  · have e1 := sortVals_data (R := fun u (b : V × PyData) => RelV b.1 u) false e0 er hal
    generalize sortVals (dataKind (sortingHeap (copyHeap s.heap its) (s.heap.objs.size + 1) its) (bs.map (·.2))) false its its = out at e1 ⊢
    have v1 := vals_each e1
    obtain ⟨ep, he'⟩ := PyProof.Rows.sortedAll_at s.heap its out.toArray
    have hlen : ((bs.mergeSort (dataLe false (fun b : V × PyData => b.2))).map (·.1)).length ≤ sizeLine := by
      rw [List.length_map, List.length_mergeSort]
      rw [List.length_map] at hz
      exact hz
    exact ⟨.ref _, upd H (s.heap.objs.size + 1) (.lst ((bs.mergeSort (dataLe false (fun b : V × PyData => b.2))).map (·.1))), I.laid (t' := s.toks) (fun _ _ => PyProof.Rows.sortedAll_old) (Nat.le_succ _) ⟨hlen, out, ep, v1, he'⟩, rfl, q _ (I.hok.fresh (Nat.le_succ _))⟩
end Fm
/-! Errors of one's own whose __init__ calls that of the own class above, over ValueError. -/
namespace Fm
open PySem PySem.Spec PyProof.Rows L2 PySem.W
/-- the class above at M, its __init__ being ValueError's -/
structure UpC (K : PySem.W.Frag) (M : Addr) (mc : Value) : Prop where
  rd : PySem.W.readsIn K M mc = true
  ga : PySem.W.specialIn K (.ref M) "__getattribute__" = some (some (.builtin "type.__getattribute__"))
  ini : PySem.W.findCls K (.ref M) mc "__init__" = some (.val (.builtin "ValueError.__init__"))
section
variable {X : Cx} {e : Expr} {es : List Expr} {ta : TA} {p1 p2 p pos : Pos} {x : Str} {M C fI : Addr} {mc : Value}
/-- Up.__init__(self, ..) -/
theorem pe_upinit {pl : Sem Bool} (U : UpC X.K M mc) (hg : Gl X x) (hm : X.mg x = some (.ref M)) (ha : PA X (e :: es) ta) (hdb : (x == ("__debug__" : Str)) = false := by decide)
    (hc : eval (.Call (.Attribute (.Name x p1) "__init__" p2) (e :: es) [] pos) X.env = (do
      let ov ← eval (.Name x p1) X.env
      standAt p2.atName
      let (f, first) ← holding [ov] (getMethod ov "__init__" pl)
      callWith pos f first (backTo pos (starEach (e :: es) X.env)) (backToKw pos (keywordEach [] X.env))) := by rfl)
    (he : starEach (e :: es) X.env = (false, eval e X.env) :: starEach es X.env := by rfl) (hpl : (backTo pos (starEach es X.env)).any (·.1) = false := by rfl) :
    PE X (.Call (.Attribute (.Name x p1) "__init__" p2) (e :: es) [] pos) (tVeI X.K ta) := by
  refine ⟨fun pins s σ H Q I h => ?_⟩
  refine PySem.W.methodCall_KW (ld_glob I hg hm ?_ hdb) hc
  refine PySem.W.method_cls I.kIn U.ga (PySem.W.cls_value I.kIn U.rd U.ini (by decide +kernel) ?_)
  show wpAny _ _ (callWith pos (Value.builtin "ValueError.__init__") [] (backTo pos (starEach (e :: es) X.env)) []) _ _ _
  refine PyProof.Rows.callWith_method1 (thn (ha.run pos pins _ σ H _ (I.tok _) h) fun us s1 ⟨vs, H1, I1, r1, a, C, ws, ev, hl, T, ea, q⟩ => ?_) he hpl
  subst ev
  cases r1 with
  | @cons _ u0 _ ur ra rw' =>
    obtain rfl : u0 = Value.ref a := ra
    have hn : ur.length ≤ sizeLine := by
      rw [← Paired.length rw', sizeLine_eq]
      omega
    exact oinit_ok T I1 ea hn fun s' J => ⟨.non, H1, J, rfl, q⟩
/-- the promise of such an __init__ without a field -/
def spIni0 (K : PySem.W.Frag) (C : Addr) : Sp := fun vs H Q _ => ∃ a : Addr, vs = [.ref a] ∧ H a = some (exo a C none) ∧ Q .non H
/-- C(), C's own __init__ keeping spIni0 -/
def tMkN (C : Addr) : L2.St → Hp → XK → Prop := fun _ H Q => Q (.ref C) none H
theorem del_upd {H : Hp} {a : Addr} {o : HO} (n : H a = none) : del (upd H a o) a = H := by
  funext b
  by_cases hb : b = a
  · rw [hb, del_same, n]
  · rw [del_ne hb, upd_ne hb]
theorem mk_endN {pins : List (Addr × Obj)} {σ : L2.St} {H1 : Hp} {Q : XK} {hp hp2 h2 : Heap} {g1 g2 : Array GenState} {d1 d2 : Drawn} {t1 t2 : Nat} {os1 os2 : OsState} {a : Addr} (T : Raises X (.ref C)) (I1 : Inv X pins σ H1 ⟨hp, g1, d1, t1, os1⟩)
    (ha : hp.objs.size ≤ a) (k : ∀ b o, hp.get? b = some o → hp2.get? b = some o) (un : Un (frs X.stack) [] (upd H1 a (exo a C none)) (upd H1 a (exo a C none)) hp2 h2) (hok : HOk X.prog X.w (upd H1 a (exo a C none)) h2) (ho : os2 = os1) (hb : AllBare g2)
    (q : Q (.ref C) none H1) : MkP X pins σ Q (.ref a) ⟨h2, g2, d2, t2, os2⟩ := by
  obtain ⟨t0, hoe⟩ := exo_at hok upd_same
  have hn : H1 a = none := I1.hok.fresh ha
  obtain ⟨G, ga, gb⟩ := restrict h2 fun b => decide (b ≠ a)
  have gk : ∀ b, b ≠ a → G.get? b = h2.get? b := fun b nb => ga b (decide_eq_true nb)
  have ge : G.get? a = none := gb a (by simp)
  have na : ∀ {b : Addr} {o : Obj}, hp.get? b = some o → b ≠ a := fun {b o} z => Nat.ne_of_lt (Nat.lt_of_lt_of_le (Heap.lt_size z) ha)
  have up : ∀ {b : Addr}, b ≠ a → H1 b = none → upd H1 a (exo a C none) b = none := fun {b} nb n => by
    rw [upd_ne nb]
    exact n
  have U : Un (frs X.stack) [] H1 H1 hp G := {
    keep := fun b o z n hf hx => by
      rw [gk b (na z)]
      exact un.keep b o (k b o z) (up (na z) n) hf hx
    slot := fun b o z n hf hx => by
      rw [gk b (na z)]
      exact un.slot b o (k b o z) (up (na z) n) hf hx
    free := fun b o z n hx => n
    there := fun b o z hx => by
      rw [gk b (na z)]
      exact un.there b o (k b o z) hx
    tups := fun b xs z => z
    frzs := fun b o v z => z
    tbls := fun b ps z => ⟨#[], by rw [Array.append_empty]; exact z⟩ }
  have hok3 : HOk X.prog X.w H1 G := fun b o z => by
    have nb : b ≠ a := ne_of_none z hn
    refine (hok b o (by rw [upd_ne nb]; exact z)).stay (fun c v hc y => ?_) (fun c hc => ?_) fun c xs hc => ?_
    · have nc : c ≠ a := by
        rcases hc with hc | hc
        · rw [hc]
          exact nb
        · exact at_ne (H := upd H1 a (exo a C none)) upd_same hc exo_own
      rw [gk c nc]
      exact y
    · rw [upd_ne (at_ne (H := upd H1 a (exo a C none)) upd_same hc exo_own)] at hc
      exact hc
    · rw [upd_ne (at_ne (H := upd H1 a (exo a C none)) upd_same hc exo_tup)] at hc
      exact hc
  have J : Inv X pins σ H1 ⟨G, g2, d2, t2, os2⟩ := I1.call' (ch := []) ho U hok3 hb (fun b z => absurd z (by simp))
  refine ⟨a, _, _, ⟨G, g2, d2, t2, os2⟩, _, .ref C, none, rfl, J, fun b o z => ?_, ge, hoe, ⟨rfl, rfl⟩, rfl, rfl, hn, rfl, hb, T, q⟩
  by_cases nb : b = a
  · rw [nb, ge] at z
    cases z
  · exact (gk b nb).symm.trans z
theorem pmk_oexN {CX : CXT} {k : Nat} {fd : FuncData} (T : OexC X.K C) (iC : PySem.W.findIn X.K (.ref C) "__init__" = some (some (.ref fI))) (tI : PySem.W.typeIn X.K (.ref fI) = some (.type "function"))
    (F1 : FnOk X.prog X.w X.K X.mg X.base CX k fI fd ["self"] (spIni0 X.K C)) (hr : Room (k + 1) X.A) (hb : Binds X.K fd ["self"] []) (hx : Passes CX X (fun _ _ _ => False)) (hg : Gl X x) (hm : X.mg x = some (.ref C)) (hdb : (x == ("__debug__" : Str)) = false := by decide) :
    PMk X (.Call (.Name x p) [] [] pos) (tMkN C) := by
  intro pins s σ H Q I h
  obtain ⟨nm, q, N, bs, bm, sn, sub, ab, col, dd, k0, k1, k2, k3, k5, hC, hbm⟩ := T.cls
  refine wpAny_Call_Name_kw (ld_glob I hg hm ?_ hdb)
  refine PySem.W.callWith_K0 I.kIn T.kC ?_
  obtain ⟨hp, g, dr, tk, os⟩ := s
  show wpAny _ _ (call (.ref C) []) _ _ _
  have hsz : hp.objs.size ≤ hp.objs.size + 1 := Nat.le_succ _
  have hn : H (hp.objs.size + 1) = none := I.hok.fresh hsz
  have kk : ∀ b o, hp.get? b = some o → ((hp.push (PySem.W.kdv_tup [])).push (PySem.HandSPX.excO C hp.objs.size)).get? b = some o := fun b o e => Heap.get?_push_of_some _ (Heap.get?_push_of_some _ e)
  have hget : ((hp.push (PySem.W.kdv_tup [])).push (PySem.HandSPX.excO C hp.objs.size)).get? (hp.objs.size + 1) = some (PySem.HandSPX.excO C hp.objs.size) := by heap_get
  have I2 : Inv X pins σ (upd H (hp.objs.size + 1) (exo (hp.objs.size + 1) C none)) ⟨(hp.push (PySem.W.kdv_tup [])).push (PySem.HandSPX.excO C hp.objs.size), g, dr, tk, os⟩ :=
    I.laid (t' := tk) (a := hp.objs.size + 1) (o := exo (hp.objs.size + 1) C none) (h' := (hp.push (PySem.W.kdv_tup [])).push (PySem.HandSPX.excO C hp.objs.size)) kk hsz (exo_ok hget)
  have r2 : Vals [V.ref (hp.objs.size + 1)] [Value.ref (hp.objs.size + 1)] := .cons rfl .nil
  refine wpAny_call (PySem.HandSPX.call_own F.excBase_ValueError (fun Y => PySem.HandSPX.refsVE_contains Y bm hbm) (I.kIn _ _ hC) (PySem.W.looks_findIn I.kIn iC) (fun self => PySem.W.bind_fn I.kIn self tI) (Nat.zero_le _)
    (codeAny_mono (F1.run _ X.stack _ _ ⟨[Value.ref (hp.objs.size + 1)], []⟩ [Value.ref (hp.objs.size + 1)] _ (fun v H2 => v = .non ∧ H2 = upd H (hp.objs.size + 1) (exo (hp.objs.size + 1) C none)) (fun _ _ _ => False) (hr.make C [] []) (I2.env0.make C [] []) (hb _ [Value.ref (hp.objs.size + 1)] I2.kIn rfl) r2
      ⟨_, rfl, upd_same, rfl, rfl⟩) fun r s' hq' => ?_))
  cases r with
  | error er => exact hx pins σ _ _ er s' I2 hq'
  | ok fl =>
    cases fl with
    | ret u =>
      obtain ⟨v, H2, os2, bare2, un2, hok2, rv, ev, eH⟩ := hq'
      subst ev eH
      obtain ⟨h2, g2, d2, t2, os'⟩ := s'
      exact ⟨rv, mk_endN (raises_own T.exC T.tyC) I hsz kk un2 hok2 os2 bare2 h⟩
    | next => exact False.elim hq'
    | brk => exact False.elim hq'
    | cont => exact False.elim hq'
end
end Fm
/-! More rules: in a tuple, count of data, a tuple turned round. -/
namespace Fm
open PySem PySem.Spec PyProof.Rows L2 PySem.W
section
variable {X : Cx} {K : PySem.W.Frag}
/-- x in t, t a tuple of data -/
def rInT (K : PySem.W.Frag) : R2 := fun x y H Q => ∃ d ds, Dp K H x d ∧ Dp K H y (.tuple ds) ∧ SeqAt.shaped d = true ∧ SeqAt.shaped (.tuple ds) = true ∧ Q (.bl (ds.any fun z => PyData.eqv z d)) H
theorem op_inT (hu : X.A.units + 65 < cLine) (e : X.K = K := by rfl) : OpR X (compareOp .In) (rInT K) := by
  subst e
  intro pins s σ H x y v u Q I rx ry h
  obtain ⟨d, ds, h1, h2, s1, s2, q⟩ := h
  obtain ⟨as, r1⟩ := Dp.reads I d x v h1 rx
  obtain ⟨bs, r2⟩ := Dp.reads I (.tuple ds) y u h2 ry
  exact SeqAt.in_tuple_reads r2 r1 (SeqAt.canLay_of_shaped s2) (SeqAt.canLay_of_shaped s1) (room_in_shaped s1 hu) ⟨.bl _, H, I, rfl, q⟩
theorem op_inLK (hu : X.A.units + 65 < cLine) (e : X.K = K := by rfl) : OpR X (compareOp .In) (rInD K) := e ▸ op_inD hu
theorem op_ltTK (hu : X.A.units < cLine) (e : X.K = K := by rfl) : OpR X (compareOp .Lt) (rLtT K) := e ▸ op_ltT hu
theorem mt_indexK (hu : X.A.units + 65 < cLine) (e : X.K = K := by rfl) : MtR X "list.index" (rIndexD K) := e ▸ mt_indexD hu
/-- l.count(x) -/
def rCntD (K : PySem.W.Frag) : V → List V → Hp → VK → Prop := fun x xs H Q => ∃ (a : Addr) (y : V) (d : PyData) (ds : List PyData), x = .ref a ∧ xs = [y] ∧ Dp K H (.ref a) (.list ds) ∧ Dp K H y d ∧ SeqAt.shaped (.list ds) = true ∧ SeqAt.shaped d = true ∧
  Q (.int ((ds.countP fun z => PyData.eqv z d : Nat) : Int)) H
theorem mt_countD (hu : X.A.units + 65 < cLine) (e : X.K = K := by rfl) : MtR X "list.count" (rCntD K) := by
  subst e
  intro pins s σ H x xs v us Q I rx rxs h
  obtain ⟨a, y, d, ds, rfl, rfl, hl, hy, s1, s2, q⟩ := h
  cases rx
  obtain ⟨u, rfl, ru⟩ := rxs.one
  obtain ⟨bs, r1⟩ := Dp.reads I d y u hy ru
  have c1 : PyData.canLayAll0 ds = true := SeqAt.canLay_of_shaped s1
  have room : X.A.units + 1 + min (PyData.depthAll ds) d.depth < cLine := room_in_shaped s2 hu
  cases hl with
  | lst hs ha =>
    obtain ⟨its, rv, ⟨⟨cl, di, da, sls⟩, n, ho, hc, hdn, hdt⟩, hlen⟩ := I.list hs
    simp only at hc hdt
    subst hc hdt
    obtain ⟨as, r4⟩ := Dp.readsAll I ds _ its ha rv
    have hm : its.map (SeqAt.readOf s.heap) = ds := SeqAt.readsAll_map ds its as c1 r4
    refine call_meets PySem.F.slot_list_count ⟨_, ho, rfl⟩ PySem.F.entry_list_count (PySem.F.args_list_count_2 _ _)
      (SeqAt.list_countAt a its.toArray n di sls u (fun z => PyData.eqv (SeqAt.readOf s.heap z) d)) ⟨ho, SeqAt.items_eqAt (vs := its.toArray) (show ReadsAll s.heap its.toArray.toList ds as from r4) r1 c1 (SeqAt.canLay_of_shaped s2) room, ?_⟩
    refine ⟨.int ((ds.countP fun z => PyData.eqv z d : Nat) : Int), H, I.tok _, ⟨s.toks, ?_⟩, q⟩
    show Value.int ((its.toArray.toList.countP (fun z => PyData.eqv (SeqAt.readOf s.heap z) d) : Nat) : Int) s.toks = _
    rw [← hm, List.countP_map]
    rfl
/-! ### t[::-1] -/
theorem fm_congr {α β : Type} {f g : α → Option β} : ∀ {l : List α}, (∀ x ∈ l, f x = g x) → l.filterMap f = l.filterMap g
  | [], _ => rfl
  | x :: l, h => by
    rw [List.filterMap_cons, List.filterMap_cons, h x (List.mem_cons_self ..), fm_congr fun y hy => h y (List.mem_cons_of_mem _ hy)]
theorem vals_rev : ∀ {xs : List V} {us : List Value}, Vals xs us → Vals xs.reverse us.reverse
  | [], _, r => by
    cases r
    exact .nil
  | x :: xs, _, r => by
    cases r with
    | cons h t =>
      rw [List.reverse_cons, List.reverse_cons]
      exact (vals_rev t).append (.cons h .nil)
theorem rev_pick (l : List Value) : ((List.range l.length).filterMap fun (m : Nat) => l.toArray[(((l.length : Int) - 1) + (m : Int) * (-1)).toNat]?) = l.reverse := by
  have e : ∀ m, m ∈ List.range l.length → (fun (m : Nat) => l.toArray[(((l.length : Int) - 1) + (m : Int) * (-1)).toNat]?) m = l.reverse[m]? := fun m hm => by
    have hl := List.mem_range.mp hm
    show l.toArray[_]? = _
    rw [List.getElem?_toArray, List.getElem?_reverse hl]
    congr 1
    omega
  rw [fm_congr e]
  have z := List.length_reverse (as := l)
  generalize l.reverse = r at z ⊢
  rw [← z]
  clear z e
  have key : ∀ (r : List Value) (n : Nat), n ≤ r.length → (List.range n).filterMap (fun m => r[m]?) = r.take n := by
    intro r n
    induction n with
    | zero => intro _; simp
    | succ n ih =>
      intro hn
      rw [List.range_succ, List.filterMap_append, ih (by omega), List.take_add_one, List.getElem?_eq_getElem (show n < r.length by omega)]
      simp [List.getElem?_eq_getElem (show n < r.length by omega)]
  rw [key r r.length (Nat.le_refl _), List.take_length]
section
variable {prog : Program} {w : World} {A : Around} {E : Value → Shared → Prop} {s : Shared}
theorem rev_applied {sl : Addr} {t : Tok} {n : Nat} {Q : Int × Int × Nat → Shared → Prop} (hs : s.heap.IsSliceOf sl .none .none (.int (-1) t)) (h : Q ((n : Int) - 1, -1, n) s) :
    wpAny (model prog w) A (Builtin.Slice.sliceApplied (.ref sl) (pure (n : Int))) Q E s := by
  obtain ⟨os, hos, hcs, hds⟩ := id hs
  unfold Builtin.Slice.sliceApplied Builtin.Slice.sliceFields
  refine wpAny_bind (wpAny_bind (wpAny_field hos hds (x := .none) rfl (wpAny_bind (wpAny_field hos hds (x := .none) rfl (wpAny_bind (wpAny_field hos hds (x := .int (-1) t) rfl (wpAny_pure ?_)))))))
  refine wpAny_bind (slicePart_int ?_)
  show wpAny _ _ (if ((-1 : Int) == 0) = true then _ else _) _ _ s
  rw [if_neg (by decide)]
  refine wpAny_bind (slicePart_none (wpAny_bind (slicePart_none (wpAny_bind (wpAny_pure ?_)))))
  show wpAny _ _ (pure ((n : Int) - 1, (-1 : Int), Builtin.Slice.slicePlaces ((n : Int) - 1) (-1) (-1))) _ _ s
  have e : Builtin.Slice.slicePlaces ((n : Int) - 1) (-1) (-1) = n := by
    unfold Builtin.Slice.slicePlaces
    rw [if_neg (by decide)]
    show (if (n : Int) - 1 > -1 then ((n : Int) - 1 - -1 - 1) / 1 + 1 else 0).toNat = n
    rw [Int.ediv_one]
    split <;> omega
  rw [e]
  exact wpAny_pure h
theorem getItem_rev {t sl : Addr} {l : List Value} {tk : Tok} {Q : Value → Shared → Prop} (ht : IsTup s.heap t l.toArray) (hs : s.heap.IsSliceOf sl .none .none (.int (-1) tk))
    (h : Q (.ref s.heap.objs.size) { s with heap := s.heap.push { cls := .type "tuple", data := .seq l.reverse.toArray } }) (hsz : l.length ≤ sizeLine) : wpAny (model prog w) A (getItem (.ref t) (.ref sl)) Q E s := by
  have hz : sizeOk (.seq l.reverse.toArray) := by
    show l.reverse.toArray.size ≤ sizeLine
    rw [List.size_toArray, List.length_reverse]
    exact hsz
  obtain ⟨os, hos, hcs, hds⟩ := id hs
  have hTs : s.TypeIs (.ref sl) "slice" := ⟨os, hos, hcs⟩
  unfold getItem
  try with_reducible refine wpAny_holding ?_
  first | refine wpAny_bind (wpAny_pure ?_) | skip
  refine wpAny_bind (wpAny_sequenceKey ht.typeIs (by decide) ?_)
  refine wpAny_bind (wpAny_callSpecial?_slot (name := Str.ofString "__getitem__") ht.typeIs PyProof.Rows.slot_tuple_getitem
    (wpAny_call_entry PyProof.Rows.slot_tuple_getitem ht.typeIs entry_tuple_getitem ?_ (args_tuple_getitem _ _)))
  show wpAny _ _ (Builtin.Tuple.tupleItemsOf (.ref t) >>= _) _ _ s
  refine wpAny_bind (tupleItemsOf_ ht ?_)
  refine wpAny_bind (wpAny_typeOf hTs ?_)
  rw [if_pos (by decide)]
  rw [List.size_toArray]
  refine wpAny_bind (rev_applied hs ?_)
  have hno : ¬ ((((l.length : Int) - 1) == 0 && (-1 : Int) == 1 && l.length == l.toArray.size) = true) := by
    intro q
    rw [Bool.and_eq_true, Bool.and_eq_true] at q
    exact absurd q.1.2 (by decide)
  show wpAny _ _ (if (((l.length : Int) - 1) == 0 && (-1 : Int) == 1 && l.length == l.toArray.size) = true then _ else _) _ _ s
  rw [if_neg hno, rev_pick]
  first
    | exact wpAny_bind (m := Builtin.Tuple.tupleExact _) (wpAny_newObj_type (wpAny_pure ⟨_, rfl, wpAny_pure h⟩) hz)
    | exact wpAny_bind (m := Builtin.Tuple.tupleExact _) (wpAny_newObj_type (wpAny_bind (wpAny_pure (wpAny_pure ⟨_, rfl, wpAny_pure h⟩))) hz)
    | exact wpAny_bind (wpAny_bind (m := Builtin.Tuple.tupleExact _) (wpAny_newObj_type (wpAny_pure (wpAny_pure ⟨_, rfl, wpAny_pure h⟩)) hz))
    | exact wpAny_bind (wpAny_bind (m := Builtin.Tuple.tupleExact _) (wpAny_newObj_type (wpAny_pure ⟨_, rfl, wpAny_pure h⟩) hz))
end
def tRevT (K : PySem.W.Frag) (te ts : TE) : TE := fun σ H Q => te σ H fun x H1 => ts σ H1 fun y H2 => y = .int (-1) ∧ ∃ a xs, x = .ref a ∧ SqT K H2 a xs ∧ ∀ p, H2 p = none → Q (.ref p) (upd H2 p (.tup xs.reverse))
theorem pe_revT {e st : Expr} {te ts : TE} {p2 pos : Pos} (he : PE X e te) (hst : PE X st ts) (eK : X.K = K := by rfl) : PE X (.Subscript e (.Slice none none (some st) p2) pos) (tRevT K te ts) := by
  subst eK
  refine ⟨fun pins s σ H Q I h => ?_⟩
  refine Subscript_ (thn (he.run pins s σ H _ I h) fun v s1 ⟨x, H1, I1, r1, q1⟩ => ?_)
  refine wpAny_Slice ?_
  rw [evalPart_none]
  refine wpAny_pure ?_
  refine wpAny_pure ?_
  rw [evalPart_some]
  refine thn (hst.run pins s1 σ H1 _ I1 q1) fun vy s2 ⟨y, H2, I2, r2, ey, a, xs, ex, hx, q2⟩ => ?_
  subst ey ex
  obtain ⟨t, rfl⟩ := r2
  cases r1
  have I4 : Inv X pins σ H2 { s2 with heap := s2.heap.push { cls := .type "slice", data := .fields #[.none, .none, .int (-1) t] } } := I2.kept (t' := s2.toks) fun b ob q => Heap.get?_push_of_some _ q
  obtain ⟨its, r, ht, hz⟩ := I4.tuple hx
  refine tail_any (T := "tuple") (ops := [.ref a, .ref s2.heap.objs.size]) ht.typeIs PyProof.Rows.slot_tuple_getitem.lookup ?_ (by with_unfolding_all rfl)
  have hlen := r.length
  refine getItem_rev (l := its) ht (Heap.IsSliceOf.new ..) ?_ (by omega)
  refine ⟨.ref _, _, I4.laid (t' := s2.toks) (o := .tup xs.reverse) (fun b ob q => Heap.get?_push_of_some _ q) (Nat.le_refl _) ?_, rfl, q2 _ (I4.hok.fresh (Nat.le_refl _))⟩
  exact ⟨by rw [List.length_reverse]; exact hz, its.reverse, vals_rev r, IsTup.new _ _⟩
end
end Fm
/-! enumerate of a tuple. -/
namespace Fm
open PySem PySem.Spec PyProof.Rows L2
theorem enum_new_tup (l : Addr) (items : Array Value) (n : Nat) (dct : Option Addr) (sl : Array (Option Value)) :
    Meets (Builtin.«enumerate.__new__» ⟨[.type "enumerate", .ref l], []⟩) (fun _ R s => s.heap.get? l = some { cls := .type "tuple", dict := dct, data := .seq items n, slots := sl } ∧
      R (.ok (.ret (.ref (s.heap.push { cls := .type "tuple_iterator", data := .fields #[.ref l, .int 0 0] }).objs.size)))
        { s with heap := (s.heap.push { cls := .type "tuple_iterator", data := .fields #[.ref l, .int 0 0] }).push { cls := .type "enumerate", data := .fields #[.none, .bool false, .ref s.heap.objs.size, rawInt 0, .none, .none] } }) :=
  .of_wp fun prog w A R s h => by
    obtain ⟨hp, g, d, tk, os⟩ := s
    obtain ⟨hl, h⟩ := h
    have hsub := sub_enumerate
    have hL : Heap.IsTuple (Shared.heap ⟨hp, g, d, tk, os⟩) l items := ⟨_, hl, rfl, n, rfl⟩
    wp_walk using wpAny_loadPart' hl
    refine wpAny_stack_any fun st => wpAny_pure ?_
    split
    · rename_i c _ _ _ _ _
      cases (c == Value.type "enumerate")
      · wp_walk using wpAny_loadPart' hl, wpAny_pyIter_tuple hL
        exact ⟨_, rfl, h⟩
      · wp_walk using wpAny_loadPart' hl, wpAny_pyIter_tuple hL
        exact ⟨_, rfl, h⟩
    · wp_walk using wpAny_loadPart' hl, wpAny_pyIter_tuple hL
      exact ⟨_, rfl, h⟩
section
variable {prog : Program} {w : World} {A : Around} {E : Value → Shared → Prop} {s : Shared}
theorem call_enum_tup {l : Addr} {items : Array Value} {Q : Value → Shared → Prop} (hL : s.heap.IsTuple l items)
    (h : ∀ h', IsEnum h' (s.heap.objs.size + 1) s.heap.objs.size 0 .none → h'.IsTupleIter s.heap.objs.size l 0 → (∀ b o, s.heap.get? b = some o → h'.get? b = some o) → Q (.ref (s.heap.objs.size + 1)) { s with heap := h' }) :
    wpAny (model prog w) A (call (.type "enumerate") [.ref l]) Q E s := by
  obtain ⟨⟨c, dct, dt, sl⟩, hl, hc, n, hd⟩ := hL
  replace hc : c = .type "tuple" := hc
  replace hd : dt = .seq items n := hd
  subst hc hd
  refine callType_new F.called_enumerate (by decide) (F.typeCall_enumerate_1 _) (F.newCall_enumerate_1 _) (fun obj => F.args_object_init_2 obj _) F.entry_enumerate_new (enum_new_tup l items n dct sl) ⟨hl, ?_⟩
  have hz : (s.heap.push { cls := .type "tuple_iterator", data := .fields #[.ref l, .int 0 0] }).objs.size = s.heap.objs.size + 1 := Heap.size_push ..
  show _ ∧ _
  rw [hz]
  have he : IsEnum ((s.heap.push { cls := .type "tuple_iterator", data := .fields #[.ref l, .int 0 0] }).push
      { cls := .type "enumerate", data := .fields #[.none, .bool false, .ref s.heap.objs.size, rawInt 0, .none, .none] }) (s.heap.objs.size + 1) s.heap.objs.size 0 .none := by
    have t := Heap.get?_push_size (s.heap.push { cls := .type "tuple_iterator", data := .fields #[.ref l, .int 0 0] })
      (o := { cls := .type "enumerate", data := .fields #[.none, .bool false, .ref s.heap.objs.size, rawInt 0, .none, .none] }) rfl
    rw [hz] at t
    exact t
  exact ⟨⟨_, he, rfl⟩, h _ he ⟨_, Heap.get?_push_of_some _ (Heap.get?_push_size _ rfl), rfl, rfl⟩ fun b o x => Heap.get?_push_of_some _ (Heap.get?_push_of_some _ x)⟩
end
/-- the numbered items of a tuple -/
def ItE (K : PySem.W.Frag) (a : Addr) (xs : List V) : It where
  go := fun i H => SqT K H a xs ∧ i < xs.length
  yld := fun i H v H' => ∃ T x, v = .ref T ∧ H T = none ∧ H' = upd H T (.tup [.int (i : Nat), x]) ∧ xs[i]? = some x
  stop := fun i H => SqT K H a xs ∧ i = xs.length
theorem turn_e {P : Program} {w : World} {K : PySem.W.Frag} {elts : List Expr} {kk : Nat} {tp : Pos} {a e it : Addr} {xs : List V} (n1 : a ≠ it) (n2 : e ≠ it) (n3 : e ≠ a) :
    Turn P w K (.Tuple elts kk tp) (ItE K a xs) [e, it] e (fun i h => (∃ old, IsEnum h e it ((i : Nat) : Int) old) ∧ h.IsTupleIter it a i) where
  mem := List.mem_cons_self ..
  obj := by
    rintro i h ⟨⟨old, q1⟩, ⟨o, q2, _, d2⟩⟩ c hc
    rcases (show c = e ∨ c = it by simpa using hc) with z | z <;> subst z
    · exact ⟨_, q1, fun _ y => nomatch y⟩
    · exact ⟨o, q2, fun _ y => by rw [d2] at y; cases y⟩
  keep := by
    rintro i h h' ⟨⟨old, q1⟩, q2⟩ k
    exact ⟨⟨old, k _ (by simp) _ q1⟩, q2.at fun o z => k _ (by simp) o z⟩
  item := by
    intro X hP hw hK hc i pins s σ H E I hf st hg
    subst hP hw hK
    obtain ⟨hx, lx⟩ := hg
    obtain ⟨us, rx, px, _⟩ := I.tuple hx
    obtain ⟨⟨old, q1⟩, q2⟩ := st
    have hd : X.A.in1.handled = none := I.ok.hd hc
    have hel : e < s.heap.objs.size := Heap.lt_size q1
    have hil : it < s.heap.objs.size := by
      obtain ⟨_, q, _⟩ := id q2
      exact Heap.lt_size q
    refine wpAny_pyNext_enum_itemD (Draws.tuple (prog := X.prog) (w := X.w) hd it a n1 us.toArray) q1 ⟨q2, px⟩ (by rw [List.size_toArray, ← rx.length]; exact lx) n2 (by simp [n2, n3]) fun u h' tk hu ho st' hT hsz hk => ?_
    obtain ⟨x, ex, rxu⟩ := vals_at rx (show us[i]? = some u by simpa using hu)
    refine ⟨_, rfl, wpAny_letOwnedTupleGo_enum (s := { s with heap := h', toks := tk + 1 }) ho fun h'' he' sb => ?_⟩
    have hT2 := (sb.2 _ (Nat.ne_of_gt hel)).trans hT
    have new : ObjOk X.prog X.w (upd H s.heap.objs.size (.tup [.int (i : Nat), x])) h'' s.heap.objs.size (.tup [.int (i : Nat), x]) :=
      ⟨by show 2 ≤ sizeLine; decide, [.int i tk, u], .cons ⟨_, rfl⟩ (.cons rxu .nil), ⟨_, hT2, rfl, _, rfl⟩⟩
    have I1 : Inv X pins σ (upd H s.heap.objs.size (.tup [.int (i : Nat), x])) { s with heap := h'', toks := tk + 1 } :=
      I.turnedNew (t' := tk + 1) (ch := [e, it]) (fun b ob hb q => (sb.2 b (fun z => hb (by simp [z]))).trans (hk b ob (fun z => hb (by simp [z])) (fun z => hb (by simp [z])) q)) hf (Nat.le_refl _) new
    refine ⟨.ref s.heap.objs.size, _, I1, rfl, ⟨_, x, rfl, I.hok.fresh (Nat.le_refl _), rfl, ex⟩, ⟨⟨u, ?_⟩, st'.1.at fun o q => (sb.2 it (Ne.symm n2)).trans q⟩, fun b hb => ?_⟩
    · have e1 : ((i + 1 : Nat) : Int) = (i : Int) + 1 := by omega
      rw [e1]
      exact he'
    · have hb' : b < s.heap.objs.size := by
        rcases (show b = e ∨ b = it by simpa using hb) with z | z <;> subst z
        · exact hel
        · exact hil
      rw [upd_ne (Nat.ne_of_lt hb')]
      exact (hf b hb).1
  done := by
    intro X hP hw hK hc i pins s σ H E I hf st hg
    subst hP hw hK
    obtain ⟨hx, hi⟩ := hg
    obtain ⟨us, rx, px, _⟩ := I.tuple hx
    obtain ⟨⟨old, q1⟩, q2⟩ := st
    have hd : X.A.in1.handled = none := I.ok.hd hc
    have hn : i = us.toArray.size := by
      rw [List.size_toArray, ← rx.length]
      exact hi
    subst hn
    obtain ⟨f0, f1, f2, f3, f4, f5⟩ := hf it (by simp)
    exact wpAny_pyNext_enum_endD (Draws.tuple (prog := X.prog) (w := X.w) hd it a n1 us.toArray) q1 ⟨q2, px⟩ fun h' eb => ⟨rfl, I.turned (t' := s.toks) (fun b o hb q => eb b o hb q) f0 f1 f3 f4 f5⟩
  self := fun A i s Q E st q => by
    obtain ⟨⟨_, he⟩, _⟩ := st
    exact wpAny_pyIter_enum he q
def iEnumT (K : PySem.W.Frag) (ta : TA) : TI := fun σ H R => ta σ H fun vs H1 => ∃ a xs, vs = [.ref a] ∧ SqT K H1 a xs ∧ R (ItE K a xs) H1
theorem pi_enumT {X : Cx} {K : PySem.W.Frag} {e : Expr} {ta : TA} {p pos tpos : Pos} {elts : List Expr} {kk : Nat} (hg : Gl X "enumerate") (hm : X.mg "enumerate" = none) (ha : PA X [e] ta) (eK : X.K = K := by rfl) (hs : starEach [e] X.env = [(false, eval e X.env)] := by rfl) :
    PI X (.Tuple elts kk tpos) (.Call (.Name "enumerate" p) [e] [] pos) (iEnumT K ta) := by
  subst eK
  refine ⟨fun pins s σ H R I h => ?_⟩
  refine Call_ (ld_blt I hg hm boot_enumerate (PyProof.Rows.callWith_type1 (thn (ha.run pos pins s σ H _ I h) fun us s1 ⟨vs, H1, I1, r1, q1⟩ => ?_) hs rfl))
  obtain ⟨a, xs, ex, hq, q⟩ := q1
  subst ex
  cases r1 with
  | cons r rr =>
    cases rr
    cases r
    obtain ⟨its, rv, p', hz⟩ := I1.tuple hq
    have hal : a < s1.heap.objs.size := by
      obtain ⟨_, z, _⟩ := id p'
      exact Heap.lt_size z
    refine call_enum_tup p' fun h' he hit hk => wpAny_pyIter_enum he ?_
    have I2 : Inv X pins σ H1 { s1 with heap := h' } := I1.kept (t' := s1.toks) hk
    refine ⟨s1.heap.objs.size + 1, [s1.heap.objs.size + 1, s1.heap.objs.size], _, _, H1, rfl, I2, turn_e (xs := xs) (Nat.ne_of_lt hal) (Nat.succ_ne_self _) (Nat.ne_of_gt (Nat.lt_succ_of_lt hal)), ⟨⟨.none, he⟩, hit⟩, fun b hb => ?_, q⟩
    have hle : s1.heap.objs.size ≤ b := by
      rcases (show b = s1.heap.objs.size + 1 ∨ b = s1.heap.objs.size by simpa using hb) with z | z
      · rw [z]
        exact Nat.le_add_right _ _
      · rw [z]
        exact Nat.le_refl _
    exact I1.fpOk hle (I1.hok.fresh hle)
/-! ### by K -/
section
variable {X : Cx} {K : PySem.W.Frag}
theorem call_allK (hc : X.calm = true) (e : X.K = K := by rfl) : CallR X (.builtin "all") (rAll K) := e ▸ cr_all hc
theorem op_repTK (e : X.K = K := by rfl) : OpR X (binaryOp .Mult) (rRepT K) := e ▸ op_repT
theorem call_sortTsK (hu : X.A.units + 64 < PySem.cLine) (e : X.K = K := by rfl) : CallR X (.builtin "sorted") (rSortTs K) := e ▸ cr_sortTs hu
def rListOf (K : PySem.W.Frag) : List V → Hp → VK → Prop := fun xs H Q => ∃ p ys, xs = [.ref p] ∧ (SqL K H p ys ∨ SqT K H p ys) ∧ ∀ l, H l = none → Q (.ref l) (upd H l (.lst ys))
theorem call_listK (e : X.K = K := by rfl) : CallR X (.type "list") (rListOf K) := by
  subst e
  exact call_list_of
/-- isinstance(e, c), e the error that the suite holds, of a class that the reading tells -/
def rIsE2 (K : PySem.W.Frag) (cls : Value) (d : Option Addr) (a : Addr) : List V → Hp → VK → Prop := fun xs H Q => ∃ D : Addr, cls = .ref D ∧ d = none ∧ ExcC K D ∧ rIsE K D a xs H Q
theorem call_isE2 {a : Addr} {oe : Obj} {cls : Value} {d : Option Addr} {pn : List (Addr × Obj)} (hz : Zc cls d oe) (hf : ∃ vs, oe.data = .fields vs) (e : X.K = K := by rfl) : CallR (X.suite a ((a, oe) :: pn)) (.builtin "isinstance") (rIsE2 K cls d a) := by
  subst e
  intro pins s σ H xs us Q I r h
  obtain ⟨D, rfl, rfl, C, h⟩ := h
  exact call_isE C hz hf pins s σ H xs us Q I r h
end
end Fm
/-! A def that answers here and raises there. -/
namespace Fm
open PySem PySem.Spec PyProof.Rows L2
theorem FnOk.orX {P : Program} {w : World} {K : PySem.W.Frag} {mg : Str → Option Value} {base : Heap} {k : Nat} {f : Addr} {fd : FuncData} {ps : List Str} {sp sp2 : Sp} (F : FnOk P w K mg base L2.CX0 k f fd ps sp) (G : FnOk P w K mg base (L2.CX P w) k f fd ps sp2) :
    FnOk P w K mg base (L2.CX P w) k f fd ps (fun vs H Q E => sp vs H Q L2.E0 ∨ sp2 vs H Q E) := by
  refine ⟨fun vs H Q E h => ?_, fun A outer s H args us vs Q E hr he hb hv h => ?_⟩
  · rcases h with h | h
    · exact F.len _ _ _ _ h
    · exact G.len _ _ _ _ h
  · rcases h with h | h
    · refine codeAny_mono (F.run A outer s H args us vs Q L2.E0 hr he hb hv h) fun r s' q => ?_
      cases r with
      | error e => exact False.elim q
      | ok fl => cases fl <;> exact q
    · exact G.run A outer s H args us vs Q E hr he hb hv h
end Fm
namespace Fm
open PySem L2
theorem room65 {k : Nat} {A : Around} (r : Room k A) : A.units + 65 < cLine := by
  have := r.un
  omega
end Fm
namespace Fm
open PySem PySem.Spec PyProof.Rows L2
theorem for_enumT {K : PySem.W.Frag} {a : Addr} {xs : List V} {g : TG} {tb : TS} {D : Ends} {σ : L2.St} {H : Hp} (Pv : Nat → L2.St → Hp → Prop) (h0 : Pv 0 σ H) (hq : ∀ i σ H, Pv i σ H → SqT K H a xs)
    (hs : ∀ (i : Nat) (x : V) (T : Addr) (σ : L2.St) (H : Hp), xs[i]? = some x → Pv i σ H → H T = none → g (.ref T) σ (upd H T (.tup [.int (i : Nat), x])) fun σ2 H2 => tb { D with nx := Pv (i + 1), ct := Pv (i + 1), bk := D.nx } σ2 H2)
    (hd : ∀ σ H, Pv xs.length σ H → D.nx σ H) :
    ∃ W : Nat → Nat → L2.St → Hp → Prop, (∃ m, W 0 m σ H) ∧ ∀ i m σ H, W i m σ H →
      ((ItE K a xs).stop i H ∧ D.nx σ H) ∨ ((ItE K a xs).go i H ∧ ∃ N : L2.St → Hp → Prop, (∀ σ' H', N σ' H' → ∃ m', m' < m ∧ W (i + 1) m' σ' H') ∧ ∀ v H', (ItE K a xs).yld i H v H' → g v σ H' fun σ2 H2 => tb { D with nx := N, ct := N, bk := D.nx } σ2 H2) := by
  refine ⟨fun i m σ H => i + m = xs.length ∧ Pv i σ H, ⟨_, Nat.zero_add _, h0⟩, ?_⟩
  rintro i m σ H ⟨em, p⟩
  have qx := hq i σ H p
  cases m with
  | zero =>
    have ei : i = xs.length := em
    refine .inl ⟨⟨qx, ei⟩, hd σ H ?_⟩
    rw [← ei]
    exact p
  | succ m =>
    refine .inr ⟨⟨qx, by omega⟩, Pv (i + 1), fun σ' H' p' => ⟨m, Nat.lt_succ_self m, by omega, p'⟩, fun v H' y => ?_⟩
    obtain ⟨T, x, rfl, hT, rfl, f1⟩ := y
    exact hs i x T σ H f1 p hT
end Fm
namespace Fm
open PySem PySem.Spec PyProof.Rows L2
theorem pe_bmK {X : Cx} {K : PySem.W.Frag} {T id : String} {name : Str} {r : V → List V → Hp → VK → Prop} {o e : Expr} {es : List Expr} {to : TE} {t : TA} {apos cpos : Pos} (pa : PlainAttrs T) (slot : Slot T name id) (hty : typeOf (.builtin id) = pure (.type "method_descriptor")) (hm : MtR X id r) (ho : PE X o to) (ha : PA X (e :: es) t)
    (eK : X.K = K := by rfl) (hbase : attributeBase o name X.env (eval o X.env) = eval o X.env := by rfl)
    (hfew : ((backTo cpos (starEach (e :: es) X.env)).all (fun x => !x.1) && (backToKw cpos (keywordEach [] X.env)).all (fun x => x.1.isSome)
      && decide ((e :: es).length + ([] : List Keyword).length + (if ([] : List Keyword).isEmpty then 0 else 1) < 30)) = true := by rfl)
    (hline : (apos.endLine == cpos.line) = true := by rfl) (hs : starEach (e :: es) X.env = (false, eval e X.env) :: starEach es X.env := by rfl) (hplain : (backTo cpos (starEach es X.env)).any (·.1) = false := by rfl) :
    PE X (.Call (.Attribute o name apos) (e :: es) [] cpos) (tBM K T r to t) := by
  subst eK
  exact pe_bm pa slot hty hm ho ha hbase hfew hline hs hplain
end Fm
/-! == and != of instances by their own __eq__, any answer; sorted of a set of tuples of any lengths. -/
namespace Fm
open PySem PySem.Spec PyProof.Rows L2
/-- the other side of == of an own instance -/
inductive OTy (K : PySem.W.Frag) (H : Hp) : V → Value → Prop where
  | non : OTy K H .non (.type "NoneType")
  | int (i : Int) : OTy K H (.int i) (.type "int")
  | str (x : Str) : OTy K H (.str x) (.type "str")
  | tup {a : Addr} {xs : List V} (h : SqT K H a xs) : OTy K H (.ref a) (.type "tuple")
  | ins {a C dx : Addr} {fs : List (Str × V)} (h : H a = some (.ins C dx fs)) : OTy K H (.ref a) (.ref C)
section
variable {X : Cx} {n k : Nat}
theorem OTy.looks {pins : List (Addr × Obj)} {σ : L2.St} {H : Hp} {s : Shared} {y : V} {u t : Value} (I : Inv X pins σ H s) (r : RelV y u) (o : OTy X.K H y t) : PySem.W.Looks (model X.prog X.w) s.heap (typeOf u) t := by
  cases o with
  | non =>
    cases (show u = Value.none from r)
    exact .of_pure (by rfl)
  | int i =>
    obtain ⟨t, rfl⟩ := (show ∃ t, u = Value.int i t from r)
    exact .of_pure (by rfl)
  | str x =>
    obtain ⟨t, rfl⟩ := (show ∃ t, u = Value.str x t from r)
    exact .of_pure (by rfl)
  | tup h =>
    cases (show u = Value.ref _ from r)
    obtain ⟨its, rv, ⟨o, ho, hc, _⟩, _⟩ := I.tuple h
    have q : PySem.W.Looks (model X.prog X.w) s.heap (typeOf (.ref _)) o.cls := (PySem.W.Looks.ld ho).andThen .now
    rw [hc] at q
    exact q
  | ins h =>
    cases (show u = Value.ref _ from r)
    obtain ⟨mA, J, _⟩ := ins_get I.hok h
    obtain ⟨od, J, _⟩ := J.look
    exact J.type
/-- x == y, x an instance of the class at C, whose __eq__ keeps sp -/
def rEqO (K : PySem.W.Frag) (C : Addr) (sp : Sp) : R2 := fun x y H Q => ∃ a dx fs t, x = .ref a ∧ H a = some (.ins C dx fs) ∧ OTy K H y t ∧ PySem.W.notFirst K C t = true ∧ sp [.ref a, y] H (fun v H' => ∃ b, v = .bl b ∧ Q (.bl b) H') E0
def rNeO (K : PySem.W.Frag) (C : Addr) (sp : Sp) : R2 := fun x y H Q => ∃ a dx fs t, x = .ref a ∧ H a = some (.ins C dx fs) ∧ OTy K H y t ∧ PySem.W.notFirst K C t = true ∧ sp [.ref a, y] H (fun v H' => ∃ b, v = .bl b ∧ Q (.bl (!b)) H') E0
theorem own_run {f : Addr} {fd : FuncData} {ps : List Str} {sp : Sp} (F : FnOk X.prog X.w X.K X.mg X.base CX0 n f fd ps sp) (hb : Binds X.K fd ps []) {A : Around} (sb : Sub X n A) {pins : List (Addr × Obj)} {σ : L2.St} {H : Hp} {s : Shared} {a : Addr} {y : V} {u : Value} {R : Bool → Hp → Prop}
    (I : Inv X pins σ H s) (ry : RelV y u) (h : sp [.ref a, y] H (fun v H' => ∃ b, v = .bl b ∧ R b H') E0) (Q : Value → Shared → Prop) (E : Value → Shared → Prop) (q : ∀ b s' H', Inv X pins σ H' s' → R b H' → Q (.bool b) s') :
    wpAny (model X.prog X.w) A (call (.ref f) [.ref a, u]) Q E s := by
  have e0 : Env0 X.prog X.w X.K X.mg X.base A X.stack s H := by
    have e := I.env0
    exact ⟨by rw [sb.fr]; exact e.frames, e.mod, e.bs, e.bsz, e.funs, e.frf, e.hok, e.bare⟩
  have hl := F.len _ _ _ _ h
  have r2 : Vals [V.ref a, y] [Value.ref a, u] := .cons rfl (.cons ry .nil)
  refine wpAny_call (codeAny_mono (F.run A X.stack s H ⟨[.ref a, u], []⟩ [.ref a, u] [.ref a, y] _ E0 sb.room e0 (by
    have := hb s [.ref a, u] I.kIn (by simpa using hl)
    simpa using this) r2 h) fun r s' hq => ?_)
  cases r with
  | error e => exact False.elim hq
  | ok fl =>
    cases fl with
    | ret w =>
      obtain ⟨z, H', I', rz, b, ez, ex⟩ := I.after hq
      subst ez
      cases rz
      exact q b s' H' I' ex
    | next => exact False.elim hq
    | brk => exact False.elim hq
    | cont => exact False.elim hq
theorem op_eqO {f C : Addr} {fd : FuncData} {ps : List Str} {sp : Sp} {K : PySem.W.Frag} (F : FnOk X.prog X.w X.K X.mg X.base CX0 n f fd ps sp) (hs : PySem.W.findIn X.K (.ref C) "__eq__" = some (some (.ref f))) (hf : PySem.W.isFn X.K (.ref f) = true) (hb : Binds X.K fd ps []) (hr : Room n X.A)
    (eK : X.K = K := by rfl) : OpR X (compareOp .Eq) (rEqO K C sp) := by
  subst eK
  intro pins s σ H x y v u Q I rx ry hq
  obtain ⟨a, dx, fs, t, rfl, ha, ot, hn, h⟩ := hq
  cases rx
  obtain ⟨mA, J, _⟩ := ins_get I.hok ha
  obtain ⟨od, J, _⟩ := J.look
  have sb : Sub X n X.A := ⟨hr, rfl⟩
  obtain ⟨m, hF⟩ := I.fr
  show wpAny (model X.prog X.w) X.A (richCompare .Eq (.ref a) u) (EP X pins σ Q) X.xe s
  refine PySem.W.cmp_K (op := .Eq) hr.units0 hF I.ok.mod.kin J (ot.looks I ry) hn hs hf ?_
  exact own_run F hb sb I ry h _ _ fun b s' H' I' q => ⟨.bl b, H', I', rfl, q⟩
theorem ifBoundB {M : Model} {A : Around} {E : Value → Shared → Prop} {s : Shared} {K : PySem.W.Frag} {x C : Addr} {ox : Obj} {od : Option Obj} {name : Str} {id : String} {args : List Value} {Q : Option Value → Shared → Prop} (hK : K.In s.heap) (I : PySem.W.InstAt s.heap x ox C od)
    (hs : PySem.W.findIn K (.ref C) name = some (some (.builtin id))) (S : Slot "object" name id) (h : wpAny M A (call (.builtin id) (.ref x :: args)) (fun v => Q (some v)) E s) : wpAny M A (callSpecialIfBound? (.ref x) name args) Q E s := by
  simp only [callSpecialIfBound?, bindSpecialIfBound?]
  refine wpAny_holding (wpAny_bind (wpAny_bind (wpAny_bind (I.type.here ((PySem.W.looks_findIn hK hs).here ?_)))))
  simp only [S.bind]
  refine wpAny_bind (wpAny_askSetting (wpAny_ite ?_))
  have fin : wpAny M A (call (.builtin id) ([.ref x] ++ args) >>= fun v => pure (some v)) Q E s := wpAny_bind (wpAny_mono h (fun v s' h' => wpAny_pure h') fun _ _ h' => h')
  split
  · exact wpAny_bind (wpAny_pure (wpAny_pure fin))
  · exact wpAny_tryCatch (wpAny_bind (wpAny_pure (wpAny_pure fin)))
theorem op_neO {f C : Addr} {fd : FuncData} {ps : List Str} {sp : Sp} {K : PySem.W.Frag} (G : FnOk X.prog X.w X.K X.mg X.base CX0 n f fd ps sp) (hs : PySem.W.findIn X.K (.ref C) "__eq__" = some (some (.ref f))) (hf : PySem.W.isFn X.K (.ref f) = true) (hb : Binds X.K fd ps []) (hr : Room (n + 1) X.A)
    (hne : PySem.W.findIn X.K (.ref C) "__ne__" = some (some (.builtin "object.__ne__"))) (hm : PySem.W.mroIn X.K C (.type "object") = some true) (eK : X.K = K := by rfl) : OpR X (compareOp .NotEq) (rNeO K C sp) := by
  subst eK
  intro pins s σ H x y v u Q I rx ry hq
  obtain ⟨a, dx, fs, t, rfl, ha, ot, hn, h⟩ := hq
  cases rx
  obtain ⟨mA, J, _⟩ := ins_get I.hok ha
  obtain ⟨od, J, _⟩ := J.look
  have sb : Sub X (n + 1) X.A := ⟨hr, rfl⟩
  have hK := I.kIn
  have one : wpAny (model X.prog X.w) X.A (tryCompare (.ref a) "__ne__" u) (fun r s' => ∃ v, r = some v ∧ EP X pins σ Q v s') X.xe s := by
    unfold tryCompare
    refine wpAny_bind (ifBoundB hK J hne F.cmp_object.ne ?_)
    have sub : PySem.W.Looks (model X.prog X.w) s.heap (isInstance (.ref a) (.type "object")) true := J.type.andThen (PySem.W.looks_mroIn hK hm)
    refine wpAny_call (codeAny_call_builtin F.cmp_object.ne.plain F.cmpEntry_ne (PySem.W.check_slot F.cmpKind_ne F.cmpSplit_ne sub (F.cmpArgs_ne _ _) ?_))
    have hu : X.A.in1.units < cLine := sb.in1.room.units0
    unfold Builtin.«object.__ne__»
    refine wpAny_bind (m := slotArgs _ _ _) (wpAny_pure ?_)
    show wpAny _ _ (cRoomFor "comparison" [.ref a, u] >>= _) _ _ _
    refine wpAny_bind (wpAny_cRoomFor hu ?_)
    refine wpAny_bind (m := callSpecialIfBound? (.ref a) (Str.ofString "__eq__") [u]) (PySem.W.ifBound_K hK J hs hf (own_run G hb sb.in1 I ry h _ _ fun b s' H' I' q => ?_))
    refine wpAny_bind (m := truthy (.bool b)) (wpAny_truthy_bool ?_)
    exact wpAny_pure (wpAny_pure ⟨_, rfl, ⟨.bl (!b), H', I', rfl, q⟩⟩)
  show wpAny (model X.prog X.w) X.A (richCompare .NotEq (.ref a) u) (EP X pins σ Q) X.xe s
  unfold richCompare
  simp only [oneThing_ref]
  refine wpAny_holding (wpAny_bind (wpAny_cRoomFor hr.units0 ?_))
  refine wpAny_bind (J.type.here (wpAny_bind ((ot.looks I ry).here ?_)))
  split
  · rename_i q
    have e : PySem.W.subIn X.K t (.ref C) = some false := by
      rcases Bool.or_eq_true_iff.mp hn with e | e
      · rw [beq_iff_eq.mp e] at q; simp at q
      · exact beq_iff_eq.mp e
    refine wpAny_bind ((PySem.W.looks_subIn hK e).here ?_)
    simp only [Bool.false_eq_true, if_false]
    refine wpAny_bind (wpAny_mono one (fun r s' z => ?_) fun _ _ e => e)
    obtain ⟨v, rfl, hq⟩ := z
    exact wpAny_pure hq
  · refine wpAny_bind (wpAny_pure ?_)
    simp only [Bool.false_eq_true, if_false]
    refine wpAny_bind (wpAny_mono one (fun r s' z => ?_) fun _ _ e => e)
    obtain ⟨v, rfl, hq⟩ := z
    exact wpAny_pure hq
end
end Fm
/-! sorted of a set of tuples of ints of any lengths. -/
namespace Fm
open PySem PySem.Spec PyProof.Rows L2 PySem.W
theorem dataLt_tups (x y : List Int) : dataLt (.tuple (x.map .int)) (.tuple (y.map .int)) = decide (x < y) := by
  rw [dataLt_tuple]
  exact dataLt_ints x y
theorem dataLe_tups {β : Type} (x : β → List Int) : dataLe false (fun b => .tuple ((x b).map .int)) = fun p q => decide (x p ≤ x q) := by
  funext p q
  show (!dataLt (.tuple ((x q).map .int)) (.tuple ((x p).map .int))) = _
  rw [dataLt_tups]
  by_cases h : x q < x p
  · have h' : ¬ x p ≤ x q := fun r => List.not_lt.mpr r h
    simp [h, h']
  · have h' : x p ≤ x q := List.not_lt.mp h
    simp [h, h']
theorem lexLt_dec : ∀ x y : List Int, HT.lexLt x y = decide (x < y)
  | [], [] => by simp [HT.lexLt]
  | [], _ :: _ => by simp [HT.lexLt]
  | _ :: _, [] => by simp [HT.lexLt]
  | x :: xs, y :: ys => by
    rw [HT.lexLt_cons, lexLt_dec xs ys]
    by_cases h : x = y
    · simp [h, List.cons_lt_cons_iff]
    · simp [h, List.cons_lt_cons_iff]
theorem sorted_le {β : Type} (x : β → List Int) (l : List β) : (l.mergeSort (dataLe false (fun b => .tuple ((x b).map .int)))).Pairwise fun p q => x p ≤ x q := by
  rw [dataLe_tups]
  have h := List.pairwise_mergeSort (le := fun p q => decide (x p ≤ x q)) (fun a b c h1 h2 => decide_eq_true (List.le_trans (of_decide_eq_true h1) (of_decide_eq_true h2)))
    (fun a b => by
      rcases List.le_total (x a) (x b) with h | h
      · rw [decide_eq_true h]; rfl
      · rw [decide_eq_true h, Bool.or_true]) l
  exact h.imp fun h => of_decide_eq_true h
/-- distinct, so strictly -/
theorem sorted_lt {β : Type} (x : β → List Int) (l : List β) (hn : (l.map x).Nodup) : (l.mergeSort (dataLe false (fun b => .tuple ((x b).map .int)))).Pairwise fun p q => HT.lexLt (x p) (x q) = true := by
  have h1 := sorted_le x l
  have h2 : ((l.mergeSort (dataLe false (fun b => .tuple ((x b).map .int)))).map x).Nodup := ((List.mergeSort_perm l _).map x).nodup_iff.mpr hn
  have h3 := List.pairwise_map.mp h2
  refine (h1.and h3).imp fun {p q} h => ?_
  rw [lexLt_dec]
  refine decide_eq_true ?_
  rcases List.le_iff_lt_or_eq.mp h.1 with z | z
  · exact z
  · exact absurd z h.2
section
variable {P : Program} {w : World} {A : Around} {E : Value → Shared → Prop} {s : Shared}
theorem sorted_setU {a : Addr} {L : List (Addr × List Int)} {es : Array (Int × Value)} {ep : Nat} {t : SetTable} {Q : Value → Shared → Prop} (R : SetTR P w s.heap a L es ep t) (hh : A.handled = none) (hu : A.units + 64 < cLine)
    (hQ : ∀ s' p (out : Array Value) (c : Nat) (L' : List (Addr × List Int)), (∀ b o, s.heap.get? b = some o → s'.heap.get? b = some o) → s'.gens = s.gens → s'.os = s.os → s.heap.objs.size ≤ p →
      s'.heap.get? p = some (seqObj "list" out c) → out.toList = L'.map (fun q => Value.ref q.1) → L'.Perm L → L'.Pairwise (fun q r => HT.lexLt q.2 r.2 = true) → Q (.ref p) s') :
    wpAny (model P w) A (call (.builtin "sorted") [.ref a]) Q E s := by
  obtain ⟨o, ho, hex, hd⟩ := R.ob
  have hsz := R.size
  have hfew := R.few
  refine Calls.call_function_entry kind_sorted plain_sorted entry_sorted (args_sorted1 _) ?_
  unfold Builtin.«sorted»
  refine wpAny_bind (m := checkCount "sorted" 1 1 _) (wpAny_pure ?_)
  refine wpAny_bind (collect_set (A := A.in1) hh ⟨o, ho, hex.1, hd⟩ R.fits (by unfold scanBound; omega) R.tab.ris R.led fun s1 vs k1 hz g1 o1 pm => ?_)
  have hes : es.toList.map (·.2) = L.map fun q => Value.ref q.1 := by
    rw [R.rows]
    unfold L2.rowsOf
    rw [List.map_map] <;> rfl
  rw [hes] at pm
  have ord : ∀ vs : List Value, (∀ v ∈ vs, ∃ q ∈ L, v = Value.ref q.1) → ∃ L1 : List (Addr × List Int), vs = L1.map (fun q => Value.ref q.1) ∧ ∀ q ∈ L1, q ∈ L := by
    intro vs
    induction vs with
    | nil => intro _; exact ⟨[], rfl, fun q hq => (by cases hq)⟩
    | cons v vs ih =>
      intro hv
      obtain ⟨q, hq, e⟩ := hv v List.mem_cons_self
      obtain ⟨L1, e1, hs⟩ := ih fun u hu => hv u (List.mem_cons_of_mem _ hu)
      refine ⟨q :: L1, by rw [List.map_cons, e, e1], fun r hr => ?_⟩
      rcases List.mem_cons.mp hr with z | z
      · rw [z]; exact hq
      · exact hs r z
  have one : ∀ q ∈ L, ∀ r ∈ L, q.1 = r.1 → q = r := fun q hq r hr e => by
    have a1 := R.tup q hq
    have a2 := R.tup r hr
    rw [e] at a1
    have e2 : q.2 = r.2 := a1.inj a2
    exact Prod.ext e e2
  have perm_of : ∀ L1 : List (Addr × List Int), (∀ q ∈ L1, q ∈ L) → (L1.map (fun q => Value.ref q.1)).Perm (L.map fun q => Value.ref q.1) → L1.Perm L := by
    intro L1 hs pm1
    have nL : L.Nodup := nodup_of_map R.nd
    have nref : (L.map fun q => Value.ref q.1).Nodup := by
      refine List.pairwise_map.mpr (List.Pairwise.imp_of_mem (fun {q r} hq hr hne e => ?_) nL)
      injection e with e
      exact hne (one q hq r hr e)
    have n1 : L1.Nodup := nodup_of_map (pm1.nodup_iff.mpr nref)
    refine (List.perm_ext_iff_of_nodup n1 nL).mpr fun q => ⟨hs q, fun hq => ?_⟩
    have hm : Value.ref q.1 ∈ L1.map (fun q => Value.ref q.1) := pm1.mem_iff.mpr (List.mem_map.mpr ⟨q, hq, rfl⟩)
    obtain ⟨r, hr, e⟩ := List.mem_map.mp hm
    injection e with e
    rw [← one r (hs r hr) q hq e]
    exact hr
  have hvl : vs.length < 64 := by rw [pm.length_eq, List.length_map]; exact hfew
  obtain ⟨L1, e1, hs1⟩ := ord vs fun v hv => by
    obtain ⟨q, hq, e⟩ := List.mem_map.mp (pm.mem_iff.mp hv)
    exact ⟨q, hq, e.symm⟩
  have pL1 : L1.Perm L := perm_of L1 hs1 (by rw [← e1]; exact pm)
  refine wpAny_bind (wpAny_newList ?_ (by rw [sizeLine_eq]; omega))
  have hoL : (s1.heap.push (seqObj "list" vs.toArray 0)).get? s1.heap.objs.size = some (seqObj "list" vs.toArray 0) := Heap.get?_push_size _ rfl
  have keepT : ∀ q ∈ L, IsT P w (sortingHeap (s1.heap.push (seqObj "list" vs.toArray 0)) s1.heap.objs.size vs) q.2 q.1 := fun q hq => isT_keep (R.tup q hq) fun b u e => by
    have q1 := k1 b u e
    exact sortingHeap_old (Nat.ne_of_lt (Heap.lt_size q1)) (Heap.get?_push_of_some _ q1)
  have er : EachIs (fun (v : Value) (b : Addr × List Int) => ∃ as, Reads (sortingHeap (s1.heap.push (seqObj "list" vs.toArray 0)) s1.heap.objs.size vs) v (.tuple (b.2.map .int)) as) vs L1 := by
    have key : ∀ M : List (Addr × List Int), (∀ q ∈ M, q ∈ L) → EachIs (fun (v : Value) (b : Addr × List Int) => ∃ as, Reads (sortingHeap (s1.heap.push (seqObj "list" vs.toArray 0)) s1.heap.objs.size vs) v (.tuple (b.2.map .int)) as) (M.map fun q => Value.ref q.1) M := by
      intro M
      induction M with
      | nil => intro _; exact .nil
      | cons q M ih =>
        intro hM
        refine .cons ?_ (ih fun r hr => hM r (List.mem_cons_of_mem _ hr))
        obtain ⟨o, its, n, ho, hc, hd, hk⟩ := keepT q (hM q List.mem_cons_self)
        have r := ints_readAll (sortingHeap (s1.heap.push (seqObj "list" vs.toArray 0)) s1.heap.objs.size vs) (ints_of_items hk)
        exact ⟨_, .tuple ho hc hd r⟩
    have z := key L1 hs1
    rw [← e1] at z
    exact z
  have e0 : EachIs (fun (v : Value) (b : Addr × List Int) => v = Value.ref b.1) vs L1 := by
    have key : ∀ M : List (Addr × List Int), EachIs (fun (v : Value) (b : Addr × List Int) => v = Value.ref b.1) (M.map fun q => Value.ref q.1) M := by
      intro M
      induction M with
      | nil => exact .nil
      | cons q M ih => exact .cons rfl ih
    have z := key L1
    rw [← e1] at z
    exact z
  have hal : AllAlike (L1.map fun b => PyData.tuple (b.2.map .int)) := AllAlike.of fun b b' => by
    show alikeAll (b.2.map .int) (b'.2.map .int) = true
    exact alike_ints _ _
  have S := FmSort.sortsAt_tups (prog := P) (w := w) (A := A.in1.in1) (s := { s1 with heap := sortingHeap (s1.heap.push (seqObj "list" vs.toArray 0)) s1.heap.objs.size vs }) (each_map (R := fun v d => ∃ as, Reads (sortingHeap (s1.heap.push (seqObj "list" vs.toArray 0)) s1.heap.objs.size vs) v d as) (fun b : Addr × List Int => PyData.tuple (b.2.map .int)) er) hal (fun d hd => by
    obtain ⟨b, _, rfl⟩ := List.mem_map.mp hd
    exact ⟨_, rfl⟩) (fun d hd => by
    obtain ⟨b, _, rfl⟩ := List.mem_map.mp hd
    have z : (PyData.tuple (b.2.map .int)).depth = 1 := by
      show PyData.depthAll (b.2.map .int) + 1 = 1
      rw [depth_ints]
    show A.units + 1 + 1 + (PyData.tuple (b.2.map .int)).depth < cLine
    omega)
  refine wpAny_bind (wpAny_holding (wpAny_call_entry slot_list_sort ⟨_, hoL, rfl⟩ entry_list_sort (list_sort_vals (s := { s1 with heap := s1.heap.push (seqObj "list" vs.toArray 0) }) hoL S (by rw [sizeLine_eq]; omega) ⟨_, rfl, ?_⟩) (args_list_sort _)))
  have eo := sortVals_data (R := fun (v : Value) (b : Addr × List Int) => v = Value.ref b.1) false e0 er hal
  generalize sortVals (dataKind (sortingHeap (s1.heap.push (seqObj "list" vs.toArray 0)) s1.heap.objs.size vs) (L1.map fun b => PyData.tuple (b.2.map .int))) false vs vs = out at eo ⊢
  obtain ⟨c, hc⟩ := sortedHeap_at (vs := vs) (out := out.toArray) hoL
  have e' : out = (L1.mergeSort (dataLe false (fun b : Addr × List Int => PyData.tuple (b.2.map .int)))).map fun q => Value.ref q.1 := by
    have key : ∀ (us : List Value) (M : List (Addr × List Int)), EachIs (fun (v : Value) (b : Addr × List Int) => v = Value.ref b.1) us M → us = M.map fun q => Value.ref q.1 := by
      intro us M h
      induction h with
      | nil => rfl
      | cons h _ ih => rw [h, ih, List.map_cons]
    exact key _ _ eo
  refine wpAny_pure ⟨_, rfl, hQ _ s1.heap.objs.size out.toArray c _ (fun b u e => ?_) g1 o1 hz hc (by rw [List.toList_toArray]; exact e') ((List.mergeSort_perm _ _).trans pL1) (sorted_lt (fun b : Addr × List Int => b.2) L1 ((pL1.map _).nodup_iff.mpr R.nd))⟩
  have q := k1 b u e
  have hlt := Heap.lt_size q
  show (sortedHeap (s1.heap.push (seqObj "list" vs.toArray 0)) s1.heap.objs.size vs out.toArray).get? b = some u
  rw [sortedHeap_old (Nat.ne_of_lt hlt) (by rw [size_push']; exact Nat.lt_succ_of_lt hlt)]
  exact Heap.get?_push_of_some _ q
end
section
variable {X : Cx} {K : PySem.W.Frag} {P : Program} {w : World}
def rSortSU (K : PySem.W.Frag) (P : Program) (w : World) : List V → Hp → VK → Prop := fun vs H Q => ∃ (a : Addr) (L : List (Addr × List Int)), vs = [V.ref a] ∧ H a = some (SetTO P w a L) ∧ (∀ p ∈ L, SqT K H p.1 (p.2.map V.int)) ∧
  ∀ (L' : List (Addr × List Int)) (p : Addr), L'.Perm L → L'.length < 64 → L'.Pairwise (fun q r => HT.lexLt q.2 r.2 = true) → H p = none → Q (.ref p) (upd H p (.lst (L'.map fun q => V.ref q.1)))
theorem call_sortSU (hc : X.calm = true) (hu : X.A.units + 64 < cLine) (eK : X.K = K := by rfl) (eP : X.prog = P := by rfl) (ew : X.w = w := by rfl) : CallR X (.builtin "sorted") (rSortSU K P w) := by
  subst eK eP ew
  intro pins s σ H vs us Q I r h
  obtain ⟨a, L, rfl, ha, hk, q⟩ := h
  have R0 : SetT0 X.prog X.w s.heap a L := (I.hok a _ ha).1
  obtain ⟨es, ep, t, R⟩ := R0.full fun p hp => Inv.isT I (hk p hp)
  rw [Vals.ref1 r]
  refine sorted_setU R (I.ok.hd hc) hu fun s' p out c L' k g o hp hg hout pm pw => ?_
  have hfew : L'.length < 64 := by rw [pm.length_eq]; exact R.few
  have hlen : (L'.map fun q => V.ref q.1).length ≤ sizeLine := by rw [List.length_map, sizeLine_eq]; omega
  have hn : H p = none := I.hok.fresh hp
  have hv : Vals (L'.map fun q => V.ref q.1) out.toList := by rw [hout]; exact vals_of_refs L'
  have J : Inv X pins σ (upd H p (.lst (L'.map fun q => V.ref q.1))) { s with heap := s'.heap, gens := s'.gens, drawn := s'.drawn, toks := s'.toks } :=
    I.call (ch := []) (Un.laid k hp hn) (I.hok.laid k hp ⟨hlen, out.toList, c, hv, hg⟩) (by rw [g]; exact I.bare) (fun _ z => nomatch z)
  have e : s' = { s with heap := s'.heap, gens := s'.gens, drawn := s'.drawn, toks := s'.toks } := by
    cases s'
    cases s
    cases o
    rfl
  rw [e]
  exact ⟨.ref p, _, J, rfl, q L' p pm hfew pw hn⟩
theorem call_setOfTK (hc : X.calm = true) (hu : X.A.units + 64 < cLine) (eK : X.K = K := by rfl) (eP : X.prog = P := by rfl) (ew : X.w = w := by rfl) : CallR X (.type "set") (rSetOfT K P w) := by
  subst eK eP ew
  exact cr_setOfT hc hu
end
end Fm
/-! An own instance made within a try: what is raised is wished for at the slots. -/
namespace Fm
open PySem PySem.Spec PyProof.Rows L2
section
variable {X : Cx} {CX : CXT} {C f : Addr} {fd : FuncData} {ps : List Str} {sp : Sp} {ds : List Value} {dvs : List V} {k : Nat} {E : WX} {e : Expr} {es : List Expr} {t : TA} {x : Str} {p pos : Pos}
theorem run_makeS {E : XK} {pins : List (Addr × Obj)} {σ : L2.St} {H : Hp} {s : Shared} {Q : VK} {us : List Value} {vs : List V} (M : Mk X.K C f) (F : FnOk X.prog X.w X.K X.mg X.base CX k f fd ps sp) (hr : Room (k + 1) X.A) (hb : Binds X.K fd ps ds) (hd : Vals dvs ds)
    (hx : PassesAt CX X σ E) (I : Inv X pins σ H s) (r : Vals vs us)
    (h : ∀ x dx, H x = none → H dx = none → dx ≠ x → sp (.ref x :: (vs ++ dvs)) (upd (upd H dx (.own x)) x (.ins C dx [])) (fun v H2 => v = .non ∧ Q (.ref x) H2) E) :
    wpAny (model X.prog X.w) X.A (call (.ref C) us) (EP X pins σ Q) X.xe s := by
  have hq := h (s.heap.objs.size + 1) s.heap.objs.size (I.hok.fresh (Nat.le_succ _)) (I.hok.fresh (Nat.le_refl _)) (Nat.ne_of_lt (Nat.lt_succ_self _))
  have I2 := Inv.made (C := C) I
  have r2 : Vals (V.ref (s.heap.objs.size + 1) :: (vs ++ dvs)) (Value.ref (s.heap.objs.size + 1) :: (us ++ ds)) := .cons rfl (r.append hd)
  have hl : (Value.ref (s.heap.objs.size + 1) :: us ++ ds).length = ps.length := by
    have e := r2.length
    rw [F.len _ _ _ _ hq] at e
    exact e.symm
  refine wpAny_call (make_map (f := f) I.kIn M.makes M.init (beq_iff_eq.mp M.fn) (codeAny_mono (F.run _ X.stack _ _ ⟨Value.ref (s.heap.objs.size + 1) :: us, []⟩ (Value.ref (s.heap.objs.size + 1) :: (us ++ ds)) _ _ E (hr.make C us [])
    (I2.env0.make C us []) (hb _ (Value.ref (s.heap.objs.size + 1) :: us) I2.kIn hl) r2 hq) fun r s' hq' => ?_))
  cases r with
  | error e => exact hx pins _ _ e s' I2 hq'
  | ok fl =>
    cases fl with
    | ret u =>
      obtain ⟨v, H', I3, rv, ev, q3⟩ := I2.after hq'
      subst ev
      exact ⟨rv, ⟨V.ref (s.heap.objs.size + 1), H', I3, rfl, q3⟩⟩
    | next => exact False.elim hq'
    | brk => exact False.elim hq'
    | cont => exact False.elim hq'
def tMakeS (C : Addr) (sp : Sp) (E : L2.St → XK) (t : TA) : TE := fun σ H Q => t σ H fun vs H1 => ∀ x dx, H1 x = none → H1 dx = none → dx ≠ x → sp (.ref x :: vs) (upd (upd H1 dx (.own x)) x (.ins C dx [])) (fun v H2 => v = .non ∧ Q (.ref x) H2) (E σ)
theorem pe_makeS {E : L2.St → XK} (M : Mk X.K C f) (F : FnOk X.prog X.w X.K X.mg X.base CX k f fd ps sp) (hr : Room (k + 1) X.A) (hg : Gl X x) (hm : X.mg x = some (.ref C)) (hb : Binds X.K fd ps []) (hx : ∀ σ, PassesAt CX X σ (E σ))
    (ha : PA X (e :: es) t) (hdb : (x == ("__debug__" : Str)) = false := by decide) (he : starEach (e :: es) X.env = (false, eval e X.env) :: starEach es X.env := by rfl) (hpl : (backTo pos (starEach es X.env)).any (·.1) = false := by rfl) :
    PE X (.Call (.Name x p) (e :: es) [] pos) (tMakeS C sp E t) := by
  refine ⟨fun pins s σ H Q I h => ?_⟩
  refine wpAny_Call_Name_kw (ld_glob I hg hm ?_ hdb)
  refine PySem.W.callWith_K (h₀ := X.base) I.ok.mod.kin M.kp (thn (ha.run pos pins s σ H _ I h) fun us s1 ⟨vs, H1, I1, r, q⟩ => ⟨I1.kIn, ?_⟩) he hpl
  exact run_makeS (dvs := []) (ds := []) M F hr hb .nil (hx σ) I1 r fun x dx n1 n2 n3 => by
    rw [List.append_nil]
    exact q x dx n1 n2 n3
end
end Fm
/-! tuple * n from 1 on; tuple * 1 is the tuple itself. -/
namespace Fm
open PySem PySem.Spec PyProof.Rows L2
theorem tuple_mul1 (l : Addr) (items : Array Value) (n : Nat) (dd : Option Addr) (sl : Array (Option Value)) (u : Tok) :
    Meets (Builtin.«tuple.__mul__» ⟨[.ref l, .int 1 u], []⟩) (fun _ R s => s.heap.get? l = some { cls := .type "tuple", dict := dd, data := .seq items n, slots := sl } ∧ R (.ok (.ret (Value.ref l))) s) :=
  .of_wp fun prog w A R s h => by
    obtain ⟨hp, g, d, tk, os⟩ := s
    obtain ⟨hl, h⟩ := h
    have f1 := AutoSeq1.idx_int
    wp_walk using wpAny_loadPart' hl
    exact ⟨_, rfl, h⟩
def rRepU (K : PySem.W.Frag) : R2 := fun x y H Q => ∃ l k xs, x = .ref l ∧ y = .int k ∧ SqT K H l xs ∧ xs ≠ [] ∧ 1 ≤ k ∧ k ≤ 1000 ∧ xs.length ≤ 1000 ∧ (k = 1 → Q (.ref l) H) ∧ ∀ p, H p = none → Q (.ref p) (upd H p (.tup (List.replicate k.toNat xs).flatten))
theorem op_repU {X : Cx} {K : PySem.W.Frag} (eK : X.K = K := by rfl) : OpR X (binaryOp .Mult) (rRepU K) := by
  subst eK
  intro pins s σ H x y v u Q I rx ry h
  obtain ⟨l, k, xs, rfl, rfl, hT, hne, h1, h2, hz, q1, q⟩ := h
  by_cases hk : k = 1
  · subst hk
    cases rx
    obtain ⟨t, rfl⟩ := ry
    obtain ⟨its, r, ⟨⟨cls, dd, data, sl⟩, ho, hc, n, hd⟩, hs⟩ := I.tuple hT
    simp only at hc hd
    subst hc hd
    refine wpAny_binaryOp_repeat_ref (T := "tuple") (U := "int") (by decide) ⟨_, ho, rfl⟩ (fun s' => typeIs_int s' 1 t) noFill_tuple_mul F.fills_int_mul F.slot_int_rmul repeat_tuple F.slot_int_index.lookup
      (call_meets F.slot_int_rmul (typeIs_int s 1 t) F.entry_int_rmul (F.args_int_rmul_2 _ _) (int_rmul_tuple 1 t l its.toArray n dd sl)
        ⟨ho, rfl, ⟨_, ho, rfl⟩, call_meets F.slot_tuple_mul ⟨_, ho, rfl⟩ F.entry_tuple_mul (F.args_tuple_mul_2 _ _) (tuple_mul1 l its.toArray n dd sl t) ⟨ho, ?_⟩⟩)
    exact ⟨.ref l, H, I.tok _, rfl, q1 rfl⟩
  · exact op_repT pins s σ H _ _ v u Q I rx ry ⟨l, k, xs, rfl, rfl, hT, hne, by omega, h2, hz, q⟩
end Fm
namespace Fm
open PySem PySem.Spec PyProof.Rows L2
def topS (i : Nat) : Stmt := PySem.Challenge.pw_fairmasks_k03_habits_judged_and_refused.main.body.getD i (.Pass ⟨0, 0, 0, 0⟩)
abbrev s_is_whole : Stmt := topS 4
abbrev N_is_whole : List Str := ["thing"]
theorem sc_is_whole : FnScope N_is_whole ["thing"] (defScope s_is_whole) := ⟨rfl, rfl, rfl, by decide +kernel, rfl, by decide +kernel, by decide +kernel⟩
abbrev s_is_pair : Stmt := topS 5
abbrev N_is_pair : List Str := ["thing"]
theorem sc_is_pair : FnScope N_is_pair ["thing"] (defScope s_is_pair) := ⟨rfl, rfl, rfl, by decide +kernel, rfl, by decide +kernel, by decide +kernel⟩
abbrev s_is_fraction : Stmt := topS 6
abbrev N_is_fraction : List Str := ["thing", "top", "bottom"]
theorem sc_is_fraction : FnScope N_is_fraction ["thing"] (defScope s_is_fraction) := ⟨rfl, rfl, rfl, by decide +kernel, rfl, by decide +kernel, by decide +kernel⟩
abbrev s_is_share : Stmt := topS 7
abbrev N_is_share : List Str := ["thing"]
theorem sc_is_share : FnScope N_is_share ["thing"] (defScope s_is_share) := ⟨rfl, rfl, rfl, by decide +kernel, rfl, by decide +kernel, by decide +kernel⟩
abbrev s_fraction : Stmt := topS 8
abbrev N_fraction : List Str := ["top", "bottom", "common"]
theorem sc_fraction : FnScope N_fraction ["top", "bottom"] (defScope s_fraction) := ⟨rfl, rfl, rfl, by decide +kernel, rfl, by decide +kernel, by decide +kernel⟩
abbrev s_plus : Stmt := topS 9
abbrev N_plus : List Str := ["one", "other"]
theorem sc_plus : FnScope N_plus ["one", "other"] (defScope s_plus) := ⟨rfl, rfl, rfl, by decide +kernel, rfl, by decide +kernel, by decide +kernel⟩
abbrev s_is_sizes : Stmt := topS 20
abbrev N_is_sizes : List Str := ["thing", "many", "size"]
theorem sc_is_sizes : FnScope N_is_sizes ["thing"] (defScope s_is_sizes) := ⟨rfl, rfl, rfl, by decide +kernel, rfl, by decide +kernel, by decide +kernel⟩
abbrev s_is_content : Stmt := topS 21
abbrev N_is_content : List Str := ["sizes", "thing", "size", "worth"]
theorem sc_is_content : FnScope N_is_content ["sizes", "thing"] (defScope s_is_content) := ⟨rfl, rfl, rfl, by decide +kernel, rfl, by decide +kernel, by decide +kernel⟩
abbrev s_is_pattern : Stmt := topS 22
abbrev N_is_pattern : List Str := ["columns", "thing", "last", "column"]
theorem sc_is_pattern : FnScope N_is_pattern ["columns", "thing"] (defScope s_is_pattern) := ⟨rfl, rfl, rfl, by decide +kernel, rfl, by decide +kernel, by decide +kernel⟩
abbrev s_all_contents : Stmt := topS 23
abbrev N_all_contents : List Str := ["sizes", "found", "size", "content", "worth"]
theorem sc_all_contents : FnScope N_all_contents ["sizes"] (defScope s_all_contents) := ⟨rfl, rfl, rfl, by decide +kernel, rfl, by decide +kernel, by decide +kernel⟩
abbrev s_place_of : Stmt := topS 24
abbrev N_place_of : List Str := ["sizes", "content", "place", "size", "worth"]
theorem sc_place_of : FnScope N_place_of ["sizes", "content"] (defScope s_place_of) := ⟨rfl, rfl, rfl, by decide +kernel, rfl, by decide +kernel, by decide +kernel⟩
abbrev s_is_habit_row : Stmt := topS 27
abbrev N_is_habit_row : List Str := ["columns", "thing", "last", "total", "pair", "pattern", "part"]
theorem sc_is_habit_row : FnScope N_is_habit_row ["columns", "thing"] (defScope s_is_habit_row) := ⟨rfl, rfl, rfl, by decide +kernel, rfl, by decide +kernel, by decide +kernel⟩
abbrev s_share : Stmt := topS 28
abbrev N_share : List Str := ["habit", "pattern", "content", "shown", "part"]
theorem sc_share : FnScope N_share ["habit", "pattern", "content"] (defScope s_share) := ⟨rfl, rfl, rfl, by decide +kernel, rfl, by decide +kernel, by decide +kernel⟩
abbrev s_law_hand : Stmt := topS 30
abbrev N_law_hand : List Str := ["script", "cells", "cell"]
theorem sc_law_hand : FnScope N_law_hand ["script"] (defScope s_law_hand) := ⟨rfl, rfl, rfl, by decide +kernel, rfl, by decide +kernel, by decide +kernel⟩
abbrev s_law_draw : Stmt := topS 31
abbrev N_law_draw : List Str := ["hand", "many", "number", "cell", "digit"]
theorem sc_law_draw : FnScope N_law_draw ["hand", "many"] (defScope s_law_draw) := ⟨rfl, rfl, rfl, by decide +kernel, rfl, by decide +kernel, by decide +kernel⟩
abbrev s_law_some : Stmt := topS 32
abbrev N_law_some : List Str := ["hand", "things"]
theorem sc_law_some : FnScope N_law_some ["hand", "things"] (defScope s_law_some) := ⟨rfl, rfl, rfl, by decide +kernel, rfl, by decide +kernel, by decide +kernel⟩
abbrev s_law_deep : Stmt := topS 33
abbrev N_law_deep : List Str := ["hand", "found", "turn"]
theorem sc_law_deep : FnScope N_law_deep ["hand"] (defScope s_law_deep) := ⟨rfl, rfl, rfl, by decide +kernel, rfl, by decide +kernel, by decide +kernel⟩
abbrev s_law_sizes : Stmt := topS 34
abbrev N_law_sizes : List Str := ["hand"]
theorem sc_law_sizes : FnScope N_law_sizes ["hand"] (defScope s_law_sizes) := ⟨rfl, rfl, rfl, by decide +kernel, rfl, by decide +kernel, by decide +kernel⟩
abbrev s_law_contents : Stmt := topS 35
abbrev N_law_contents : List Str := ["sizes", "found", "size", "longer", "content", "worth"]
theorem sc_law_contents : FnScope N_law_contents ["sizes"] (defScope s_law_contents) := ⟨rfl, rfl, rfl, by decide +kernel, rfl, by decide +kernel, by decide +kernel⟩
abbrev s_law_patterns : Stmt := topS 36
abbrev N_law_patterns : List Str := ["columns", "found", "c", "pattern"]
theorem sc_law_patterns : FnScope N_law_patterns ["columns"] (defScope s_law_patterns) := ⟨rfl, rfl, rfl, by decide +kernel, rfl, by decide +kernel, by decide +kernel⟩
abbrev s_law_is_int : Stmt := topS 37
abbrev N_law_is_int : List Str := ["thing", "least", "most"]
theorem sc_law_is_int : FnScope N_law_is_int ["thing", "least", "most"] (defScope s_law_is_int) := ⟨rfl, rfl, rfl, by decide +kernel, rfl, by decide +kernel, by decide +kernel⟩
abbrev s_law_is_pattern : Stmt := topS 38
abbrev N_law_is_pattern : List Str := ["columns", "thing", "k", "c"]
theorem sc_law_is_pattern : FnScope N_law_is_pattern ["columns", "thing"] (defScope s_law_is_pattern) := ⟨rfl, rfl, rfl, by decide +kernel, rfl, by decide +kernel, by decide +kernel⟩
abbrev s_law_is_content : Stmt := topS 39
abbrev N_law_is_content : List Str := ["sizes", "thing", "c"]
theorem sc_law_is_content : FnScope N_law_is_content ["sizes", "thing"] (defScope s_law_is_content) := ⟨rfl, rfl, rfl, by decide +kernel, rfl, by decide +kernel, by decide +kernel⟩
abbrev s_law_are_sizes : Stmt := topS 40
abbrev N_law_are_sizes : List Str := ["thing", "product", "size"]
theorem sc_law_are_sizes : FnScope N_law_are_sizes ["thing"] (defScope s_law_are_sizes) := ⟨rfl, rfl, rfl, by decide +kernel, rfl, by decide +kernel, by decide +kernel⟩
abbrev s_law_low : Stmt := topS 41
abbrev N_law_low : List Str := ["top", "bottom", "turn", "a", "b"]
theorem sc_law_low : FnScope N_law_low ["top", "bottom"] (defScope s_law_low) := ⟨rfl, rfl, rfl, by decide +kernel, rfl, by decide +kernel, by decide +kernel⟩
abbrev s_law_plus : Stmt := topS 42
abbrev N_law_plus : List Str := ["one", "other"]
theorem sc_law_plus : FnScope N_law_plus ["one", "other"] (defScope s_law_plus) := ⟨rfl, rfl, rfl, by decide +kernel, rfl, by decide +kernel, by decide +kernel⟩
abbrev s_law_sum : Stmt := topS 43
abbrev N_law_sum : List Str := ["row", "found", "item"]
theorem sc_law_sum : FnScope N_law_sum ["row"] (defScope s_law_sum) := ⟨rfl, rfl, rfl, by decide +kernel, rfl, by decide +kernel, by decide +kernel⟩
abbrev s_law_row : Stmt := topS 44
abbrev N_law_row : List Str := ["hand", "columns", "every", "kept", "bottom", "left", "found", "pattern", "more", "k"]
theorem sc_law_row : FnScope N_law_row ["hand", "columns"] (defScope s_law_row) := ⟨rfl, rfl, rfl, by decide +kernel, rfl, by decide +kernel, by decide +kernel⟩
abbrev s_law_rows : Stmt := topS 45
abbrev N_law_rows : List Str := ["hand", "sizes", "some", "k", "turn"]
theorem sc_law_rows : FnScope N_law_rows ["hand", "sizes"] (defScope s_law_rows) := ⟨rfl, rfl, rfl, by decide +kernel, rfl, by decide +kernel, by decide +kernel⟩
abbrev s_law_is_share : Stmt := topS 46
abbrev N_law_is_share : List Str := ["thing"]
theorem sc_law_is_share : FnScope N_law_is_share ["thing"] (defScope s_law_is_share) := ⟨rfl, rfl, rfl, by decide +kernel, rfl, by decide +kernel, by decide +kernel⟩
abbrev s_law_is_row : Stmt := topS 47
abbrev N_law_is_row : List Str := ["columns", "thing", "pair", "k"]
theorem sc_law_is_row : FnScope N_law_is_row ["columns", "thing"] (defScope s_law_is_row) := ⟨rfl, rfl, rfl, by decide +kernel, rfl, by decide +kernel, by decide +kernel⟩
abbrev s_law_due : Stmt := topS 48
abbrev N_law_due : List Str := ["sizes", "rows", "wrong", "at"]
theorem sc_law_due : FnScope N_law_due ["sizes", "rows"] (defScope s_law_due) := ⟨rfl, rfl, rfl, by decide +kernel, rfl, by decide +kernel, by decide +kernel⟩
abbrev s_law_told : Stmt := topS 49
abbrev N_law_told : List Str := ["sizes", "rows", "told", "e", "made"]
theorem sc_law_told : FnScope N_law_told ["sizes", "rows"] (defScope s_law_told) := ⟨rfl, rfl, rfl, by decide +kernel, rfl, by decide +kernel, by decide +kernel⟩
abbrev s_law_odd : Stmt := topS 50
abbrev N_law_odd : List Str := ["hand", "habit", "odd"]
theorem sc_law_odd : FnScope N_law_odd ["hand"] (defScope s_law_odd) := ⟨rfl, rfl, rfl, by decide +kernel, rfl, by decide +kernel, by decide +kernel⟩
abbrev s_law_bent_row : Stmt := topS 51
abbrev N_law_bent_row : List Str := ["hand", "columns", "row", "at", "wrong", "other", "pairs", "pair", "things", "pattern", "part"]
theorem sc_law_bent_row : FnScope N_law_bent_row ["hand", "columns", "row"] (defScope s_law_bent_row) := ⟨rfl, rfl, rfl, by decide +kernel, rfl, by decide +kernel, by decide +kernel⟩
abbrev s_law_bent : Stmt := topS 52
abbrev N_law_bent : List Str := ["hand", "sizes", "rows", "at", "row", "later", "twice", "things"]
theorem sc_law_bent : FnScope N_law_bent ["hand", "sizes", "rows"] (defScope s_law_bent) := ⟨rfl, rfl, rfl, by decide +kernel, rfl, by decide +kernel, by decide +kernel⟩
abbrev s_law_share_word : Stmt := topS 53
abbrev N_law_share_word : List Str := ["habit", "pattern", "content", "word", "e", "flags"]
theorem sc_law_share_word : FnScope N_law_share_word ["habit", "pattern", "content"] (defScope s_law_share_word) := ⟨rfl, rfl, rfl, by decide +kernel, rfl, by decide +kernel, by decide +kernel⟩
abbrev s_law_share_due : Stmt := topS 54
abbrev N_law_share_due : List Str := ["sizes", "pattern", "content"]
theorem sc_law_share_due : FnScope N_law_share_due ["sizes", "pattern", "content"] (defScope s_law_share_due) := ⟨rfl, rfl, rfl, by decide +kernel, rfl, by decide +kernel, by decide +kernel⟩
abbrev s_law_flag : Stmt := topS 55
abbrev N_law_flag : List Str := ["told", "due"]
theorem sc_law_flag : FnScope N_law_flag ["told", "due"] (defScope s_law_flag) := ⟨rfl, rfl, rfl, by decide +kernel, rfl, by decide +kernel, by decide +kernel⟩
abbrev s_law : Stmt := topS 56
abbrev N_law : List Str := ["script", "hand", "turn", "sizes", "rows", "step", "wrong", "habit", "other", "every", "thing", "pattern", "contents", "content", "one"]
theorem sc_law : FnScope N_law ["script"] (defScope s_law) := ⟨rfl, rfl, rfl, by decide +kernel, rfl, by decide +kernel, by decide +kernel⟩
abbrev s_NoPattern_init : Stmt := inClass (topS 12) 0
abbrev N_NoPattern_init : List Str := ["self"]
theorem sc_NoPattern_init : FnScope N_NoPattern_init ["self"] (defScope s_NoPattern_init) := ⟨rfl, rfl, rfl, by decide +kernel, rfl, by decide +kernel, by decide +kernel⟩
abbrev s_NoContent_init : Stmt := inClass (topS 13) 0
abbrev N_NoContent_init : List Str := ["self"]
theorem sc_NoContent_init : FnScope N_NoContent_init ["self"] (defScope s_NoContent_init) := ⟨rfl, rfl, rfl, by decide +kernel, rfl, by decide +kernel, by decide +kernel⟩
abbrev s_BadHabit_init : Stmt := inClass (topS 14) 0
abbrev N_BadHabit_init : List Str := ["self", "part"]
theorem sc_BadHabit_init : FnScope N_BadHabit_init ["self", "part"] (defScope s_BadHabit_init) := ⟨rfl, rfl, rfl, by decide +kernel, rfl, by decide +kernel, by decide +kernel⟩
abbrev s_Habit_init : Stmt := inClass (topS 26) 0
abbrev N_Habit_init : List Str := ["self", "sizes", "rows", "index", "row"]
theorem sc_Habit_init : FnScope N_Habit_init ["self", "sizes", "rows"] (defScope s_Habit_init) := ⟨rfl, rfl, rfl, by decide +kernel, rfl, by decide +kernel, by decide +kernel⟩
abbrev s_Habit_eq : Stmt := inClass (topS 26) 1
abbrev N_Habit_eq : List Str := ["self", "other"]
theorem sc_Habit_eq : FnScope N_Habit_eq ["self", "other"] (defScope s_Habit_eq) := ⟨rfl, rfl, rfl, by decide +kernel, rfl, by decide +kernel, by decide +kernel⟩
/-- what the top has left: each def, each constant, the built-ins that are not hidden -/
structure Txt (K : PySem.W.Frag) (mg : Str → Option Value) where
  f_is_whole : Addr
  d_is_whole : FuncData
  F_is_whole : Fun K "is_whole" "is_whole" s_is_whole f_is_whole d_is_whole
  b_is_whole : Binds K d_is_whole ["thing"] []
  g_is_whole : mg "is_whole" = some (.ref f_is_whole)
  f_is_pair : Addr
  d_is_pair : FuncData
  F_is_pair : Fun K "is_pair" "is_pair" s_is_pair f_is_pair d_is_pair
  b_is_pair : Binds K d_is_pair ["thing"] []
  g_is_pair : mg "is_pair" = some (.ref f_is_pair)
  f_is_fraction : Addr
  d_is_fraction : FuncData
  F_is_fraction : Fun K "is_fraction" "is_fraction" s_is_fraction f_is_fraction d_is_fraction
  b_is_fraction : Binds K d_is_fraction ["thing"] []
  g_is_fraction : mg "is_fraction" = some (.ref f_is_fraction)
  f_is_share : Addr
  d_is_share : FuncData
  F_is_share : Fun K "is_share" "is_share" s_is_share f_is_share d_is_share
  b_is_share : Binds K d_is_share ["thing"] []
  g_is_share : mg "is_share" = some (.ref f_is_share)
  f_fraction : Addr
  d_fraction : FuncData
  F_fraction : Fun K "fraction" "fraction" s_fraction f_fraction d_fraction
  b_fraction : Binds K d_fraction ["top", "bottom"] []
  g_fraction : mg "fraction" = some (.ref f_fraction)
  f_plus : Addr
  d_plus : FuncData
  F_plus : Fun K "plus" "plus" s_plus f_plus d_plus
  b_plus : Binds K d_plus ["one", "other"] []
  g_plus : mg "plus" = some (.ref f_plus)
  f_is_sizes : Addr
  d_is_sizes : FuncData
  F_is_sizes : Fun K "is_sizes" "is_sizes" s_is_sizes f_is_sizes d_is_sizes
  b_is_sizes : Binds K d_is_sizes ["thing"] []
  g_is_sizes : mg "is_sizes" = some (.ref f_is_sizes)
  f_is_content : Addr
  d_is_content : FuncData
  F_is_content : Fun K "is_content" "is_content" s_is_content f_is_content d_is_content
  b_is_content : Binds K d_is_content ["sizes", "thing"] []
  g_is_content : mg "is_content" = some (.ref f_is_content)
  f_is_pattern : Addr
  d_is_pattern : FuncData
  F_is_pattern : Fun K "is_pattern" "is_pattern" s_is_pattern f_is_pattern d_is_pattern
  b_is_pattern : Binds K d_is_pattern ["columns", "thing"] []
  g_is_pattern : mg "is_pattern" = some (.ref f_is_pattern)
  f_all_contents : Addr
  d_all_contents : FuncData
  F_all_contents : Fun K "all_contents" "all_contents" s_all_contents f_all_contents d_all_contents
  b_all_contents : Binds K d_all_contents ["sizes"] []
  g_all_contents : mg "all_contents" = some (.ref f_all_contents)
  f_place_of : Addr
  d_place_of : FuncData
  F_place_of : Fun K "place_of" "place_of" s_place_of f_place_of d_place_of
  b_place_of : Binds K d_place_of ["sizes", "content"] []
  g_place_of : mg "place_of" = some (.ref f_place_of)
  f_is_habit_row : Addr
  d_is_habit_row : FuncData
  F_is_habit_row : Fun K "is_habit_row" "is_habit_row" s_is_habit_row f_is_habit_row d_is_habit_row
  b_is_habit_row : Binds K d_is_habit_row ["columns", "thing"] []
  g_is_habit_row : mg "is_habit_row" = some (.ref f_is_habit_row)
  f_share : Addr
  d_share : FuncData
  F_share : Fun K "share" "share" s_share f_share d_share
  b_share : Binds K d_share ["habit", "pattern", "content"] []
  g_share : mg "share" = some (.ref f_share)
  f_law_hand : Addr
  d_law_hand : FuncData
  F_law_hand : Fun K "_law_hand" "_law_hand" s_law_hand f_law_hand d_law_hand
  b_law_hand : Binds K d_law_hand ["script"] []
  g_law_hand : mg "_law_hand" = some (.ref f_law_hand)
  f_law_draw : Addr
  d_law_draw : FuncData
  F_law_draw : Fun K "_law_draw" "_law_draw" s_law_draw f_law_draw d_law_draw
  b_law_draw : Binds K d_law_draw ["hand", "many"] []
  g_law_draw : mg "_law_draw" = some (.ref f_law_draw)
  f_law_some : Addr
  d_law_some : FuncData
  F_law_some : Fun K "_law_some" "_law_some" s_law_some f_law_some d_law_some
  b_law_some : Binds K d_law_some ["hand", "things"] []
  g_law_some : mg "_law_some" = some (.ref f_law_some)
  f_law_deep : Addr
  d_law_deep : FuncData
  F_law_deep : Fun K "_law_deep" "_law_deep" s_law_deep f_law_deep d_law_deep
  b_law_deep : Binds K d_law_deep ["hand"] []
  g_law_deep : mg "_law_deep" = some (.ref f_law_deep)
  f_law_sizes : Addr
  d_law_sizes : FuncData
  F_law_sizes : Fun K "_law_sizes" "_law_sizes" s_law_sizes f_law_sizes d_law_sizes
  b_law_sizes : Binds K d_law_sizes ["hand"] []
  g_law_sizes : mg "_law_sizes" = some (.ref f_law_sizes)
  f_law_contents : Addr
  d_law_contents : FuncData
  F_law_contents : Fun K "_law_contents" "_law_contents" s_law_contents f_law_contents d_law_contents
  b_law_contents : Binds K d_law_contents ["sizes"] []
  g_law_contents : mg "_law_contents" = some (.ref f_law_contents)
  f_law_patterns : Addr
  d_law_patterns : FuncData
  F_law_patterns : Fun K "_law_patterns" "_law_patterns" s_law_patterns f_law_patterns d_law_patterns
  b_law_patterns : Binds K d_law_patterns ["columns"] []
  g_law_patterns : mg "_law_patterns" = some (.ref f_law_patterns)
  f_law_is_int : Addr
  d_law_is_int : FuncData
  F_law_is_int : Fun K "_law_is_int" "_law_is_int" s_law_is_int f_law_is_int d_law_is_int
  b_law_is_int : Binds K d_law_is_int ["thing", "least", "most"] []
  g_law_is_int : mg "_law_is_int" = some (.ref f_law_is_int)
  f_law_is_pattern : Addr
  d_law_is_pattern : FuncData
  F_law_is_pattern : Fun K "_law_is_pattern" "_law_is_pattern" s_law_is_pattern f_law_is_pattern d_law_is_pattern
  b_law_is_pattern : Binds K d_law_is_pattern ["columns", "thing"] []
  g_law_is_pattern : mg "_law_is_pattern" = some (.ref f_law_is_pattern)
  f_law_is_content : Addr
  d_law_is_content : FuncData
  F_law_is_content : Fun K "_law_is_content" "_law_is_content" s_law_is_content f_law_is_content d_law_is_content
  b_law_is_content : Binds K d_law_is_content ["sizes", "thing"] []
  g_law_is_content : mg "_law_is_content" = some (.ref f_law_is_content)
  f_law_are_sizes : Addr
  d_law_are_sizes : FuncData
  F_law_are_sizes : Fun K "_law_are_sizes" "_law_are_sizes" s_law_are_sizes f_law_are_sizes d_law_are_sizes
  b_law_are_sizes : Binds K d_law_are_sizes ["thing"] []
  g_law_are_sizes : mg "_law_are_sizes" = some (.ref f_law_are_sizes)
  f_law_low : Addr
  d_law_low : FuncData
  F_law_low : Fun K "_law_low" "_law_low" s_law_low f_law_low d_law_low
  b_law_low : Binds K d_law_low ["top", "bottom"] []
  g_law_low : mg "_law_low" = some (.ref f_law_low)
  f_law_plus : Addr
  d_law_plus : FuncData
  F_law_plus : Fun K "_law_plus" "_law_plus" s_law_plus f_law_plus d_law_plus
  b_law_plus : Binds K d_law_plus ["one", "other"] []
  g_law_plus : mg "_law_plus" = some (.ref f_law_plus)
  f_law_sum : Addr
  d_law_sum : FuncData
  F_law_sum : Fun K "_law_sum" "_law_sum" s_law_sum f_law_sum d_law_sum
  b_law_sum : Binds K d_law_sum ["row"] []
  g_law_sum : mg "_law_sum" = some (.ref f_law_sum)
  f_law_row : Addr
  d_law_row : FuncData
  F_law_row : Fun K "_law_row" "_law_row" s_law_row f_law_row d_law_row
  b_law_row : Binds K d_law_row ["hand", "columns"] []
  g_law_row : mg "_law_row" = some (.ref f_law_row)
  f_law_rows : Addr
  d_law_rows : FuncData
  F_law_rows : Fun K "_law_rows" "_law_rows" s_law_rows f_law_rows d_law_rows
  b_law_rows : Binds K d_law_rows ["hand", "sizes"] []
  g_law_rows : mg "_law_rows" = some (.ref f_law_rows)
  f_law_is_share : Addr
  d_law_is_share : FuncData
  F_law_is_share : Fun K "_law_is_share" "_law_is_share" s_law_is_share f_law_is_share d_law_is_share
  b_law_is_share : Binds K d_law_is_share ["thing"] []
  g_law_is_share : mg "_law_is_share" = some (.ref f_law_is_share)
  f_law_is_row : Addr
  d_law_is_row : FuncData
  F_law_is_row : Fun K "_law_is_row" "_law_is_row" s_law_is_row f_law_is_row d_law_is_row
  b_law_is_row : Binds K d_law_is_row ["columns", "thing"] []
  g_law_is_row : mg "_law_is_row" = some (.ref f_law_is_row)
  f_law_due : Addr
  d_law_due : FuncData
  F_law_due : Fun K "_law_due" "_law_due" s_law_due f_law_due d_law_due
  b_law_due : Binds K d_law_due ["sizes", "rows"] []
  g_law_due : mg "_law_due" = some (.ref f_law_due)
  f_law_told : Addr
  d_law_told : FuncData
  F_law_told : Fun K "_law_told" "_law_told" s_law_told f_law_told d_law_told
  b_law_told : Binds K d_law_told ["sizes", "rows"] []
  g_law_told : mg "_law_told" = some (.ref f_law_told)
  f_law_odd : Addr
  d_law_odd : FuncData
  F_law_odd : Fun K "_law_odd" "_law_odd" s_law_odd f_law_odd d_law_odd
  b_law_odd : Binds K d_law_odd ["hand"] []
  g_law_odd : mg "_law_odd" = some (.ref f_law_odd)
  f_law_bent_row : Addr
  d_law_bent_row : FuncData
  F_law_bent_row : Fun K "_law_bent_row" "_law_bent_row" s_law_bent_row f_law_bent_row d_law_bent_row
  b_law_bent_row : Binds K d_law_bent_row ["hand", "columns", "row"] []
  g_law_bent_row : mg "_law_bent_row" = some (.ref f_law_bent_row)
  f_law_bent : Addr
  d_law_bent : FuncData
  F_law_bent : Fun K "_law_bent" "_law_bent" s_law_bent f_law_bent d_law_bent
  b_law_bent : Binds K d_law_bent ["hand", "sizes", "rows"] []
  g_law_bent : mg "_law_bent" = some (.ref f_law_bent)
  f_law_share_word : Addr
  d_law_share_word : FuncData
  F_law_share_word : Fun K "_law_share_word" "_law_share_word" s_law_share_word f_law_share_word d_law_share_word
  b_law_share_word : Binds K d_law_share_word ["habit", "pattern", "content"] []
  g_law_share_word : mg "_law_share_word" = some (.ref f_law_share_word)
  f_law_share_due : Addr
  d_law_share_due : FuncData
  F_law_share_due : Fun K "_law_share_due" "_law_share_due" s_law_share_due f_law_share_due d_law_share_due
  b_law_share_due : Binds K d_law_share_due ["sizes", "pattern", "content"] []
  g_law_share_due : mg "_law_share_due" = some (.ref f_law_share_due)
  f_law_flag : Addr
  d_law_flag : FuncData
  F_law_flag : Fun K "_law_flag" "_law_flag" s_law_flag f_law_flag d_law_flag
  b_law_flag : Binds K d_law_flag ["told", "due"] []
  g_law_flag : mg "_law_flag" = some (.ref f_law_flag)
  f_NoPattern_init : Addr
  d_NoPattern_init : FuncData
  F_NoPattern_init : Fun K "__init__" "NoPattern.__init__" s_NoPattern_init f_NoPattern_init d_NoPattern_init
  b_NoPattern_init : Binds K d_NoPattern_init ["self"] []
  f_NoContent_init : Addr
  d_NoContent_init : FuncData
  F_NoContent_init : Fun K "__init__" "NoContent.__init__" s_NoContent_init f_NoContent_init d_NoContent_init
  b_NoContent_init : Binds K d_NoContent_init ["self"] []
  f_BadHabit_init : Addr
  d_BadHabit_init : FuncData
  F_BadHabit_init : Fun K "__init__" "BadHabit.__init__" s_BadHabit_init f_BadHabit_init d_BadHabit_init
  b_BadHabit_init : Binds K d_BadHabit_init ["self", "part"] []
  f_Habit_init : Addr
  d_Habit_init : FuncData
  F_Habit_init : Fun K "__init__" "Habit.__init__" s_Habit_init f_Habit_init d_Habit_init
  b_Habit_init : Binds K d_Habit_init ["self", "sizes", "rows"] []
  f_Habit_eq : Addr
  d_Habit_eq : FuncData
  F_Habit_eq : Fun K "__eq__" "Habit.__eq__" s_Habit_eq f_Habit_eq d_Habit_eq
  b_Habit_eq : Binds K d_Habit_eq ["self", "other"] []
  c_MaskError : Addr
  g_MaskError : mg "MaskError" = some (.ref c_MaskError)
  m_MaskError : Value
  U_MaskError : UpC K c_MaskError m_MaskError
  c_NoPattern : Addr
  g_NoPattern : mg "NoPattern" = some (.ref c_NoPattern)
  o_NoPattern : OexC K c_NoPattern
  i_NoPattern : PySem.W.findIn K (.ref c_NoPattern) "__init__" = some (some (.ref f_NoPattern_init))
  t_NoPattern : PySem.W.typeIn K (.ref f_NoPattern_init) = some (.type "function")
  e_NoPattern : ExcC K c_NoPattern
  x_NoPattern : PySem.W.exmOne K (.ref c_NoPattern) (.ref c_MaskError) = some true
  c_NoContent : Addr
  g_NoContent : mg "NoContent" = some (.ref c_NoContent)
  o_NoContent : OexC K c_NoContent
  i_NoContent : PySem.W.findIn K (.ref c_NoContent) "__init__" = some (some (.ref f_NoContent_init))
  t_NoContent : PySem.W.typeIn K (.ref f_NoContent_init) = some (.type "function")
  e_NoContent : ExcC K c_NoContent
  x_NoContent : PySem.W.exmOne K (.ref c_NoContent) (.ref c_MaskError) = some true
  c_BadHabit : Addr
  g_BadHabit : mg "BadHabit" = some (.ref c_BadHabit)
  o_BadHabit : OexC K c_BadHabit
  i_BadHabit : PySem.W.findIn K (.ref c_BadHabit) "__init__" = some (some (.ref f_BadHabit_init))
  t_BadHabit : PySem.W.typeIn K (.ref f_BadHabit_init) = some (.type "function")
  e_BadHabit : ExcC K c_BadHabit
  x_BadHabit : PySem.W.exmOne K (.ref c_BadHabit) (.ref c_MaskError) = some true
  q_NoPattern_NoPattern : PySem.W.kitOne K (.ref c_NoPattern) (.ref c_NoPattern) = some true
  q_NoPattern_NoContent : PySem.W.kitOne K (.ref c_NoPattern) (.ref c_NoContent) = some false
  q_NoPattern_BadHabit : PySem.W.kitOne K (.ref c_NoPattern) (.ref c_BadHabit) = some false
  q_NoContent_NoPattern : PySem.W.kitOne K (.ref c_NoContent) (.ref c_NoPattern) = some false
  q_NoContent_NoContent : PySem.W.kitOne K (.ref c_NoContent) (.ref c_NoContent) = some true
  q_NoContent_BadHabit : PySem.W.kitOne K (.ref c_NoContent) (.ref c_BadHabit) = some false
  q_BadHabit_NoPattern : PySem.W.kitOne K (.ref c_BadHabit) (.ref c_NoPattern) = some false
  q_BadHabit_NoContent : PySem.W.kitOne K (.ref c_BadHabit) (.ref c_NoContent) = some false
  q_BadHabit_BadHabit : PySem.W.kitOne K (.ref c_BadHabit) (.ref c_BadHabit) = some true
  c_Habit : Addr
  g_Habit : mg "Habit" = some (.ref c_Habit)
  M_Habit : Mk K c_Habit f_Habit_init
  l_Habit : Cls K c_Habit
  a_sizes : NoAttr K c_Habit "sizes"
  a_rows : NoAttr K c_Habit "rows"
  h_Habit : PySem.W.findIn K (.ref c_Habit) "__class__" = some (some (.builtin "object.__class__"))
  h2_Habit : PySem.W.specialIn K (.builtin "object.__class__") "__get__" = some (some (.builtin "getset_descriptor.__get__"))
  h3_Habit : PySem.W.takesIn K (.builtin "object.__class__") = some true
  h4_Habit : PySem.W.mroIn K c_Habit (.type "object") = some true
  k_Habit_int : PySem.W.kitOne K (.ref c_Habit) (.type "int") = some false
  k_Habit_tuple : PySem.W.kitOne K (.ref c_Habit) (.type "tuple") = some false
  p_BadHabit : PySem.W.findIn K (.ref c_BadHabit) "part" = some none
  xf_BadHabit : XfC K c_BadHabit
  xx_BadHabit : PySem.W.exmOne K (.ref c_BadHabit) (.ref c_BadHabit) = some true
  eq_Habit : PySem.W.findIn K (.ref c_Habit) "__eq__" = some (some (.ref f_Habit_eq))
  fn_Habit_eq : PySem.W.isFn K (.ref f_Habit_eq) = true
  ne_Habit : PySem.W.findIn K (.ref c_Habit) "__ne__" = some (some (.builtin "object.__ne__"))
  kk_Habit : PySem.W.kitOne K (.ref c_Habit) (.ref c_Habit) = some true
  ko_NoneType : PySem.W.kitOne K (.type "NoneType") (.ref c_Habit) = some false
  so_NoneType : PySem.W.subIn K (.type "NoneType") (.ref c_Habit) = some false
  ko_int : PySem.W.kitOne K (.type "int") (.ref c_Habit) = some false
  so_int : PySem.W.subIn K (.type "int") (.ref c_Habit) = some false
  ko_str : PySem.W.kitOne K (.type "str") (.ref c_Habit) = some false
  so_str : PySem.W.subIn K (.type "str") (.ref c_Habit) = some false
  ko_tuple : PySem.W.kitOne K (.type "tuple") (.ref c_Habit) = some false
  so_tuple : PySem.W.subIn K (.type "tuple") (.ref c_Habit) = some false
  w_gcd : mg "gcd" = some (.builtin "math.gcd")
  v_ZERO : Addr
  g_ZERO : mg "ZERO" = some (.ref v_ZERO)
  k_ZERO : ∀ H, SqT K H v_ZERO [.int 0, .int 1]
  v_ONE : Addr
  g_ONE : mg "ONE" = some (.ref v_ONE)
  k_ONE : ∀ H, SqT K H v_ONE [.int 1, .int 1]
  u_MOST_COLUMNS : Value
  k_MOST_COLUMNS : mg "MOST_COLUMNS" = some u_MOST_COLUMNS ∧ RelV (.int 5) u_MOST_COLUMNS
  u_LEAST_SIZE : Value
  k_LEAST_SIZE : mg "LEAST_SIZE" = some u_LEAST_SIZE ∧ RelV (.int 2) u_LEAST_SIZE
  u_MOST_SIZE : Value
  k_MOST_SIZE : mg "MOST_SIZE" = some u_MOST_SIZE ∧ RelV (.int 4) u_MOST_SIZE
  u_MOST_CONTENTS : Value
  k_MOST_CONTENTS : mg "MOST_CONTENTS" = some u_MOST_CONTENTS ∧ RelV (.int 256) u_MOST_CONTENTS
  z_len : mg "len" = none
  z_isinstance : mg "isinstance" = none
  z_range : mg "range" = none
  z_zip : mg "zip" = none
  z_tuple : mg "tuple" = none
  z_list : mg "list" = none
  z_int : mg "int" = none
  z_bool : mg "bool" = none
  z_abs : mg "abs" = none
  z_sorted : mg "sorted" = none
  z_set : mg "set" = none
  z_enumerate : mg "enumerate" = none
  z_all : mg "all" = none
section
variable {P : Program} {w : World} {K : PySem.W.Frag} {mg : Str → Option Value} {base : Heap}

/-! ### judging things -/
def m_is_whole : List Dt → Option Dt
  | [d] => some (.bl d.isW)
  | _ => none
theorem ok_is_whole (T : Txt K mg) : FnOk P w K mg base CX0 1 T.f_is_whole T.d_is_whole ["thing"] (spD K m_is_whole) := by
  refine T.F_is_whole.ok sc_is_whole (fun vs H Q E h => ?_) (fun cdv A outer s H vs Q E hr h => ?_)
  · obtain ⟨ds, r, hd, e, _⟩ := h
    exact match ds, e, hd with | [_], _, hd => hd.length
  · obtain ⟨ds, r, hd, e, q⟩ := h
    match ds, e, hd, q with
    | [d], e, .cons h .nil, q =>
      cases e
      obtain ⟨t, ty, ki, kt, kb⟩ := h.kinds
      refine ⟨_, (pss_one (ps_ret (pe_and (pe_callB (call_isiK' K) (by rfl) T.z_isinstance (by decide +kernel) (pa_cons (pv 0) (pa_cons (pe_bltn (v := .ty "int") (by rfl) T.z_int (by decide +kernel) rfl) pa_nil))) (pe_one (pe_not (pe_callB (call_isiK' K) (by rfl) T.z_isinstance (by decide +kernel) (pa_cons (pv 0) (pa_cons (pe_bltn (v := .ty "bool") (by rfl) T.z_bool (by decide +kernel) rfl) pa_nil)))))))), ?_⟩
      refine ⟨_, rfl, _, _, _, _, _, rfl, .ty _, ty, ki, _, rfl, ?_⟩
      cases hi : d.isInt with
      | true =>
        refine iteT ?_
        refine ⟨_, rfl, _, _, _, _, _, rfl, .ty _, ty, kb hi, _, rfl, ?_⟩
        rw [Bool.not_not]
        exact q _ _ (Same.refl H) (.bl _)
      | false =>
        refine iteF ?_
        have e : d.isW = false := by cases d <;> first | rfl | cases hi
        have q' := q (.bl false) H (Same.refl H)
        rw [e] at q'
        exact q' (.bl _)
def Dt.isPair : Dt → Bool
  | .tup ds => ds.length == 2
  | _ => false
def m_is_pair : List Dt → Option Dt
  | [d] => some (.bl d.isPair)
  | _ => none
theorem ok_is_pair (T : Txt K mg) : FnOk P w K mg base CX0 1 T.f_is_pair T.d_is_pair ["thing"] (spD K m_is_pair) := by
  refine T.F_is_pair.ok sc_is_pair (fun vs H Q E h => ?_) (fun cdv A outer s H vs Q E hr h => ?_)
  · obtain ⟨ds, r, hd, e, _⟩ := h
    exact match ds, e, hd with | [_], _, hd => hd.length
  · obtain ⟨ds, r, hd, e, q⟩ := h
    match ds, e, hd, q with
    | [d], e, .cons h .nil, q =>
      cases e
      obtain ⟨t, ty, ki, kt, kb⟩ := h.kinds
      refine ⟨_, (pss_one (ps_ret (pe_and (pe_callB (call_isiK' K) (by rfl) T.z_isinstance (by decide +kernel) (pa_cons (pv 0) (pa_cons (pe_bltn (v := .ty "tuple") (by rfl) T.z_tuple (by decide +kernel) rfl) pa_nil))) (pe_one (pe_cmpR op_eq (pe_callB (call_lenK K) (by rfl) T.z_len PySem.boot_len (pa_cons (pv 0) pa_nil)) pe_int (nomark _)))))), ?_⟩
      refine ⟨_, rfl, _, _, _, _, _, rfl, .ty _, ty, kt, _, rfl, ?_⟩
      cases hi : d.isTup with
      | true =>
        refine iteT ?_
        cases d with
        | tup xs =>
          obtain ⟨a, vs, rfl, hs, ha⟩ := h.tup_inv
          refine ⟨_, rfl, a, vs, rfl, .inr hs, rfl, ?_⟩
          have e : decide (V.int (vs.length : Int) = V.int 2) = (xs.length == 2) := by
            rw [dec_int, ha.length, Bool.eq_iff_iff]
            simp
            omega
          rw [e]
          exact q _ _ (Same.refl H) (.bl _)
        | _ => cases hi
      | false =>
        refine iteF ?_
        have e : d.isPair = false := by cases d <;> first | rfl | cases hi
        have q' := q (.bl false) H (Same.refl H)
        rw [e] at q'
        exact q' (.bl _)
def patGo (n : Int) : Int → List Dt → Bool
  | _, [] => true
  | l, .int c :: r => if l < c ∧ c < n then patGo n c r else false
  | _, _ :: _ => false
def Dt.isPat (n : Int) : Dt → Bool
  | .tup ds => patGo n (-1) ds
  | _ => false
def m_is_pattern : List Dt → Option Dt
  | [.int n, d] => some (.bl (d.isPat n))
  | _ => none
theorem ok_is_pattern (T : Txt K mg) : FnOk P w K mg base CX0 2 T.f_is_pattern T.d_is_pattern ["columns", "thing"] (spD K m_is_pattern) := by
  refine T.F_is_pattern.ok sc_is_pattern (fun vs H Q E h => ?_) (fun cdv A outer s H vs Q E hr h => ?_)
  · obtain ⟨ds, r, hd, e, _⟩ := h
    exact match ds, e, hd with | [.int _, _], _, hd => hd.length
  · obtain ⟨ds, r, hd, e, q⟩ := h
    match ds, e, hd, q with
    | [.int n, d], e, .cons hn (.cons h .nil), q =>
      cases e
      cases hn
      obtain ⟨t, ty, ki, kt, kb⟩ := h.kinds
      refine ⟨_, (pss_cons (ps_if (pt_not (pt_val (pe_callB (call_isiK' K) (by rfl) T.z_isinstance (by decide +kernel) (pa_cons (pv 1) (pa_cons (pe_bltn (v := .ty "tuple") (by rfl) T.z_tuple (by decide +kernel) rfl) pa_nil))))) (pss_one (ps_ret pe_bl)) pss_nil)
      (pss_cons (ps_set (i := 2) sc_is_pattern.nd rfl (.inl rfl) (pe_un un_neg pe_int))
      (pss_cons (ps_for PassesOwn.never rfl (pi_tupK K (pv 1)) (pg_name (i := 3) sc_is_pattern.nd rfl (.inl rfl)) (pss_cons (ps_if (PW.pt (pw_or (pt_not (pt_val (pe_call (ok_is_whole T) hr (by rfl) T.g_is_whole T.F_is_whole.kp T.b_is_whole .nil pass0 (pa_cons (pv 3) pa_nil)))) (pw_or1 (pt_not (pt_chain op_lt op_lt (pv 2) (pv 3) (pv 0)))))) (pss_one (ps_ret pe_bl)) pss_nil)
      (pss_one (ps_set (i := 2) sc_is_pattern.nd rfl (.inl rfl) (pv 3)))))
      (pss_one (ps_ret pe_bl))))), ?_⟩
      refine ⟨_, rfl, _, _, _, _, _, rfl, .ty _, ty, kt, _, rfl, ?_⟩
      cases hi : d.isTup with
      | false =>
        refine iteT ?_
        have e : d.isPat n = false := by cases d <;> first | rfl | cases hi
        have q' := q (.bl false) H (Same.refl H)
        rw [e] at q'
        exact q' (.bl _)
      | true =>
        refine iteF ?_
        cases d with
        | tup xs =>
          obtain ⟨a, vs, rfl, hs, ha⟩ := h.tup_inv
          refine ⟨1, rfl, _, rfl, a, rfl, ⟨_, hs⟩, for_tup (xs := vs) (fun i σ H' => ∃ (l : Int) (c : Option V), σ = [some (.int n), some (.ref a), some (.int l), c] ∧ Same H H' ∧ patGo n (-1) xs = patGo n l (xs.drop i))
            ⟨-1, none, rfl, Same.refl H, rfl⟩ (fun i σ H' _ ⟨_, _, _, sm, _⟩ => (Ext.of sm).sqT hs) ?_ ?_⟩
          · rintro i x σ H' hx ⟨l, c, rfl, sm, e⟩
            obtain ⟨dx, hdx, hx2⟩ := ha.get hx
            have hdr : xs.drop i = dx :: xs.drop (i + 1) := by
              obtain ⟨hlt, e2⟩ := List.getElem?_eq_some_iff.mp hdx
              rw [List.drop_eq_getElem_cons hlt, e2]
            rw [hdr] at e
            -- not is_whole(column) or not last < column < columns
            refine ⟨_, rfl, spD_bl (.cons (hx2.ext (.of sm)) .nil) rfl fun H1 s1 => ⟨_, rfl, ?_⟩⟩
            have fin : patGo n l (dx :: xs.drop (i + 1)) = false → ∀ H2, Same H' H2 → Q (.bl false) H2 := fun z H2 s2 => by
              have q' := q (.bl false) H2 (sm.trans s2)
              rw [show (Dt.tup xs).isPat n = patGo n (-1) xs from rfl, e, z] at q'
              exact q' (.bl _)
            cases hw : dx.isW with
            | false =>
              refine iteT (iteT ?_)
              exact fin (by cases dx <;> first | rfl | cases hw) _ s1
            | true =>
              refine iteF ?_
              cases dx with
              | int c =>
                cases hx2
                refine ⟨_, rfl, _, rfl, _, _, rfl, rfl, _, rfl, ?_⟩
                refine ite2 (fun h1 => ?_) (fun h1 => ?_)
                · refine ⟨_, rfl, _, _, rfl, rfl, _, rfl, ?_⟩
                  refine ite2 (fun h2 => ?_) (fun h2 => ?_)
                  · have n2 : ¬ c < n := by simpa using h2
                    exact fin (by show (if l < c ∧ c < n then _ else false) = false; rw [if_neg fun z => n2 z.2]) _ s1
                  · have y2 : c < n := by simpa using h2
                    refine ⟨_, rfl, c, _, rfl, sm.trans s1, ?_⟩
                    rw [e]
                    show (if l < c ∧ c < n then _ else false) = _
                    rw [if_pos ⟨of_decide_eq_true h1, y2⟩]
                · refine ⟨_, rfl, iteT ?_⟩
                  exact fin (by show (if l < c ∧ c < n then _ else false) = false; rw [if_neg fun z => h1 (decide_eq_true z.1)]) _ s1
              | _ => cases hw
          · rintro σ H' ⟨l, c, rfl, sm, e⟩
            have ed : xs.drop vs.length = [] := List.drop_eq_nil_of_le (by rw [ha.length]; exact Nat.le_refl _)
            rw [ed] at e
            have q' := q (.bl true) H' sm
            rw [show (Dt.tup xs).isPat n = patGo n (-1) xs from rfl, e] at q'
            exact q' (.bl _)
        | _ => cases hi

/-! ### contents, sizes, boxes judged -/
theorem drop_at {α : Type} {xs : List α} {i : Nat} {x : α} (h : xs[i]? = some x) : xs.drop i = x :: xs.drop (i + 1) := by
  obtain ⟨hlt, e⟩ := List.getElem?_eq_some_iff.mp h
  rw [List.drop_eq_getElem_cons hlt, e]
def contGo : List Int → List Dt → Bool
  | s :: ss, .int c :: r => if 0 ≤ c ∧ c < s then contGo ss r else false
  | _ :: _, _ :: _ => false
  | [], _ => true
  | _, [] => true
def Dt.isCont (ss : List Int) : Dt → Bool
  | .tup ds => ds.length == ss.length && contGo ss ds
  | _ => false
theorem int_at {ss : List Int} {i : Nat} {x : V} (h : (ss.map V.int)[i]? = some x) : ∃ n, x = .int n ∧ ss[i]? = some n := by
  rw [List.getElem?_map] at h
  cases e : ss[i]? with
  | none =>
    rw [e] at h
    cases h
  | some n =>
    rw [e] at h
    exact ⟨n, (Option.some.inj h).symm, rfl⟩
/-- sizes as a tuple or a list of ints, and a thing -/
def spCont (K : PySem.W.Frag) : Sp := fun vs H Q _ => ∃ (L : Bool) (p : Addr) (ss : List Int) (v : V) (d : Dt), vs = [.ref p, v] ∧ SqA L K H p (ss.map V.int) ∧ Dh K H v d ∧ ∀ H', Same H H' → Q (.bl (d.isCont ss)) H'
theorem ok_is_content (T : Txt K mg) : FnOk P w K mg base CX0 2 T.f_is_content T.d_is_content ["sizes", "thing"] (spCont K) := by
  refine T.F_is_content.ok sc_is_content (fun vs H Q E h => ?_) (fun cdv A outer s H vs Q E hr h => ?_)
  · obtain ⟨_, _, _, _, _, rfl, _⟩ := h
    rfl
  · obtain ⟨L, p, ss, v, d, rfl, hp, h, q⟩ := h
    obtain ⟨t, ty, ki, kt, kb⟩ := h.kinds
    refine ⟨_, (pss_cons (ps_if (PW.pt (pw_or (pt_not (pt_val (pe_callB (call_isiK' K) (by rfl) T.z_isinstance (by decide +kernel) (pa_cons (pv 1) (pa_cons (pe_bltn (v := .ty "tuple") (by rfl) T.z_tuple (by decide +kernel) rfl) pa_nil))))) (pw_or1 (pt_cmpR op_ne (pe_callB (call_lenK K) (by rfl) T.z_len PySem.boot_len (pa_cons (pv 1) pa_nil)) (pe_callB (call_lenK K) (by rfl) T.z_len PySem.boot_len (pa_cons (pv 0) pa_nil)) (nomark _))))) (pss_one (ps_ret pe_bl)) pss_nil)
      (pss_cons (ps_for PassesOwn.never rfl (pi_zipM (by rfl) T.z_zip (pa_cons (pv 0) (pa_cons (pv 1) pa_nil))) (pg_tupK K (n := 2) rfl (pgs_cons (pg_name (i := 2) sc_is_content.nd rfl (.inl rfl)) (pgs_cons (pg_name (i := 3) sc_is_content.nd rfl (.inl rfl)) pgs_nil))) (pss_one (ps_if (PW.pt (pw_or (pt_not (pt_val (pe_call (ok_is_whole T) hr (by rfl) T.g_is_whole T.F_is_whole.kp T.b_is_whole .nil pass0 (pa_cons (pv 3) pa_nil)))) (pw_or1 (pt_not (pt_chain op_le op_lt pe_int (pv 3) (pv 2)))))) (pss_one (ps_ret pe_bl)) pss_nil)))
      (pss_one (ps_ret pe_bl)))), ?_⟩
    refine ⟨_, rfl, _, _, _, _, _, rfl, .ty _, ty, kt, _, rfl, ?_⟩
    cases hi : d.isTup with
    | false =>
      refine iteT (iteT ?_)
      have e : d.isCont ss = false := by cases d <;> first | rfl | cases hi
      have q' := q H (Same.refl H)
      rw [e] at q'
      exact q'
    | true =>
      refine iteF ?_
      cases d with
      | tup xs =>
        obtain ⟨a, vs, rfl, hs, ha⟩ := h.tup_inv
        refine ⟨_, rfl, a, vs, rfl, .inr hs, _, rfl, p, _, rfl, hp.any, rfl, _, rfl, ?_⟩
        have el : decide (V.int (vs.length : Int) = V.int ((ss.map V.int).length : Int)) = (xs.length == ss.length) := by
          rw [dec_int, ha.length, List.length_map, Bool.eq_iff_iff]
          simp
          omega
        have eq0 : (Dt.tup xs).isCont ss = (xs.length == ss.length && contGo ss xs) := rfl
        rw [eq0] at q
        rw [el]
        cases hl : xs.length == ss.length with
        | false =>
          refine iteT ?_
          rw [hl] at q
          exact q H (Same.refl H)
        | true =>
          refine iteF ?_
          rw [hl, Bool.true_and] at q
          have hlen : xs.length = ss.length := by simpa using hl
          refine ⟨_, rfl, _, rfl, L, p, a, ss.map V.int, vs, rfl, hp, hs, for_zipM (fun i σ H' => ∃ y2 y3, σ = [some (.ref p), some (.ref a), y2, y3] ∧ Same H H' ∧ contGo ss xs = contGo (ss.drop i) (xs.drop i))
            ⟨none, none, rfl, Same.refl H, rfl⟩ (fun i σ H' ⟨_, _, _, sm, _⟩ => ⟨Ext.sqTs sm hp, (Ext.of sm).sqT hs⟩) ?_ ?_⟩
          · rintro i x y Tp σ H' hx hy ⟨y2, y3, rfl, sm, e⟩ nT
            obtain ⟨n, rfl, hn⟩ := int_at hx
            obtain ⟨dx, hdx, hx2⟩ := ha.get hy
            rw [drop_at hn, drop_at hdx] at e
            refine ⟨Tp, [_, y], rfl, SqT.of upd_same, rfl, _, [y], rfl, y, [], rfl, rfl, ?_⟩
            have s1 : Same H (upd H' Tp (.tup [V.int n, y])) := sm.trans (same_new nT)
            refine ⟨_, rfl, spD_bl (.cons (hx2.ext (.of s1)) .nil) rfl fun H1 s2 => ⟨_, rfl, ?_⟩⟩
            cases hw : dx.isW with
            | false =>
              refine iteT (iteT ?_)
              have z : contGo ss xs = false := by
                rw [e]
                cases dx <;> first | rfl | cases hw
              rw [z] at q
              exact q H1 (s1.trans s2)
            | true =>
              refine iteF ?_
              cases dx with
              | int c =>
                cases hx2
                have e' : contGo ss xs = if 0 ≤ c ∧ c < n then contGo (ss.drop (i + 1)) (xs.drop (i + 1)) else false := e
                refine ⟨_, rfl, _, _, rfl, rfl, _, rfl, ?_⟩
                refine ite2 (fun h1 => ?_) (fun h1 => ?_)
                · refine ⟨_, rfl, _, _, rfl, rfl, _, rfl, ?_⟩
                  refine ite2 (fun h2 => ?_) (fun h2 => ?_)
                  · have n2 : ¬ c < n := by simpa using h2
                    rw [if_neg fun z => n2 z.2] at e'
                    rw [e'] at q
                    exact q H1 (s1.trans s2)
                  · have y2 : c < n := by simpa using h2
                    rw [if_pos ⟨of_decide_eq_true h1, y2⟩] at e'
                    exact ⟨_, _, rfl, s1.trans s2, e'⟩
                · refine ⟨_, rfl, iteT ?_⟩
                  rw [if_neg fun z => h1 (decide_eq_true z.1)] at e'
                  rw [e'] at q
                  exact q H1 (s1.trans s2)
              | _ => cases hw
          · rintro σ H' ⟨y2, y3, rfl, sm, e⟩
            have z : contGo ss xs = true := by
              rw [e, List.drop_eq_nil_of_le (as := ss) (by have := ha.length; rw [List.length_map]; omega)]
              rfl
            rw [z] at q
            exact q H' sm
      | _ => cases hi
def sizeGo : Int → List Dt → Option Int
  | m, [] => some m
  | m, .int c :: r => if 2 ≤ c ∧ c ≤ 4 then sizeGo (m * c) r else none
  | _, _ :: _ => none
def Dt.isSizes : Dt → Bool
  | .tup ds => if 1 ≤ ds.length ∧ ds.length ≤ 5 then (match sizeGo 1 ds with | some m => decide (m ≤ 256) | none => false) else false
  | _ => false
def m_is_sizes : List Dt → Option Dt
  | [d] => some (.bl d.isSizes)
  | _ => none
theorem ok_is_sizes (T : Txt K mg) : FnOk P w K mg base CX0 2 T.f_is_sizes T.d_is_sizes ["thing"] (spD K m_is_sizes) := by
  refine T.F_is_sizes.ok sc_is_sizes (fun vs H Q E h => ?_) (fun cdv A outer s H vs Q E hr h => ?_)
  · obtain ⟨ds, r, hd, e, _⟩ := h
    exact match ds, e, hd with | [_], _, hd => hd.length
  · obtain ⟨ds, r, hd, e, q⟩ := h
    match ds, e, hd, q with
    | [d], e, .cons h .nil, q =>
      cases e
      have q : ∀ H', Same H H' → Q (.bl d.isSizes) H' := fun H' s => q _ H' s (.bl _)
      obtain ⟨t, ty, ki, kt, kb⟩ := h.kinds
      refine ⟨_, (pss_cons (ps_if (PW.pt (pw_or (pt_not (pt_val (pe_callB (call_isiK' K) (by rfl) T.z_isinstance (by decide +kernel) (pa_cons (pv 0) (pa_cons (pe_bltn (v := .ty "tuple") (by rfl) T.z_tuple (by decide +kernel) rfl) pa_nil))))) (pw_or1 (pt_not (pt_chain op_le op_le pe_int (pe_callB (call_lenK K) (by rfl) T.z_len PySem.boot_len (pa_cons (pv 0) pa_nil)) (pe_glob (by rfl) T.k_MOST_COLUMNS.1 T.k_MOST_COLUMNS.2)))))) (pss_one (ps_ret pe_bl)) pss_nil)
      (pss_cons (ps_set (i := 1) sc_is_sizes.nd rfl (.inl rfl) pe_int)
      (pss_cons (ps_for PassesOwn.never rfl (pi_tupK K (pv 0)) (pg_name (i := 2) sc_is_sizes.nd rfl (.inl rfl)) (pss_cons (ps_if (PW.pt (pw_or (pt_not (pt_val (pe_call (ok_is_whole T) hr (by rfl) T.g_is_whole T.F_is_whole.kp T.b_is_whole .nil pass0 (pa_cons (pv 2) pa_nil)))) (pw_or1 (pt_not (pt_chain op_le op_le (pe_glob (by rfl) T.k_LEAST_SIZE.1 T.k_LEAST_SIZE.2) (pv 2) (pe_glob (by rfl) T.k_MOST_SIZE.1 T.k_MOST_SIZE.2)))))) (pss_one (ps_ret pe_bl)) pss_nil)
      (pss_one (ps_set (i := 1) sc_is_sizes.nd rfl (.inl rfl) (pe_op op_mul (pv 1) (pv 2))))))
      (pss_one (ps_ret (pe_cmpR op_le (pv 1) (pe_glob (by rfl) T.k_MOST_CONTENTS.1 T.k_MOST_CONTENTS.2) (nomark _))))))), ?_⟩
      refine ⟨_, rfl, _, _, _, _, _, rfl, .ty _, ty, kt, _, rfl, ?_⟩
      cases hi : d.isTup with
      | false =>
        refine iteT (iteT ?_)
        have e : d.isSizes = false := by cases d <;> first | rfl | cases hi
        rw [e] at q
        exact q H (Same.refl H)
      | true =>
        refine iteF ?_
        cases d with
        | tup xs =>
          obtain ⟨a, vs, rfl, hs, ha⟩ := h.tup_inv
          have eq0 : (Dt.tup xs).isSizes = if 1 ≤ xs.length ∧ xs.length ≤ 5 then (match sizeGo 1 xs with | some m => decide (m ≤ 256) | none => false) else false := rfl
          rw [eq0] at q
          have hl := ha.length
          refine ⟨_, rfl, a, vs, rfl, .inr hs, _, _, rfl, rfl, _, rfl, ?_⟩
          have out : ¬ (1 ≤ xs.length ∧ xs.length ≤ 5) → Q (.bl false) H := fun n => by
            rw [if_neg n] at q
            exact q H (Same.refl H)
          refine ite2 (fun h1 => ?_) (fun h1 => ?_)
          · have h1' : (1 : Int) ≤ vs.length := of_decide_eq_true h1
            refine ⟨_, _, rfl, rfl, _, rfl, ?_⟩
            refine ite2 (fun h2 => ?_) (fun h2 => ?_)
            · have n2 : ¬ (vs.length : Int) ≤ 5 := by simpa using h2
              exact out fun z => n2 (by omega)
            · have h2' : (vs.length : Int) ≤ 5 := by simpa using h2
              have hin : 1 ≤ xs.length ∧ xs.length ≤ 5 := ⟨by omega, by omega⟩
              rw [if_pos hin] at q
              refine ⟨_, rfl, a, rfl, ⟨_, hs⟩, for_tup (xs := vs) (fun i σ H' => ∃ (m : Int) (c : Option V), σ = [some (.ref a), some (.int m), c] ∧ Same H H' ∧ sizeGo 1 xs = sizeGo m (xs.drop i))
                ⟨1, none, rfl, Same.refl H, rfl⟩ (fun i σ H' _ ⟨_, _, _, sm, _⟩ => (Ext.of sm).sqT hs) ?_ ?_⟩
              · rintro i x σ H' hx ⟨m, c, rfl, sm, e⟩
                obtain ⟨dx, hdx, hx2⟩ := ha.get hx
                rw [drop_at hdx] at e
                refine ⟨_, rfl, spD_bl (.cons (hx2.ext (.of sm)) .nil) rfl fun H1 s1 => ⟨_, rfl, ?_⟩⟩
                have bad : sizeGo m (dx :: xs.drop (i + 1)) = none → Q (.bl false) H1 := fun z => by
                  rw [e, z] at q
                  exact q H1 (sm.trans s1)
                cases hw : dx.isW with
                | false =>
                  refine iteT (iteT ?_)
                  exact bad (by cases dx <;> first | rfl | cases hw)
                | true =>
                  refine iteF ?_
                  cases dx with
                  | int c =>
                    cases hx2
                    have e' : sizeGo m (Dt.int c :: xs.drop (i + 1)) = if 2 ≤ c ∧ c ≤ 4 then sizeGo (m * c) (xs.drop (i + 1)) else none := rfl
                    refine ⟨_, rfl, _, _, rfl, rfl, _, rfl, ?_⟩
                    refine ite2 (fun h1 => ?_) (fun h1 => ?_)
                    · refine ⟨_, _, rfl, rfl, _, rfl, ?_⟩
                      refine ite2 (fun h2 => ?_) (fun h2 => ?_)
                      · have n2 : ¬ c ≤ 4 := by simpa using h2
                        exact bad (by rw [e', if_neg fun z => n2 z.2])
                      · have y2 : c ≤ 4 := by simpa using h2
                        have y1 : 2 ≤ c := of_decide_eq_true h1
                        refine ⟨_, rfl, _, rfl, _, _, rfl, rfl, .inr ⟨by omega, by omega⟩, ?_⟩
                        refine ⟨_, _, rfl, sm.trans s1, ?_⟩
                        rw [e, e', if_pos ⟨y1, y2⟩]
                    · refine ⟨_, rfl, iteT ?_⟩
                      exact bad (by rw [e', if_neg fun z => h1 (decide_eq_true z.1)])
                  | _ => cases hw
              · rintro σ H' ⟨m, c, rfl, sm, e⟩
                rw [List.drop_eq_nil_of_le (as := xs) (by omega)] at e
                have e2 : sizeGo 1 xs = some m := e
                rw [e2] at q
                exact ⟨_, rfl, _, _, rfl, rfl, q H' sm⟩
          · refine ⟨_, rfl, iteT ?_⟩
            exact out fun z => h1 (decide_eq_true (by omega))
        | _ => cases hi

end
end Fm
namespace Fm
open PySem PySem.Spec PyProof.Rows L2
section
variable {P : Program} {w : World} {K : PySem.W.Frag} {mg : Str → Option Value} {base : Heap}

/-! ### contents -/
theorem ints_dh {K : PySem.W.Frag} {H : Hp} : ∀ c : List Int, DhAll K H (c.map V.int) (c.map Dt.int)
  | [] => .nil
  | i :: r => .cons (.int i) (ints_dh r)
theorem dh_ints {K : PySem.W.Frag} {H : Hp} : ∀ {vs : List V} (c : List Int), DhAll K H vs (c.map Dt.int) → vs = c.map V.int
  | [], [], _ => rfl
  | v :: vs, i :: r, .cons h t => by rw [h.int_inv, dh_ints r t]; rfl
def ctD (c : List Int) : Dt := .tup (c.map Dt.int)
theorem dh_ct {K : PySem.W.Frag} {H : Hp} {a : Addr} {c : List Int} (h : SqT K H a (c.map V.int)) : Dh K H (.ref a) (ctD c) := .tup h (ints_dh c)
theorem ct_inv {K : PySem.W.Frag} {H : Hp} {v : V} {c : List Int} (h : Dh K H v (ctD c)) : ∃ a, v = .ref a ∧ SqT K H a (c.map V.int) := by
  obtain ⟨a, xs, rfl, s, t⟩ := h.tup_inv
  rw [dh_ints c t] at s
  exact ⟨a, rfl, s⟩
def ext (n : Nat) (c : List Int) : List (List Int) := (List.range n).map fun (w : Nat) => c ++ [(w : Int)]
theorem ext_succ (n : Nat) (c : List Int) : ext (n + 1) c = ext n c ++ [c ++ [(n : Int)]] := by
  unfold ext
  rw [List.range_succ, List.map_append]
  rfl
theorem ext_len (n : Nat) (c : List Int) : (ext n c).length = n := by simp [ext]
theorem flat_len (n : Nat) : ∀ l : List (List Int), (l.flatMap (ext n)).length = l.length * n
  | [] => by simp
  | c :: r => by rw [List.flatMap_cons, List.length_append, ext_len, flat_len n r, List.length_cons, Nat.add_mul, Nat.one_mul, Nat.add_comm]
def stepC (found : List (List Int)) (s : Int) : List (List Int) := found.flatMap (ext s.toNat)
def allC (ss : List Int) : List (List Int) := ss.foldl stepC [[]]
theorem allC_snoc (ss : List Int) (s : Int) : allC (ss ++ [s]) = stepC (allC ss) s := by
  unfold allC
  rw [List.foldl_append]
  rfl
/-- how far a comprehension has come: i lists wholly, of the next one j items -/
def upTo (cs : List (List Int)) (n i j : Nat) : List (List Int) := (cs.take i).flatMap (ext n) ++ match cs[i]? with
  | some c => ext j c
  | none => []
theorem upTo_step {cs : List (List Int)} {n i j : Nat} {c : List Int} (h : cs[i]? = some c) : upTo cs n i (j + 1) = upTo cs n i j ++ [c ++ [(j : Int)]] := by
  unfold upTo
  rw [h]
  dsimp only
  rw [ext_succ, List.append_assoc]
theorem upTo_next {cs : List (List Int)} {n i : Nat} {c : List Int} (h : cs[i]? = some c) : upTo cs n i n = upTo cs n (i + 1) 0 := by
  have e0 : (match cs[i + 1]? with
      | some c => ext 0 c
      | none => []) = [] := by
    cases cs[i + 1]? <;> rfl
  unfold upTo
  rw [e0, h, List.take_add_one, h]
  simp
theorem upTo_end {cs : List (List Int)} {n : Nat} : upTo cs n cs.length 0 = cs.flatMap (ext n) := by
  unfold upTo
  rw [List.getElem?_eq_none (Nat.le_refl _), List.take_length]
  simp
theorem upTo_zero {cs : List (List Int)} {n : Nat} : upTo cs n 0 0 = [] := by
  unfold upTo
  cases cs[0]? <;> rfl
theorem upTo_len {cs : List (List Int)} {n i j : Nat} : (upTo cs n i j).length ≤ cs.length * n + j := by
  unfold upTo
  rw [List.length_append, flat_len, List.length_take]
  have h1 : min i cs.length * n ≤ cs.length * n := Nat.mul_le_mul_right _ (Nat.min_le_right _ _)
  cases cs[i]? with
  | none => simp; omega
  | some c =>
    dsimp only
    rw [ext_len]
    omega
def SizesOk (ss : List Int) : Prop := (Dt.tup (ss.map Dt.int)).isSizes = true
theorem sizeGo_mem : ∀ (m : Int) (ss : List Int) (r : Int), sizeGo m (ss.map Dt.int) = some r → ∀ s ∈ ss, 2 ≤ s ∧ s ≤ 4
  | _, [], _, _ => fun _ h => by simp at h
  | m, c :: ss, r, h => fun s hs => by
    have h' : (if 2 ≤ c ∧ c ≤ 4 then sizeGo (m * c) (ss.map Dt.int) else none) = some r := h
    by_cases hc : 2 ≤ c ∧ c ≤ 4
    · rw [if_pos hc] at h'
      rcases List.mem_cons.mp hs with e | e
      · rw [e]
        exact hc
      · exact sizeGo_mem _ ss r h' s e
    · rw [if_neg hc] at h'
      cases h'
theorem SizesOk.facts {ss : List Int} (h : SizesOk ss) : 1 ≤ ss.length ∧ ss.length ≤ 5 ∧ ∀ s ∈ ss, 2 ≤ s ∧ s ≤ 4 := by
  have h' : (if 1 ≤ (ss.map Dt.int).length ∧ (ss.map Dt.int).length ≤ 5 then (match sizeGo 1 (ss.map Dt.int) with
    | some m => decide (m ≤ 256)
    | none => false) else false) = true := h
  rw [List.length_map] at h'
  by_cases hl : 1 ≤ ss.length ∧ ss.length ≤ 5
  · rw [if_pos hl] at h'
    cases e : sizeGo 1 (ss.map Dt.int) with
    | none =>
      rw [e] at h'
      cases h'
    | some m => exact ⟨hl.1, hl.2, sizeGo_mem 1 ss m e⟩
  · rw [if_neg hl] at h'
    cases h'
theorem allC_len {ss : List Int} (h : ∀ s ∈ ss, s ≤ 4) : ∀ i, (allC (ss.take i)).length ≤ 4 ^ i ∧ ∀ c ∈ allC (ss.take i), c.length ≤ i
  | 0 => ⟨by simp [allC], by simp [allC]⟩
  | i + 1 => by
    obtain ⟨h1, h2⟩ := allC_len h i
    cases e : ss[i]? with
    | none =>
      have e' : ss.take (i + 1) = ss.take i := by rw [List.take_add_one, e]; simp
      rw [e']
      exact ⟨Nat.le_trans h1 (Nat.pow_le_pow_right (by decide) (Nat.le_succ i)), fun c hc => Nat.le_succ_of_le (h2 c hc)⟩
    | some s =>
      have e' : ss.take (i + 1) = ss.take i ++ [s] := by rw [List.take_add_one, e]; rfl
      have hs : s ≤ 4 := h s (List.mem_of_getElem? e)
      rw [e', allC_snoc]
      unfold stepC
      refine ⟨?_, fun c hc => ?_⟩
      · rw [flat_len, Nat.pow_succ]
        exact Nat.mul_le_mul h1 (by omega)
      · obtain ⟨b, hb, hc⟩ := List.mem_flatMap.mp hc
        obtain ⟨w, _, rfl⟩ := List.mem_map.mp hc
        rw [List.length_append]
        exact Nat.add_le_add_right (h2 b hb) 1
theorem allC_all {ss : List Int} (h : SizesOk ss) : (allC ss).length ≤ 1024 ∧ ∀ c ∈ allC ss, c.length ≤ 5 := by
  obtain ⟨_, h5, hm⟩ := h.facts
  have q := allC_len (fun s hs => (hm s hs).2) ss.length
  rw [List.take_length] at q
  refine ⟨Nat.le_trans q.1 (Nat.pow_le_pow_right (by decide) h5), fun c hc => Nat.le_trans (q.2 c hc) h5⟩
theorem map_at {α β : Type} {l : List α} {f : α → β} {i : Nat} {y : β} (h : (l.map f)[i]? = some y) : ∃ x, l[i]? = some x ∧ f x = y := by
  rw [List.getElem?_map] at h
  cases e : l[i]? with
  | none =>
    rw [e] at h
    cases h
  | some x =>
    rw [e] at h
    exact ⟨x, rfl, Option.some.inj h⟩
theorem sz_small {n : Nat} (h : n ≤ 100000) : n < sizeLine := Nat.lt_of_le_of_lt h (by decide)
theorem Same.put {H0 H : Hp} {D : Addr} {o : HO} (h : H0 D = none) (s : Same H0 H) : Same H0 (upd H D o) := fun b x e => by
  rw [upd_ne (ne_of_none e h)]
  exact s b x e
/-- the list that is made at D is no part of what stood before -/
theorem Ext.put {H : Hp} {D : Addr} {xs ys : List V} (h : H D = some (.lst xs)) : Ext H (upd H D (.lst ys)) := fun b o e => by
  by_cases hb : b = D
  · subst hb
    rw [h] at e
    cases e
    exact .inr ⟨⟨xs, rfl⟩, ys, upd_same⟩
  · rw [upd_ne hb]
    exact .inl e
/-- content + (worth,) -/
theorem cat_ct {K : PySem.W.Frag} {H : Hp} {Q : VK} {x : V} {c : List Int} {j : Int} (hc : Dh K H x (ctD c)) (hl : c.length ≤ 1000) {r : Addr} (hr : H r = some (.tup [.int j]))
    (q : ∀ v H', Same H H' → Dh K H' v (ctD (c ++ [j])) → Q v H') : rCatA K x (.ref r) H Q := by
  obtain ⟨a, rfl, s⟩ := ct_inv hc
  refine ⟨a, r, _, _, rfl, rfl, s, SqT.of hr, ?_, fun e => ?_, fun _ e => (nomatch e), fun _ _ p hp => ?_⟩
  · rw [List.length_map]
    exact Nat.le_of_lt (sz_small (by show c.length + 1 ≤ 100000; omega))
  · have e0 : c = [] := List.map_eq_nil_iff.mp e
    subst e0
    exact q _ _ (Same.refl H) (dh_ct (c := [j]) (SqT.of hr))
  · refine q _ _ (same_new hp) (dh_ct ?_)
    rw [List.map_append]
    exact SqT.of upd_same
def spAll (K : PySem.W.Frag) : Sp := fun vs H Q _ => ∃ (a : Addr) (ss : List Int), vs = [.ref a] ∧ SqT K H a (ss.map V.int) ∧ SizesOk ss ∧ ∀ p xs H', H p = none → Same H H' → H' p = some (.lst xs) → DhAll K H' xs ((allC ss).map ctD) → Q (.ref p) H'
theorem ok_all_contents (T : Txt K mg) : FnOk P w K mg base CX0 1 T.f_all_contents T.d_all_contents ["sizes"] (spAll K) := by
  refine T.F_all_contents.ok sc_all_contents (fun vs H Q E h => ?_) (fun cdv A outer s H vs Q E hr h => ?_)
  · obtain ⟨_, _, rfl, _⟩ := h
    rfl
  · obtain ⟨a, ss, rfl, hs, ok, q⟩ := h
    obtain ⟨_, h5, hm⟩ := ok.facts
    refine ⟨_, (pss_cons (ps_set (i := 1) sc_all_contents.nd rfl (.inl rfl) (pe_lst (pa_cons (pe_tup pa_nil) pa_nil)))
      (pss_cons (ps_for PassesOwn.never rfl (pi_tupK K (pv 0)) (pg_name (i := 2) sc_all_contents.nd rfl (.inr rfl)) (pss_one (ps_setLc2 (i := 1) (own := [("content", 3), ("worth", 4)]) (vs1 := [4]) rfl sc_all_contents.nd rfl rfl (sw_true rfl rfl rfl (by decide +kernel)) (pi_listK K (pv 1)) (blkOk_by (N := N_all_contents) (sc := defScope s_all_contents) (by decide +kernel)) (by decide) (fun _ _ _ _ _ => (pg_name (i := 3) sc_all_contents.nd rfl (.inl rfl))) (fun _ _ _ _ _ => pts_nil) (fun _ _ _ _ _ => (pi_range1 (by rfl) T.z_range (pa_cons (pv 2) pa_nil))) (fun _ _ _ _ _ => (pg_name (i := 4) sc_all_contents.nd rfl (.inl rfl))) (fun _ _ _ _ _ => pts_nil) (fun _ _ _ _ _ => (pe_op (op_catK K) (pv 3) (pe_tup (pa_cons (pv 4) pa_nil)))))))
      (pss_one (ps_ret (pv 1))))), ?_⟩
    refine ⟨Nat.zero_le _, fun t0 n0 => ⟨by show 1 ≤ sizeLine; decide, fun f0 nf0 => ?_⟩⟩
    have s1 : Same H (upd H t0 (.tup [])) := same_new n0
    have s2 : Same H (upd (upd H t0 (.tup [])) f0 (.lst [.ref t0])) := s1.trans (same_new nf0)
    refine ⟨_, rfl, a, rfl, ⟨_, (Ext.of s2).sqT hs⟩, for_tup (xs := ss.map V.int) (fun i σ H' => ∃ (f : Addr) (xs : List V) (y2 y3 y4 : Option V), σ = [some (.ref a), some (.ref f), y2, y3, y4] ∧ Same H H' ∧ H f = none ∧ H' f = some (.lst xs) ∧ DhAll K H' xs ((allC (ss.take i)).map ctD))
      ⟨f0, [.ref t0], none, none, none, rfl, s2, s1.free nf0, upd_same, .cons (dh_ct (c := []) (SqT.of ?_)) .nil⟩ (fun i σ H' _ ⟨_, _, _, _, _, _, sm, _⟩ => (Ext.of sm).sqT hs) ?_ ?_⟩
    · rw [upd_ne (fun e => by rw [e, upd_same] at nf0; cases nf0), upd_same]
      rfl
    · rintro i x σ H' hx ⟨f, xs, y2, y3, y4, rfl, sm, nf, hf, hall⟩
      obtain ⟨z, rfl, hz⟩ := int_at hx
      obtain ⟨z2, z4⟩ := hm z (List.mem_of_getElem? hz)
      obtain ⟨n, rfl⟩ : ∃ n : Nat, z = (n : Int) := ⟨z.toNat, by omega⟩
      have hi : i < ss.length := (List.getElem?_eq_some_iff.mp hz).1
      have etake : ss.take (i + 1) = ss.take i ++ [(n : Int)] := by rw [List.take_add_one, hz]; rfl
      generalize hcs : allC (ss.take i) = cs at hall
      have hlen := hall.length
      rw [List.length_map] at hlen
      have hb := allC_len (fun s hs => (hm s hs).2) i
      rw [hcs] at hb
      have hcl : cs.length ≤ 1024 := Nat.le_trans hb.1 (Nat.pow_le_pow_right (by decide) (by omega : i ≤ 5))
      refine ⟨.ref f, rfl, f, rfl, ⟨xs, SqL.of hf⟩, fun D hD => lc2_lr (K := K) (xs := xs) (n := n) (fun i j H2 => ∃ acc, Same H' H2 ∧ H2 D = some (.lst acc) ∧ DhAll K H2 acc ((upTo cs n i j).map ctD)) (by omega) (fun _ => rfl) (fun _ _ => rfl) ?_ ?_ ?_ ?_ ?_ ?_⟩
      · exact ⟨[], same_new hD, upd_same, by rw [upTo_zero]; exact .nil⟩
      · rintro i2 j2 H2 ⟨acc, s3, _⟩
        exact s3.seq (SqL.of hf)
      · intro i2 x H2 _ _ R hR
        exact ⟨_, rfl, hR⟩
      · rintro i2 j x H2 hx2 hj ⟨acc, s3, hD2, hacc⟩
        obtain ⟨d, hd, hxd⟩ := hall.get hx2
        obtain ⟨c, hc, rfl⟩ := map_at hd
        have hcm : c.length ≤ 1000 := Nat.le_trans (hb.2 c (List.mem_of_getElem? hc)) (by omega)
        refine ⟨x, rfl, .int (j : Int), rfl, by show 1 ≤ sizeLine; decide, fun r hr2 => cat_ct (K := K) (c := c) (j := (j : Int)) (hxd.ext (.of (s3.trans (same_new hr2)))) hcm upd_same fun v H3 s4 hv => ?_⟩
        have s5 : Same H2 H3 := (same_new hr2).trans s4
        have hal : acc.length ≤ 100000 := by
          have e1 := hacc.length
          have e2 := upTo_len (cs := cs) (n := n) (i := i2) (j := j)
          have e3 : cs.length * n ≤ 1024 * 4 := Nat.mul_le_mul hcl (by omega)
          rw [List.length_map] at e1
          omega
        refine ⟨acc, s5 _ _ hD2, sz_small hal, acc ++ [v], fun b o e => ?_, upd_same, ?_⟩
        · rw [upd_ne (ne_of_none e hD)]
          exact s5 _ _ (s3 _ _ e)
        · rw [upTo_step hc, List.map_append]
          exact ((hacc.ext (.of s5)).snoc hv).ext (Ext.put (s5 _ _ hD2))
      · rintro i2 H2 hi2 ⟨acc, s3, hD2, hacc⟩
        obtain ⟨c, hc⟩ : ∃ c, cs[i2]? = some c := ⟨cs[i2], List.getElem?_eq_getElem (by omega)⟩
        exact ⟨acc, s3, hD2, by rw [← upTo_next hc]; exact hacc⟩
      · rintro H2 ⟨acc, s3, hD2, hacc⟩
        refine ⟨D, acc, _, _, _, rfl, sm.trans s3, sm.free hD, hD2, ?_⟩
        rw [hlen, upTo_end] at hacc
        rw [etake, allC_snoc, hcs]
        exact hacc
    · rintro σ H' ⟨f, xs, y2, y3, y4, rfl, sm, nf, hf, hall⟩
      rw [List.length_map, List.take_length] at hall
      exact ⟨.ref f, rfl, q f xs H' nf sm hf hall⟩

/-! ### patterns, contents as data -/
def InR (ps : List Int) (n : Int) : Prop := ∀ p ∈ ps, 0 ≤ p ∧ p < n
def Asc (n : Int) : Int → List Int → Prop
  | _, [] => True
  | l, c :: r => l < c ∧ c < n ∧ Asc n c r
theorem patGo_asc {n : Int} : ∀ {l : Int} {ds : List Dt}, patGo n l ds = true → ∃ ps, ds = ps.map Dt.int ∧ Asc n l ps
  | _, [], _ => ⟨[], rfl, True.intro⟩
  | l, .int c :: r, h => by
    have h' : (if l < c ∧ c < n then patGo n c r else false) = true := h
    by_cases hc : l < c ∧ c < n
    · rw [if_pos hc] at h'
      obtain ⟨ps, rfl, ha⟩ := patGo_asc h'
      exact ⟨c :: ps, rfl, hc.1, hc.2, ha⟩
    · rw [if_neg hc] at h'
      cases h'
  | _, .non :: _, h => by cases h
  | _, .bl _ :: _, h => by cases h
  | _, .str _ :: _, h => by cases h
  | _, .tup _ :: _, h => by cases h
  | _, .oth _ :: _, h => by cases h
theorem asc_patGo {n : Int} : ∀ {l : Int} {ps : List Int}, Asc n l ps → patGo n l (ps.map Dt.int) = true
  | _, [], _ => rfl
  | l, c :: r, ⟨h1, h2, h3⟩ => by
    show (if l < c ∧ c < n then patGo n c (r.map Dt.int) else false) = true
    rw [if_pos ⟨h1, h2⟩]
    exact asc_patGo h3
theorem Asc.mem {n : Int} : ∀ {l : Int} {ps : List Int}, Asc n l ps → ∀ p ∈ ps, l < p ∧ p < n
  | l, c :: r, ⟨h1, h2, h3⟩, p, hp => by
    rcases List.mem_cons.mp hp with e | e
    · rw [e]
      exact ⟨h1, h2⟩
    · have := h3.mem p e
      omega
theorem Asc.inR {n : Int} {ps : List Int} (h : Asc n (-1) ps) : InR ps n := fun p hp => by
  have := h.mem p hp
  omega
theorem Asc.lenA {n : Int} : ∀ {l : Int} {ps : List Int}, Asc n l ps → l < n → (ps.length : Int) + l < n
  | l, [], _, h => by simpa using h
  | l, c :: r, ⟨h1, h2, h3⟩, _ => by
    have := h3.lenA h2
    rw [List.length_cons]
    omega
theorem Asc.len {n : Int} {ps : List Int} (h : Asc n (-1) ps) (hn : 0 ≤ n) : (ps.length : Int) ≤ n := by
  have := h.lenA (by omega)
  omega
def Dt.ints : Dt → List Int
  | .tup ds => ds.map fun d => match d with
    | .int i => i
    | _ => 0
  | _ => []
theorem ints_ct (c : List Int) : (ctD c).ints = c := by
  show (c.map Dt.int).map _ = c
  rw [List.map_map]
  conv => rhs; rw [← List.map_id c]
  rfl
theorem isPat_ct {n : Int} {d : Dt} (h : d.isPat n = true) : ∃ ps, d = ctD ps ∧ Asc n (-1) ps := by
  cases d with
  | tup ds =>
    obtain ⟨ps, rfl, a⟩ := patGo_asc (show patGo n (-1) ds = true from h)
    exact ⟨ps, rfl, a⟩
  | _ => cases h
theorem dh_two {K : PySem.W.Frag} {H : Hp} {xs : List V} {d1 d2 : Dt} : DhAll K H xs [d1, d2] → ∃ v1 v2, xs = [v1, v2] ∧ Dh K H v1 d1 ∧ Dh K H v2 d2
  | .cons h1 (.cons h2 .nil) => ⟨_, _, rfl, h1, h2⟩
abbrev ctP (c : List Int) : PyData := .tuple (c.map PyData.int)
abbrev ctsP (cs : List (List Int)) : PyData := .list (cs.map ctP)
theorem lay_all {α : Type} {f : α → PyData} {n : Nat} (h : ∀ x, (f x).canLay0 = true ∧ (f x).depth ≤ n) : ∀ l : List α, PyData.canLayAll0 (l.map f) = true ∧ PyData.depthAll (l.map f) ≤ n
  | [] => ⟨rfl, Nat.zero_le _⟩
  | x :: r => by
    obtain ⟨h1, h2⟩ := lay_all h r
    obtain ⟨h3, h4⟩ := h x
    refine ⟨?_, ?_⟩
    · show ((f x).canLay0 && PyData.canLayAll0 (r.map f)) = true
      rw [h1, h3]
      rfl
    · show max (f x).depth (PyData.depthAll (r.map f)) ≤ n
      exact Nat.max_le.mpr ⟨h4, h2⟩
theorem lay_ct (c : List Int) : (ctP c).canLay0 = true ∧ (ctP c).depth ≤ 1 := by
  obtain ⟨h1, h2⟩ := lay_all (f := PyData.int) (n := 0) (fun _ => ⟨rfl, Nat.le_refl _⟩) c
  exact ⟨h1, Nat.succ_le_succ h2⟩
theorem shaped_of {d : PyData} {n : Nat} (h : d.canLay0 = true ∧ d.depth ≤ n) (hn : n ≤ 64) : SeqAt.shaped d = true := by
  unfold SeqAt.shaped
  rw [h.1, decide_eq_true (Nat.le_trans h.2 hn)]
  rfl
theorem shaped_ct (c : List Int) : SeqAt.shaped (ctP c) = true := shaped_of (lay_ct c) (by decide)
theorem lay_cts (cs : List (List Int)) : (ctsP cs).canLay0 = true ∧ (ctsP cs).depth ≤ 2 := by
  obtain ⟨h1, h2⟩ := lay_all (f := fun c => ctP c) (n := 1) lay_ct cs
  exact ⟨h1, Nat.succ_le_succ h2⟩
theorem shaped_cts (cs : List (List Int)) : SeqAt.shaped (ctsP cs) = true := shaped_of (lay_cts cs) (by decide)
theorem eqv_all {α : Type} [DecidableEq α] {f : α → PyData} (h : ∀ x y, PyData.eqv (f x) (f y) = decide (x = y)) : ∀ l m : List α, PyData.eqvAll (l.map f) (m.map f) = decide (l = m)
  | [], [] => by simp [PyData.eqvAll]
  | [], _ :: _ => by simp [PyData.eqvAll]
  | _ :: _, [] => by simp [PyData.eqvAll]
  | x :: l, y :: m => by
    rw [List.map_cons, List.map_cons, PyData.eqvAll, h, eqv_all h l m]
    by_cases e1 : x = y <;> by_cases e2 : l = m <;> simp [e1, e2]
theorem eqv_ct (c d : List Int) : PyData.eqv (ctP c) (ctP d) = decide (c = d) := by
  rw [PyData.eqv]
  exact eqv_all (f := PyData.int) (fun x y => by rw [PyData.eqv]; by_cases e : x = y <;> simp [e]) c d
theorem eqv_cts (c d : List (List Int)) : PyData.eqv (ctsP c) (ctsP d) = decide (c = d) := by
  rw [PyData.eqv]
  exact eqv_all (f := fun c => ctP c) eqv_ct c d
theorem dp_ints {K : PySem.W.Frag} {H : Hp} : ∀ c : List Int, DpAll K H (c.map V.int) (c.map PyData.int)
  | [] => .nil
  | i :: r => .cons (.int i) (dp_ints r)
theorem dp_ct {K : PySem.W.Frag} {H : Hp} {v : V} {c : List Int} (h : Dh K H v (ctD c)) : Dp K H v (ctP c) := by
  obtain ⟨a, rfl, s⟩ := ct_inv h
  exact .tup s (dp_ints c)
theorem dp_ctAll {K : PySem.W.Frag} {H : Hp} : ∀ {xs : List V} (cs : List (List Int)), DhAll K H xs (cs.map ctD) → DpAll K H xs (cs.map ctP)
  | _, [], .nil => .nil
  | _, _ :: r, .cons h t => .cons (dp_ct h) (dp_ctAll r t)
theorem dp_cts {K : PySem.W.Frag} {H : Hp} {a : Addr} {xs : List V} {cs : List (List Int)} (s : SqL K H a xs) (h : DhAll K H xs (cs.map ctD)) : Dp K H (.ref a) (ctsP cs) := .lst s (dp_ctAll cs h)
def IsCt (ss c : List Int) : Prop := (ctD c).isCont ss = true
theorem IsCt.len {ss c : List Int} (h : IsCt ss c) : c.length = ss.length := by
  have h' : ((c.map Dt.int).length == ss.length && contGo ss (c.map Dt.int)) = true := h
  rw [Bool.and_eq_true] at h'
  simpa using h'.1
theorem Asc.isPat {n : Int} {ps : List Int} (h : Asc n (-1) ps) : (ctD ps).isPat n = true := asc_patGo h

end
end Fm
namespace Fm
open PySem PySem.Spec PyProof.Rows L2
section
variable {P : Program} {w : World} {K : PySem.W.Frag} {mg : Str → Option Value} {base : Heap}

/-! ### the drawing hand -/
abbrev hv (c : Addr) (i big acc cnt : Int) : List V := [.ref c, .int i, .int big, .int acc, .int cnt]
/-- at h a hand: its cells at c -/
structure HandOk (H : Hp) (h c : Addr) : Prop where
  ex : ∃ (i big acc cnt : Int) (cells : List Int), H h = some (.lst (hv c i big acc cnt)) ∧ H c = some (.lst (cells.map V.int)) ∧ 0 ≤ i
/-- all but the hand is as it was -/
structure Keep (h c : Addr) (H H' : Hp) : Prop where
  rest : ∀ b o, b ≠ h → H b = some o → H' b = some o
  hand : HandOk H' h c
theorem HandOk.same {H H' : Hp} {h c : Addr} (x : HandOk H h c) (s : Same H H') : HandOk H' h c := by
  obtain ⟨i, big, acc, cnt, cells, e1, e2, e3⟩ := x.ex
  exact ⟨i, big, acc, cnt, cells, s _ _ e1, s _ _ e2, e3⟩
theorem Keep.of {H H' : Hp} {h c : Addr} (x : HandOk H h c) (s : Same H H') : Keep h c H H' := ⟨fun b o _ e => s b o e, x.same s⟩
theorem Keep.trans {H H1 H2 : Hp} {h c : Addr} (a : Keep h c H H1) (b : Keep h c H1 H2) : Keep h c H H2 := ⟨fun z o n e => b.rest z o n (a.rest z o n e), b.hand⟩
theorem Keep.same {H H1 H2 : Hp} {h c : Addr} (a : Keep h c H H1) (s : Same H1 H2) : Keep h c H H2 := a.trans (.of a.hand s)
theorem Keep.ext {H H' : Hp} {h c : Addr} (x : HandOk H h c) (k : Keep h c H H') : Ext H H' := fun b o e => by
  by_cases hb : b = h
  · subst hb
    obtain ⟨i, big, acc, cnt, cells, e1, _⟩ := x.ex
    obtain ⟨i', big', acc', cnt', cells', e1', _⟩ := k.hand.ex
    rw [e1] at e
    cases e
    exact .inr ⟨⟨_, rfl⟩, _, e1'⟩
  · exact .inl (k.rest b o hb e)
theorem Keep.free {H H' : Hp} {h c p : Addr} (x : HandOk H h c) (k : Keep h c H H') (n : H' p = none) : H p = none := by
  cases e : H p with
  | none => rfl
  | some o =>
    rcases Keep.ext x k p o e with q | ⟨_, ys, q⟩
    · rw [n] at q
      cases q
    · rw [n] at q
      cases q
theorem HandOk.ne {H : Hp} {h c p : Addr} (x : HandOk H h c) (n : H p = none) : p ≠ h ∧ p ≠ c := by
  obtain ⟨_, _, _, _, _, e1, e2, _⟩ := x.ex
  exact ⟨(ne_of_none e1 n).symm, (ne_of_none e2 n).symm⟩
/-- a new object that the hand has nothing to do with is changed -/
theorem Keep.put {H H' : Hp} {h c D : Addr} {o : HO} (x : HandOk H h c) (k : Keep h c H H') (n : H D = none) : Keep h c H (upd H' D o) := by
  obtain ⟨n1, n2⟩ := x.ne n
  refine ⟨fun b u nb e => ?_, ?_⟩
  · rw [upd_ne (ne_of_none e n)]
    exact k.rest b u nb e
  · obtain ⟨i, big, acc, cnt, cells, e1, e2, e3⟩ := k.hand.ex
    refine ⟨i, big, acc, cnt, cells, ?_, ?_, e3⟩
    · rw [upd_ne n1.symm]
      exact e1
    · rw [upd_ne n2.symm]
      exact e2
def spDraw (_K : PySem.W.Frag) : Sp := fun vs H Q _ => ∃ (h c : Addr) (many : Int), vs = [.ref h, .int many] ∧ HandOk H h c ∧ 0 < many ∧ many < 1073741824 ∧ ∀ d H', 0 ≤ d → d < many → Keep h c H H' → Q (.int d) H'
theorem upd_keep {H H' : Hp} {h : Addr} {o : HO} (k : ∀ b u, b ≠ h → H b = some u → H' b = some u) : ∀ b u, b ≠ h → H b = some u → (upd H' h o) b = some u := fun b u n e => by
  rw [upd_ne n]
  exact k b u n e
theorem ok_law_draw (T : Txt K mg) : FnOk P w K mg base CX0 1 T.f_law_draw T.d_law_draw ["hand", "many"] (spDraw K) := by
  refine T.F_law_draw.ok sc_law_draw (fun vs H Q E h => ?_) (fun cdv A outer s H vs Q E hr h => ?_)
  · obtain ⟨_, _, _, rfl, _⟩ := h
    rfl
  · obtain ⟨h, c, many, rfl, hx, m0, m1, q⟩ := h
    obtain ⟨i, big, acc, cnt, cells, hh, hc, hi⟩ := hx.ex
    have nch : c ≠ h := fun e => by
      rw [e, hh] at hc
      have z := HO.lst.inj (Option.some.inj hc)
      cases cells with
      | nil => cases z
      | cons y r =>
        have z' := (List.cons.inj z).1
        cases z'
    refine ⟨_, (C8.pss_cut (ps_if (PW.pt (pw_and (pt_cmpR op_eq (pe_ix (ix_listK K) (pv 0) pe_int (fun _ _ => rfl)) pe_int (nomark _)) (pw_and1 (pt_cmpR op_lt (pe_ix (ix_listK K) (pv 0) pe_int (fun _ _ => rfl)) (pe_callB (call_lenK K) (by rfl) T.z_len PySem.boot_len (pa_cons (pe_ix (ix_listK K) (pv 0) pe_int (fun _ _ => rfl)) pa_nil)) (nomark _))))) (pss_cons (ps_set (i := 3) sc_law_draw.nd rfl (.inl rfl) (pe_ix (ix_listK K) (pe_ix (ix_listK K) (pv 0) pe_int (fun _ _ => rfl)) (pe_ix (ix_listK K) (pv 0) pe_int (fun _ _ => rfl)) (fun _ _ => rfl)))
      (pss_cons (ps_asg (pe_op op_add (pe_ix (ix_listK K) (pv 0) pe_int (fun _ _ => rfl)) pe_int) (pg_sub (pv 0) pe_int set_list))
      (pss_cons (ps_asg (pe_op op_mod (pe_callTy call_int1 (by rfl) T.z_int (by decide +kernel) (pa_cons (pe_op op_add (pe_op op_add (pe_op op_mul (pe_ix (ix_listK K) (pv 0) pe_int (fun _ _ => rfl)) pe_int) (pv 3)) pe_int) pa_nil)) pe_int) (pg_sub (pv 0) pe_int set_list))
      (pss_one (ps_if (pt_cmpR op_ge (pv 3) (pe_op op_pow pe_int pe_int) (nomark _)) (pss_one (ps_asg (pv 3) (pg_sub (pv 0) pe_int set_list))) pss_nil))))) pss_nil)
      (pss_cons (ps_if (pt_cmpR op_gt (pe_ix (ix_listK K) (pv 0) pe_int (fun _ _ => rfl)) pe_int (nomark _)) (pss_cons (ps_set (i := 4) sc_law_draw.nd rfl (.inl rfl) (pe_op op_mod (pe_callTy call_int1 (by rfl) T.z_int (by decide +kernel) (pa_cons (pe_ix (ix_listK K) (pv 0) pe_int (fun _ _ => rfl)) pa_nil)) (pv 1)))
      (pss_cons (ps_asg (pe_op op_fdiv (pe_ix (ix_listK K) (pv 0) pe_int (fun _ _ => rfl)) (pv 1)) (pg_sub (pv 0) pe_int set_list))
      (pss_one (ps_ret (pv 4))))) pss_nil)
      (pss_cons (ps_asg (pe_op op_add (pe_ix (ix_listK K) (pv 0) pe_int (fun _ _ => rfl)) pe_int) (pg_sub (pv 0) pe_int set_list))
      (pss_cons (ps_set (i := 2) sc_law_draw.nd rfl (.inl rfl) (pe_op op_mod (pe_callTy call_int1 (by rfl) T.z_int (by decide +kernel) (pa_cons (pe_op op_mul (pe_callTy call_int1 (by rfl) T.z_int (by decide +kernel) (pa_cons (pe_op op_add (pe_ix (ix_listK K) (pv 0) pe_int (fun _ _ => rfl)) (pe_op op_mul pe_int (pe_ix (ix_listK K) (pv 0) pe_int (fun _ _ => rfl)))) pa_nil)) pe_int) pa_nil)) pe_int))
      (pss_cons (ps_set (i := 2) sc_law_draw.nd rfl (.inl rfl) (pe_op op_mod (pe_callTy call_int1 (by rfl) T.z_int (by decide +kernel) (pa_cons (pe_op op_mul (pv 2) (pe_op op_add (pe_op op_fdiv (pv 2) pe_int) pe_int)) pa_nil)) pe_int))
      (pss_cons (ps_set (i := 2) sc_law_draw.nd rfl (.inl rfl) (pe_op op_mod (pe_callTy call_int1 (by rfl) T.z_int (by decide +kernel) (pa_cons (pe_op op_mul (pv 2) (pe_op op_add (pe_op op_fdiv (pv 2) pe_int) pe_int)) pa_nil)) pe_int))
      (pss_one (ps_ret (pe_op op_mod (pe_callTy call_int1 (by rfl) T.z_int (by decide +kernel) (pa_cons (pe_op op_fdiv (pv 2) pe_int) pa_nil)) (pv 1)))))))))), ?_⟩
    refine ⟨fun σ H' => ∃ (i big acc : Int) (y2 y3 y4 : Option V), σ = [some (.ref h), some (.int many), y2, y3, y4] ∧ (∀ b o, b ≠ h → H b = some o → H' b = some o) ∧ 0 ≤ i ∧ H' h = some (.lst (hv c i big acc cnt)), ?_, ?_⟩
    · have skip : ∃ (i big acc : Int) (y2 y3 y4 : Option V), ([some (.ref h), some (.int many), none, none, none] : L2.St) = [some (.ref h), some (.int many), y2, y3, y4] ∧ (∀ b o, b ≠ h → H b = some o → H b = some o) ∧ 0 ≤ i ∧ H h = some (.lst (hv c i big acc cnt)) := ⟨i, big, acc, none, none, none, rfl, fun _ _ _ e => e, hi, hh⟩
      refine ⟨_, rfl, h, _, 2, _, rfl, rfl, SqL.of hh, atI_nat (j := 2) rfl, rfl, _, rfl, ?_⟩
      refine ite2 (fun _ => ?_) (fun _ => ?_)
      · refine ⟨_, rfl, h, _, 1, _, rfl, rfl, SqL.of hh, atI_nat (j := 1) rfl, _, rfl, h, _, 0, _, rfl, rfl, SqL.of hh, atI_nat (j := 0) rfl, c, _, rfl, .inl (SqL.of hc), _, _, rfl, rfl, _, rfl, ?_⟩
        refine ite2 (fun hlt => ?_) (fun _ => skip)
        have hlt' : i < cells.length := by
          have := of_decide_eq_true hlt
          rw [List.length_map] at this
          exact this
        have hcell : atI (cells.map V.int) i = some (.int (cells[i.toNat]'(by omega))) := by
          refine at_of (j := i.toNat) (by omega) ?_
          rw [List.getElem?_map, List.getElem?_eq_getElem (by omega)]
          rfl
        generalize cells[i.toNat]'(by omega) = cell at hcell
        refine ⟨_, rfl, h, _, 0, _, rfl, rfl, SqL.of hh, atI_nat (j := 0) rfl, _, rfl, h, _, 1, _, rfl, rfl, SqL.of hh, atI_nat (j := 1) rfl, c, _, _, _, rfl, rfl, SqL.of hc, hcell, ?_⟩
        -- hand[1] = hand[1] + 1
        refine ⟨_, rfl, h, _, 1, _, rfl, rfl, SqL.of hh, atI_nat (j := 1) rfl, _, _, rfl, rfl, _, rfl, h, _, 1, 1, rfl, rfl, hh, rfl, ?_⟩
        -- hand[3] = ..
        refine ⟨_, rfl, h, _, 3, _, rfl, rfl, SqL.of upd_same, atI_nat (j := 3) rfl, _, _, rfl, rfl, .inr ⟨by decide, by decide⟩, _, rfl, _, _, rfl, rfl, _, _, rfl, rfl, .inl ⟨_, rfl, _, _, rfl, rfl, show (0 : Int) < 2147483629 by decide, _, rfl, h, _, 3, 3, rfl, rfl, upd_same, rfl, ?_⟩⟩
        refine ⟨_, rfl, _, _, rfl, rfl, ⟨by decide, by decide, by decide⟩, _, _, rfl, rfl, _, rfl, ?_⟩
        have kp : ∀ b u, b ≠ h → H b = some u → (upd (upd H h (.lst ((hv c i big acc cnt).set 1 (V.int (i + 1))))) h (.lst (((hv c i big acc cnt).set 1 (V.int (i + 1))).set 3 (V.int ((acc * 69621 + cell + 11) % 2147483629))))) b = some u := upd_keep (upd_keep fun _ _ _ e => e)
        refine ite2 (fun _ => ?_) (fun _ => ?_)
        · refine ⟨_, rfl, _, rfl, h, _, 2, 2, rfl, rfl, upd_same, rfl, ?_⟩
          exact ⟨i + 1, cell, _, none, some (.int cell), none, rfl, upd_keep kp, by omega, upd_same⟩
        · exact ⟨i + 1, big, _, none, some (.int cell), none, rfl, kp, by omega, upd_same⟩
      · exact skip
    · rintro σ H' ⟨i, big, acc, y2, y3, y4, rfl, kp, hi, hh⟩
      have hc' : H' c = some (.lst (cells.map V.int)) := kp c _ nch hc
      refine ⟨_, rfl, h, _, 2, _, rfl, rfl, SqL.of hh, atI_nat (j := 2) rfl, _, _, rfl, rfl, _, rfl, ?_⟩
      refine ite2 (fun _ => ?_) (fun _ => ?_)
      · -- digit = int(hand[2]) % many; hand[2] = hand[2] // many
        refine ⟨_, rfl, h, _, 2, _, rfl, rfl, SqL.of hh, atI_nat (j := 2) rfl, .inl ⟨_, rfl, _, rfl, _, _, rfl, rfl, m0, ?_⟩⟩
        refine ⟨_, rfl, h, _, 2, _, rfl, rfl, SqL.of hh, atI_nat (j := 2) rfl, _, rfl, _, _, rfl, rfl, ⟨m0, m1⟩, _, rfl, h, _, 2, 2, rfl, rfl, hh, rfl, ?_⟩
        refine ⟨_, rfl, ?_⟩
        refine q (big % many) _ (Int.emod_nonneg _ (by omega)) (Int.emod_lt_of_pos _ m0) ⟨upd_keep kp, ⟨i, big / many, acc, cnt, cells, upd_same, ?_, hi⟩⟩
        rw [upd_ne nch]
        exact hc'
      · -- hand[4] = hand[4] + 1
        refine ⟨_, rfl, h, _, 4, _, rfl, rfl, SqL.of hh, atI_nat (j := 4) rfl, _, _, rfl, rfl, _, rfl, h, _, 4, 4, rfl, rfl, hh, rfl, ?_⟩
        generalize hG : upd H' h (.lst ((hv c i big acc cnt).set 4 (V.int (cnt + 1)))) = G
        have eh : G h = some (.lst (hv c i big acc (cnt + 1))) := by
          rw [← hG]
          exact upd_same
        have kG : Keep h c H G := by
          rw [← hG]
          refine ⟨upd_keep kp, ⟨i, big, acc, cnt + 1, cells, upd_same, ?_, hi⟩⟩
          rw [upd_ne nch]
          exact hc'
        refine ⟨_, rfl, h, _, 3, _, rfl, rfl, SqL.of eh, atI_nat (j := 3) rfl, _, rfl, h, _, 4, _, rfl, rfl, SqL.of eh, atI_nat (j := 4) rfl, _, _, rfl, rfl, .inl ⟨by decide, by decide⟩, _, _, rfl, rfl, .inl ⟨_, rfl, _, _, rfl, rfl, .inr ⟨by decide, by decide⟩, .inl ⟨_, rfl, _, _, rfl, rfl, show (0 : Int) < 2147483647 by decide, ?_⟩⟩⟩
        have b1 : ∀ x : Int, 0 ≤ x % 2147483647 ∧ x % 2147483647 < 2147483647 := fun x => ⟨Int.emod_nonneg _ (by decide), Int.emod_lt_of_pos _ (by decide)⟩
        generalize hn : ((acc + 7919 * (cnt + 1)) * 48271) % 2147483647 = n1
        have q1 := b1 ((acc + 7919 * (cnt + 1)) * 48271)
        rw [hn] at q1
        refine ⟨_, rfl, _, rfl, _, _, rfl, rfl, ⟨by decide, by decide⟩, _, _, rfl, rfl, _, _, rfl, rfl, .inl ⟨by omega, by omega⟩, .inl ⟨_, rfl, _, _, rfl, rfl, show (0 : Int) < 2147483647 by decide, ?_⟩⟩
        generalize hn2 : (n1 * (n1 / 1009 + 69621)) % 2147483647 = n2
        have q2 := b1 (n1 * (n1 / 1009 + 69621))
        rw [hn2] at q2
        refine ⟨_, rfl, _, rfl, _, _, rfl, rfl, ⟨by decide, by decide⟩, _, _, rfl, rfl, _, _, rfl, rfl, .inl ⟨by omega, by omega⟩, .inl ⟨_, rfl, _, _, rfl, rfl, show (0 : Int) < 2147483399 by decide, ?_⟩⟩
        refine ⟨_, rfl, _, _, rfl, rfl, ⟨by decide, by decide⟩, .inl ⟨_, rfl, _, rfl, _, _, rfl, rfl, m0, ?_⟩⟩
        exact q _ _ (Int.emod_nonneg _ (by omega)) (Int.emod_lt_of_pos _ m0) kG

theorem cut_map (ns : List Int) (lo hi : Option Int) : ∃ ms : List Int, cutV (ns.map V.int) lo hi = ms.map V.int ∧ ms.length ≤ ns.length := by
  refine ⟨(ns.drop (HT.sIx (ns.map V.int).length 0 lo)).take (HT.sIx (ns.map V.int).length (ns.map V.int).length hi - HT.sIx (ns.map V.int).length 0 lo), ?_, ?_⟩
  · unfold cutV
    rw [List.map_take, List.map_drop]
  · rw [List.length_take, List.length_drop]
    omega
def spHand (K : PySem.W.Frag) : Sp := fun vs H Q _ => ∃ (a : Addr) (ns : List Int), vs = [.ref a] ∧ SqL K H a (ns.map V.int) ∧ ns.length ≤ 1000 ∧ ∀ h c H', H h = none → Same H H' → HandOk H' h c → Q (.ref h) H'
theorem ok_law_hand (T : Txt K mg) : FnOk P w K mg base CX0 1 T.f_law_hand T.d_law_hand ["script"] (spHand K) := by
  refine T.F_law_hand.ok sc_law_hand (fun vs H Q E h => ?_) (fun cdv A outer s H vs Q E hr h => ?_)
  · obtain ⟨_, _, rfl, _⟩ := h
    rfl
  · obtain ⟨a, ns, rfl, ha, hl, q⟩ := h
    obtain ⟨ms, em, hm⟩ := cut_map ns none (some 63)
    refine ⟨_, (pss_cons (ps_setLc (i := 1) (own := [("cell", 2)]) rfl sc_law_hand.nd rfl rfl (sw_true rfl rfl rfl (by decide +kernel)) (pi_listK K (pe_slice (sl_listK K) (pv 0) po_none (po_some pe_int))) (blkOk_by (N := N_law_hand) (sc := defScope s_law_hand) (by decide +kernel)) (fun _ _ _ _ _ => (pg_name (i := 2) sc_law_hand.nd rfl (.inl rfl))) (fun _ _ _ _ _ => pts_nil) (fun _ _ _ _ _ => (pe_callB call_abs (by rfl) T.z_abs (by decide +kernel) (pa_cons (pe_callTy call_int1 (by rfl) T.z_int (by decide +kernel) (pa_cons (pv 2) pa_nil)) pa_nil))))
      (pss_one (ps_ret (pe_lst (pa_cons (pv 1) (pa_cons pe_int (pa_cons pe_int (pa_cons (pe_op op_add pe_int (pe_callB (call_lenK K) (by rfl) T.z_len PySem.boot_len (pa_cons (pv 1) pa_nil))) (pa_cons pe_int pa_nil))))))))), ?_⟩
    refine ⟨_, rfl, 63, rfl, a, _, rfl, ha, fun p np => ⟨p, rfl, ⟨_, SqL.of upd_same⟩, fun D hD => lc_list (K := K) (xs := cutV (ns.map V.int) none (some 63)) (fun i H' => ∃ cs : List Int, cs.length = i ∧ Same (upd H p (.lst (cutV (ns.map V.int) none (some 63)))) H' ∧ H' D = some (.lst (cs.map V.int)))
      ⟨[], rfl, same_new hD, upd_same⟩ (fun i H' _ ⟨_, _, sm, _⟩ => sm.seq (SqL.of upd_same)) ?_ ?_⟩⟩
    · rintro i x H' hx ⟨cs, hcs, sm, hDl⟩
      rw [em] at hx
      obtain ⟨z, rfl, hz⟩ := int_at hx
      have hi := (List.getElem?_eq_some_iff.mp hz).1
      refine ⟨rfl, ?_⟩
      dsimp only [tYes]
      rw [if_pos rfl]
      refine ⟨_, rfl, .inl ⟨_, rfl, _, rfl, _, hDl, ?_, cs ++ [if z < 0 then -z else z], ?_, fun b o e => ?_, ?_⟩⟩
      · rw [List.length_map]
        exact sz_small (by omega)
      · rw [List.length_append, hcs]
        rfl
      · rw [upd_ne (ne_of_none e hD)]
        exact sm _ _ e
      · rw [upd_same, List.map_append]
        rfl
    · rintro H' ⟨cs, hcs, sm, hDl⟩
      have s1 : Same H H' := (same_new np).trans sm
      refine ⟨_, rfl, _, rfl, D, _, rfl, .inl (SqL.of hDl), _, _, rfl, rfl, by show 5 ≤ sizeLine; decide, fun h nh => ?_⟩
      have s2 : Same H' (upd H' h (.lst (hv D 0 0 (1 + ((cs.map V.int).length : Int)) 0))) := same_new nh
      exact q h D _ (s1.free nh) (s1.trans s2) ⟨0, 0, _, 0, cs, upd_same, s2 _ _ hDl, Int.le_refl 0⟩
def spSome (_K : PySem.W.Frag) : Sp := fun vs H Q _ => ∃ (h c p : Addr) (xs : List V), vs = [.ref h, .ref p] ∧ HandOk H h c ∧ p ≠ h ∧ H p = some (.lst xs) ∧ 0 < xs.length ∧ xs.length < 1000000 ∧ ∀ x H', x ∈ xs → Keep h c H H' → Q x H'
theorem ok_law_some (T : Txt K mg) : FnOk P w K mg base CX0 2 T.f_law_some T.d_law_some ["hand", "things"] (spSome K) := by
  refine T.F_law_some.ok sc_law_some (fun vs H Q E h => ?_) (fun cdv A outer s H vs Q E hr h => ?_)
  · obtain ⟨_, _, _, _, rfl, _⟩ := h
    rfl
  · obtain ⟨h, c, p, xs, rfl, hx, ne, hp, l0, l1, q⟩ := h
    refine ⟨_, (pss_one (ps_ret (pe_ix (ix_listK K) (pv 1) (pe_call (ok_law_draw T) hr (by rfl) T.g_law_draw T.F_law_draw.kp T.b_law_draw .nil pass0 (pa_cons (pv 0) (pa_cons (pe_callB (call_lenK K) (by rfl) T.z_len PySem.boot_len (pa_cons (pv 1) pa_nil)) pa_nil))) (fun _ _ => rfl)))), ?_⟩
    refine ⟨_, rfl, _, rfl, _, rfl, p, _, rfl, .inl (SqL.of hp), h, c, _, rfl, hx, by omega, by omega, fun d H' d0 d1 k => ?_⟩
    have hd : d.toNat < xs.length := by omega
    exact ⟨p, xs, d, xs[d.toNat], rfl, rfl, SqL.of (k.rest _ _ ne hp), at_of (j := d.toNat) (by omega) (List.getElem?_eq_getElem hd), q _ H' (List.getElem_mem hd) k⟩
def taInts : List Int → TA
  | [] => tNil
  | i :: r => tCons (tC (.int i)) (taInts r)
def taTups : List (List Int) → TA
  | [] => tNil
  | c :: r => tCons (tTup (taInts c)) (taTups r)
theorem taInts_ok {σ : L2.St} {H : Hp} : ∀ (c : List Int) (Q : List V → Hp → Prop), Q (c.map V.int) H → taInts c σ H Q
  | [], Q, q => q
  | i :: r, Q, q => taInts_ok r (fun vs H1 => Q (V.int i :: vs) H1) q
theorem taTups_ok {σ : L2.St} : ∀ (css : List (List Int)) {H : Hp} (Q : List V → Hp → Prop), (∀ c ∈ css, c.length ≤ 1000) → (∀ vs H', Same H H' → DhAll K H' vs (css.map ctD) → Q vs H') → taTups css σ H Q
  | [], H, Q, _, q => q [] H (Same.refl H) .nil
  | c :: r, H, Q, hl, q => by
    refine taInts_ok c _ ⟨?_, fun p np => taTups_ok r (fun vs H1 => Q (V.ref p :: vs) H1) (fun d hd => hl d (List.mem_cons_of_mem _ hd)) fun vs H' s hv => ?_⟩
    · rw [List.length_map]
      exact Nat.le_of_lt (sz_small (by have := hl c (List.mem_cons_self ..); omega))
    · have s2 := (same_new (o := .tup (c.map V.int)) np).trans s
      exact q _ H' s2 (.cons (dh_ct (SqT.of (s _ _ upd_same))) hv)
theorem DhAll.mem {H : Hp} {vs : List V} {ds : List Dt} (h : DhAll K H vs ds) {v : V} (hv : v ∈ vs) : ∃ d, d ∈ ds ∧ Dh K H v d := by
  obtain ⟨i, hi, rfl⟩ := List.mem_iff_getElem.mp hv
  obtain ⟨d, e, hd⟩ := h.get (List.getElem?_eq_getElem hi)
  exact ⟨d, List.mem_of_getElem? e, hd⟩
theorem some_tups {H : Hp} {σ : L2.St} {Q : VK} {h ca : Addr} {css : List (List Int)} (hx : HandOk H h ca) (hl : ∀ c ∈ css, c.length ≤ 1000) (h0 : 0 < css.length) (h1 : css.length ≤ 1000) (q : ∀ x c H', c ∈ css → Keep h ca H H' → Dh K H' x (ctD c) → Q x H') :
    tLst (taTups css) σ H fun x H1 => spSome K [.ref h, x] H1 Q E0 := by
  refine taTups_ok (K := K) css _ hl fun vs H1 s1 hv => ?_
  have e := hv.length
  rw [List.length_map] at e
  refine ⟨Nat.le_of_lt (sz_small (by omega)), fun p np => ?_⟩
  have s2 : Same H (upd H1 p (.lst vs)) := s1.trans (same_new np)
  have nph : p ≠ h := ((hx.same s1).ne np).1
  refine ⟨h, ca, p, vs, rfl, hx.same s2, nph, upd_same, by omega, by omega, fun x H' hm k => ?_⟩
  obtain ⟨d, hd, hxd⟩ := hv.mem hm
  obtain ⟨c, hc, rfl⟩ := List.mem_map.mp hd
  exact q x c H' hc ((Keep.of hx s2).trans k) ((hxd.ext (Ext.new np)).ext (Keep.ext (hx.same s2) k))
def spSizes (K : PySem.W.Frag) : Sp := fun vs H Q _ => ∃ h c : Addr, vs = [.ref h] ∧ HandOk H h c ∧ ∀ v ss H', Keep h c H H' → SizesOk ss → Dh K H' v (ctD ss) → Q v H'
abbrev szA : List (List Int) := [[2, 2, 2, 2, 2], [4, 4], [3, 3, 2], [2, 4, 2, 2], [4, 4, 4]]
abbrev szB : List (List Int) := [[2, 2, 2], [2, 3, 2], [3, 2, 2], [2, 2], [3, 2], [2, 2, 3], [4], [2, 2, 2, 2], [2]]
theorem szA_ok : ∀ c ∈ szA, SizesOk c := fun c hc => by
  have q : szA.all (fun c => (Dt.tup (c.map Dt.int)).isSizes) = true := by decide
  exact List.all_eq_true.mp q c hc
theorem szB_ok : ∀ c ∈ szB, SizesOk c := fun c hc => by
  have q : szB.all (fun c => (Dt.tup (c.map Dt.int)).isSizes) = true := by decide
  exact List.all_eq_true.mp q c hc
theorem ok_law_sizes (T : Txt K mg) : FnOk P w K mg base CX0 3 T.f_law_sizes T.d_law_sizes ["hand"] (spSizes K) := by
  refine T.F_law_sizes.ok sc_law_sizes (fun vs H Q E h => ?_) (fun cdv A outer s H vs Q E hr h => ?_)
  · obtain ⟨_, _, rfl, _⟩ := h
    rfl
  · obtain ⟨h, ca, rfl, hx, q⟩ := h
    refine ⟨_, (pss_cons (ps_if (pt_cmpR op_eq (pe_call (ok_law_draw T) (hr.mono (by decide)) (by rfl) T.g_law_draw T.F_law_draw.kp T.b_law_draw .nil pass0 (pa_cons (pv 0) (pa_cons pe_int pa_nil))) pe_int (nomark _)) (pss_one (ps_ret (pe_call (ok_law_some T) hr (by rfl) T.g_law_some T.F_law_some.kp T.b_law_some .nil pass0 (pa_cons (pv 0) (pa_cons (pe_lst (pa_cons (pe_tup (pa_cons pe_int (pa_cons pe_int (pa_cons pe_int (pa_cons pe_int (pa_cons pe_int pa_nil)))))) (pa_cons (pe_tup (pa_cons pe_int (pa_cons pe_int pa_nil))) (pa_cons (pe_tup (pa_cons pe_int (pa_cons pe_int (pa_cons pe_int pa_nil)))) (pa_cons (pe_tup (pa_cons pe_int (pa_cons pe_int (pa_cons pe_int (pa_cons pe_int pa_nil))))) (pa_cons (pe_tup (pa_cons pe_int (pa_cons pe_int (pa_cons pe_int pa_nil)))) pa_nil)))))) pa_nil))))) pss_nil)
      (pss_one (ps_ret (pe_call (ok_law_some T) hr (by rfl) T.g_law_some T.F_law_some.kp T.b_law_some .nil pass0 (pa_cons (pv 0) (pa_cons (pe_lst (pa_cons (pe_tup (pa_cons pe_int (pa_cons pe_int (pa_cons pe_int pa_nil)))) (pa_cons (pe_tup (pa_cons pe_int (pa_cons pe_int (pa_cons pe_int pa_nil)))) (pa_cons (pe_tup (pa_cons pe_int (pa_cons pe_int (pa_cons pe_int pa_nil)))) (pa_cons (pe_tup (pa_cons pe_int (pa_cons pe_int pa_nil))) (pa_cons (pe_tup (pa_cons pe_int (pa_cons pe_int pa_nil))) (pa_cons (pe_tup (pa_cons pe_int (pa_cons pe_int (pa_cons pe_int pa_nil)))) (pa_cons (pe_tup (pa_cons pe_int pa_nil)) (pa_cons (pe_tup (pa_cons pe_int (pa_cons pe_int (pa_cons pe_int (pa_cons pe_int pa_nil))))) (pa_cons (pe_tup (pa_cons pe_int pa_nil)) pa_nil)))))))))) pa_nil)))))), ?_⟩
    refine ⟨_, rfl, h, ca, 12, rfl, hx, by decide, by decide, fun d H1 _ _ k => ⟨rfl, _, rfl, ?_⟩⟩
    have go : ∀ css : List (List Int), (∀ c ∈ css, SizesOk c) → css.length ≤ 1000 → 0 < css.length → tLst (taTups css) [some (.ref h)] H1 fun x H2 => spSome K [.ref h, x] H2 Q E0 := fun css ok l1 l0 =>
      some_tups (K := K) k.hand (fun c hc => by have := (ok c hc).facts; omega) l0 l1 fun x c H2 hc k2 hd => q x c H2 (k.trans k2) (ok c hc) hd
    refine ite2 (fun _ => ?_) (fun _ => ?_)
    · exact ⟨_, rfl, go szA szA_ok (by decide) (by decide)⟩
    · exact ⟨_, rfl, go szB szB_ok (by decide) (by decide)⟩

theorem ext_take {n j : Nat} (c : List Int) (h : j < n) : (ext n c).take (j + 1) = (ext n c).take j ++ [c ++ [(j : Int)]] := by
  have e : (ext n c)[j]? = some (c ++ [(j : Int)]) := by
    unfold ext
    rw [List.getElem?_map, List.getElem?_range h]
    rfl
  rw [List.take_add_one, e]
  rfl
theorem lc_ext {H : Hp} {σ : L2.St} {Q : VK} {x : V} {c : List Int} {n : Nat} {kx kc : Nat} {ta : TA} (hta : ∀ R : List V → Hp → Prop, R [.int n] H → ta σ H R) (hx : Dh K H x (ctD c)) (hl : c.length ≤ 1000) (hn : n ≤ 1000)
    (hw : ∀ y, wipe ((wipe σ [kx]).set kx (some y)) [kx] = wipe σ [kx]) (hc : ∀ y : V, ((wipe σ [kx]).set kx (some y))[kc]? = some (some x)) (hk : ∀ y : V, ((wipe σ [kx]).set kx (some y))[kx]? = some (some y))
    (q : ∀ D xs H', H D = none → Same H H' → H' D = some (.lst xs) → DhAll K H' xs ((ext n c).map ctD) → Q (.ref D) H') :
    tLc (iRng1 ta) (gName kx) tYes (tOp (rCatA K) (tVar kc) (tTup (tCons (tVar kx) tNil))) [kx] σ H Q := by
  refine hta _ ⟨_, rfl, by omega, by omega, fun D hD => lc_range (lo := 0) (n := ((n : Nat) : Int).toNat) (fun i H' => ∃ acc, Same H H' ∧ H' D = some (.lst acc) ∧ DhAll K H' acc (((ext n c).take i).map ctD)) ⟨[], same_new hD, upd_same, .nil⟩ ?_ ?_⟩
  · rintro i H' hi ⟨acc, sm, hDl, hacc⟩
    rw [Int.toNat_natCast] at hi
    refine ⟨hw _, ?_⟩
    dsimp only [tYes]
    rw [if_pos rfl, Int.zero_add]
    refine ⟨x, hc _, _, hk _, by show 1 ≤ sizeLine; decide, fun r hr2 => cat_ct (K := K) (c := c) (j := (i : Int)) (hx.ext (.of (sm.trans (same_new hr2)))) hl upd_same fun v H3 s4 hv => ?_⟩
    have s5 : Same H' H3 := (same_new hr2).trans s4
    refine ⟨acc, s5 _ _ hDl, ?_, acc ++ [v], Same.put hD (sm.trans s5), upd_same, ?_⟩
    · have e1 := hacc.length
      rw [List.length_map, List.length_take, ext_len] at e1
      exact sz_small (by omega)
    · rw [ext_take c hi, List.map_append]
      exact ((hacc.ext (.of s5)).snoc hv).ext (Ext.put (s5 _ _ hDl))
  · rintro H' ⟨acc, sm, hDl, hacc⟩
    rw [Int.toNat_natCast, List.take_of_length_le (by rw [ext_len]; exact Nat.le_refl _)] at hacc
    exact q D acc H' hD sm hDl hacc
theorem ok_law_contents (T : Txt K mg) : FnOk P w K mg base CX0 1 T.f_law_contents T.d_law_contents ["sizes"] (spAll K) := by
  refine T.F_law_contents.ok sc_law_contents (fun vs H Q E h => ?_) (fun cdv A outer s H vs Q E hr h => ?_)
  · obtain ⟨_, _, rfl, _⟩ := h
    rfl
  · obtain ⟨a, ss, rfl, hs, ok, q⟩ := h
    obtain ⟨_, h5, hm⟩ := ok.facts
    refine ⟨_, (pss_cons (ps_set (i := 1) sc_law_contents.nd rfl (.inl rfl) (pe_lst (pa_cons (pe_tup pa_nil) pa_nil)))
      (pss_cons (ps_for PassesOwn.never rfl (pi_tupK K (pv 0)) (pg_name (i := 2) sc_law_contents.nd rfl (.inl rfl)) (pss_cons (ps_set (i := 3) sc_law_contents.nd rfl (.inl rfl) (pe_lst pa_nil))
      (pss_cons (ps_for PassesOwn.never rfl (pi_listK K (pv 1)) (pg_name (i := 4) sc_law_contents.nd rfl (.inr rfl)) (pss_one (ps_expr (pe_bm PySem.F.plainAttrs_list PySem.F.slot_list_extend PySem.F.type_list_extend mt_extend (pv 3) (pa_cons (pe_lc (own := [("worth", 5)]) rfl sc_law_contents.nd (pi_range1 (by rfl) T.z_range (pa_cons (pv 2) pa_nil)) (blkOk_by (N := N_law_contents) (sc := defScope s_law_contents) (by decide +kernel)) (fun _ _ _ _ _ => (pg_name (i := 5) sc_law_contents.nd rfl (.inl rfl))) (fun _ _ _ _ _ => pts_nil) (fun _ _ _ _ _ => (pe_op (op_catK K) (pv 4) (pe_tup (pa_cons (pv 5) pa_nil))))) pa_nil)))))
      (pss_one (ps_set (i := 1) sc_law_contents.nd rfl (.inl rfl) (pv 3))))))
      (pss_one (ps_ret (pv 1))))), ?_⟩
    refine ⟨Nat.zero_le _, fun t0 n0 => ⟨by show 1 ≤ sizeLine; decide, fun f0 nf0 => ?_⟩⟩
    have s1 : Same H (upd H t0 (.tup [])) := same_new n0
    have s2 : Same H (upd (upd H t0 (.tup [])) f0 (.lst [.ref t0])) := s1.trans (same_new nf0)
    refine ⟨_, rfl, a, rfl, ⟨_, (Ext.of s2).sqT hs⟩, for_tup (xs := ss.map V.int) (fun i σ H' => ∃ (f : Addr) (xs : List V) (y2 y3 y4 y5 : Option V), σ = [some (.ref a), some (.ref f), y2, y3, y4, y5] ∧ Same H H' ∧ H f = none ∧ H' f = some (.lst xs) ∧ DhAll K H' xs ((allC (ss.take i)).map ctD))
      ⟨f0, [.ref t0], none, none, none, none, rfl, s2, s1.free nf0, upd_same, .cons (dh_ct (c := []) (SqT.of ?_)) .nil⟩ (fun i σ H' _ ⟨_, _, _, _, _, _, _, sm, _⟩ => (Ext.of sm).sqT hs) ?_ ?_⟩
    · rw [upd_ne (fun e => by rw [e, upd_same] at nf0; cases nf0), upd_same]
      rfl
    · rintro i x σ H' hx ⟨f, xs, y2, y3, y4, y5, rfl, sm, nf, hf, hall⟩
      obtain ⟨z, rfl, hz⟩ := int_at hx
      obtain ⟨z2, z4⟩ := hm z (List.mem_of_getElem? hz)
      obtain ⟨n, rfl⟩ : ∃ n : Nat, z = (n : Int) := ⟨z.toNat, by omega⟩
      have hi : i < ss.length := (List.getElem?_eq_some_iff.mp hz).1
      have etake : ss.take (i + 1) = ss.take i ++ [(n : Int)] := by rw [List.take_add_one, hz]; rfl
      generalize hcs : allC (ss.take i) = cs at hall
      have hlen := hall.length
      rw [List.length_map] at hlen
      have hb := allC_len (fun s hs => (hm s hs).2) i
      rw [hcs] at hb
      have hcl : cs.length ≤ 1024 := Nat.le_trans hb.1 (Nat.pow_le_pow_right (by decide) (by omega : i ≤ 5))
      refine ⟨Nat.zero_le _, fun D hD => ?_⟩
      have sD : Same H' (upd H' D (.lst [])) := same_new hD
      refine ⟨.ref f, rfl, f, rfl, ⟨xs, SqL.of (sD _ _ hf)⟩, for_list (K := K) (xs := xs) (fun j σ H2 => ∃ (acc : List V) (y4 y5 : Option V), σ = [some (.ref a), some (.ref f), some (.int n), some (.ref D), y4, y5] ∧ Same H' H2 ∧ H2 D = some (.lst acc) ∧ DhAll K H2 acc (((cs.take j).flatMap (ext n)).map ctD))
        ⟨[], _, _, rfl, sD, upd_same, .nil⟩ (fun j σ H2 _ ⟨_, _, _, _, s3, _⟩ => s3.seq (SqL.of hf)) ?_ ?_⟩
      · rintro j x σ H2 hx2 ⟨acc, y4, y5, rfl, s3, hD2, hacc⟩
        obtain ⟨d, hd, hxd⟩ := hall.get hx2
        obtain ⟨c, hc, rfl⟩ := map_at hd
        have hcm : c.length ≤ 1000 := Nat.le_trans (hb.2 c (List.mem_of_getElem? hc)) (by omega)
        refine ⟨.ref D, rfl, .inl ⟨rfl, _, SqL.of hD2⟩, ?_⟩
        dsimp only [tCons]
        refine lc_ext (K := K) (σ := [some (.ref a), some (.ref f), some (.int n), some (.ref D), some x, y5]) (kx := 5) (kc := 4) (n := n) (c := c) (fun R hR => ⟨_, rfl, hR⟩) (hxd.ext (.of s3)) hcm (by omega) (fun _ => rfl) (fun _ => rfl) (fun _ => rfl) fun b zs H3 nb s4 hb3 hzs => ?_
        have e1 := hacc.length
        rw [List.length_map, flat_len, List.length_take] at e1
        have e2 := hzs.length
        rw [List.length_map, ext_len] at e2
        have e3 : min j cs.length * n ≤ 1024 * 4 := Nat.mul_le_mul (by omega) (by omega)
        refine ⟨D, b, acc, zs, rfl, rfl, s4 _ _ hD2, hb3, Nat.le_of_lt (sz_small (by omega)), acc ++ zs, _, _, rfl, Same.put hD (s3.trans s4), upd_same, ?_⟩
        rw [List.take_add_one, hc]
        show DhAll K _ _ (List.map ctD (List.flatMap (ext n) (List.take j cs ++ [c])))
        rw [List.flatMap_append, List.map_append]
        refine ((hacc.ext (.of s4)).append ?_).ext (Ext.put (s4 _ _ hD2))
        simpa using hzs
      · rintro σ H2 ⟨acc, y4, y5, rfl, s3, hD2, hacc⟩
        rw [hlen, List.take_length] at hacc
        refine ⟨_, rfl, D, acc, _, _, _, _, rfl, sm.trans s3, sm.free hD, hD2, ?_⟩
        rw [etake, allC_snoc, hcs]
        exact hacc
    · rintro σ H' ⟨f, xs, y2, y3, y4, y5, rfl, sm, nf, hf, hall⟩
      rw [List.length_map, List.take_length] at hall
      exact ⟨.ref f, rfl, q f xs H' nf sm hf hall⟩

/-! ### lists of flags -/
theorem flags_step {f : Nat → Bool} {i : Nat} : ((List.range (i + 1)).map f).map V.bl = ((List.range i).map f).map V.bl ++ [V.bl (f i)] := by
  rw [List.range_succ, List.map_append, List.map_append]
  rfl
theorem flags_len {f : Nat → Bool} {i : Nat} : (((List.range i).map f).map V.bl).length = i := by
  rw [List.length_map, List.length_map, List.length_range]
theorem lc_bT {H : Hp} {σ : L2.St} {Q : VK} {a : Addr} {xs : List V} {kx : Nat} {tp te : TE} (f : Nat → Bool) (htp : ∀ R : VK, R (.ref a) H → tp σ H R) (ha : SqT K H a xs) (hl : xs.length ≤ 1000) (hw : ∀ x, wipe ((wipe σ [kx]).set kx (some x)) [kx] = wipe σ [kx])
    (hte : ∀ i x H', xs[i]? = some x → Same H H' → ∀ R : VK, (∀ H2, Same H' H2 → R (.bl (f i)) H2) → te ((wipe σ [kx]).set kx (some x)) H' R)
    (q : ∀ D H', H D = none → Same H H' → H' D = some (.lst (((List.range xs.length).map f).map V.bl)) → Q (.ref D) H') : tLc (iTup K tp) (gName kx) tYes te [kx] σ H Q := by
  refine htp _ ⟨a, rfl, ⟨_, ha⟩, fun D hD => lc_tup (K := K) (xs := xs) (fun i H' => Same H H' ∧ H' D = some (.lst (((List.range i).map f).map V.bl))) ⟨same_new hD, upd_same⟩ (fun i H' _ p => (Ext.of p.1).sqT ha) ?_ ?_⟩
  · rintro i x H' hi ⟨sm, hDl⟩
    have hlt := (List.getElem?_eq_some_iff.mp hi).1
    refine ⟨hw _, ?_⟩
    dsimp only [tYes]
    rw [if_pos rfl]
    refine hte i x H' hi sm _ fun H2 s2 => ⟨_, s2 _ _ hDl, ?_, Same.put hD (sm.trans s2), ?_⟩
    · rw [flags_len]
      exact sz_small (by omega)
    · rw [upd_same, flags_step]
  · rintro H' ⟨sm, hDl⟩
    exact q D H' hD sm hDl
theorem lc_bR {H : Hp} {σ : L2.St} {Q : VK} {lo : Int} {n : Nat} {kx : Nat} {ti : TI} {te : TE} (f : Nat → Bool) (hti : ∀ R : It → Hp → Prop, R (Itr lo n) H → ti σ H R) (hl : n ≤ 1000) (hw : ∀ x, wipe ((wipe σ [kx]).set kx (some x)) [kx] = wipe σ [kx])
    (hte : ∀ i H', i < n → Same H H' → ∀ R : VK, (∀ H2, Same H' H2 → R (.bl (f i)) H2) → te ((wipe σ [kx]).set kx (some (.int (lo + i)))) H' R)
    (q : ∀ D H', H D = none → Same H H' → H' D = some (.lst (((List.range n).map f).map V.bl)) → Q (.ref D) H') : tLc ti (gName kx) tYes te [kx] σ H Q := by
  refine hti _ fun D hD => lc_range (fun i H' => Same H H' ∧ H' D = some (.lst (((List.range i).map f).map V.bl))) ⟨same_new hD, upd_same⟩ ?_ ?_
  · rintro i H' hi ⟨sm, hDl⟩
    refine ⟨hw _, ?_⟩
    dsimp only [tYes]
    rw [if_pos rfl]
    refine hte i H' hi sm _ fun H2 s2 => ⟨_, s2 _ _ hDl, ?_, Same.put hD (sm.trans s2), ?_⟩
    · rw [flags_len]
      exact sz_small (by omega)
    · rw [upd_same, flags_step]
  · rintro H' ⟨sm, hDl⟩
    exact q D H' hD sm hDl
theorem lc_zipM {L : Bool} {a b : Addr} {xs ys : List V} {g : TG} {tt : TT} {te : TE} {vs : List Nat} {σ : L2.St} {H1 : Hp} {D : Addr} {Qd : Hp → Prop} (Pv : Nat → Hp → Prop) (h0 : Pv 0 (upd H1 D (.lst []))) (hq : ∀ i H, Pv i H → SqA L K H a xs ∧ SqT K H b ys)
    (hs : ∀ (i : Nat) (x y : V) (T : Addr) (H : Hp), xs[i]? = some x → ys[i]? = some y → Pv i H → H T = none → g (.ref T) (wipe σ vs) (upd H T (.tup [x, y])) fun σ2 H2 => wipe σ2 vs = wipe σ vs ∧ tt σ2 H2 fun b H3 =>
      if b = true then te σ2 H3 fun y H4 => ∃ acc, H4 D = some (.lst acc) ∧ acc.length < sizeLine ∧ Pv (i + 1) (upd H4 D (.lst (acc ++ [y]))) else Pv (i + 1) H3) (hd : ∀ H, Pv (min xs.length ys.length) H → Qd H) :
    ∃ W : Nat → Nat → Hp → Prop, (∃ m, W 0 m (upd H1 D (.lst []))) ∧ ∀ i m H, W i m H →
      ((ItM L K a b xs ys).stop i H ∧ Qd H) ∨ ((ItM L K a b xs ys).go i H ∧ ∃ Nx : Hp → Prop, (∀ H', Nx H' → ∃ m', m' < m ∧ W (i + 1) m' H') ∧ ∀ x H', (ItM L K a b xs ys).yld i H x H' → g x (wipe σ vs) H' fun σ2 H2 => wipe σ2 vs = wipe σ vs ∧ tt σ2 H2 fun b H3 =>
        if b = true then te σ2 H3 fun y H4 => ∃ acc, H4 D = some (.lst acc) ∧ acc.length < sizeLine ∧ Nx (upd H4 D (.lst (acc ++ [y]))) else Nx H3) := by
  refine ⟨fun i m H => i + m = min xs.length ys.length ∧ Pv i H, ⟨_, Nat.zero_add _, h0⟩, ?_⟩
  rintro i m H ⟨em, p⟩
  obtain ⟨qx, qy⟩ := hq i H p
  cases m with
  | zero =>
    have ei : i = min xs.length ys.length := em
    refine .inl ⟨⟨qx, qy, ei⟩, hd H ?_⟩
    rw [← ei]
    exact p
  | succ m =>
    refine .inr ⟨⟨qx, qy, by omega, by omega⟩, Pv (i + 1), fun H' p' => ⟨m, Nat.lt_succ_self m, by omega, p'⟩, fun v H' y => ?_⟩
    obtain ⟨T, x, y', rfl, hT, rfl, f1, f2⟩ := y
    exact hs i x y' T H f1 f2 p hT
/-- neighbours -/
def adj {α : Type} (r : α → α → Bool) : List α → Bool
  | x :: y :: l => r x y && adj r (y :: l)
  | _ => true
theorem all_range_succ (n : Nat) (f : Nat → Bool) : ((List.range (n + 1)).map f).all id = (f 0 && ((List.range n).map fun i => f (i + 1)).all id) := by
  rw [List.range_succ_eq_map, List.map_cons, List.all_cons, List.map_map]
  rfl
theorem adj_all {α : Type} [Inhabited α] (r : α → α → Bool) : ∀ l : List α, ((List.range (l.length - 1)).map fun k => r (l.getD k default) (l.getD (k + 1) default)).all id = adj r l
  | [] => rfl
  | [_] => rfl
  | x :: y :: l => by
    have ih := adj_all r (y :: l)
    show ((List.range (l.length + 1)).map _).all id = (r x y && adj r (y :: l))
    rw [all_range_succ, ← ih]
    rfl
theorem all_map_range {α : Type} (l : List α) (f : Nat → Bool) (g : α → Bool) (h : ∀ i x, l[i]? = some x → f i = g x) : ((List.range l.length).map f).all id = l.all g := by
  induction l generalizing f with
  | nil => rfl
  | cons x l ih =>
    rw [List.length_cons, all_range_succ, List.all_cons, ih (fun i => f (i + 1)) (fun i y hy => h (i + 1) y (by simpa using hy)), h 0 x rfl]

end
end Fm
namespace Fm
open PySem PySem.Spec PyProof.Rows L2
section
variable {P : Program} {w : World} {K : PySem.W.Frag} {mg : Str → Option Value} {base : Heap}

/-! ### the law's own judges -/
def Dt.inI (l m : Int) : Dt → Bool
  | .int i => decide (l ≤ i) && decide (i ≤ m)
  | _ => false
def spInt (K : PySem.W.Frag) : Sp := fun vs H Q _ => ∃ (v : V) (d : Dt) (l m : Int), vs = [v, .int l, .int m] ∧ Dh K H v d ∧ ∀ H', Same H H' → Q (.bl (d.inI l m)) H'
theorem ok_law_is_int (T : Txt K mg) : FnOk P w K mg base CX0 1 T.f_law_is_int T.d_law_is_int ["thing", "least", "most"] (spInt K) := by
  refine T.F_law_is_int.ok sc_law_is_int (fun vs H Q E h => ?_) (fun cdv A outer s H vs Q E hr h => ?_)
  · obtain ⟨_, _, _, _, rfl, _⟩ := h
    rfl
  · obtain ⟨v, d, l, m, rfl, hv, q⟩ := h
    have q := q H (Same.refl H)
    obtain ⟨t, ty, ki, kt, kb⟩ := hv.kinds
    refine ⟨_, (pss_one (ps_ret (pe_and (pe_callB (call_isiK' K) (by rfl) T.z_isinstance (by decide +kernel) (pa_cons (pv 0) (pa_cons (pe_bltn (v := .ty "int") (by rfl) T.z_int (by decide +kernel) rfl) pa_nil))) (pe_and (pe_not (pe_callB (call_isiK' K) (by rfl) T.z_isinstance (by decide +kernel) (pa_cons (pv 0) (pa_cons (pe_bltn (v := .ty "bool") (by rfl) T.z_bool (by decide +kernel) rfl) pa_nil)))) (pe_one (pe_chain op_le op_le (pv 1) (pv 0) (pv 2))))))), ?_⟩
    refine ⟨_, rfl, _, _, _, _, _, rfl, .ty _, ty, ki, _, rfl, ?_⟩
    cases hi : d.isInt with
    | false =>
      refine iteF ?_
      have e : d.inI l m = false := by cases d <;> first | rfl | cases hi
      rw [e] at q
      exact q
    | true =>
      refine iteT ?_
      refine ⟨_, rfl, _, _, _, _, _, rfl, .ty _, ty, kb hi, _, rfl, ?_⟩
      cases hw : d.isW with
      | false =>
        refine ⟨_, rfl, iteF ?_⟩
        have e : d.inI l m = false := by cases d <;> first | rfl | cases hw
        rw [e] at q
        exact q
      | true =>
        refine ⟨_, rfl, iteT ?_⟩
        cases d with
        | int i =>
          cases hv
          refine ⟨_, rfl, _, rfl, _, _, rfl, rfl, _, rfl, ?_⟩
          have eq0 : (Dt.int i).inI l m = (decide (l ≤ i) && decide (i ≤ m)) := rfl
          rw [eq0] at q
          refine ite2 (fun h1 => ?_) (fun h1 => ?_)
          · rw [h1, Bool.true_and] at q
            exact ⟨_, rfl, _, _, rfl, rfl, q⟩
          · have h1' : decide (l ≤ i) = false := by simpa using h1
            rw [h1', Bool.false_and] at q
            exact q
        | _ => cases hw
def Dt.short : Dt → Prop
  | .tup ds => ds.length ≤ 1000
  | _ => True
theorem inI_all {l m : Int} : ∀ {ds : List Dt}, (ds.all fun d => d.inI l m) = true → ∃ ps : List Int, ds = ps.map Dt.int ∧ ∀ p ∈ ps, l ≤ p ∧ p ≤ m
  | [], _ => ⟨[], rfl, fun p hp => by cases hp⟩
  | d :: ds, h => by
    rw [List.all_cons, Bool.and_eq_true] at h
    obtain ⟨ps, rfl, hp⟩ := inI_all h.2
    cases d with
    | int i =>
      have z : (decide (l ≤ i) && decide (i ≤ m)) = true := h.1
      rw [Bool.and_eq_true, decide_eq_true_eq, decide_eq_true_eq] at z
      refine ⟨i :: ps, rfl, fun p hm => ?_⟩
      rcases List.mem_cons.mp hm with e | e
      · rw [e]
        exact z
      · exact hp p e
    | _ => cases h.1
theorem pat_inI {n : Int} : ∀ {l : Int} {ds : List Dt}, -1 ≤ l → patGo n l ds = true → (ds.all fun d => d.inI 0 (n - 1)) = true
  | _, [], _, _ => rfl
  | l, d :: ds, hl, h => by
    cases d with
    | int c =>
      have z : (if l < c ∧ c < n then patGo n c ds else false) = true := h
      by_cases hc : l < c ∧ c < n
      · rw [if_pos hc] at z
        rw [List.all_cons, pat_inI (by omega) z, Bool.and_true]
        show (decide (0 ≤ c) && decide (c ≤ n - 1)) = true
        rw [decide_eq_true (by omega), decide_eq_true (by omega)]
        rfl
      · rw [if_neg hc] at z
        cases z
    | _ => cases h
def hdLt (l : Int) : List Int → Bool
  | [] => true
  | x :: _ => decide (l < x)
theorem pat_adj {n : Int} : ∀ {l : Int} {ps : List Int}, (∀ p ∈ ps, 0 ≤ p ∧ p ≤ n - 1) → patGo n l (ps.map Dt.int) = (hdLt l ps && adj (fun x y => decide (x < y)) ps)
  | _, [], _ => rfl
  | l, [x], h => by
    have hx := h x (List.mem_cons_self ..)
    show (if l < x ∧ x < n then true else false) = (decide (l < x) && true)
    rw [Bool.and_true]
    by_cases c : l < x
    · rw [if_pos ⟨c, by omega⟩, decide_eq_true c]
    · rw [if_neg fun z => c z.1, decide_eq_false c]
  | l, x :: y :: r, h => by
    have hx := h x (List.mem_cons_self ..)
    have ih := pat_adj (n := n) (l := x) (ps := y :: r) fun p hp => h p (List.mem_cons_of_mem _ hp)
    show (if l < x ∧ x < n then patGo n x ((y :: r).map Dt.int) else false) = (decide (l < x) && (decide (x < y) && adj (fun x y => decide (x < y)) (y :: r)))
    rw [ih]
    by_cases c : l < x
    · rw [if_pos ⟨c, by omega⟩, decide_eq_true c]
      rfl
    · rw [if_neg fun z => c z.1, decide_eq_false c]
      rfl
theorem getD_int {ps : List Int} {i : Nat} (h : i < ps.length) : (ps.map V.int)[i]? = some (.int (ps.getD i default)) := by
  rw [List.getElem?_map, List.getD_eq_getElem?_getD, List.getElem?_eq_getElem h]
  rfl
def spLPat (K : PySem.W.Frag) : Sp := fun vs H Q _ => ∃ (n : Int) (v : V) (d : Dt), vs = [.int n, v] ∧ Dh K H v d ∧ d.short ∧ ∀ H', Same H H' → Q (.bl (d.isPat n)) H'
theorem ok_law_is_pattern (T : Txt K mg) : FnOk P w K mg base CX0 2 T.f_law_is_pattern T.d_law_is_pattern ["columns", "thing"] (spLPat K) := by
  refine T.F_law_is_pattern.ok sc_law_is_pattern (fun vs H Q E h => ?_) (fun cdv A outer s H vs Q E hr h => ?_)
  · obtain ⟨_, _, _, rfl, _⟩ := h
    rfl
  · obtain ⟨n, v, d, rfl, hv, hsh, q⟩ := h
    obtain ⟨t, ty, ki, kt, kb⟩ := hv.kinds
    refine ⟨_, (pss_cons (ps_if (PW.pt (pw_or (pt_not (pt_val (pe_callB (call_isiK' K) (by rfl) T.z_isinstance (by decide +kernel) (pa_cons (pv 1) (pa_cons (pe_bltn (v := .ty "tuple") (by rfl) T.z_tuple (by decide +kernel) rfl) pa_nil))))) (pw_or1 (pt_not (pt_val (pe_callB (call_allK (K := K) rfl) (by rfl) T.z_all (by decide +kernel) (pa_cons (pe_lc (own := [("c", 3)]) rfl sc_law_is_pattern.nd (pi_tupK K (pv 1)) (blkOk_by (N := N_law_is_pattern) (sc := defScope s_law_is_pattern) (by decide +kernel)) (fun _ _ _ _ _ => (pg_name (i := 3) sc_law_is_pattern.nd rfl (.inl rfl))) (fun _ _ _ _ _ => pts_nil) (fun _ _ _ _ _ => (pe_call (ok_law_is_int T) hr (by rfl) T.g_law_is_int T.F_law_is_int.kp T.b_law_is_int .nil pass0 (pa_cons (pv 3) (pa_cons pe_int (pa_cons (pe_op op_sub (pv 0) pe_int) pa_nil)))))) pa_nil))))))) (pss_one (ps_ret pe_bl)) pss_nil)
      (pss_one (ps_ret (pe_callB (call_allK (K := K) rfl) (by rfl) T.z_all (by decide +kernel) (pa_cons (pe_lc (own := [("k", 2)]) rfl sc_law_is_pattern.nd (pi_range2 (by rfl) T.z_range (pa_cons pe_int (pa_cons (pe_callB (call_lenK K) (by rfl) T.z_len PySem.boot_len (pa_cons (pv 1) pa_nil)) pa_nil))) (blkOk_by (N := N_law_is_pattern) (sc := defScope s_law_is_pattern) (by decide +kernel)) (fun _ _ _ _ _ => (pg_name (i := 2) sc_law_is_pattern.nd rfl (.inl rfl))) (fun _ _ _ _ _ => pts_nil) (fun _ _ _ _ _ => (pe_cmpR op_lt (pe_ix (ix_tupK K) (pv 1) (pe_op op_sub (pv 2) pe_int) (fun _ _ => rfl)) (pe_ix (ix_tupK K) (pv 1) (pv 2) (fun _ _ => rfl)) (nomark _)))) pa_nil))))), ?_⟩
    refine ⟨_, rfl, _, _, _, _, _, rfl, .ty _, ty, kt, _, rfl, ?_⟩
    cases hi : d.isTup with
    | false =>
      refine iteT (iteT ?_)
      have e : d.isPat n = false := by cases d <;> first | rfl | cases hi
      rw [e] at q
      exact q H (Same.refl H)
    | true =>
      refine iteF ?_
      cases d with
      | tup ds =>
        obtain ⟨a, xs, rfl, ha, hx⟩ := hv.tup_inv
        have hl := hx.length
        have hl1 : ds.length ≤ 1000 := hsh
        have eq0 : (Dt.tup ds).isPat n = patGo n (-1) ds := rfl
        rw [eq0] at q
        dsimp only [tNot, tB, tCB, tCons]
        refine lc_bT (K := K) (kx := 3) (tp := tVar 1) (xs := xs) (fun i => (ds.getD i .non).inI 0 (n - 1)) (fun R hR => ⟨_, rfl, hR⟩) ha (by omega) (fun _ => rfl) (fun i x H' hxi sm R hR => ?_) fun D H1 nD s1 hD => ?_
        · obtain ⟨dx, hdx, hxd⟩ := hx.get hxi
          refine ⟨_, rfl, _, rfl, _, _, rfl, rfl, x, dx, 0, n - 1, rfl, hxd.ext (.of sm), fun H2 s2 => ?_⟩
          have e : ds.getD i .non = dx := by rw [List.getD_eq_getElem?_getD, hdx]; rfl
          have z := hR H2 s2
          rw [e] at z
          exact z
        · refine ⟨D, _, rfl, SqL.of hD, _, rfl, ?_⟩
          rw [hl, all_map_range ds _ (fun d => d.inI 0 (n - 1)) (fun i x hx => by rw [List.getD_eq_getElem?_getD, hx]; rfl)]
          cases hall : ds.all fun d => d.inI 0 (n - 1) with
          | false =>
            refine iteT ?_
            have z : patGo n (-1) ds = false := by
              cases e : patGo n (-1) ds with
              | false => rfl
              | true =>
                rw [pat_inI (by omega) e] at hall
                cases hall
            rw [z] at q
            exact q H1 s1
          | true =>
            refine iteF ?_
            obtain ⟨ps, rfl, hps⟩ := inI_all hall
            have ex := dh_ints ps hx
            subst ex
            rw [pat_adj hps] at q
            have hd0 : hdLt (-1) ps = true := by
              cases ps with
              | nil => rfl
              | cons x r => exact decide_eq_true (by have := hps x (List.mem_cons_self ..); omega)
            rw [hd0, Bool.true_and] at q
            rw [List.length_map] at hl1
            have ha1 := (Ext.of s1).sqT ha
            dsimp only [tNext, tRet, tCB, tCons]
            refine lc_bR (kx := 2) (lo := 1) (n := ps.length - 1) (fun k => decide (ps.getD k default < ps.getD (k + 1) default)) (fun R hR => ⟨_, rfl, a, _, rfl, .inr ha1, 1, (ps.map V.int).length, rfl, by rw [List.length_map]; omega, ?_⟩) (by omega) (fun _ => rfl) (fun i H' hi sm R hR => ?_) fun D2 H2 nD2 s2 hD2 => ?_
            · have e : (((ps.map V.int).length : Int) - 1).toNat = ps.length - 1 := by
                rw [List.length_map]
                omega
              rw [e]
              exact hR
            · have ha2 := (Ext.of sm).sqT ha1
              exact ⟨_, rfl, _, rfl, _, _, rfl, rfl, a, _, _, _, rfl, rfl, ha2, at_of (j := i) (by omega) (getD_int (by omega)), _, rfl, _, rfl, a, _, _, _, rfl, rfl, ha2, at_of (j := i + 1) (by omega) (getD_int (by omega)), _, _, rfl, rfl, hR H' (Same.refl H')⟩
            · refine ⟨D2, _, rfl, SqL.of hD2, ?_⟩
              rw [adj_all (fun x y => decide (x < y)) ps]
              exact q H2 (s1.trans s2)
      | _ => cases hi

theorem cont_all : ∀ (ss : List Int) (ds : List Dt), ss.length = ds.length → contGo ss ds = ((List.range ss.length).map fun i => (ds.getD i .non).inI 0 (ss.getD i default - 1)).all id
  | [], [], _ => rfl
  | s :: ss, d :: ds, h => by
    have ih := cont_all ss ds (by simpa using h)
    rw [List.length_cons, all_range_succ]
    show contGo (s :: ss) (d :: ds) = (d.inI 0 (s - 1) && ((List.range ss.length).map fun i => (ds.getD i .non).inI 0 (ss.getD i default - 1)).all id)
    rw [← ih]
    cases d with
    | int c =>
      show (if 0 ≤ c ∧ c < s then contGo ss ds else false) = ((decide (0 ≤ c) && decide (c ≤ s - 1)) && contGo ss ds)
      by_cases h1 : 0 ≤ c
      · by_cases h2 : c < s
        · rw [if_pos ⟨h1, h2⟩, decide_eq_true h1, decide_eq_true (show c ≤ s - 1 by omega)]
          rfl
        · rw [if_neg fun z => h2 z.2, decide_eq_false (show ¬ c ≤ s - 1 by omega), Bool.and_false]
          rfl
      · rw [if_neg fun z => h1 z.1, decide_eq_false h1]
        rfl
    | _ => rfl
def spLCont (K : PySem.W.Frag) : Sp := fun vs H Q _ => ∃ (a : Addr) (ss : List Int) (v : V) (d : Dt), vs = [.ref a, v] ∧ SqT K H a (ss.map V.int) ∧ ss.length ≤ 1000 ∧ Dh K H v d ∧ ∀ H', Same H H' → Q (.bl (d.isCont ss)) H'
theorem ok_law_is_content (T : Txt K mg) : FnOk P w K mg base CX0 2 T.f_law_is_content T.d_law_is_content ["sizes", "thing"] (spLCont K) := by
  refine T.F_law_is_content.ok sc_law_is_content (fun vs H Q E h => ?_) (fun cdv A outer s H vs Q E hr h => ?_)
  · obtain ⟨_, _, _, _, rfl, _⟩ := h
    rfl
  · obtain ⟨a, ss, v, d, rfl, hs, hls, hv, q⟩ := h
    obtain ⟨t, ty, ki, kt, kb⟩ := hv.kinds
    refine ⟨_, (pss_cons (ps_if (PW.pt (pw_or (pt_not (pt_val (pe_callB (call_isiK' K) (by rfl) T.z_isinstance (by decide +kernel) (pa_cons (pv 1) (pa_cons (pe_bltn (v := .ty "tuple") (by rfl) T.z_tuple (by decide +kernel) rfl) pa_nil))))) (pw_or1 (pt_cmpR op_ne (pe_callB (call_lenK K) (by rfl) T.z_len PySem.boot_len (pa_cons (pv 1) pa_nil)) (pe_callB (call_lenK K) (by rfl) T.z_len PySem.boot_len (pa_cons (pv 0) pa_nil)) (nomark _))))) (pss_one (ps_ret pe_bl)) pss_nil)
      (pss_one (ps_ret (pe_callB (call_allK (K := K) rfl) (by rfl) T.z_all (by decide +kernel) (pa_cons (pe_lc (own := [("c", 2)]) rfl sc_law_is_content.nd (pi_range1 (by rfl) T.z_range (pa_cons (pe_callB (call_lenK K) (by rfl) T.z_len PySem.boot_len (pa_cons (pv 0) pa_nil)) pa_nil)) (blkOk_by (N := N_law_is_content) (sc := defScope s_law_is_content) (by decide +kernel)) (fun _ _ _ _ _ => (pg_name (i := 2) sc_law_is_content.nd rfl (.inl rfl))) (fun _ _ _ _ _ => pts_nil) (fun _ _ _ _ _ => (pe_call (ok_law_is_int T) hr (by rfl) T.g_law_is_int T.F_law_is_int.kp T.b_law_is_int .nil pass0 (pa_cons (pe_ix (ix_tupK K) (pv 1) (pv 2) (fun _ _ => rfl)) (pa_cons pe_int (pa_cons (pe_op op_sub (pe_ix (ix_tupK K) (pv 0) (pv 2) (fun _ _ => rfl)) pe_int) pa_nil)))))) pa_nil))))), ?_⟩
    refine ⟨_, rfl, _, _, _, _, _, rfl, .ty _, ty, kt, _, rfl, ?_⟩
    cases hi : d.isTup with
    | false =>
      refine iteT (iteT ?_)
      have e : d.isCont ss = false := by cases d <;> first | rfl | cases hi
      rw [e] at q
      exact q H (Same.refl H)
    | true =>
      refine iteF ?_
      cases d with
      | tup ds =>
        obtain ⟨b, xs, rfl, hb, hx⟩ := hv.tup_inv
        have hl := hx.length
        have eq0 : (Dt.tup ds).isCont ss = (ds.length == ss.length && contGo ss ds) := rfl
        rw [eq0] at q
        refine ⟨_, rfl, b, _, rfl, .inr hb, _, rfl, a, _, rfl, .inr hs, rfl, _, rfl, ?_⟩
        rw [dec_int, List.length_map]
        cases hle : ds.length == ss.length with
        | false =>
          have e : (((xs.length : Nat) : Int) == ((ss.length : Nat) : Int)) = false := by
            rw [beq_eq_false_iff_ne] at hle ⊢
            omega
          rw [e]
          refine iteT ?_
          rw [hle] at q
          exact q H (Same.refl H)
        | true =>
          have hle' : ds.length = ss.length := by simpa using hle
          have e : (((xs.length : Nat) : Int) == ((ss.length : Nat) : Int)) = true := by
            rw [beq_iff_eq]
            omega
          rw [e]
          refine iteF ?_
          rw [hle, Bool.true_and, cont_all ss ds hle'.symm] at q
          dsimp only [tNext, tRet, tCB, tCons]
          refine lc_bR (kx := 2) (lo := 0) (n := ss.length) (fun i => (ds.getD i .non).inI 0 (ss.getD i default - 1)) (fun R hR => ⟨_, rfl, a, _, rfl, .inr hs, ss.length, by rw [List.length_map], by omega, by omega, by rw [Int.toNat_natCast]; exact hR⟩) hls (fun _ => rfl) (fun i H' hi sm R hR => ?_) fun D H1 nD s1 hD => ?_
          · obtain ⟨dx, hdx⟩ : ∃ dx, ds[i]? = some dx := ⟨_, List.getElem?_eq_getElem (by omega)⟩
            obtain ⟨x, hxi, hxd⟩ := hx.at hdx
            have e2 : ds.getD i .non = dx := by rw [List.getD_eq_getElem?_getD, hdx]; rfl
            rw [e2] at hR
            have hb2 := (Ext.of sm).sqT hb
            have hs2 := (Ext.of sm).sqT hs
            refine ⟨_, rfl, _, rfl, b, _, _, _, rfl, rfl, hb2, at_of (j := i) (by omega) hxi, _, rfl, _, rfl, a, _, _, _, rfl, rfl, hs2, at_of (j := i) (by omega) (getD_int hi), _, _, rfl, rfl, x, dx, 0, _, rfl, hxd.ext (.of sm), fun H2 s2 => hR H2 s2⟩
          · exact ⟨D, _, rfl, SqL.of hD, q H1 s1⟩
      | _ => cases hi

theorem sizes_prod : ∀ {ps : List Int} {m : Int}, (∀ p ∈ ps, 2 ≤ p ∧ p ≤ 4) → sizeGo m (ps.map Dt.int) = some (ps.foldl (· * ·) m)
  | [], _, _ => rfl
  | p :: ps, m, h => by
    show (if 2 ≤ p ∧ p ≤ 4 then sizeGo (m * p) (ps.map Dt.int) else none) = _
    rw [if_pos (h p (List.mem_cons_self ..)), sizes_prod fun x hx => h x (List.mem_cons_of_mem _ hx)]
    rfl
theorem sizes_all : ∀ {ds : List Dt} {m r : Int}, sizeGo m ds = some r → (ds.all fun d => d.inI 2 4) = true
  | [], _, _, _ => rfl
  | d :: ds, m, r, h => by
    cases d with
    | int c =>
      have z : (if 2 ≤ c ∧ c ≤ 4 then sizeGo (m * c) ds else none) = some r := h
      by_cases hc : 2 ≤ c ∧ c ≤ 4
      · rw [if_pos hc] at z
        rw [List.all_cons, sizes_all z, Bool.and_true]
        show (decide (2 ≤ c) && decide (c ≤ 4)) = true
        rw [decide_eq_true hc.1, decide_eq_true hc.2]
        rfl
      · rw [if_neg hc] at z
        cases z
    | _ => cases h
def spLSizes (K : PySem.W.Frag) : Sp := fun vs H Q _ => ∃ (v : V) (d : Dt), vs = [v] ∧ Dh K H v d ∧ ∀ H', Same H H' → Q (.bl d.isSizes) H'
theorem ok_law_are_sizes (T : Txt K mg) : FnOk P w K mg base CX0 2 T.f_law_are_sizes T.d_law_are_sizes ["thing"] (spLSizes K) := by
  refine T.F_law_are_sizes.ok sc_law_are_sizes (fun vs H Q E h => ?_) (fun cdv A outer s H vs Q E hr h => ?_)
  · obtain ⟨_, _, rfl, _⟩ := h
    rfl
  · obtain ⟨v, d, rfl, hv, q⟩ := h
    obtain ⟨t, ty, ki, kt, kb⟩ := hv.kinds
    refine ⟨_, (pss_cons (ps_if (PW.pt (pw_or (pt_not (pt_val (pe_callB (call_isiK' K) (by rfl) T.z_isinstance (by decide +kernel) (pa_cons (pv 0) (pa_cons (pe_bltn (v := .ty "tuple") (by rfl) T.z_tuple (by decide +kernel) rfl) pa_nil))))) (pw_or1 (pt_not (pt_chain op_le op_le pe_int (pe_callB (call_lenK K) (by rfl) T.z_len PySem.boot_len (pa_cons (pv 0) pa_nil)) pe_int))))) (pss_one (ps_ret pe_bl)) pss_nil)
      (pss_cons (ps_if (pt_not (pt_val (pe_callB (call_allK (K := K) rfl) (by rfl) T.z_all (by decide +kernel) (pa_cons (pe_lc (own := [("size", 2)]) rfl sc_law_are_sizes.nd (pi_tupK K (pv 0)) (blkOk_by (N := N_law_are_sizes) (sc := defScope s_law_are_sizes) (by decide +kernel)) (fun _ _ _ _ _ => (pg_name (i := 2) sc_law_are_sizes.nd rfl (.inl rfl))) (fun _ _ _ _ _ => pts_nil) (fun _ _ _ _ _ => (pe_call (ok_law_is_int T) hr (by rfl) T.g_law_is_int T.F_law_is_int.kp T.b_law_is_int .nil pass0 (pa_cons (pv 2) (pa_cons pe_int (pa_cons pe_int pa_nil)))))) pa_nil)))) (pss_one (ps_ret pe_bl)) pss_nil)
      (pss_cons (ps_set (i := 1) sc_law_are_sizes.nd rfl (.inl rfl) pe_int)
      (pss_cons (ps_for PassesOwn.never rfl (pi_tupK K (pv 0)) (pg_name (i := 2) sc_law_are_sizes.nd rfl (.inl rfl)) (pss_one (ps_set (i := 1) sc_law_are_sizes.nd rfl (.inl rfl) (pe_op op_mul (pv 1) (pv 2)))))
      (pss_one (ps_ret (pe_cmpR op_le (pv 1) pe_int (nomark _)))))))), ?_⟩
    refine ⟨_, rfl, _, _, _, _, _, rfl, .ty _, ty, kt, _, rfl, ?_⟩
    cases hi : d.isTup with
    | false =>
      refine iteT (iteT ?_)
      have e : d.isSizes = false := by cases d <;> first | rfl | cases hi
      rw [e] at q
      exact q H (Same.refl H)
    | true =>
      refine iteF ?_
      cases d with
      | tup ds =>
        obtain ⟨a, xs, rfl, hs, hx⟩ := hv.tup_inv
        have eq0 : (Dt.tup ds).isSizes = if 1 ≤ ds.length ∧ ds.length ≤ 5 then (match sizeGo 1 ds with | some m => decide (m ≤ 256) | none => false) else false := rfl
        rw [eq0] at q
        have hl := hx.length
        refine ⟨_, rfl, a, xs, rfl, .inr hs, _, _, rfl, rfl, _, rfl, ?_⟩
        have out : ¬ (1 ≤ ds.length ∧ ds.length ≤ 5) → Q (.bl false) H := fun n => by
          rw [if_neg n] at q
          exact q H (Same.refl H)
        refine ite2 (fun h1 => ?_) (fun h1 => ?_)
        · have h1' : (1 : Int) ≤ xs.length := of_decide_eq_true h1
          refine ⟨_, _, rfl, rfl, _, rfl, ?_⟩
          refine ite2 (fun h2 => ?_) (fun h2 => ?_)
          · have n2 : ¬ (xs.length : Int) ≤ 5 := by simpa using h2
            exact out fun z => n2 (by omega)
          · have h2' : (xs.length : Int) ≤ 5 := by simpa using h2
            rw [if_pos (show 1 ≤ ds.length ∧ ds.length ≤ 5 by omega)] at q
            dsimp only [tNext, tIfS, tNot, tB, tCB, tCons, tSeq]
            refine lc_bT (K := K) (kx := 2) (tp := tVar 0) (xs := xs) (fun i => (ds.getD i .non).inI 2 4) (fun R hR => ⟨_, rfl, hR⟩) hs (by omega) (fun _ => rfl) (fun i x H' hxi sm R hR => ?_) fun D H1 nD s1 hD => ?_
            · obtain ⟨dx, hdx, hxd⟩ := hx.get hxi
              refine ⟨_, rfl, x, dx, 2, 4, rfl, hxd.ext (.of sm), fun H2 s2 => ?_⟩
              have e : ds.getD i .non = dx := by rw [List.getD_eq_getElem?_getD, hdx]; rfl
              have z := hR H2 s2
              rw [e] at z
              exact z
            · refine ⟨D, _, rfl, SqL.of hD, _, rfl, ?_⟩
              rw [hl, all_map_range ds _ (fun d => d.inI 2 4) (fun i x hx => by rw [List.getD_eq_getElem?_getD, hx]; rfl)]
              cases hall : ds.all fun d => d.inI 2 4 with
              | false =>
                refine iteT ?_
                cases e : sizeGo 1 ds with
                | none =>
                  rw [e] at q
                  exact q H1 s1
                | some r =>
                  rw [sizes_all e] at hall
                  cases hall
              | true =>
                refine iteF ?_
                obtain ⟨ps, rfl, hps⟩ := inI_all hall
                have ex := dh_ints ps hx
                subst ex
                rw [sizes_prod hps] at q
                rw [List.length_map] at hl
                refine ⟨_, rfl, a, rfl, ⟨_, (Ext.of s1).sqT hs⟩, for_tup (xs := ps.map V.int) (fun i σ H' => ∃ (m : Int) (c : Option V), σ = [some (.ref a), some (.int m), c] ∧ Same H1 H' ∧ ps.foldl (· * ·) 1 = (ps.drop i).foldl (· * ·) m)
                  ⟨1, _, rfl, Same.refl _, rfl⟩ (fun i σ H' _ ⟨_, _, _, sm, _⟩ => (Ext.of (s1.trans sm)).sqT hs) ?_ ?_⟩
                · rintro i x σ H' hxi ⟨m, c, rfl, sm, e⟩
                  obtain ⟨p, rfl, hp⟩ := int_at hxi
                  have hpm := hps p (List.mem_of_getElem? hp)
                  rw [drop_at hp] at e
                  refine ⟨_, rfl, _, rfl, _, _, rfl, rfl, .inr ⟨by omega, by omega⟩, ?_⟩
                  exact ⟨_, _, rfl, sm, e⟩
                · rintro σ H' ⟨m, c, rfl, sm, e⟩
                  rw [List.length_map, List.drop_length] at e
                  have e' : ps.foldl (· * ·) 1 = m := e
                  rw [e'] at q
                  exact ⟨_, rfl, _, _, rfl, rfl, q H' (s1.trans sm)⟩
        · refine ⟨_, rfl, iteT ?_⟩
          exact out fun z => h1 (decide_eq_true (by omega))
      | _ => cases hi
instance : Inhabited Dt := ⟨.non⟩
theorem sizeGo_ints : ∀ {ds : List Dt} {m r : Int}, sizeGo m ds = some r → ∃ ps : List Int, ds = ps.map Dt.int
  | [], _, _, _ => ⟨[], rfl⟩
  | d :: ds, m, r, h => by
    cases d with
    | int c =>
      have z : (if 2 ≤ c ∧ c ≤ 4 then sizeGo (m * c) ds else none) = some r := h
      by_cases hc : 2 ≤ c ∧ c ≤ 4
      · rw [if_pos hc] at z
        obtain ⟨ps, rfl⟩ := sizeGo_ints z
        exact ⟨c :: ps, rfl⟩
      · rw [if_neg hc] at z
        cases z
    | _ => cases h
theorem isSizes_inv {d : Dt} (h : d.isSizes = true) : ∃ ss : List Int, d = ctD ss ∧ SizesOk ss := by
  cases d with
  | tup ds =>
    have h' : (if 1 ≤ ds.length ∧ ds.length ≤ 5 then (match sizeGo 1 ds with | some m => decide (m ≤ 256) | none => false) else false) = true := h
    by_cases hc : 1 ≤ ds.length ∧ ds.length ≤ 5
    · rw [if_pos hc] at h'
      cases e : sizeGo 1 ds with
      | none =>
        rw [e] at h'
        cases h'
      | some r =>
        obtain ⟨ps, rfl⟩ := sizeGo_ints e
        exact ⟨ps, rfl, h⟩
    · rw [if_neg hc] at h'
      cases h'
  | _ => cases h
theorem ok_law_flag (T : Txt K mg) : FnOk P w K mg base CX0 1 T.f_law_flag T.d_law_flag ["told", "due"] (fun vs H Q _ => ∃ a b : Bool, vs = [.bl a, .bl b] ∧ Q (.bl (decide (a = b))) H) := by
  refine T.F_law_flag.ok sc_law_flag (fun vs H Q E h => ?_) (fun cdv A outer s H vs Q E hr h => ?_)
  · obtain ⟨_, _, rfl, _⟩ := h
    rfl
  · obtain ⟨a, b, rfl, q⟩ := h
    refine ⟨_, (pss_one (ps_ret (pe_and (pe_callB (call_isiK' K) (by rfl) T.z_isinstance (by decide +kernel) (pa_cons (pv 0) (pa_cons (pe_bltn (v := .ty "bool") (by rfl) T.z_bool (by decide +kernel) rfl) pa_nil))) (pe_one (pe_cmpR op_eq (pv 0) (pv 1) (nomark _)))))), ?_⟩
    refine ⟨_, rfl, _, _, _, _, _, rfl, .ty _, .base (.bl a), kit_ty (show kitB "bool" "bool" = some true by decide +kernel), _, rfl, iteT ?_⟩
    refine ⟨_, rfl, _, rfl, rfl, ?_⟩
    have e : decide (V.bl a = V.bl b) = decide (a = b) := by cases a <;> cases b <;> rfl
    rw [e]
    exact q
theorem isCont_inv {ss : List Int} {d : Dt} (h : d.isCont ss = true) : ∃ c, d = ctD c ∧ IsCt ss c := by
  cases d with
  | tup ds =>
    have h' : (ds.length == ss.length && contGo ss ds) = true := h
    rw [Bool.and_eq_true] at h'
    have hl : ds.length = ss.length := by simpa using h'.1
    have key : ∀ (ss : List Int) (ds : List Dt), ds.length = ss.length → contGo ss ds = true → ∃ c : List Int, ds = c.map Dt.int := by
      intro ss
      induction ss with
      | nil =>
        intro ds hl _
        exact ⟨[], List.eq_nil_of_length_eq_zero hl⟩
      | cons s ss ih =>
        intro ds hl hc
        match ds, hl, hc with
        | d :: ds, hl, hc =>
          cases d with
          | int i =>
            have z : (if 0 ≤ i ∧ i < s then contGo ss ds else false) = true := hc
            by_cases y : 0 ≤ i ∧ i < s
            · rw [if_pos y] at z
              obtain ⟨c, rfl⟩ := ih ds (by simpa using hl) z
              exact ⟨i :: c, rfl⟩
            · rw [if_neg y] at z
              cases z
          | _ => cases hc
    obtain ⟨c, rfl⟩ := key ss ds hl h'.2
    exact ⟨c, rfl, h⟩
  | _ => cases h

end
end Fm
namespace Fm
open PySem PySem.Spec PyProof.Rows L2
section
variable {P : Program} {w : World} {K : PySem.W.Frag} {mg : Str → Option Value} {base : Heap}

/-! ### fractions -/
def gz (t b : Int) : Int := ((Nat.gcd t.natAbs b.natAbs : Nat) : Int)
def lowZ (t b : Int) : Int × Int := (t / gz t b, b / gz t b)
def plusZ (p q : Int × Int) : Int × Int := lowZ (p.1 * q.2 + q.1 * p.2) (p.2 * q.2)
abbrev frD (p : Int × Int) : Dt := ctD [p.1, p.2]
/-- at most n, over a bottom of at most B -/
structure Fr (n B : Nat) (p : Int × Int) : Prop where
  pos : 0 < p.2
  bot : p.2 ≤ B
  top0 : 0 ≤ p.1
  top : p.1 ≤ n * p.2
theorem gz_pos {t b : Int} (h : 0 < b) : 0 < gz t b := by
  unfold gz
  have : 0 < Nat.gcd t.natAbs b.natAbs := Nat.gcd_pos_of_pos_right _ (by omega)
  omega
theorem gz_dvd (t b : Int) : gz t b ∣ t ∧ gz t b ∣ b := by
  unfold gz
  exact ⟨Int.ofNat_dvd_left.mpr (Nat.gcd_dvd_left _ _), Int.ofNat_dvd_left.mpr (Nat.gcd_dvd_right _ _)⟩
theorem gz_le {t b : Int} (h : 0 < b) : gz t b ≤ b := Int.le_of_dvd h (gz_dvd t b).2
theorem low_fr {n B : Nat} {t b : Int} (h0 : 0 < b) (hb : b ≤ B) (ht : 0 ≤ t) (hn : t ≤ n * b) : Fr n B (lowZ t b) := by
  have g0 := gz_pos (t := t) h0
  obtain ⟨⟨x, hx⟩, ⟨y, hy⟩⟩ := gz_dvd t b
  have e1 : t / gz t b = x := by conv => lhs; lhs; rw [hx]
                                 exact Int.mul_ediv_cancel_left _ (by omega)
  have e2 : b / gz t b = y := by conv => lhs; lhs; rw [hy]
                                 exact Int.mul_ediv_cancel_left _ (by omega)
  have y0 : 0 < y := by
    rcases Int.lt_or_le 0 y with h | h
    · exact h
    · have : gz t b * y ≤ 0 := Int.mul_nonpos_of_nonneg_of_nonpos (Int.le_of_lt g0) h
      omega
  have x0 : 0 ≤ x := by
    rcases Int.lt_or_le x 0 with h | h
    · have : gz t b * x < 0 := Int.mul_neg_of_pos_of_neg g0 h
      omega
    · exact h
  have g1 : y ≤ b := by
    have : 1 * y ≤ gz t b * y := Int.mul_le_mul_of_nonneg_right g0 (Int.le_of_lt y0)
    omega
  refine ⟨by show 0 < b / gz t b; rw [e2]; exact y0, by show b / gz t b ≤ B; rw [e2]; omega, by show 0 ≤ t / gz t b; rw [e1]; exact x0, ?_⟩
  show t / gz t b ≤ n * (b / gz t b)
  rw [e1, e2]
  have h2 : gz t b * x ≤ gz t b * (n * y) := by
    rw [← hx, Int.mul_left_comm, ← hy]
    exact hn
  exact Int.le_of_mul_le_mul_left h2 g0
theorem plus_pre {n m B C : Nat} {p q : Int × Int} (hp : Fr n B p) (hq : Fr m C q) : 0 < p.2 * q.2 ∧ p.2 * q.2 ≤ ((B * C : Nat) : Int) ∧ 0 ≤ p.1 * q.2 + q.1 * p.2 ∧ p.1 * q.2 + q.1 * p.2 ≤ ((n + m : Nat) : Int) * (p.2 * q.2) := by
  have a1 := hp.pos
  have a2 := hq.pos
  refine ⟨Int.mul_pos a1 a2, ?_, Int.add_nonneg (Int.mul_nonneg hp.top0 (Int.le_of_lt a2)) (Int.mul_nonneg hq.top0 (Int.le_of_lt a1)), ?_⟩
  · rw [Int.natCast_mul]
    exact Int.mul_le_mul hp.bot hq.bot (Int.le_of_lt a2) (by omega)
  · have h1 : p.1 * q.2 ≤ n * p.2 * q.2 := Int.mul_le_mul_of_nonneg_right hp.top (Int.le_of_lt a2)
    have h2 : q.1 * p.2 ≤ m * q.2 * p.2 := Int.mul_le_mul_of_nonneg_right hq.top (Int.le_of_lt a1)
    rw [Int.natCast_add, Int.add_mul, ← Int.mul_assoc, ← Int.mul_assoc]
    have e : (m : Int) * p.2 * q.2 = m * q.2 * p.2 := by rw [Int.mul_assoc, Int.mul_comm p.2, ← Int.mul_assoc]
    omega
theorem plus_fr {n m B C : Nat} {p q : Int × Int} (hp : Fr n B p) (hq : Fr m C q) : Fr (n + m) (B * C) (plusZ p q) := by
  obtain ⟨h1, h2, h3, h4⟩ := plus_pre hp hq
  exact low_fr h1 h2 h3 h4
theorem nat_bd {x : Int} {m : Nat} (h0 : 0 ≤ x) (h : x ≤ m) (hm : m < 2 ^ 1100) : x.natAbs < 2 ^ 1100 := by omega
/-- all numbers of a sum are below this -/
def top300 : Nat := 10 ^ 300
theorem mul_le {a b : Int} {m n : Nat} (a0 : 0 ≤ a) (b0 : 0 ≤ b) (h1 : a ≤ m) (h2 : b ≤ n) : a * b ≤ ((m * n : Nat) : Int) := by
  rw [Int.natCast_mul]
  exact Int.mul_le_mul h1 h2 b0 (by omega)
theorem Fr.top_le {n B : Nat} {p : Int × Int} (h : Fr n B p) : p.1 ≤ ((n * B : Nat) : Int) := by
  have h1 := h.top
  have h2 : (n : Int) * p.2 ≤ n * B := Int.mul_le_mul_of_nonneg_left h.bot (by omega)
  rw [Int.natCast_mul]
  omega
theorem pow_1100 : 1000 * top300 < 2 ^ 1100 := by decide +kernel
theorem Fr.bds {n B : Nat} {p : Int × Int} (h : Fr n B p) (hn : n ≤ 1000) (hB : B ≤ top300) : p.1.natAbs < 2 ^ 1100 ∧ p.2.natAbs < 2 ^ 1100 := by
  have h1 := h.top_le
  have h2 := h.bot
  have h3 := h.top0
  have h4 := h.pos
  have h5 : n * B ≤ 1000 * top300 := Nat.mul_le_mul hn hB
  have h6 := pow_1100
  refine ⟨?_, ?_⟩
  · have z : p.1.natAbs ≤ n * B := by omega
    omega
  · have z : p.2.natAbs ≤ B := by omega
    have y : B ≤ 1000 * top300 := Nat.le_trans hB (Nat.le_mul_of_pos_left _ (by decide))
    omega
theorem wide_of {a b : Int} (ha : a.natAbs < 2 ^ 1100) (hb : b.natAbs < 2 ^ 1100) : CMulW a b := wide_mul ha hb (by decide) (by decide) (by decide)
theorem div_of {t b : Int} (h : 0 < b) (hb : b.natAbs < 2 ^ 1100) (j : Int) (hj : j = gz t b) (x : Int) : CDivW x j := by
  subst hj
  have g := gz_pos (t := t) h
  have l := gz_le (t := t) h
  exact wide_div g (show (gz t b).natAbs < 2 ^ 1100 by omega) (by decide) (by decide)
def spLow (K : PySem.W.Frag) : Sp := fun vs H Q _ => ∃ t b : Int, vs = [.int t, .int b] ∧ 0 < b ∧ b ≤ (top300 : Int) ∧ 0 ≤ t ∧ ∀ v H', Same H H' → Dh K H' v (frD (lowZ t b)) → Q v H'
theorem bd300 {b : Int} (h : b ≤ (top300 : Int)) (h0 : 0 < b) : b.natAbs < 2 ^ 1100 := by
  have h6 := pow_1100
  have y : top300 ≤ 1000 * top300 := Nat.le_mul_of_pos_left _ (by decide)
  have z : b.natAbs ≤ top300 := by omega
  omega
theorem ok_fraction (T : Txt K mg) : FnOk P w K mg base CX0 1 T.f_fraction T.d_fraction ["top", "bottom"] (spLow K) := by
  refine T.F_fraction.ok sc_fraction (fun vs H Q E h => ?_) (fun cdv A outer s H vs Q E hr h => ?_)
  · obtain ⟨_, _, rfl, _⟩ := h
    rfl
  · obtain ⟨t, b, rfl, b0, b1, t0, q⟩ := h
    have hb := bd300 b1 b0
    refine ⟨_, (pss_cons (ps_set (i := 2) sc_fraction.nd rfl (.inl rfl) (pe_callBfun cr_gcd (by rfl) T.w_gcd (pa_cons (pv 0) (pa_cons (pv 1) pa_nil))))
      (pss_one (ps_ret (pe_tup (pa_cons (pe_op op_fdivW (pv 0) (pv 2)) (pa_cons (pe_op op_fdivW (pv 1) (pv 2)) pa_nil)))))), ?_⟩
    refine ⟨_, rfl, _, rfl, t, b, rfl, ?_⟩
    refine ⟨_, rfl, _, rfl, _, _, rfl, rfl, div_of b0 hb _ rfl _, _, rfl, _, rfl, _, _, rfl, rfl, div_of b0 hb _ rfl _, by show 2 ≤ sizeLine; decide, fun p np => ?_⟩
    exact q _ _ (same_new np) (dh_ct (c := [_, _]) (SqT.of upd_same))
def spPlus (K : PySem.W.Frag) : Sp := fun vs H Q _ => ∃ (a b : Addr) (p q : Int × Int) (n m B C : Nat), vs = [.ref a, .ref b] ∧ SqT K H a [.int p.1, .int p.2] ∧ SqT K H b [.int q.1, .int q.2] ∧ Fr n B p ∧ Fr m C q ∧ n + m ≤ 1000 ∧ B * C ≤ top300 ∧ 1 ≤ B ∧ 1 ≤ C ∧ ∀ v H', Same H H' → Dh K H' v (frD (plusZ p q)) → Q v H'
theorem ok_plus (T : Txt K mg) : FnOk P w K mg base CX0 2 T.f_plus T.d_plus ["one", "other"] (spPlus K) := by
  refine T.F_plus.ok sc_plus (fun vs H Q E h => ?_) (fun cdv A outer s H vs Q E hr h => ?_)
  · obtain ⟨_, _, _, _, _, _, _, _, rfl, _⟩ := h
    rfl
  · obtain ⟨a, b, p, q', n, m, B, C, rfl, ha, hb, fp, fq, nm, bc, b1, c1, q⟩ := h
    have lB : B ≤ top300 := Nat.le_trans (Nat.le_mul_of_pos_right _ c1) bc
    have lC : C ≤ top300 := Nat.le_trans (Nat.le_mul_of_pos_left _ b1) bc
    obtain ⟨x1, x2⟩ := fp.bds (by omega) lB
    obtain ⟨y1, y2⟩ := fq.bds (by omega) lC
    obtain ⟨h1, h2, h3, h4⟩ := plus_pre fp fq
    refine ⟨_, (pss_one (ps_ret (pe_call (ok_fraction T) hr (by rfl) T.g_fraction T.F_fraction.kp T.b_fraction .nil pass0 (pa_cons (pe_op op_add (pe_op op_mulW (pe_ix (ix_tupK K) (pv 0) pe_int (fun _ _ => rfl)) (pe_ix (ix_tupK K) (pv 1) pe_int (fun _ _ => rfl))) (pe_op op_mulW (pe_ix (ix_tupK K) (pv 1) pe_int (fun _ _ => rfl)) (pe_ix (ix_tupK K) (pv 0) pe_int (fun _ _ => rfl)))) (pa_cons (pe_op op_mulW (pe_ix (ix_tupK K) (pv 0) pe_int (fun _ _ => rfl)) (pe_ix (ix_tupK K) (pv 1) pe_int (fun _ _ => rfl))) pa_nil))))), ?_⟩
    refine ⟨_, rfl, a, _, 0, _, rfl, rfl, ha, atI_nat (j := 0) rfl, _, rfl, b, _, 1, _, rfl, rfl, hb, atI_nat (j := 1) rfl, _, _, rfl, rfl, wide_of x1 y2, ?_⟩
    refine ⟨_, rfl, b, _, 0, _, rfl, rfl, hb, atI_nat (j := 0) rfl, _, rfl, a, _, 1, _, rfl, rfl, ha, atI_nat (j := 1) rfl, _, _, rfl, rfl, wide_of y1 x2, _, _, rfl, rfl, ?_⟩
    refine ⟨_, rfl, a, _, 1, _, rfl, rfl, ha, atI_nat (j := 1) rfl, _, rfl, b, _, 1, _, rfl, rfl, hb, atI_nat (j := 1) rfl, _, _, rfl, rfl, wide_of x2 y2, ?_⟩
    exact ⟨_, _, rfl, h1, Int.le_trans h2 (by omega), h3, q⟩

end
end Fm
namespace Fm
open PySem PySem.Spec PyProof.Rows L2
section
variable {P : Program} {w : World} {K : PySem.W.Frag} {mg : Str → Option Value} {base : Heap}

/-! ### the law's fractions -/
/-- Euclid: behind i turns -/
def Eu (i a b : Nat) : Prop := b = 0 ∨ (i = 0 ∧ b ≤ top300) ∨ (b ≤ a ∧ a * b < 2 ^ (2000 - i))
theorem top_sq : top300 * top300 < 2 ^ 1999 := by decide +kernel
theorem Eu.step {i a b : Nat} (h : Eu i a b) (hb : b ≠ 0) (hi : i < 2000) : Eu (i + 1) b (a % b) := by
  have b0 : 0 < b := Nat.pos_of_ne_zero hb
  have hm := Nat.mod_lt a b0
  rcases h with h | ⟨rfl, h⟩ | ⟨h1, h2⟩
  · exact absurd h hb
  · refine .inr (.inr ⟨Nat.le_of_lt hm, ?_⟩)
    have z : b * (a % b) ≤ top300 * top300 := Nat.mul_le_mul h (Nat.le_trans (Nat.le_of_lt hm) h)
    exact Nat.lt_of_le_of_lt z top_sq
  · refine .inr (.inr ⟨Nat.le_of_lt hm, ?_⟩)
    have e := Nat.div_add_mod a b
    have q1 : 1 ≤ a / b := Nat.div_pos h1 b0
    have z1 : b * 1 ≤ b * (a / b) := Nat.mul_le_mul_left _ q1
    have z2 : 2 * (a % b) ≤ a := by omega
    have z3 : b * (2 * (a % b)) ≤ b * a := Nat.mul_le_mul_left _ z2
    have z4 : b * (2 * (a % b)) = 2 * (b * (a % b)) := by rw [Nat.mul_left_comm]
    have z5 : (2 : Nat) ^ (2000 - i) = 2 * 2 ^ (2000 - (i + 1)) := by
      have : 2000 - i = (2000 - (i + 1)) + 1 := by omega
      rw [this, Nat.pow_succ, Nat.mul_comm]
    have z6 : b * a = a * b := Nat.mul_comm _ _
    omega
theorem Eu.fin {a b : Nat} (h : Eu 2000 a b) : b = 0 := by
  rcases h with h | ⟨h, _⟩ | ⟨h1, h2⟩
  · exact h
  · cases h
  · have z : a * b < 1 := h2
    rcases Nat.eq_zero_or_pos b with h | h
    · exact h
    · have : b * b ≤ a * b := Nat.mul_le_mul_right _ h1
      have : 1 * 1 ≤ b * b := Nat.mul_le_mul h h
      omega
theorem ok_law_low (T : Txt K mg) : FnOk P w K mg base CX0 1 T.f_law_low T.d_law_low ["top", "bottom"] (spLow K) := by
  refine T.F_law_low.ok sc_law_low (fun vs H Q E h => ?_) (fun cdv A outer s H vs Q E hr h => ?_)
  · obtain ⟨_, _, rfl, _⟩ := h
    rfl
  · obtain ⟨t, b, rfl, b0, b1, t0, q⟩ := h
    have hb := bd300 b1 b0
    refine ⟨_, (pss_cons (ps_par (i := 3) (j := 4) (by rfl) sc_law_low.nd rfl rfl (by decide) rfl rfl (pa_cons (pe_callB call_abs (by rfl) T.z_abs (by decide +kernel) (pa_cons (pv 0) pa_nil)) (pa_cons (pv 1) pa_nil)) (by rfl))
      (pss_cons (ps_for PassesOwn.never rfl (pi_range1 (by rfl) T.z_range (pa_cons pe_int pa_nil)) (pg_name (i := 2) sc_law_low.nd rfl (.inl rfl)) (pss_cons (ps_if (pt_cmpR op_eq (pv 4) pe_int (nomark _)) (pss_one ps_break) pss_nil)
      (pss_one (ps_par (i := 3) (j := 4) (by rfl) sc_law_low.nd rfl rfl (by decide) rfl rfl (pa_cons (pv 4) (pa_cons (pe_op op_mod (pe_callTy call_int1 (by rfl) T.z_int (by decide +kernel) (pa_cons (pv 3) pa_nil)) (pv 4)) pa_nil)) (by rfl)))))
      (pss_one (ps_ret (pe_tup (pa_cons (pe_op op_fdivW (pv 0) (pv 3)) (pa_cons (pe_op op_fdivW (pv 1) (pv 3)) pa_nil))))))), ?_⟩
    have hmin : (if t < 0 then -t else t) = t := if_neg (by omega)
    have fin : ∀ (y2 : Option V) (a : Nat) (z4 : Option V) (H' : Hp), Nat.gcd a 0 = Nat.gcd t.natAbs b.natAbs → Same H H' → tRet (tTup (tCons (tOp (rI CDivW fun i j => .int (i / j)) (tVar 0) (tVar 3)) (tCons (tOp (rI CDivW fun i j => .int (i / j)) (tVar 1) (tVar 3)) tNil))) { nx := fun x H' => Q V.non H', rt := Q } [some (.int t), some (.int b), y2, some (.int (a : Int)), z4] H' := by
      intro y2 a z4 H' hg sm
      have ea : (a : Int) = gz t b := by
        rw [Nat.gcd_zero_right] at hg
        unfold gz
        rw [hg]
      rw [ea]
      refine ⟨_, rfl, _, rfl, _, _, rfl, rfl, div_of b0 hb _ rfl _, _, rfl, _, rfl, _, _, rfl, rfl, div_of b0 hb _ rfl _, by show 2 ≤ sizeLine; decide, fun p np => ?_⟩
      exact q _ _ (sm.trans (same_new np)) (dh_ct (c := [_, _]) (SqT.of upd_same))
    refine ⟨_, rfl, t, rfl, _, rfl, _, _, rfl, ?_⟩
    rw [hmin]
    refine ⟨2000, rfl, by decide, by decide, for_range (lo := 0) (n := 2000) (fun i σ H' => ∃ (y2 : Option V) (a c : Nat), σ = [some (.int t), some (.int b), y2, some (.int (a : Int)), some (.int (c : Int))] ∧ Same H H' ∧ Nat.gcd a c = Nat.gcd t.natAbs b.natAbs ∧ Eu i a c)
      ⟨none, t.natAbs, b.natAbs, ?_, Same.refl H, rfl, .inr (.inl ⟨rfl, by omega⟩)⟩ ?_ ?_⟩
    · have e1 : ((t.natAbs : Nat) : Int) = t := by omega
      have e2 : ((b.natAbs : Nat) : Int) = b := by omega
      rw [e1, e2]
      rfl
    · rintro i σ H' hi ⟨y2, a, c, rfl, sm, hg, eu⟩
      refine ⟨_, rfl, rfl, _, rfl, ?_⟩
      rw [dec_int]
      by_cases hc : c = 0
      · subst hc
        refine iteT ?_
        exact fin _ a _ H' hg sm
      · have e : ((c : Int) == 0) = false := beq_eq_false_iff_ne.mpr (by omega)
        rw [e]
        refine iteF ?_
        refine ⟨_, rfl, _, rfl, .inl ⟨_, rfl, _, rfl, _, _, rfl, rfl, by omega, _, _, rfl, _, c, a % c, rfl, sm, ?_, eu.step hc hi⟩⟩
        rw [← hg, Nat.gcd_comm c (a % c), ← Nat.gcd_rec, Nat.gcd_comm]
    · rintro σ H' ⟨y2, a, c, rfl, sm, hg, eu⟩
      have hc := eu.fin
      subst hc
      exact fin _ a _ H' hg sm
theorem ok_law_plus (T : Txt K mg) : FnOk P w K mg base CX0 2 T.f_law_plus T.d_law_plus ["one", "other"] (spPlus K) := by
  refine T.F_law_plus.ok sc_law_plus (fun vs H Q E h => ?_) (fun cdv A outer s H vs Q E hr h => ?_)
  · obtain ⟨_, _, _, _, _, _, _, _, rfl, _⟩ := h
    rfl
  · obtain ⟨a, b, p, q', n, m, B, C, rfl, ha, hb, fp, fq, nm, bc, b1, c1, q⟩ := h
    have lB : B ≤ top300 := Nat.le_trans (Nat.le_mul_of_pos_right _ c1) bc
    have lC : C ≤ top300 := Nat.le_trans (Nat.le_mul_of_pos_left _ b1) bc
    obtain ⟨x1, x2⟩ := fp.bds (by omega) lB
    obtain ⟨y1, y2⟩ := fq.bds (by omega) lC
    obtain ⟨h1, h2, h3, h4⟩ := plus_pre fp fq
    refine ⟨_, (pss_one (ps_ret (pe_call (ok_law_low T) hr (by rfl) T.g_law_low T.F_law_low.kp T.b_law_low .nil pass0 (pa_cons (pe_op op_add (pe_op op_mulW (pe_ix (ix_tupK K) (pv 0) pe_int (fun _ _ => rfl)) (pe_ix (ix_tupK K) (pv 1) pe_int (fun _ _ => rfl))) (pe_op op_mulW (pe_ix (ix_tupK K) (pv 1) pe_int (fun _ _ => rfl)) (pe_ix (ix_tupK K) (pv 0) pe_int (fun _ _ => rfl)))) (pa_cons (pe_op op_mulW (pe_ix (ix_tupK K) (pv 0) pe_int (fun _ _ => rfl)) (pe_ix (ix_tupK K) (pv 1) pe_int (fun _ _ => rfl))) pa_nil))))), ?_⟩
    refine ⟨_, rfl, a, _, 0, _, rfl, rfl, ha, atI_nat (j := 0) rfl, _, rfl, b, _, 1, _, rfl, rfl, hb, atI_nat (j := 1) rfl, _, _, rfl, rfl, wide_of x1 y2, ?_⟩
    refine ⟨_, rfl, b, _, 0, _, rfl, rfl, hb, atI_nat (j := 0) rfl, _, rfl, a, _, 1, _, rfl, rfl, ha, atI_nat (j := 1) rfl, _, _, rfl, rfl, wide_of y1 x2, _, _, rfl, rfl, ?_⟩
    refine ⟨_, rfl, a, _, 1, _, rfl, rfl, ha, atI_nat (j := 1) rfl, _, rfl, b, _, 1, _, rfl, rfl, hb, atI_nat (j := 1) rfl, _, _, rfl, rfl, wide_of x2 y2, ?_⟩
    exact ⟨_, _, rfl, h1, Int.le_trans h2 (by omega), h3, q⟩
/-- a row of fractions -/
def sumZ (l : List (Int × Int)) : Int × Int := l.foldl plusZ (0, 1)
def B30 : Nat := 10 ^ 30
def nzs (l : List (Int × Int)) : List (Int × Int) := l.filter fun p => decide (p ≠ (0, 1))
/-- fractions of which all sums stay small -/
structure Frs (l : List (Int × Int)) : Prop where
  each : ∀ p ∈ l, p = (0, 1) ∨ Fr 1 B30 p
  few : (nzs l).length ≤ 10
theorem zero_fr : Fr 0 1 (0, 1) := ⟨by decide, by decide, by decide, by decide⟩
theorem b30_pow : B30 ^ 10 = top300 := by decide +kernel
theorem b30_le {k : Nat} (h : k ≤ 10) : B30 ^ k ≤ top300 := b30_pow ▸ Nat.pow_le_pow_right (by decide) h
theorem sumZ_snoc (l : List (Int × Int)) (p : Int × Int) : sumZ (l ++ [p]) = plusZ (sumZ l) p := by
  unfold sumZ
  rw [List.foldl_append]
  rfl
theorem nzs_take (l : List (Int × Int)) (i : Nat) : (nzs (l.take i)).length ≤ (nzs l).length := by
  conv => rhs; rw [← List.take_append_drop i l]
  unfold nzs
  rw [List.filter_append, List.length_append]
  omega
theorem Frs.take {l : List (Int × Int)} (h : Frs l) (i : Nat) : Frs (l.take i) := ⟨fun p hp => h.each p (List.mem_of_mem_take hp), Nat.le_trans (nzs_take l i) h.few⟩
theorem sum_at {l : List (Int × Int)} (h : Frs l) : ∀ i, Fr (nzs (l.take i)).length (B30 ^ (nzs (l.take i)).length) (sumZ (l.take i))
  | 0 => by
    rw [List.take_zero]
    exact zero_fr
  | i + 1 => by
    cases e : l[i]? with
    | none =>
      have ih := sum_at h i
      rw [List.take_add_one, e]
      simpa using ih
    | some p =>
      have ih := sum_at h i
      have e2 : l.take (i + 1) = l.take i ++ [p] := by rw [List.take_add_one, e]; rfl
      rw [e2, sumZ_snoc]
      rcases h.each p (List.mem_of_getElem? e) with hz | hz
      · have e3 : nzs (l.take i ++ [p]) = nzs (l.take i) := by
          unfold nzs
          rw [List.filter_append, hz]
          simp
        rw [e3]
        have := plus_fr ih zero_fr
        rw [hz]
        simpa using this
      · by_cases hp : p = (0, 1)
        · have e3 : nzs (l.take i ++ [p]) = nzs (l.take i) := by
            unfold nzs
            rw [List.filter_append, hp]
            simp
          rw [e3]
          have := plus_fr ih zero_fr
          rw [hp]
          simpa using this
        · have e3 : (nzs (l.take i ++ [p])).length = (nzs (l.take i)).length + 1 := by
            unfold nzs
            rw [List.filter_append, List.length_append]
            simp [hp]
          rw [e3, Nat.pow_succ]
          exact plus_fr ih hz
/-- one more: what the sum asks -/
theorem sum_next {l : List (Int × Int)} (h : Frs l) {i : Nat} {p : Int × Int} (e : l[i]? = some p) : ∃ n m B C, Fr n B (sumZ (l.take i)) ∧ Fr m C p ∧ n + m ≤ 1000 ∧ B * C ≤ top300 ∧ 1 ≤ B ∧ 1 ≤ C := by
  have ih := sum_at h i
  have hk : (nzs (l.take i)).length ≤ 10 := (h.take i).few
  have one : 1 ≤ B30 ^ (nzs (l.take i)).length := Nat.pow_pos (by decide)
  by_cases hp : p = (0, 1)
  · subst hp
    exact ⟨_, 0, _, 1, ih, zero_fr, by omega, by rw [Nat.mul_one]; exact b30_le hk, one, Nat.le_refl 1⟩
  · rcases h.each p (List.mem_of_getElem? e) with hz | hz
    · exact absurd hz hp
    · have hk2 : (nzs (l.take i)).length + 1 ≤ 10 := by
        have z := (h.take (i + 1)).few
        have e2 : l.take (i + 1) = l.take i ++ [p] := by rw [List.take_add_one, e]; rfl
        rw [e2] at z
        unfold nzs at z ⊢
        rw [List.filter_append, List.length_append] at z
        simpa [hp] using z
      refine ⟨_, 1, _, B30, ih, hz, by omega, ?_, one, by decide⟩
      rw [← Nat.pow_succ]
      exact b30_le hk2
theorem fr_inv {K : PySem.W.Frag} {H : Hp} {v : V} {p : Int × Int} (h : Dh K H v (frD p)) : ∃ a, v = .ref a ∧ SqT K H a [.int p.1, .int p.2] := ct_inv h
def spSum (K : PySem.W.Frag) : Sp := fun vs H Q _ => ∃ (a : Addr) (xs : List V) (l : List (Int × Int)), vs = [.ref a] ∧ SqL K H a xs ∧ DhAll K H xs (l.map frD) ∧ Frs l ∧ ∀ v H', Same H H' → Dh K H' v (frD (sumZ l)) → Q v H'
theorem ok_law_sum (T : Txt K mg) : FnOk P w K mg base CX0 3 T.f_law_sum T.d_law_sum ["row"] (spSum K) := by
  refine T.F_law_sum.ok sc_law_sum (fun vs H Q E h => ?_) (fun cdv A outer s H vs Q E hr h => ?_)
  · obtain ⟨_, _, _, rfl, _⟩ := h
    rfl
  · obtain ⟨a, xs, l, rfl, ha, hx, fl, q⟩ := h
    have hl := hx.length
    rw [List.length_map] at hl
    refine ⟨_, (pss_cons (ps_set (i := 1) sc_law_sum.nd rfl (.inl rfl) (pe_tup (pa_cons pe_int (pa_cons pe_int pa_nil))))
      (pss_cons (ps_for PassesOwn.never rfl (pi_listK K (pv 0)) (pg_name (i := 2) sc_law_sum.nd rfl (.inl rfl)) (pss_one (ps_set (i := 1) sc_law_sum.nd rfl (.inl rfl) (pe_call (ok_law_plus T) hr (by rfl) T.g_law_plus T.F_law_plus.kp T.b_law_plus .nil pass0 (pa_cons (pv 1) (pa_cons (pv 2) pa_nil))))))
      (pss_one (ps_ret (pv 1))))), ?_⟩
    refine ⟨by show 2 ≤ sizeLine; decide, fun t nt => ?_⟩
    have s1 : Same H (upd H t (.tup [.int 0, .int 1])) := same_new nt
    refine ⟨_, rfl, a, rfl, ⟨_, s1.seq ha⟩, for_list (K := K) (xs := xs) (fun i σ H' => ∃ (f : V) (y2 : Option V), σ = [some (.ref a), some f, y2] ∧ Same H H' ∧ Dh K H' f (frD (sumZ (l.take i))))
      ⟨_, none, rfl, s1, dh_ct (c := [0, 1]) (SqT.of upd_same)⟩ (fun i σ H' _ ⟨_, _, _, sm, _⟩ => sm.seq ha) ?_ ?_⟩
    · rintro i x σ H' hxi ⟨f, y2, rfl, sm, hf⟩
      obtain ⟨d, hd, hxd⟩ := hx.get hxi
      obtain ⟨p, hp, rfl⟩ := map_at hd
      obtain ⟨n, m, B, C, f1, f2, nm, bc, b1, c1⟩ := sum_next fl hp
      obtain ⟨fa, rfl, hfa⟩ := fr_inv hf
      obtain ⟨xa, rfl, hxa⟩ := fr_inv (hxd.ext (.of sm))
      refine ⟨_, rfl, _, rfl, fa, xa, _, _, n, m, B, C, rfl, hfa, hxa, f1, f2, nm, bc, b1, c1, fun v H2 s2 hv => ⟨v, _, rfl, sm.trans s2, ?_⟩⟩
      have e2 : l.take (i + 1) = l.take i ++ [p] := by rw [List.take_add_one, hp]; rfl
      rw [e2, sumZ_snoc]
      exact hv
    · rintro σ H' ⟨f, y2, rfl, sm, hf⟩
      rw [hl, List.take_length] at hf
      exact ⟨_, rfl, q f H' sm hf⟩

end
end Fm
namespace Fm
open PySem PySem.Spec PyProof.Rows L2
section
variable {P : Program} {w : World} {K : PySem.W.Frag} {mg : Str → Option Value} {base : Heap}

/-! ### rows of habits judged -/
def two : List Dt → Option (Dt × Dt)
  | [x, y] => some (x, y)
  | _ => none
def Dt.num : Dt → Option Int
  | .int i => some i
  | _ => none
def Dt.fr? : Dt → Option (Int × Int)
  | .tup ds => match two ds with
    | some (x, y) => match x.num, y.num with
      | some t, some b => some (t, b)
      | _, _ => none
    | none => none
  | _ => none
def Dt.zz (d : Dt) : Int × Int := d.fr?.getD (0, 1)
def Dt.isFr (d : Dt) : Bool := match d.fr? with
  | some p => decide (p.2 ≥ 1) && decide (gz p.1 p.2 = 1)
  | none => false
def Dt.isSh0 (d : Dt) : Bool := d.isFr && (decide (0 ≤ d.zz.1) && decide (d.zz.1 ≤ d.zz.2))
def Dt.isShr (d : Dt) : Bool := match d.fr? with
  | some p => decide (1 ≤ p.1) && (decide (p.1 ≤ p.2) && decide (gz p.1 p.2 = 1))
  | none => false
theorem two_inv {ds : List Dt} {x y : Dt} (h : two ds = some (x, y)) : ds = [x, y] := by
  match ds, h with
  | [a, b], h =>
    cases h
    rfl
  | [], h => cases h
  | [_], h => cases h
  | _ :: _ :: _ :: _, h => cases h
theorem num_inv {d : Dt} {i : Int} (h : d.num = some i) : d = .int i := by
  cases d with
  | int j =>
    cases h
    rfl
  | _ => cases h
theorem fr_inv? {d : Dt} {p : Int × Int} (h : d.fr? = some p) : d = .tup [.int p.1, .int p.2] := by
  cases d with
  | tup ds =>
    have h' : (match two ds with
      | some (x, y) => match x.num, y.num with
        | some t, some b => some (t, b)
        | _, _ => none
      | none => none) = some p := h
    cases e : two ds with
    | none =>
      rw [e] at h'
      cases h'
    | some xy =>
      obtain ⟨x, y⟩ := xy
      rw [e] at h'
      have h2 : (match x.num, y.num with
        | some t, some b => some (t, b)
        | _, _ => none) = some p := h'
      rw [two_inv e]
      cases e1 : x.num with
      | none =>
        rw [e1] at h2
        cases h2
      | some t =>
        cases e2 : y.num with
        | none =>
          rw [e1, e2] at h2
          cases h2
        | some b =>
          rw [e1, e2] at h2
          cases h2
          rw [num_inv e1, num_inv e2]
  | _ => cases h
theorem num_none {d : Dt} (h : d.isW = false) : d.num = none := by
  cases d with
  | int _ => cases h
  | _ => rfl
theorem fr_two {x y : Dt} (h : x.isW = false ∨ y.isW = false) : (Dt.tup [x, y]).fr? = none := by
  show (match x.num, y.num with
        | some t, some b => some (t, b)
        | _, _ => none) = none
  rcases h with h | h
  · rw [num_none h]
  · rw [num_none h]
    cases x.num <;> rfl
def m_is_fraction : List Dt → Option Dt
  | [d] => some (.bl d.isFr)
  | _ => none
def m_is_share : List Dt → Option Dt
  | [d] => some (.bl d.isSh0)
  | _ => none
theorem notpair_fr {d : Dt} (h : d.isPair = false) : d.fr? = none := by
  cases e : d.fr? with
  | none => rfl
  | some p =>
    rw [fr_inv? e] at h
    cases h
theorem isFr_none {d : Dt} (h : d.fr? = none) : d.isFr = false := by
  unfold Dt.isFr
  rw [h]
theorem pair_inv {d : Dt} (h : d.isPair = true) : ∃ x y, d = .tup [x, y] := by
  cases d with
  | tup ds =>
    match ds, h with
    | [x, y], _ => exact ⟨x, y, rfl⟩
    | [], h => cases h
    | [_], h => cases h
    | _ :: _ :: _ :: _, h => exact absurd h (by simp [Dt.isPair])
  | _ => cases h
theorem isW_inv {d : Dt} (h : d.isW = true) : ∃ i, d = .int i := by
  cases d with
  | int i => exact ⟨i, rfl⟩
  | _ => cases h
theorem ok_is_fraction (T : Txt K mg) : FnOk P w K mg base CX0 2 T.f_is_fraction T.d_is_fraction ["thing"] (spD K m_is_fraction) := by
  refine T.F_is_fraction.ok sc_is_fraction (fun vs H Q E h => ?_) (fun cdv A outer s H vs Q E hr h => ?_)
  · obtain ⟨ds, r, hd, e, _⟩ := h
    exact match ds, e, hd with | [_], _, hd => hd.length
  · obtain ⟨ds, r, hd, e, q⟩ := h
    match ds, e, hd, q with
    | [d], e, .cons h .nil, q =>
      cases e
      have q : ∀ H', Same H H' → Q (.bl d.isFr) H' := fun H' s => q _ H' s (.bl _)
      refine ⟨_, (pss_cons (ps_if (pt_not (pt_val (pe_call (ok_is_pair T) hr (by rfl) T.g_is_pair T.F_is_pair.kp T.b_is_pair .nil pass0 (pa_cons (pv 0) pa_nil)))) (pss_one (ps_ret pe_bl)) pss_nil)
      (pss_cons (ps_asg (pv 0) (pg_tupK K (n := 2) rfl (pgs_cons (pg_name (i := 1) sc_is_fraction.nd rfl (.inl rfl)) (pgs_cons (pg_name (i := 2) sc_is_fraction.nd rfl (.inl rfl)) pgs_nil))))
      (pss_one (ps_ret (pe_and (pe_call (ok_is_whole T) hr (by rfl) T.g_is_whole T.F_is_whole.kp T.b_is_whole .nil pass0 (pa_cons (pv 1) pa_nil)) (pe_and (pe_call (ok_is_whole T) hr (by rfl) T.g_is_whole T.F_is_whole.kp T.b_is_whole .nil pass0 (pa_cons (pv 2) pa_nil)) (pe_and (pe_cmpR op_ge (pv 2) pe_int (nomark _)) (pe_one (pe_cmpR op_eq (pe_callBfun cr_gcd (by rfl) T.w_gcd (pa_cons (pv 1) (pa_cons (pv 2) pa_nil))) pe_int (nomark _)))))))))), ?_⟩
      refine ⟨_, rfl, spD_bl (.cons h .nil) rfl fun H1 s1 => ⟨_, rfl, ?_⟩⟩
      cases hp : d.isPair with
      | false =>
        refine iteT ?_
        rw [isFr_none (notpair_fr hp)] at q
        exact q H1 s1
      | true =>
        refine iteF ?_
        obtain ⟨x, y, rfl⟩ := pair_inv hp
        obtain ⟨a, xs, rfl, ha, hx⟩ := (h.ext (.of s1)).tup_inv
        obtain ⟨v1, v2, rfl, h1, h2⟩ := dh_two hx
        refine ⟨_, rfl, a, _, rfl, ha, rfl, _, _, rfl, _, _, rfl, rfl, ?_⟩
        refine ⟨_, rfl, spD_bl (.cons h1 .nil) rfl fun H2 s2 => ⟨_, rfl, ?_⟩⟩
        cases hw : x.isW with
        | false =>
          refine iteF ?_
          rw [isFr_none (fr_two (.inl hw))] at q
          exact q H2 (s1.trans s2)
        | true =>
          refine iteT ?_
          refine ⟨_, rfl, spD_bl (.cons (h2.ext (.of s2)) .nil) rfl fun H3 s3 => ⟨_, rfl, ?_⟩⟩
          have s13 := (s1.trans s2).trans s3
          cases hw2 : y.isW with
          | false =>
            refine iteF ?_
            rw [isFr_none (fr_two (.inr hw2))] at q
            exact q H3 s13
          | true =>
            refine iteT ?_
            obtain ⟨t, rfl⟩ := isW_inv hw
            obtain ⟨b, rfl⟩ := isW_inv hw2
            cases h1
            cases h2
            have eq0 : (Dt.tup [.int t, .int b]).isFr = (decide (b ≥ 1) && decide (gz t b = 1)) := rfl
            rw [eq0] at q
            refine ⟨_, rfl, _, _, rfl, rfl, _, rfl, ?_⟩
            refine ite2 (fun h1 => ?_) (fun h1 => ?_)
            · rw [h1, Bool.true_and] at q
              refine ⟨_, rfl, _, rfl, t, b, rfl, rfl, ?_⟩
              have e : decide (V.int ((Nat.gcd t.natAbs b.natAbs : Nat) : Int) = V.int 1) = decide (gz t b = 1) := by
                rw [dec_int]
                unfold gz
                rw [Bool.eq_iff_iff]
                simp
              rw [e]
              exact q H3 s13
            · have h1' : decide (b ≥ 1) = false := by simpa using h1
              rw [h1', Bool.false_and] at q
              exact q H3 s13
theorem sh0_fr {d : Dt} (h : d.isFr = false) : d.isSh0 = false := by
  unfold Dt.isSh0
  rw [h, Bool.false_and]
theorem fr_shape {d : Dt} (h : d.isFr = true) : ∃ t b, d = .tup [.int t, .int b] := by
  unfold Dt.isFr at h
  cases e : d.fr? with
  | none =>
    rw [e] at h
    cases h
  | some p => exact ⟨_, _, fr_inv? e⟩
theorem ok_is_share (T : Txt K mg) : FnOk P w K mg base CX0 3 T.f_is_share T.d_is_share ["thing"] (spD K m_is_share) := by
  refine T.F_is_share.ok sc_is_share (fun vs H Q E h => ?_) (fun cdv A outer s H vs Q E hr h => ?_)
  · obtain ⟨ds, r, hd, e, _⟩ := h
    exact match ds, e, hd with | [_], _, hd => hd.length
  · obtain ⟨ds, r, hd, e, q⟩ := h
    match ds, e, hd, q with
    | [d], e, .cons h .nil, q =>
      cases e
      have q : ∀ H', Same H H' → Q (.bl d.isSh0) H' := fun H' s => q _ H' s (.bl _)
      refine ⟨_, (pss_one (ps_ret (pe_and (pe_call (ok_is_fraction T) hr (by rfl) T.g_is_fraction T.F_is_fraction.kp T.b_is_fraction .nil pass0 (pa_cons (pv 0) pa_nil)) (pe_one (pe_chain op_le op_le pe_int (pe_ix (ix_tupK K) (pv 0) pe_int (fun _ _ => rfl)) (pe_ix (ix_tupK K) (pv 0) pe_int (fun _ _ => rfl))))))), ?_⟩
      refine ⟨_, rfl, spD_bl (.cons h .nil) rfl fun H1 s1 => ⟨_, rfl, ?_⟩⟩
      cases hf : d.isFr with
      | false =>
        refine iteF ?_
        rw [sh0_fr hf] at q
        exact q H1 s1
      | true =>
        refine iteT ?_
        obtain ⟨t, b, rfl⟩ := fr_shape hf
        have hf' : (decide (b ≥ 1) && decide (gz t b = 1)) = true := hf
        have eq0 : (Dt.tup [.int t, .int b]).isSh0 = ((decide (b ≥ 1) && decide (gz t b = 1)) && (decide (0 ≤ t) && decide (t ≤ b))) := rfl
        rw [eq0, hf', Bool.true_and] at q
        obtain ⟨a, rfl, ha⟩ := ct_inv (c := [t, b]) h
        have ha1 := (Ext.of s1).sqT ha
        refine ⟨_, rfl, a, _, 0, _, rfl, rfl, ha1, atI_nat (j := 0) rfl, _, _, rfl, rfl, _, rfl, ?_⟩
        refine ite2 (fun h1 => ?_) (fun h1 => ?_)
        · rw [h1, Bool.true_and] at q
          exact ⟨_, rfl, a, _, 1, _, rfl, rfl, ha1, atI_nat (j := 1) rfl, _, _, rfl, rfl, q H1 s1⟩
        · have h1' : decide (0 ≤ t) = false := by simpa using h1
          rw [h1', Bool.false_and] at q
          exact q H1 s1
/-- a share that is not 0 -/
theorem shr_eq (d : Dt) : d.isShr = (d.isSh0 && decide (d.zz ≠ (0, 1))) := by
  cases h : d.fr? with
  | none =>
    rw [sh0_fr (isFr_none h), Bool.false_and]
    unfold Dt.isShr
    rw [h]
  | some p =>
    obtain ⟨t, b⟩ := p
    rw [fr_inv? h]
    show (decide (1 ≤ t) && (decide (t ≤ b) && decide (gz t b = 1))) = (((decide (b ≥ 1) && decide (gz t b = 1)) && (decide (0 ≤ t) && decide (t ≤ b))) && decide ((t, b) ≠ (0, 1)))
    have hz : gz t b = 1 → b ≥ 1 → t = 0 → b = 1 := fun hg hb e => by
      unfold gz at hg
      rw [e, Int.natAbs_zero, Nat.gcd_zero_left] at hg
      omega
    rw [Bool.eq_iff_iff]
    simp only [Bool.and_eq_true, decide_eq_true_eq, ne_eq, Prod.mk.injEq, not_and]
    constructor
    · rintro ⟨h1, h2, h3⟩
      exact ⟨⟨⟨by omega, h3⟩, by omega, h2⟩, by omega⟩
    · rintro ⟨⟨⟨h1, h2⟩, h3, h4⟩, h5⟩
      refine ⟨?_, h4, h2⟩
      by_cases e : t = 0
      · exact absurd (hz h2 h1 e) (h5 e)
      · omega
theorem zz_sh0 {d : Dt} (h : d.isSh0 = true) : ∃ t b : Int, d = .tup [.int t, .int b] ∧ d.zz = (t, b) := by
  cases hf : d.isFr with
  | false =>
    rw [sh0_fr hf] at h
    cases h
  | true =>
    obtain ⟨t, b, rfl⟩ := fr_shape hf
    exact ⟨t, b, rfl, rfl⟩
def Dt.p1 : Dt → Dt
  | .tup ds => match two ds with
    | some (x, _) => x
    | none => .non
  | _ => .non
def Dt.p2 : Dt → Dt
  | .tup ds => match two ds with
    | some (_, y) => y
    | none => .non
  | _ => .non
def lastLt : Option (List Int) → List Int → Bool
  | none, _ => true
  | some l, p => HT.lexLt l p
def rowGo (n : Int) : Option (List Int) → Int × Int → List Dt → Bool
  | _, tot, [] => decide (tot = (1, 1))
  | last, tot, d :: r => d.isPair && (d.p1.isPat n && (d.p2.isShr && (lastLt last d.p1.ints && rowGo n (some d.p1.ints) (plusZ tot d.p2.zz) r)))
def Dt.isRow (n : Int) : Dt → Bool
  | .tup ds => rowGo n none (0, 1) ds
  | _ => false
/-- what is drawn: numbers and tuples that are not great -/
inductive Wf : Dt → Prop
  | non : Wf .non
  | bl (b : Bool) : Wf (.bl b)
  | int {i : Int} : i.natAbs ≤ B30 → Wf (.int i)
  | str (s : Str) : Wf (.str s)
  | tup {ds : List Dt} : ds.length ≤ 10 → (∀ d ∈ ds, Wf d) → Wf (.tup ds)
  | oth (t : Value) : Wf (.oth t)
theorem Wf.items {ds : List Dt} (h : Wf (.tup ds)) : ds.length ≤ 10 ∧ ∀ d ∈ ds, Wf d := by
  cases h with
  | tup h1 h2 => exact ⟨h1, h2⟩
theorem Wf.num {i : Int} (h : Wf (.int i)) : i.natAbs ≤ B30 := by
  cases h with
  | int h => exact h
theorem shr_fr {d : Dt} (h : d.isShr = true) (hw : Wf d) : Fr 1 B30 d.zz := by
  rw [shr_eq, Bool.and_eq_true] at h
  obtain ⟨t, b, rfl, e⟩ := zz_sh0 h.1
  have z : ((decide (b ≥ 1) && decide (gz t b = 1)) && (decide (0 ≤ t) && decide (t ≤ b))) = true := h.1
  rw [Bool.and_eq_true, Bool.and_eq_true, Bool.and_eq_true, decide_eq_true_eq, decide_eq_true_eq, decide_eq_true_eq, decide_eq_true_eq] at z
  have hb := (hw.items.2 (.int b) (by simp)).num
  rw [e]
  exact ⟨by show 0 < b; omega, by show b ≤ (B30 : Int); omega, z.2.1, by show t ≤ ((1 : Nat) : Int) * b; omega⟩

end
end Fm
namespace Fm
open PySem PySem.Spec PyProof.Rows L2
section
variable {P : Program} {w : World} {K : PySem.W.Frag} {mg : Str → Option Value} {base : Heap}

def LastOk (K : PySem.W.Frag) (H : Hp) (v : V) : Option (List Int) → Prop
  | none => v = .non
  | some l => Dh K H v (ctD l)
def spRow (K : PySem.W.Frag) : Sp := fun vs H Q _ => ∃ (n : Int) (v : V) (d : Dt), vs = [.int n, v] ∧ Dh K H v d ∧ Wf d ∧ ∀ H', Same H H' → Q (.bl (d.isRow n)) H'
theorem eqv_fr (p q : Int × Int) : PyData.eqv (ctP [p.1, p.2]) (ctP [q.1, q.2]) = decide (p = q) := by
  rw [eqv_ct, Bool.eq_iff_iff]
  obtain ⟨a, b⟩ := p
  obtain ⟨c, d⟩ := q
  simp
theorem frs_of {ss : List (Int × Int)} (h : ∀ p ∈ ss, Fr 1 B30 p) (hl : ss.length ≤ 10) : Frs ss := ⟨fun p hp => .inr (h p hp), Nat.le_trans (List.length_filter_le _ _) hl⟩
theorem ok_is_habit_row (T : Txt K mg) : FnOk P w K mg base CX0 4 T.f_is_habit_row T.d_is_habit_row ["columns", "thing"] (spRow K) := by
  refine T.F_is_habit_row.ok sc_is_habit_row (fun vs H Q E h => ?_) (fun cdv A outer s H vs Q E hr h => ?_)
  · obtain ⟨_, _, _, rfl, _⟩ := h
    rfl
  · obtain ⟨n, v, d, rfl, h, wf, q⟩ := h
    obtain ⟨t, ty, ki, kt, kb⟩ := h.kinds
    refine ⟨_, (pss_cons (ps_if (pt_not (pt_val (pe_callB (call_isiK' K) (by rfl) T.z_isinstance (by decide +kernel) (pa_cons (pv 1) (pa_cons (pe_bltn (v := .ty "tuple") (by rfl) T.z_tuple (by decide +kernel) rfl) pa_nil))))) (pss_one (ps_ret pe_bl)) pss_nil)
      (pss_cons (ps_set (i := 2) sc_is_habit_row.nd rfl (.inl rfl) pe_non)
      (pss_cons (ps_set (i := 3) sc_is_habit_row.nd rfl (.inl rfl) (pe_glob (by rfl) T.g_ZERO (show L2.RelV (.ref T.v_ZERO) _ from rfl)))
      (pss_cons (ps_for PassesOwn.never rfl (pi_tupK K (pv 1)) (pg_name (i := 4) sc_is_habit_row.nd rfl (.inl rfl)) (pss_cons (ps_if (pt_not (pt_val (pe_call (ok_is_pair T) (hr.mono (by decide)) (by rfl) T.g_is_pair T.F_is_pair.kp T.b_is_pair .nil pass0 (pa_cons (pv 4) pa_nil)))) (pss_one (ps_ret pe_bl)) pss_nil)
      (pss_cons (ps_asg (pv 4) (pg_tupK K (n := 2) rfl (pgs_cons (pg_name (i := 5) sc_is_habit_row.nd rfl (.inl rfl)) (pgs_cons (pg_name (i := 6) sc_is_habit_row.nd rfl (.inl rfl)) pgs_nil))))
      (pss_cons (ps_if (PW.pt (pw_or (pt_not (pt_val (pe_call (ok_is_pattern T) (hr.mono (by decide)) (by rfl) T.g_is_pattern T.F_is_pattern.kp T.b_is_pattern .nil pass0 (pa_cons (pv 0) (pa_cons (pv 5) pa_nil))))) (pw_or (pt_not (pt_val (pe_call (ok_is_share T) hr (by rfl) T.g_is_share T.F_is_share.kp T.b_is_share .nil pass0 (pa_cons (pv 6) pa_nil)))) (pw_or1 (pt_cmpR (op_eqK K hr.units) (pv 6) (pe_glob (by rfl) T.g_ZERO (show L2.RelV (.ref T.v_ZERO) _ from rfl)) (nomark _)))))) (pss_one (ps_ret pe_bl)) pss_nil)
      (pss_cons (ps_if (PW.pt (pw_and (pt_cmpR op_notN (pv 2) pe_non (nomark _)) (pw_and1 (pt_not (pt_cmpR (op_ltTK (K := K) hr.units0) (pv 2) (pv 5) (nomark _)))))) (pss_one (ps_ret pe_bl)) pss_nil)
      (pss_cons (ps_set (i := 2) sc_is_habit_row.nd rfl (.inl rfl) (pv 5))
      (pss_one (ps_set (i := 3) sc_is_habit_row.nd rfl (.inl rfl) (pe_call (ok_plus T) (hr.mono (by decide)) (by rfl) T.g_plus T.F_plus.kp T.b_plus .nil pass0 (pa_cons (pv 3) (pa_cons (pv 6) pa_nil)))))))))))
      (pss_one (ps_ret (pe_cmpR (op_eqK K hr.units) (pv 3) (pe_glob (by rfl) T.g_ONE (show L2.RelV (.ref T.v_ONE) _ from rfl)) (nomark _)))))))), ?_⟩
    refine ⟨_, rfl, _, _, _, _, _, rfl, .ty _, ty, kt, _, rfl, ?_⟩
    cases hi : d.isTup with
    | false =>
      refine iteT ?_
      have e : d.isRow n = false := by cases d <;> first | rfl | cases hi
      rw [e] at q
      exact q H (Same.refl H)
    | true =>
      refine iteF ?_
      cases d with
      | tup ds =>
        obtain ⟨a, xs, rfl, hs, ha⟩ := h.tup_inv
        obtain ⟨w10, wds⟩ := wf.items
        have hl := ha.length
        have eq0 : (Dt.tup ds).isRow n = rowGo n none (0, 1) ds := rfl
        rw [eq0] at q
        refine ⟨_, rfl, a, rfl, ⟨_, hs⟩, for_tup (xs := xs) (fun i σ H' => ∃ (last : Option (List Int)) (v2 v3 : V) (ss : List (Int × Int)) (y4 y5 y6 : Option V), σ = [some (.int n), some (.ref a), some v2, some v3, y4, y5, y6] ∧ Same H H' ∧ LastOk K H' v2 last ∧ Dh K H' v3 (frD (sumZ ss)) ∧ ss.length = i ∧ (∀ p ∈ ss, Fr 1 B30 p) ∧ rowGo n none (0, 1) ds = rowGo n last (sumZ ss) (ds.drop i))
          ⟨none, _, _, [], none, none, none, rfl, Same.refl _, rfl, dh_ct (c := [0, 1]) (T.k_ZERO H), rfl, (fun p hp => by cases hp), rfl⟩ (fun i σ H' _ ⟨_, _, _, _, _, _, _, _, sm, _⟩ => (Ext.of sm).sqT hs) ?_ ?_⟩
        · rintro i x σ H' hx ⟨last, v2, v3, ss, y4, y5, y6, rfl, sm, hlast, h3, hsl, hss, e⟩
          obtain ⟨dx, hdx, hx2⟩ := ha.get hx
          have il := (List.getElem?_eq_some_iff.mp hdx).1
          rw [drop_at hdx] at e
          have e' : rowGo n none (0, 1) ds = (dx.isPair && (dx.p1.isPat n && (dx.p2.isShr && (lastLt last dx.p1.ints && rowGo n (some dx.p1.ints) (plusZ (sumZ ss) dx.p2.zz) (ds.drop (i + 1)))))) := e
          have wdx := wds dx (List.mem_of_getElem? hdx)
          have bad : rowGo n none (0, 1) ds = false → ∀ H2, Same H' H2 → Q (.bl false) H2 := fun z H2 s2 => by
            have z' := q H2 (sm.trans s2)
            rw [z] at z'
            exact z'
          refine ⟨_, rfl, spD_bl (.cons (hx2.ext (.of sm)) .nil) rfl fun H1 s1 => ⟨_, rfl, ?_⟩⟩
          cases hp : dx.isPair with
          | false =>
            refine iteT ?_
            exact bad (by rw [e', hp]; rfl) H1 s1
          | true =>
            refine iteF ?_
            rw [hp, Bool.true_and] at e'
            obtain ⟨p, s', rfl⟩ := pair_inv hp
            have e1 : (Dt.tup [p, s']).p1 = p := rfl
            have e2 : (Dt.tup [p, s']).p2 = s' := rfl
            rw [e1, e2] at e'
            obtain ⟨b, ys, rfl, hb, hy⟩ := (hx2.ext (.of (sm.trans s1))).tup_inv
            obtain ⟨w1, w2, rfl, g1, g2⟩ := dh_two hy
            refine ⟨_, rfl, b, _, rfl, hb, rfl, w1, _, rfl, w2, _, rfl, rfl, ?_⟩
            refine ⟨_, rfl, _, rfl, spD_bl (.cons (.int _) (.cons g1 .nil)) rfl fun H2 s2 => ⟨_, rfl, ?_⟩⟩
            have s12 := s1.trans s2
            cases hpat : p.isPat n with
            | false =>
              refine iteT (iteT ?_)
              exact bad (by rw [e', hpat]; rfl) H2 s12
            | true =>
              refine iteF ?_
              rw [hpat, Bool.true_and] at e'
              refine ⟨_, rfl, spD_bl (.cons (g2.ext (.of s2)) .nil) rfl fun H3 s3 => ⟨_, rfl, ?_⟩⟩
              have s13 := s12.trans s3
              cases hsh : s'.isSh0 with
              | false =>
                refine iteT (iteT ?_)
                exact bad (by rw [e', shr_eq, hsh]; rfl) H3 s13
              | true =>
                refine iteF ?_
                obtain ⟨tt, bb, rfl, ez⟩ := zz_sh0 hsh
                have g3 : Dh K H3 w2 (frD (tt, bb)) := g2.ext (.of (s2.trans s3))
                refine ⟨_, rfl, ctP [tt, bb], ctP [0, 1], dp_ct g3, .tup (T.k_ZERO H3) (dp_ints [0, 1]), shaped_ct _, shaped_ct _, _, rfl, ?_⟩
                rw [eqv_fr (tt, bb) (0, 1)]
                rw [shr_eq, hsh, Bool.true_and, ez] at e'
                by_cases hz : (tt, bb) = ((0, 1) : Int × Int)
                · rw [decide_eq_true hz]
                  refine iteT ?_
                  exact bad (by rw [e', decide_eq_false (fun z => z hz)]; rfl) H3 s13
                · rw [decide_eq_false hz]
                  refine iteF ?_
                  rw [decide_eq_true (show (tt, bb) ≠ ((0, 1) : Int × Int) from hz), Bool.true_and] at e'
                  have hshr : (Dt.tup [.int tt, .int bb]).isShr = true := by
                    rw [shr_eq, hsh, ez, Bool.true_and]
                    exact decide_eq_true hz
                  have fr := shr_fr hshr (wdx.items.2 (.tup [.int tt, .int bb]) (by simp))
                  rw [ez] at fr
                  obtain ⟨ps, rfl, _⟩ := isPat_ct hpat
                  rw [ints_ct] at e'
                  have g13 := g1.ext (.of (s2.trans s3))
                  -- the tail: last = pattern; total = plus(total, part)
                  have tail : ∀ (R : Bool), rowGo n none (0, 1) ds = rowGo n (some ps) (plusZ (sumZ ss) (tt, bb)) (ds.drop (i + 1)) →
                      ∃ (v : V), ([some (.int n), some (.ref a), some v2, some v3, some (.ref b), some w1, some w2] : L2.St)[3]? = some (some v) ∧ ∃ u, ([some (.int n), some (.ref a), some w1, some v3, some (.ref b), some w1, some w2] : L2.St)[6]? = some (some u) ∧ spPlus K [v, u] H3 (fun z H4 => ∃ (last : Option (List Int)) (v2 v3 : V) (ss : List (Int × Int)) (y4 y5 y6 : Option V), [some (.int n), some (.ref a), some w1, some z, some (.ref b), some w1, some w2] = [some (.int n), some (.ref a), some v2, some v3, y4, y5, y6] ∧ Same H H4 ∧ LastOk K H4 v2 last ∧ Dh K H4 v3 (frD (sumZ ss)) ∧ ss.length = i + 1 ∧ (∀ p ∈ ss, Fr 1 B30 p) ∧ rowGo n none (0, 1) ds = rowGo n last (sumZ ss) (ds.drop (i + 1))) E0 := by
                    intro _ ego
                    obtain ⟨ta, rfl, hta⟩ := fr_inv (h3.ext (.of s13))
                    obtain ⟨wa, rfl, hwa⟩ := fr_inv g3
                    have hss' : ∀ p ∈ ss ++ [(tt, bb)], Fr 1 B30 p := fun p hp => by
                      rcases List.mem_append.mp hp with hp | hp
                      · exact hss p hp
                      · rw [List.mem_singleton.mp hp]
                        exact fr
                    have fs : Frs (ss ++ [(tt, bb)]) := frs_of hss' (by rw [List.length_append]; show ss.length + 1 ≤ 10; omega)
                    obtain ⟨n', m, B, C, f1, f2, nm, bc, b1, c1⟩ := sum_next fs (i := ss.length) (p := (tt, bb)) (by simp)
                    have et : (ss ++ [(tt, bb)]).take ss.length = ss := by simp
                    rw [et] at f1
                    refine ⟨_, rfl, _, rfl, ta, wa, _, _, n', m, B, C, rfl, hta, hwa, f1, f2, nm, bc, b1, c1, fun v H4 s4 hv => ?_⟩
                    refine ⟨some ps, w1, v, ss ++ [(tt, bb)], _, _, _, rfl, (sm.trans s13).trans s4, g13.ext (.of s4), ?_, by rw [List.length_append, hsl]; rfl, hss', ?_⟩
                    · rw [sumZ_snoc]
                      exact hv
                    · rw [sumZ_snoc]
                      exact ego
                  cases last with
                  | none =>
                    have hl2 : v2 = .non := hlast
                    subst hl2
                    refine ⟨_, rfl, rfl, _, rfl, iteF ?_⟩
                    exact ⟨_, rfl, tail true (by rw [e']; rfl)⟩
                  | some l =>
                    have hl2 : Dh K H3 v2 (ctD l) := (show Dh K H' v2 (ctD l) from hlast).ext (.of s13)
                    obtain ⟨la, rfl, hla⟩ := ct_inv hl2
                    obtain ⟨xa, rfl, hxa⟩ := ct_inv g13
                    refine ⟨_, rfl, rfl, _, rfl, ?_⟩
                    rw [decide_eq_false (show ¬ V.ref la = V.non from fun z => by cases z)]
                    refine iteT ?_
                    refine ⟨_, rfl, _, rfl, la, xa, l, ps, rfl, rfl, hla, hxa, _, rfl, ?_⟩
                    have e3 : lastLt (some l) ps = HT.lexLt l ps := rfl
                    rw [e3] at e'
                    cases hlt : HT.lexLt l ps with
                    | true =>
                      refine iteF ?_
                      rw [hlt, Bool.true_and] at e'
                      exact ⟨_, rfl, tail true e'⟩
                    | false =>
                      refine iteT ?_
                      rw [hlt, Bool.false_and] at e'
                      exact bad e' H3 s13
        · rintro σ H' ⟨last, v2, v3, ss, y4, y5, y6, rfl, sm, hlast, h3, hsl, hss, e⟩
          rw [List.drop_eq_nil_of_le (by omega)] at e
          have e' : rowGo n none (0, 1) ds = decide (sumZ ss = (1, 1)) := by
            rw [e]
            cases last <;> rfl
          refine ⟨_, rfl, ctP [(sumZ ss).1, (sumZ ss).2], ctP [1, 1], dp_ct h3, .tup (T.k_ONE H') (dp_ints [1, 1]), shaped_ct _, shaped_ct _, ?_⟩
          rw [eqv_fr (sumZ ss) (1, 1), ← e']
          exact q H' sm
      | _ => cases hi

end
end Fm
namespace Fm
open PySem PySem.Spec PyProof.Rows L2
section
variable {P : Program} {w : World} {K : PySem.W.Frag} {mg : Str → Option Value} {base : Heap}

/-! ### the class of habits -/
inductive Part where
  | sizes | rows | at (i : Nat)
def Part.v : Part → V
  | .sizes => .str "sizes"
  | .rows => .str "rows"
  | .at i => .int (i : Nat)
def badAt (n : Int) : List Dt → Nat → Option Nat
  | [], _ => none
  | d :: r, i => if d.isRow n = true then badAt n r (i + 1) else some i
def Dt.dues : Dt → List Dt
  | .tup ds => ds
  | _ => []
/-- what is due of a habit with these -/
def dueD (s r : Dt) : Option Part :=
  if s.isSizes = true then
    (if r.isTup = true ∧ r.dues.length = (allC s.ints).length then (badAt s.ints.length r.dues 0).map Part.at else some .rows)
  else some .sizes
/-- the fields of a habit -/
abbrev hfs (v1 v2 : V) : List (Str × V) := putF "rows" v2 (putF "sizes" v1 [])
theorem ok_NoPattern_init (T : Txt K mg) : FnOk P w K mg base CX0 1 T.f_NoPattern_init T.d_NoPattern_init ["self"] (spIni0 K T.c_NoPattern) := by
  refine T.F_NoPattern_init.ok sc_NoPattern_init (fun vs H Q E h => ?_) (fun cdv A outer s H vs Q E hr h => ?_)
  · obtain ⟨_, rfl, _⟩ := h
    rfl
  · obtain ⟨a, rfl, ha, q⟩ := h
    exact ⟨_, (pss_one (ps_expr (pe_upinit T.U_MaskError (by rfl) T.g_MaskError (pa_cons (pv 0) (pa_cons pe_str pa_nil))))), ⟨_, rfl, a, T.c_NoPattern, _, rfl, by decide, T.o_NoPattern, ha, q⟩⟩
theorem ok_NoContent_init (T : Txt K mg) : FnOk P w K mg base CX0 1 T.f_NoContent_init T.d_NoContent_init ["self"] (spIni0 K T.c_NoContent) := by
  refine T.F_NoContent_init.ok sc_NoContent_init (fun vs H Q E h => ?_) (fun cdv A outer s H vs Q E hr h => ?_)
  · obtain ⟨_, rfl, _⟩ := h
    rfl
  · obtain ⟨a, rfl, ha, q⟩ := h
    exact ⟨_, (pss_one (ps_expr (pe_upinit T.U_MaskError (by rfl) T.g_MaskError (pa_cons (pv 0) (pa_cons pe_str pa_nil))))), ⟨_, rfl, a, T.c_NoContent, _, rfl, by decide, T.o_NoContent, ha, q⟩⟩
def spIni1 (K : PySem.W.Frag) (C : Addr) : Sp := fun vs H Q _ => ∃ (a : Addr) (v : V), vs = [.ref a, v] ∧ H a = some (exo a C none) ∧ ∀ dx, H dx = none → dx ≠ a → Q .non (upd (upd H dx (exd dx [("part", v)])) a (exo a C (some dx)))
theorem ok_BadHabit_init (T : Txt K mg) : FnOk P w K mg base CX0 1 T.f_BadHabit_init T.d_BadHabit_init ["self", "part"] (spIni1 K T.c_BadHabit) := by
  refine T.F_BadHabit_init.ok sc_BadHabit_init (fun vs H Q E h => ?_) (fun cdv A outer s H vs Q E hr h => ?_)
  · obtain ⟨_, _, rfl, _⟩ := h
    rfl
  · obtain ⟨a, v, rfl, ha, q⟩ := h
    refine ⟨_, (pss_cons (ps_expr (pe_upinit T.U_MaskError (by rfl) T.g_MaskError (pa_cons (pv 0) (pa_cons pe_str pa_nil))))
      (pss_one (ps_ost (pv 0) (pv 1)))), ?_⟩
    refine ⟨_, rfl, a, T.c_BadHabit, _, rfl, by decide, T.o_BadHabit, ha, ?_⟩
    exact ⟨_, rfl, _, rfl, a, T.c_BadHabit, rfl, T.o_BadHabit, T.p_BadHabit, .inl ⟨ha, fun dx nd ne => q dx nd ne⟩⟩
/-- raise BadHabit(v) -/
theorem bad_raise (T : Txt K mg) {σ : L2.St} {H : Hp} {ta : TA} {v : V} {Q : XK} (hta : ∀ R : List V → Hp → Prop, R [v] H → ta σ H R) (q : ∀ d H', Same H H' → H' d = some (.xd [("part", v)]) → Q (.ref T.c_BadHabit) (some d) H') : tMkO T.c_BadHabit (spIni1 K T.c_BadHabit) [] ta σ H Q := by
  refine hta _ ⟨by show 1 ≤ 1000; decide, fun a na => ⟨a, v, rfl, upd_same, fun dx nd ne => ⟨rfl, dx, [("part", v)], upd_same, ?_, ?_, ?_⟩⟩⟩
  · rw [upd_ne ne, upd_same]
  · rw [upd_ne ne] at nd
    exact nd
  · rw [upd_ne ne] at nd
    refine q dx _ (fun b o e => ?_) upd_same
    have h1 := ne_of_none e na
    have h2 := ne_of_none e nd
    rw [upd_ne h2, del_ne h1, upd_ne h1, upd_ne h2, upd_ne h1]
    exact e
def RsWf : Dt → Prop
  | .tup ds => ∀ d ∈ ds, Wf d
  | _ => True
theorem Wf.rs {d : Dt} (h : Wf d) : RsWf d := by
  cases d with
  | tup ds => exact h.items.2
  | _ => exact True.intro
theorem badAt_none {n : Int} : ∀ {ds : List Dt} {i : Nat}, badAt n ds i = none → ∀ d ∈ ds, d.isRow n = true
  | [], _, _, d, hd => by cases hd
  | x :: r, i, h, d, hd => by
    have h' : (if x.isRow n = true then badAt n r (i + 1) else some i) = none := h
    by_cases hx : x.isRow n = true
    · rw [if_pos hx] at h'
      rcases List.mem_cons.mp hd with e | e
      · rw [e]
        exact hx
      · exact badAt_none h' d e
    · rw [if_neg hx] at h'
      cases h'
def spHab (K : PySem.W.Frag) (C : Addr) : Sp := fun vs H Q _ => ∃ (x dx : Addr) (v1 v2 : V) (ss : List Int) (ds : List Dt), vs = [.ref x, v1, v2] ∧ H x = some (.ins C dx []) ∧ SizesOk ss ∧ Dh K H v1 (ctD ss) ∧ Dh K H v2 (.tup ds) ∧ (∀ d ∈ ds, Wf d) ∧ ds.length = (allC ss).length ∧ (∀ d ∈ ds, d.isRow ss.length = true) ∧
  ∀ H', H' x = some (.ins C dx (hfs v1 v2)) → (∀ b o, b ≠ x → H b = some o → H' b = some o) → Q .non H'
theorem ok_Habit_init (T : Txt K mg) : FnOk P w K mg base CX0 5 T.f_Habit_init T.d_Habit_init ["self", "sizes", "rows"] (spHab K T.c_Habit) := by
  refine T.F_Habit_init.ok sc_Habit_init (fun vs H Q E h => ?_) (fun cdv A outer s H vs Q E hr h => ?_)
  · obtain ⟨_, _, _, _, _, _, rfl, _⟩ := h
    rfl
  · obtain ⟨x, dx, v1, v2, ss, ds, rfl, hx, ok, h1, h2, wf, hlen, hrow, q⟩ := h
    have ok' : (ctD ss).isSizes = true := ok
    obtain ⟨sa, rfl, hsa⟩ := ct_inv h1
    obtain ⟨ra, rs, rfl, hra, hrs⟩ := h2.tup_inv
    have hl := hrs.length
    refine ⟨_, (pss_cons (ps_if (pt_not (pt_val (pe_call (ok_is_sizes T) (hr.mono (by decide)) (by rfl) T.g_is_sizes T.F_is_sizes.kp T.b_is_sizes .nil pass0 (pa_cons (pv 1) pa_nil)))) (pss_one ps_never) pss_nil)
      (pss_cons (ps_if (PW.pt (pw_or (pt_not (pt_val (pe_callB (call_isiK' K) (by rfl) T.z_isinstance (by decide +kernel) (pa_cons (pv 2) (pa_cons (pe_bltn (v := .ty "tuple") (by rfl) T.z_tuple (by decide +kernel) rfl) pa_nil))))) (pw_or1 (pt_cmpR op_ne (pe_callB (call_lenK K) (by rfl) T.z_len PySem.boot_len (pa_cons (pv 2) pa_nil)) (pe_callB (call_lenK K) (by rfl) T.z_len PySem.boot_len (pa_cons (pe_call (ok_all_contents T) (hr.mono (by decide)) (by rfl) T.g_all_contents T.F_all_contents.kp T.b_all_contents .nil pass0 (pa_cons (pv 1) pa_nil)) pa_nil)) (nomark _))))) (pss_one ps_never) pss_nil)
      (pss_cons (ps_for PassesOwn.never rfl (pi_enumT (K := K) (by rfl) T.z_enumerate (pa_cons (pv 2) pa_nil)) (pg_tupK K (n := 2) rfl (pgs_cons (pg_name (i := 3) sc_Habit_init.nd rfl (.inl rfl)) (pgs_cons (pg_name (i := 4) sc_Habit_init.nd rfl (.inl rfl)) pgs_nil))) (pss_one (ps_if (pt_not (pt_val (pe_call (ok_is_habit_row T) hr (by rfl) T.g_is_habit_row T.F_is_habit_row.kp T.b_is_habit_row .nil pass0 (pa_cons (pe_callB (call_lenK K) (by rfl) T.z_len PySem.boot_len (pa_cons (pv 1) pa_nil)) (pa_cons (pv 4) pa_nil))))) (pss_one ps_never) pss_nil)))
      (pss_cons (ps_fld (pv 0) (pv 1) rfl)
      (pss_one (ps_fld (pv 0) (pv 2) rfl)))))), ?_⟩
    refine ⟨_, rfl, spD_bl (.cons h1 .nil) rfl fun H1 s1 => ⟨_, rfl, ?_⟩⟩
    rw [ok']
    refine iteF ?_
    refine ⟨_, rfl, _, _, _, _, _, rfl, .ty _, tyx_tup ((Ext.of s1).sqT hra), kit_ty (show kitB "tuple" "tuple" = some true by decide +kernel), _, rfl, iteF ?_⟩
    refine ⟨_, rfl, ra, _, rfl, .inr ((Ext.of s1).sqT hra), ?_⟩
    refine ⟨_, rfl, sa, ss, rfl, (Ext.of s1).sqT hsa, ok, fun p xs H2 np s2 hp hxs => ?_⟩
    have s12 := s1.trans s2
    have hl2 : xs.length = (allC ss).length := by
      rw [hxs.length, List.length_map]
    refine ⟨p, xs, rfl, .inl (SqL.of hp), rfl, _, rfl, ?_⟩
    rw [decide_eq_true (show V.int (rs.length : Int) = V.int (xs.length : Int) by rw [hl, hl2, hlen])]
    refine iteF ?_
    refine ⟨_, rfl, ra, rs, rfl, (Ext.of s12).sqT hra, for_enumT (fun i σ H' => ∃ y3 y4 : Option V, σ = [some (.ref x), some (.ref sa), some (.ref ra), y3, y4] ∧ Same H H')
      ⟨none, none, rfl, s12⟩ (fun i σ H' ⟨_, _, _, sm⟩ => (Ext.of sm).sqT hra) ?_ ?_⟩
    · rintro i r Tp σ H' hr' ⟨y3, y4, rfl, sm⟩ nT
      have smT : Same H (upd H' Tp (.tup [.int (i : Nat), r])) := sm.trans (same_new nT)
      obtain ⟨d, hd, hdr⟩ := hrs.get hr'
      have hdm := List.mem_of_getElem? hd
      refine ⟨Tp, _, rfl, SqT.of upd_same, rfl, _, _, rfl, _, _, rfl, rfl, ?_⟩
      refine ⟨_, rfl, sa, _, rfl, .inr ((Ext.of smT).sqT hsa), _, rfl, _, r, d, rfl, hdr.ext (.of smT), wf d hdm, fun H3 s3 => ⟨_, rfl, ?_⟩⟩
      rw [List.length_map, hrow d hdm]
      refine iteF ?_
      exact ⟨_, _, rfl, smT.trans s3⟩
    · rintro σ H' ⟨y3, y4, rfl, sm⟩
      refine ⟨_, rfl, _, rfl, x, T.c_Habit, dx, [], rfl, sm _ _ hx, T.l_Habit, T.a_sizes, by show 0 < 1000; decide, _, rfl, _, rfl, x, T.c_Habit, dx, _, rfl, upd_same, T.l_Habit, T.a_rows, by show 1 < 1000; decide, ?_⟩
      refine q _ upd_same fun b o nb e => ?_
      rw [upd_ne nb, upd_ne nb]
      exact sm _ _ e
def spHabW (T : Txt K mg) : Sp := fun vs H _ E => ∃ (x dx : Addr) (v1 v2 : V) (d1 d2 : Dt) (p : Part), vs = [.ref x, v1, v2] ∧ H x = some (.ins T.c_Habit dx []) ∧ Dh K H v1 d1 ∧ Dh K H v2 d2 ∧ RsWf d2 ∧ dueD d1 d2 = some p ∧
  ∀ d H', Same H H' → H' d = some (.xd [("part", p.v)]) → E (.ref T.c_BadHabit) (some d) H'
theorem okw_Habit_init (T : Txt K mg) : FnOk P w K mg base (L2.CX P w) 5 T.f_Habit_init T.d_Habit_init ["self", "sizes", "rows"] (spHabW T) := by
  refine T.F_Habit_init.okX sc_Habit_init (fun vs H Q E h => ?_) (fun cdv A outer s H vs Q E hr h => ?_)
  · obtain ⟨_, _, _, _, _, _, _, rfl, _⟩ := h
    rfl
  · obtain ⟨x, dx, v1, v2, d1, d2, pp, rfl, hx, h1, h2, wf, hdue, q⟩ := h
    have go : ∀ (σ : L2.St) (H1 : Hp) (ta : TA) (p : Part), p = pp → Same H H1 → (∀ R : List V → Hp → Prop, R [p.v] H1 → ta σ H1 R) → ∀ (R : XK), (∀ d H', E (.ref T.c_BadHabit) (some d) H' → R (.ref T.c_BadHabit) (some d) H') → tMkO T.c_BadHabit (spIni1 K T.c_BadHabit) [] ta σ H1 R := by
      intro σ H1 ta p ep s1 hta R hR
      subst ep
      exact bad_raise T hta fun d H' s' hd => hR d H' (q d H' (s1.trans s') hd)
    refine ⟨_, (pss_cons (ps_if (pt_not (pt_val (pe_call (ok_is_sizes T) (hr.mono (by decide)) (by rfl) T.g_is_sizes T.F_is_sizes.kp T.b_is_sizes .nil pass0 (pa_cons (pv 1) pa_nil)))) (pss_one (ps_raise rfl (takes_of rfl rfl rfl rfl) (pmk_oex T.o_BadHabit T.i_BadHabit T.t_BadHabit (ok_BadHabit_init T) (hr.mono (by decide)) T.b_BadHabit_init .nil pass0 (by rfl) T.g_BadHabit (pa_cons pe_str pa_nil)))) pss_nil)
      (pss_cons (ps_if (PW.pt (pw_or (pt_not (pt_val (pe_callB (call_isiK' K) (by rfl) T.z_isinstance (by decide +kernel) (pa_cons (pv 2) (pa_cons (pe_bltn (v := .ty "tuple") (by rfl) T.z_tuple (by decide +kernel) rfl) pa_nil))))) (pw_or1 (pt_cmpR op_ne (pe_callB (call_lenK K) (by rfl) T.z_len PySem.boot_len (pa_cons (pv 2) pa_nil)) (pe_callB (call_lenK K) (by rfl) T.z_len PySem.boot_len (pa_cons (pe_call (ok_all_contents T) (hr.mono (by decide)) (by rfl) T.g_all_contents T.F_all_contents.kp T.b_all_contents .nil pass0 (pa_cons (pv 1) pa_nil)) pa_nil)) (nomark _))))) (pss_one (ps_raise rfl (takes_of rfl rfl rfl rfl) (pmk_oex T.o_BadHabit T.i_BadHabit T.t_BadHabit (ok_BadHabit_init T) (hr.mono (by decide)) T.b_BadHabit_init .nil pass0 (by rfl) T.g_BadHabit (pa_cons pe_str pa_nil)))) pss_nil)
      (pss_cons (ps_for (passes_of rfl) rfl (pi_enumT (K := K) (by rfl) T.z_enumerate (pa_cons (pv 2) pa_nil)) (pg_tupK K (n := 2) rfl (pgs_cons (pg_name (i := 3) sc_Habit_init.nd rfl (.inl rfl)) (pgs_cons (pg_name (i := 4) sc_Habit_init.nd rfl (.inl rfl)) pgs_nil))) (pss_one (ps_if (pt_not (pt_val (pe_call (ok_is_habit_row T) hr (by rfl) T.g_is_habit_row T.F_is_habit_row.kp T.b_is_habit_row .nil pass0 (pa_cons (pe_callB (call_lenK K) (by rfl) T.z_len PySem.boot_len (pa_cons (pv 1) pa_nil)) (pa_cons (pv 4) pa_nil))))) (pss_one (ps_raise rfl (takes_of rfl rfl rfl rfl) (pmk_oex T.o_BadHabit T.i_BadHabit T.t_BadHabit (ok_BadHabit_init T) (hr.mono (by decide)) T.b_BadHabit_init .nil pass0 (by rfl) T.g_BadHabit (pa_cons (pv 3) pa_nil)))) pss_nil)))
      (pss_cons (ps_fld (pv 0) (pv 1) rfl)
      (pss_one (ps_fld (pv 0) (pv 2) rfl)))))), ?_⟩
    refine ⟨_, rfl, spD_bl (.cons h1 .nil) rfl fun H1 s1 => ⟨_, rfl, ?_⟩⟩
    unfold dueD at hdue
    cases es : d1.isSizes with
    | false =>
      refine iteT ?_
      rw [es, if_neg Bool.false_ne_true] at hdue
      exact go _ _ _ .sizes (Option.some.inj hdue) s1 (fun R hR => hR) _ fun d H' h => h
    | true =>
      refine iteF ?_
      rw [es, if_pos rfl] at hdue
      obtain ⟨ss, rfl, ok⟩ := isSizes_inv es
      rw [ints_ct] at hdue
      have hl5 := ok.facts.2.1
      obtain ⟨sa, rfl, hsa⟩ := ct_inv h1
      have h21 := h2.ext (.of s1)
      obtain ⟨t, ty, ki, kt, kb⟩ := h21.kinds
      refine ⟨_, rfl, _, _, _, _, _, rfl, .ty _, ty, kt, _, rfl, ?_⟩
      cases hi : d2.isTup with
      | false =>
        refine iteT (iteT ?_)
        rw [if_neg (by rw [hi]; exact fun z => Bool.false_ne_true z.1)] at hdue
        exact go _ _ _ .rows (Option.some.inj hdue) s1 (fun R hR => hR) _ fun d H' h => h
      | true =>
        refine iteF ?_
        cases d2 with
        | tup ds =>
          obtain ⟨ra, rs, rfl, hra, hrs⟩ := h21.tup_inv
          have hl := hrs.length
          refine ⟨_, rfl, ra, _, rfl, .inr hra, ?_⟩
          refine ⟨_, rfl, sa, ss, rfl, (Ext.of s1).sqT hsa, ok, fun p xs H2 np s2 hp hxs => ?_⟩
          have s12 := s1.trans s2
          have hl2 : xs.length = (allC ss).length := by
            rw [hxs.length, List.length_map]
          refine ⟨p, xs, rfl, .inl (SqL.of hp), rfl, _, rfl, ?_⟩
          have ed : (Dt.tup ds).dues = ds := rfl
          rw [ed] at hdue
          by_cases hle : ds.length = (allC ss).length
          · rw [decide_eq_true (show V.int (rs.length : Int) = V.int (xs.length : Int) by rw [hl, hl2, hle])]
            refine iteF ?_
            rw [if_pos ⟨rfl, hle⟩] at hdue
            have hra2 := (Ext.of s2).sqT hra
            have hrs2 := hrs.ext (.of s2)
            refine ⟨_, rfl, ra, rs, rfl, hra2, for_enumT (fun i σ H' => ∃ y3 y4 : Option V, σ = [some (.ref x), some (.ref sa), some (.ref ra), y3, y4] ∧ Same H2 H' ∧ badAt ss.length ds 0 = badAt ss.length (ds.drop i) i)
              ⟨none, none, rfl, Same.refl _, rfl⟩ (fun i σ H' ⟨_, _, _, sm, _⟩ => (Ext.of sm).sqT hra2) ?_ ?_⟩
            · rintro i r Tp σ H' hr' ⟨y3, y4, rfl, sm, eb⟩ nT
              have smT : Same H2 (upd H' Tp (.tup [.int (i : Nat), r])) := sm.trans (same_new nT)
              obtain ⟨d, hd, hdr⟩ := hrs2.get hr'
              have hdm := List.mem_of_getElem? hd
              rw [drop_at hd] at eb
              have eb' : badAt ss.length ds 0 = if d.isRow ss.length = true then badAt ss.length (ds.drop (i + 1)) (i + 1) else some i := eb
              refine ⟨Tp, _, rfl, SqT.of upd_same, rfl, _, _, rfl, _, _, rfl, rfl, ?_⟩
              refine ⟨_, rfl, sa, _, rfl, .inr ((Ext.of (s12.trans smT)).sqT hsa), _, rfl, _, r, d, rfl, hdr.ext (.of smT), wf d hdm, fun H3 s3 => ⟨_, rfl, ?_⟩⟩
              rw [List.length_map]
              cases hrw : d.isRow ss.length with
              | true =>
                refine iteF ?_
                rw [if_pos hrw] at eb'
                exact ⟨_, _, rfl, smT.trans s3, eb'⟩
              | false =>
                refine iteT ?_
                rw [if_neg (by rw [hrw]; exact Bool.false_ne_true)] at eb'
                rw [eb'] at hdue
                exact go _ _ _ (.at i) (Option.some.inj hdue) ((s12.trans smT).trans s3) (fun R hR => ⟨_, rfl, hR⟩) _ fun d H' h => h
            · rintro σ H' ⟨y3, y4, rfl, sm, eb⟩
              rw [List.drop_eq_nil_of_le (by omega)] at eb
              have eb' : badAt ss.length ds 0 = none := eb
              rw [eb'] at hdue
              cases hdue
          · have ne : decide (V.int (rs.length : Int) = V.int (xs.length : Int)) = false := by
              rw [dec_int, beq_eq_false_iff_ne]
              omega
            rw [ne]
            refine iteT ?_
            rw [if_neg (fun z => hle z.2)] at hdue
            exact go _ _ _ .rows (Option.some.inj hdue) s12 (fun R hR => hR) _ fun d H' h => h
        | _ => cases hi
def spXHab (T : Txt K mg) : Sp := fun vs H Q E => spHab K T.c_Habit vs H Q L2.E0 ∨ spHabW T vs H Q E
theorem okx_Habit_init (T : Txt K mg) : FnOk P w K mg base (L2.CX P w) 5 T.f_Habit_init T.d_Habit_init ["self", "sizes", "rows"] (spXHab T) := FnOk.orX (ok_Habit_init T) (okw_Habit_init T)

end
end Fm
namespace Fm
open PySem PySem.Spec PyProof.Rows L2
section
variable {P : Program} {w : World} {K : PySem.W.Frag} {mg : Str → Option Value} {base : Heap}

abbrev at0 (c : List Int) (k : Int) : Int := c.getD k.toNat 0
theorem contGo_iff : ∀ {ss c : List Int}, contGo ss (c.map Dt.int) = true ↔ ∀ (i : Nat) (x s : Int), c[i]? = some x → ss[i]? = some s → 0 ≤ x ∧ x < s
  | [], c => ⟨fun _ i x s _ h => by simp at h, fun _ => by cases c <;> rfl⟩
  | s :: ss, [] => ⟨fun _ i x s h => by simp at h, fun _ => rfl⟩
  | s :: ss, x :: c => by
    have e : contGo (s :: ss) ((x :: c).map Dt.int) = if 0 ≤ x ∧ x < s then contGo ss (c.map Dt.int) else false := rfl
    rw [e]
    constructor
    · intro h i y t hy ht
      by_cases hx : 0 ≤ x ∧ x < s
      · rw [if_pos hx] at h
        cases i with
        | zero =>
          have e1 : x = y := by simpa using hy
          have e2 : s = t := by simpa using ht
          rw [← e1, ← e2]
          exact hx
        | succ i => exact contGo_iff.mp h i y t (by simpa using hy) (by simpa using ht)
      · rw [if_neg hx] at h
        cases h
    · intro h
      rw [if_pos (h 0 x s rfl rfl)]
      exact contGo_iff.mpr fun i y t hy ht => h (i + 1) y t (by simpa using hy) (by simpa using ht)
theorem isCt_iff {ss c : List Int} : IsCt ss c ↔ c.length = ss.length ∧ ∀ (i : Nat) (x s : Int), c[i]? = some x → ss[i]? = some s → 0 ≤ x ∧ x < s := by
  have e : (ctD c).isCont ss = ((c.map Dt.int).length == ss.length && contGo ss (c.map Dt.int)) := rfl
  unfold IsCt
  rw [e, Bool.and_eq_true, contGo_iff, List.length_map]
  simp
theorem mem_step {found : List (List Int)} {s : Int} {c : List Int} : c ∈ stepC found s ↔ ∃ b ∈ found, ∃ w : Nat, w < s.toNat ∧ c = b ++ [(w : Int)] := by
  unfold stepC
  rw [List.mem_flatMap]
  constructor
  · rintro ⟨b, hb, hc⟩
    obtain ⟨w, hw, rfl⟩ := List.mem_map.mp hc
    exact ⟨b, hb, w, List.mem_range.mp hw, rfl⟩
  · rintro ⟨b, hb, w, hw, rfl⟩
    exact ⟨b, hb, List.mem_map.mpr ⟨w, List.mem_range.mpr hw, rfl⟩⟩
theorem mem_allC_take {ss : List Int} : ∀ (i : Nat), i ≤ ss.length → ∀ c, c ∈ allC (ss.take i) ↔ c.length = i ∧ ∀ (j : Nat) (x s : Int), c[j]? = some x → ss[j]? = some s → 0 ≤ x ∧ x < s
  | 0, _, c => by
    have e : allC (ss.take 0) = [[]] := rfl
    rw [e, List.mem_singleton]
    constructor
    · rintro rfl
      exact ⟨rfl, fun j x s h => by simp at h⟩
    · rintro ⟨h, _⟩
      exact List.length_eq_zero_iff.mp h
  | i + 1, h, c => by
    have hi : i < ss.length := h
    have e : ss[i]? = some ss[i] := List.getElem?_eq_getElem hi
    have e' : ss.take (i + 1) = ss.take i ++ [ss[i]] := by rw [List.take_add_one, e]; rfl
    rw [e', allC_snoc, mem_step]
    constructor
    · rintro ⟨b, hb, w, hw, rfl⟩
      obtain ⟨hl, hall⟩ := (mem_allC_take i (Nat.le_of_lt hi) b).mp hb
      refine ⟨by rw [List.length_append, hl]; rfl, fun j x s hx hs => ?_⟩
      by_cases hj : j < i
      · rw [List.getElem?_append_left (by omega)] at hx
        exact hall j x s hx hs
      · have hj2 : j < (b ++ [(w : Int)]).length := (List.getElem?_eq_some_iff.mp hx).1
        rw [List.length_append, hl] at hj2
        have ej : j = i := by
          have : ([(w : Int)] : List Int).length = 1 := rfl
          omega
        subst ej
        rw [List.getElem?_append_right (by omega), hl, Nat.sub_self] at hx
        have ex : (w : Int) = x := by simpa using hx
        rw [e] at hs
        have es := Option.some.inj hs
        omega
    · rintro ⟨hl, hall⟩
      have hil : i < c.length := by omega
      refine ⟨c.take i, (mem_allC_take i (Nat.le_of_lt hi) _).mpr ⟨by rw [List.length_take]; omega, fun j x s hx hs => ?_⟩, (c[i]).toNat, ?_, ?_⟩
      · have hj : j < (c.take i).length := (List.getElem?_eq_some_iff.mp hx).1
        rw [List.length_take] at hj
        rw [List.getElem?_take_of_lt (by omega)] at hx
        exact hall j x s hx hs
      · have := hall i c[i] ss[i] (List.getElem?_eq_getElem hil) e
        omega
      · have := hall i c[i] ss[i] (List.getElem?_eq_getElem hil) e
        have e2 : ((c[i].toNat : Nat) : Int) = c[i] := by omega
        rw [e2]
        have e3 : c.take (i + 1) = c.take i ++ [c[i]] := by rw [List.take_add_one, List.getElem?_eq_getElem hil]; rfl
        rw [← e3, List.take_of_length_le (by omega)]
theorem mem_allC {ss c : List Int} : c ∈ allC ss ↔ IsCt ss c := by
  have q := mem_allC_take (ss := ss) ss.length (Nat.le_refl _) c
  rw [List.take_length] at q
  rw [q, isCt_iff]
theorem at0_some {c : List Int} {k : Int} (h0 : 0 ≤ k) (h1 : k < c.length) : c[k.toNat]? = some (at0 c k) := by
  have hl : k.toNat < c.length := by omega
  show _ = some (c.getD k.toNat 0)
  rw [List.getD_eq_getElem?_getD, List.getElem?_eq_getElem hl]
  rfl

/-! ### places, shares, habits compared -/
def placeZ (ss c : List Int) : Int := (ss.zip c).foldl (fun p x => p * x.1 + x.2) 0
theorem flat_at {n : Nat} : ∀ {l : List (List Int)} {i j : Nat} {c : List Int}, l[i]? = some c → j < n → (l.flatMap (ext n))[i * n + j]? = some (c ++ [(j : Int)])
  | [], i, j, c, h, _ => by simp at h
  | d :: r, 0, j, c, h, hj => by
    have e : d = c := by simpa using h
    subst e
    rw [List.flatMap_cons, Nat.zero_mul, Nat.zero_add, List.getElem?_append_left (by rw [ext_len]; exact hj)]
    unfold ext
    rw [List.getElem?_map, List.getElem?_range hj]
    rfl
  | d :: r, i + 1, j, c, h, hj => by
    have h' : r[i]? = some c := by simpa using h
    have ih := flat_at (n := n) h' hj
    rw [List.flatMap_cons, List.getElem?_append_right (by rw [ext_len, Nat.add_mul, Nat.one_mul]; omega), ext_len]
    have e : (i + 1) * n + j - n = i * n + j := by rw [Nat.add_mul, Nat.one_mul]; omega
    rw [e]
    exact ih
theorem zip_take {ss c : List Int} {i : Nat} {s w : Int} (h1 : ss[i]? = some s) (h2 : c[i]? = some w) : (ss.take (i + 1)).zip (c.take (i + 1)) = (ss.take i).zip (c.take i) ++ [(s, w)] := by
  have e1 : ss.take (i + 1) = ss.take i ++ [s] := by rw [List.take_add_one, h1]; rfl
  have e2 : c.take (i + 1) = c.take i ++ [w] := by rw [List.take_add_one, h2]; rfl
  have l1 := (List.getElem?_eq_some_iff.mp h1).1
  have l2 := (List.getElem?_eq_some_iff.mp h2).1
  rw [e1, e2, List.zip_append (by rw [List.length_take, List.length_take]; omega)]
  rfl
theorem place_take {ss c : List Int} {i : Nat} {s w : Int} (h1 : ss[i]? = some s) (h2 : c[i]? = some w) : placeZ (ss.take (i + 1)) (c.take (i + 1)) = placeZ (ss.take i) (c.take i) * s + w := by
  unfold placeZ
  rw [zip_take h1 h2, List.foldl_append]
  rfl
theorem place_at {ss c : List Int} (ok : SizesOk ss) (h : IsCt ss c) : ∀ i, i ≤ ss.length → 0 ≤ placeZ (ss.take i) (c.take i) ∧ (allC (ss.take i))[(placeZ (ss.take i) (c.take i)).toNat]? = some (c.take i)
  | 0, _ => by
    refine ⟨by rw [List.take_zero]; exact Int.le_refl 0, ?_⟩
    rw [List.take_zero, List.take_zero]
    rfl
  | i + 1, hi => by
    obtain ⟨ih0, ih⟩ := place_at ok h i (by omega)
    obtain ⟨hlen, hb⟩ := isCt_iff.mp h
    obtain ⟨s, hs⟩ : ∃ s, ss[i]? = some s := ⟨_, List.getElem?_eq_getElem (by omega)⟩
    obtain ⟨w, hw⟩ : ∃ w, c[i]? = some w := ⟨_, List.getElem?_eq_getElem (by omega)⟩
    obtain ⟨w0, w1⟩ := hb i w s hw hs
    have hs2 := (ok.facts.2.2 s (List.mem_of_getElem? hs)).1
    rw [place_take hs hw]
    have m0 : 0 ≤ placeZ (ss.take i) (c.take i) * s := Int.mul_nonneg ih0 (by omega)
    refine ⟨by omega, ?_⟩
    have e1 : ss.take (i + 1) = ss.take i ++ [s] := by rw [List.take_add_one, hs]; rfl
    have e2 : c.take (i + 1) = c.take i ++ [((w.toNat : Nat) : Int)] := by
      rw [List.take_add_one, hw]
      have : ((w.toNat : Nat) : Int) = w := by omega
      rw [this]
      rfl
    rw [e1, e2, allC_snoc]
    have q := flat_at (n := s.toNat) ih (show w.toNat < s.toNat by omega)
    have e3 : (placeZ (ss.take i) (c.take i) * s + w).toNat = (placeZ (ss.take i) (c.take i)).toNat * s.toNat + w.toNat := by
      obtain ⟨p, hp⟩ := Int.eq_ofNat_of_zero_le ih0
      obtain ⟨t, ht⟩ := Int.eq_ofNat_of_zero_le (show 0 ≤ s by omega)
      obtain ⟨u, hu⟩ := Int.eq_ofNat_of_zero_le w0
      rw [hp, ht, hu]
      show ((p : Int) * (t : Int) + (u : Int)).toNat = p * t + u
      rw [← Int.natCast_mul, ← Int.natCast_add]
      rfl
    rw [e3]
    exact q
theorem place_all {ss c : List Int} (ok : SizesOk ss) (h : IsCt ss c) : 0 ≤ placeZ ss c ∧ (allC ss)[(placeZ ss c).toNat]? = some c := by
  have q := place_at ok h ss.length (Nat.le_refl _)
  have hl := h.len
  rw [List.take_length, List.take_of_length_le (by omega)] at q
  exact q
def spPlace (K : PySem.W.Frag) : Sp := fun vs H Q _ => ∃ (a b : Addr) (ss c : List Int), vs = [.ref a, .ref b] ∧ SqT K H a (ss.map V.int) ∧ SqT K H b (c.map V.int) ∧ c.length = ss.length ∧ (∀ s ∈ ss, 2 ≤ s ∧ s ≤ 4) ∧ ∀ H', Same H H' → Q (.int (placeZ ss c)) H'
theorem ok_place_of (T : Txt K mg) : FnOk P w K mg base CX0 1 T.f_place_of T.d_place_of ["sizes", "content"] (spPlace K) := by
  refine T.F_place_of.ok sc_place_of (fun vs H Q E h => ?_) (fun cdv A outer s H vs Q E hr h => ?_)
  · obtain ⟨_, _, _, _, rfl, _⟩ := h
    rfl
  · obtain ⟨a, b, ss, c, rfl, ha, hb, hl, hs, q⟩ := h
    refine ⟨_, (pss_cons (ps_set (i := 2) sc_place_of.nd rfl (.inl rfl) pe_int)
      (pss_cons (ps_for PassesOwn.never rfl (pi_zipM (by rfl) T.z_zip (pa_cons (pv 0) (pa_cons (pv 1) pa_nil))) (pg_tupK K (n := 2) rfl (pgs_cons (pg_name (i := 3) sc_place_of.nd rfl (.inl rfl)) (pgs_cons (pg_name (i := 4) sc_place_of.nd rfl (.inl rfl)) pgs_nil))) (pss_one (ps_set (i := 2) sc_place_of.nd rfl (.inl rfl) (pe_op op_add (pe_op op_mul (pv 2) (pv 3)) (pv 4)))))
      (pss_one (ps_ret (pv 2))))), ?_⟩
    refine ⟨_, rfl, _, rfl, false, a, b, ss.map V.int, c.map V.int, rfl, ha, hb, for_zipM (fun i σ H' => ∃ y3 y4, σ = [some (.ref a), some (.ref b), some (.int (placeZ (ss.take i) (c.take i))), y3, y4] ∧ Same H H')
      ⟨none, none, rfl, Same.refl H⟩ (fun i σ H' ⟨_, _, _, sm⟩ => ⟨(Ext.of sm).sqT ha, (Ext.of sm).sqT hb⟩) ?_ ?_⟩
    · rintro i x y Tp σ H' hx hy ⟨y3, y4, rfl, sm⟩ nT
      obtain ⟨s, rfl, hs1⟩ := int_at hx
      obtain ⟨w, rfl, hw⟩ := int_at hy
      have hsb := hs s (List.mem_of_getElem? hs1)
      refine ⟨Tp, _, rfl, SqT.of upd_same, rfl, _, _, rfl, _, _, rfl, rfl, ?_⟩
      refine ⟨_, rfl, _, rfl, _, _, rfl, rfl, .inr ⟨by omega, by omega⟩, _, rfl, _, _, rfl, rfl, ?_⟩
      refine ⟨some (.int s), some (.int w), ?_, sm.trans (same_new nT)⟩
      rw [place_take hs1 hw]
      rfl
    · rintro σ H' ⟨y3, y4, rfl, sm⟩
      have em : min (ss.map V.int).length (c.map V.int).length = ss.length := by
        rw [List.length_map, List.length_map]
        omega
      rw [em, List.take_length, List.take_of_length_le (by omega)]
      exact ⟨_, rfl, q H' sm⟩
/-- a habit at x -/
structure Hb (K : PySem.W.Frag) (C : Addr) (H : Hp) (x : Addr) (ss : List Int) (ds : List Dt) : Prop where
  ex : ∃ dx v1 v2, H x = some (.ins C dx (hfs v1 v2)) ∧ Dh K H v1 (ctD ss) ∧ Dh K H v2 (.tup ds)
theorem Hb.ext {C : Addr} {H H' : Hp} {x : Addr} {ss : List Int} {ds : List Dt} (e : Ext H H') (h : Hb K C H x ss ds) : Hb K C H' x ss ds := by
  obtain ⟨dx, v1, v2, hx, h1, h2⟩ := h.ex
  refine ⟨dx, v1, v2, ?_, h1.ext e, h2.ext e⟩
  rcases e _ _ hx with q | ⟨⟨xs, q⟩, _⟩
  · exact q
  · cases q
structure Rows (ss : List Int) (ds : List Dt) : Prop where
  len : ds.length = (allC ss).length
  row : ∀ d ∈ ds, d.isRow ss.length = true
theorem row_items {n : Int} : ∀ {ds : List Dt} {last : Option (List Int)} {tot : Int × Int}, rowGo n last tot ds = true → ∀ d ∈ ds, ∃ ps, d = .tup [ctD ps, frD d.p2.zz] ∧ d.p1 = ctD ps ∧ Asc n (-1) ps
  | [], _, _, _, d, hd => by cases hd
  | x :: r, last, tot, h, d, hd => by
    have h' : (x.isPair && (x.p1.isPat n && (x.p2.isShr && (lastLt last x.p1.ints && rowGo n (some x.p1.ints) (plusZ tot x.p2.zz) r)))) = true := h
    rw [Bool.and_eq_true, Bool.and_eq_true, Bool.and_eq_true, Bool.and_eq_true] at h'
    obtain ⟨a1, a2, a3, _, a5⟩ := h'
    rcases List.mem_cons.mp hd with e | e
    · subst e
      obtain ⟨u, v, rfl⟩ := pair_inv a1
      have e1 : (Dt.tup [u, v]).p1 = u := rfl
      have e2 : (Dt.tup [u, v]).p2 = v := rfl
      rw [e1] at a2
      rw [e2] at a3
      obtain ⟨ps, rfl, asc⟩ := isPat_ct a2
      rw [shr_eq, Bool.and_eq_true] at a3
      obtain ⟨t, b, rfl, ez⟩ := zz_sh0 a3.1
      exact ⟨ps, rfl, rfl, asc⟩
    · exact row_items a5 d e
theorem isRow_inv {n : Int} {d : Dt} (h : d.isRow n = true) : ∃ ps, d = .tup ps ∧ ∀ e ∈ ps, ∃ p, e = .tup [ctD p, frD e.p2.zz] ∧ e.p1 = ctD p ∧ Asc n (-1) p := by
  cases d with
  | tup ps => exact ⟨ps, rfl, row_items (show rowGo n none (0, 1) ps = true from h)⟩
  | _ => cases h
def shareIn (row : List Dt) (ps : List Int) : Int × Int := match row.find? (fun d => decide (d.p1.ints = ps)) with
  | some d => d.p2.zz
  | none => (0, 1)
def spShare (K : PySem.W.Frag) (C : Addr) : Sp := fun vs H Q _ => ∃ (x : Addr) (ss : List Int) (ds : List Dt) (ps c : List Int) (v1 v2 : V), vs = [.ref x, v1, v2] ∧ Hb K C H x ss ds ∧ SizesOk ss ∧ Rows ss ds ∧ Dh K H v1 (ctD ps) ∧ Asc ss.length (-1) ps ∧ Dh K H v2 (ctD c) ∧ IsCt ss c ∧
  ∀ v H', Same H H' → Dh K H' v (frD (shareIn (ds.getD (placeZ ss c).toNat .non).dues ps)) → Q v H'
theorem ok_share (T : Txt K mg) : FnOk P w K mg base CX0 3 T.f_share T.d_share ["habit", "pattern", "content"] (spShare K T.c_Habit) := by
  refine T.F_share.ok sc_share (fun vs H Q E h => ?_) (fun cdv A outer s H vs Q E hr h => ?_)
  · obtain ⟨_, _, _, _, _, _, _, rfl, _⟩ := h
    rfl
  · obtain ⟨x, ss, ds, ps, c, v1, v2, rfl, hh, ok, rw', h1, asc, h2, hc, q⟩ := h
    obtain ⟨dx, u1, u2, hx, g1, g2⟩ := hh.ex
    have hl5 := ok.facts.2.1
    obtain ⟨sa, rfl, hsa⟩ := ct_inv g1
    obtain ⟨ra, rs, rfl, hra, hrs⟩ := g2.tup_inv
    have hc' : (ctD c).isCont ss = true := hc
    refine ⟨_, (pss_cons (ps_if (pt_not (pt_val (pe_call (ok_is_pattern T) hr (by rfl) T.g_is_pattern T.F_is_pattern.kp T.b_is_pattern .nil pass0 (pa_cons (pe_callB (call_lenK K) (by rfl) T.z_len PySem.boot_len (pa_cons (pe_fld (pv 0) rfl) pa_nil)) (pa_cons (pv 1) pa_nil))))) (pss_one ps_never) pss_nil)
      (pss_cons (ps_if (pt_not (pt_val (pe_call (ok_is_content T) hr (by rfl) T.g_is_content T.F_is_content.kp T.b_is_content .nil pass0 (pa_cons (pe_fld (pv 0) rfl) (pa_cons (pv 2) pa_nil))))) (pss_one ps_never) pss_nil)
      (pss_cons (ps_for PassesOwn.never rfl (pi_tupK K (pe_ix (ix_tupK K) (pe_fld (pv 0) rfl) (pe_call (ok_place_of T) (hr.mono (by decide)) (by rfl) T.g_place_of T.F_place_of.kp T.b_place_of .nil pass0 (pa_cons (pe_fld (pv 0) rfl) (pa_cons (pv 2) pa_nil))) (fun _ _ => rfl))) (pg_tupK K (n := 2) rfl (pgs_cons (pg_name (i := 3) sc_share.nd rfl (.inl rfl)) (pgs_cons (pg_name (i := 4) sc_share.nd rfl (.inl rfl)) pgs_nil))) (pss_one (ps_if (pt_cmpR (op_eqK K hr.units) (pv 3) (pv 1) (nomark _)) (pss_one (ps_ret (pv 4))) pss_nil)))
      (pss_one (ps_ret (pe_glob (by rfl) T.g_ZERO (show L2.RelV (.ref T.v_ZERO) _ from rfl))))))), ?_⟩
    refine ⟨_, rfl, x, _, dx, _, _, rfl, hx, T.l_Habit, T.a_sizes, rfl, sa, _, rfl, .inr hsa, _, rfl, ?_⟩
    refine spD_bl (.cons (.int _) (.cons h1 .nil)) rfl fun H1 s1 => ⟨_, rfl, ?_⟩
    rw [List.length_map, asc.isPat]
    refine iteF ?_
    refine ⟨_, rfl, x, _, dx, _, _, rfl, s1 _ _ hx, T.l_Habit, T.a_sizes, rfl, _, rfl, false, sa, ss, _, _, rfl, (Ext.of s1).sqT hsa, h2.ext (.of s1), fun H2 s2 => ⟨_, rfl, ?_⟩⟩
    rw [hc']
    refine iteF ?_
    have s12 := s1.trans s2
    obtain ⟨ca, rfl, hca⟩ := ct_inv (h2.ext (.of s12))
    obtain ⟨p0, pat⟩ := place_all ok hc
    have hpl := (List.getElem?_eq_some_iff.mp pat).1
    refine ⟨_, rfl, x, _, dx, _, _, rfl, s12 _ _ hx, T.l_Habit, T.a_rows, rfl, _, rfl, x, _, dx, _, _, rfl, s12 _ _ hx, T.l_Habit, T.a_sizes, rfl, _, rfl, sa, ca, ss, c, rfl, (Ext.of s12).sqT hsa, hca, hc.len, ok.facts.2.2, fun H3 s3 => ?_⟩
    have s13 := s12.trans s3
    have hl := hrs.length
    have hlt : (placeZ ss c).toNat < ds.length := by rw [rw'.len]; exact hpl
    obtain ⟨rv, hrv, hrd⟩ := hrs.at (List.getElem?_eq_getElem hlt)
    have erow : ds.getD (placeZ ss c).toNat .non = ds[(placeZ ss c).toNat] := by
      rw [List.getD_eq_getElem?_getD, List.getElem?_eq_getElem hlt]
      rfl
    rw [erow] at q
    obtain ⟨row, er, hitems⟩ := isRow_inv (rw'.row _ (List.getElem_mem hlt))
    rw [er] at q hrd
    have ed : (Dt.tup row).dues = row := rfl
    rw [ed] at q
    obtain ⟨wa, ws, rfl, hwa, hws⟩ := (hrd.ext (.of s13)).tup_inv
    have hwl := hws.length
    refine ⟨ra, rs, placeZ ss c, _, rfl, rfl, (Ext.of s13).sqT hra, at_of (j := (placeZ ss c).toNat) (by omega) hrv, wa, rfl, ⟨_, hwa⟩, for_tup (xs := ws) (fun i σ H' => ∃ y3 y4, σ = [some (.ref x), some v1, some (.ref ca), y3, y4] ∧ Same H3 H' ∧ shareIn row ps = shareIn (row.drop i) ps)
      ⟨none, none, rfl, Same.refl _, rfl⟩ (fun i σ H' _ ⟨_, _, _, sm, _⟩ => (Ext.of sm).sqT hwa) ?_ ?_⟩
    · rintro i y σ H' hy ⟨y3, y4, rfl, sm, e⟩
      obtain ⟨d, hd, hyd⟩ := hws.get hy
      rw [drop_at hd] at e
      obtain ⟨p, hp, hp1, _⟩ := hitems d (List.mem_of_getElem? hd)
      rw [hp] at hyd
      obtain ⟨b, ys, rfl, hb, hys⟩ := hyd.tup_inv
      obtain ⟨w1, w2, rfl, k1, k2⟩ := dh_two hys
      have hb' := (Ext.of sm).sqT hb
      refine ⟨b, _, rfl, hb', rfl, w1, _, rfl, w2, _, rfl, rfl, ?_⟩
      refine ⟨_, rfl, _, rfl, ctP p, ctP ps, dp_ct (k1.ext (.of sm)), dp_ct (h1.ext (.of (s13.trans sm))), shaped_ct _, shaped_ct _, _, rfl, ?_⟩
      rw [eqv_ct]
      have ef : shareIn (d :: row.drop (i + 1)) ps = if p = ps then d.p2.zz else shareIn (row.drop (i + 1)) ps := by
        unfold shareIn
        rw [List.find?_cons, hp1, ints_ct]
        by_cases hpp : p = ps
        · rw [decide_eq_true hpp, if_pos hpp]
        · rw [decide_eq_false hpp, if_neg hpp]
      rw [ef] at e
      by_cases hpp : p = ps
      · rw [decide_eq_true hpp]
        refine iteT ?_
        rw [if_pos hpp] at e
        refine ⟨_, rfl, q w2 H' (s13.trans sm) ?_⟩
        rw [e]
        exact k2.ext (.of sm)
      · rw [decide_eq_false hpp]
        refine iteF ?_
        rw [if_neg hpp] at e
        exact ⟨_, _, rfl, sm, e⟩
    · rintro σ H' ⟨y3, y4, rfl, sm, e⟩
      rw [List.drop_eq_nil_of_le (by omega)] at e
      have e' : shareIn row ps = (0, 1) := e
      refine q _ H' (s13.trans sm) ?_
      rw [e']
      exact dh_ct (c := [0, 1]) (T.k_ZERO H')

end
end Fm
namespace Fm
open PySem PySem.Spec PyProof.Rows L2
section
variable {P : Program} {w : World} {K : PySem.W.Frag} {mg : Str → Option Value} {base : Heap}

/-! ### habits compared; shares refused -/
abbrev Item := List Int × (Int × Int)
def rowL (d : Dt) : List Item := d.dues.map fun e => (e.p1.ints, e.p2.zz)
def keyR (ds : List Dt) : List (List Item) := ds.map rowL
def itP (i : Item) : PyData := .tuple [ctP i.1, ctP [i.2.1, i.2.2]]
def rowP (l : List Item) : PyData := .tuple (l.map itP)
def rowsP (ds : List Dt) : PyData := .tuple ((keyR ds).map rowP)
theorem eqv_it (x y : Item) : PyData.eqv (itP x) (itP y) = decide (x = y) := by
  unfold itP
  rw [PyData.eqv, PyData.eqvAll, PyData.eqvAll, PyData.eqvAll, eqv_ct, eqv_fr]
  obtain ⟨a, b⟩ := x
  obtain ⟨c, d⟩ := y
  rw [Bool.eq_iff_iff]
  simp
theorem eqv_row (x y : List Item) : PyData.eqv (rowP x) (rowP y) = decide (x = y) := by
  unfold rowP
  rw [PyData.eqv]
  exact eqv_all eqv_it x y
theorem eqv_rows (x y : List Dt) : PyData.eqv (rowsP x) (rowsP y) = decide (keyR x = keyR y) := by
  unfold rowsP
  rw [PyData.eqv]
  exact eqv_all eqv_row _ _
theorem lay_it (i : Item) : (itP i).canLay0 = true ∧ (itP i).depth ≤ 2 := by
  obtain ⟨h1, h2⟩ := lay_all (f := fun c => ctP c) (n := 1) lay_ct [i.1, [i.2.1, i.2.2]]
  exact ⟨h1, Nat.succ_le_succ h2⟩
theorem lay_row (l : List Item) : (rowP l).canLay0 = true ∧ (rowP l).depth ≤ 3 := by
  obtain ⟨h1, h2⟩ := lay_all (n := 2) lay_it l
  exact ⟨h1, Nat.succ_le_succ h2⟩
theorem lay_rows (ds : List Dt) : (rowsP ds).canLay0 = true ∧ (rowsP ds).depth ≤ 4 := by
  obtain ⟨h1, h2⟩ := lay_all (n := 3) lay_row (keyR ds)
  exact ⟨h1, Nat.succ_le_succ h2⟩
theorem shaped_rows (ds : List Dt) : SeqAt.shaped (rowsP ds) = true := shaped_of (lay_rows ds) (by decide)
theorem dp_items {H : Hp} {n : Int} : ∀ {vs : List V} {ps : List Dt}, DhAll K H vs ps → (∀ e ∈ ps, ∃ p, e = .tup [ctD p, frD e.p2.zz] ∧ e.p1 = ctD p ∧ Asc n (-1) p) → DpAll K H vs ((ps.map fun e => (e.p1.ints, e.p2.zz)).map itP)
  | _, _, .nil, _ => .nil
  | _, _, .cons (d := d) h t, hp => by
    obtain ⟨p, e1, e2, _⟩ := hp d (List.mem_cons_self ..)
    rw [List.map_cons, List.map_cons]
    refine .cons ?_ (dp_items t fun e he => hp e (List.mem_cons_of_mem _ he))
    rw [e2, ints_ct]
    rw [e1] at h
    obtain ⟨a, xs, rfl, s, hx⟩ := h.tup_inv
    obtain ⟨v1, v2, rfl, h1, h2⟩ := dh_two hx
    exact .tup s (.cons (dp_ct h1) (.cons (dp_ct h2) .nil))
theorem dp_rowsAll {H : Hp} {n : Int} : ∀ {vs : List V} {ds : List Dt}, DhAll K H vs ds → (∀ d ∈ ds, d.isRow n = true) → DpAll K H vs ((keyR ds).map rowP)
  | _, _, .nil, _ => .nil
  | _, _, .cons (d := d) h t, hp => by
    obtain ⟨ps, rfl, hi⟩ := isRow_inv (hp d (List.mem_cons_self ..))
    refine .cons ?_ (dp_rowsAll t fun e he => hp e (List.mem_cons_of_mem _ he))
    obtain ⟨a, xs, rfl, s, hx⟩ := h.tup_inv
    exact .tup s (dp_items hx hi)
theorem dp_rows {H : Hp} {n : Int} {v : V} {ds : List Dt} (h : Dh K H v (.tup ds)) (hr : ∀ d ∈ ds, d.isRow n = true) : Dp K H v (rowsP ds) := by
  obtain ⟨a, xs, rfl, s, hx⟩ := h.tup_inv
  exact .tup s (dp_rowsAll hx hr)
/-- what is no habit -/
inductive Oth (K : PySem.W.Frag) (H : Hp) : V → Prop
  | non : Oth K H .non
  | int (i : Int) : Oth K H (.int i)
  | str (x : Str) : Oth K H (.str x)
  | tup {a : Addr} {xs : List V} (h : SqT K H a xs) : Oth K H (.ref a)
theorem Oth.oty (T : Txt K mg) {H : Hp} {y : V} (h : Oth K H y) : ∃ t, OTy K H y t ∧ PySem.W.notFirst K T.c_Habit t = true ∧ TyX K H y t ∧ PySem.W.kitOne K t (.ref T.c_Habit) = some false := by
  have nf : ∀ t : String, PySem.W.subIn K (.type t) (.ref T.c_Habit) = some false → PySem.W.notFirst K T.c_Habit (.type t) = true := fun t e => by
    unfold PySem.W.notFirst
    rw [e]
    simp
  cases h with
  | non => exact ⟨_, .non, nf _ T.so_NoneType, .base .non, T.ko_NoneType⟩
  | int i => exact ⟨_, .int i, nf _ T.so_int, .base (.int i), T.ko_int⟩
  | str x => exact ⟨_, .str x, nf _ T.so_str, .base (.str x), T.ko_str⟩
  | tup h => exact ⟨_, .tup h, nf _ T.so_tuple, tyx_tup h, T.ko_tuple⟩
def spHEq (K : PySem.W.Frag) (C : Addr) : Sp := fun vs H Q _ => ∃ (x : Addr) (y : V) (ss : List Int) (ds : List Dt), vs = [.ref x, y] ∧ Hb K C H x ss ds ∧ Rows ss ds ∧
  ((∃ z ds2, y = .ref z ∧ Hb K C H z ss ds2 ∧ Rows ss ds2 ∧ ∀ H', Same H H' → Q (.bl (decide (keyR ds = keyR ds2))) H') ∨ (Oth K H y ∧ ∀ H', Same H H' → Q (.bl false) H'))
theorem hab_ty (T : Txt K mg) {H : Hp} {x : Addr} {dx : Addr} {fs : List (Str × V)} (h : H x = some (.ins T.c_Habit dx fs)) : TyX K H (.ref x) (.ref T.c_Habit) := .base (.ins h T.l_Habit T.h_Habit T.h2_Habit T.h3_Habit T.h4_Habit)
theorem ok_Habit_eq (T : Txt K mg) : FnOk P w K mg base CX0 1 T.f_Habit_eq T.d_Habit_eq ["self", "other"] (spHEq K T.c_Habit) := by
  refine T.F_Habit_eq.ok sc_Habit_eq (fun vs H Q E h => ?_) (fun cdv A outer s H vs Q E hr h => ?_)
  · obtain ⟨_, _, _, _, rfl, _⟩ := h
    rfl
  · obtain ⟨x, y, ss, ds, rfl, hb, hr1, h⟩ := h
    refine ⟨_, (pss_one (ps_ret (pe_and (pe_callB (call_isiK' K) (by rfl) T.z_isinstance (by decide +kernel) (pa_cons (pv 1) (pa_cons (pe_glob (by rfl) T.g_Habit (show L2.RelV (.ref T.c_Habit) _ from rfl)) pa_nil))) (pe_and (pe_cmpR (op_eqK K hr.units) (pe_fld (pv 0) rfl) (pe_fld (pv 1) rfl) (nomark _)) (pe_one (pe_cmpR (op_eqK K hr.units) (pe_fld (pv 0) rfl) (pe_fld (pv 1) rfl) (nomark _))))))), ?_⟩
    rcases h with ⟨z, ds2, rfl, hb2, hr2, q⟩ | ⟨ho, q⟩
    · obtain ⟨dx, u1, u2, hx, g1, g2⟩ := hb.ex
      obtain ⟨dz, w1, w2, hz, k1, k2⟩ := hb2.ex
      refine ⟨_, rfl, _, _, _, _, _, rfl, .own _, hab_ty T hz, T.kk_Habit, _, rfl, iteT ?_⟩
      refine ⟨_, rfl, x, _, dx, _, _, rfl, hx, T.l_Habit, T.a_sizes, rfl, _, rfl, z, _, dz, _, _, rfl, hz, T.l_Habit, T.a_sizes, rfl, ctP ss, ctP ss, dp_ct g1, dp_ct k1, shaped_ct _, shaped_ct _, ?_⟩
      rw [eqv_ct, decide_eq_true rfl]
      refine ⟨_, rfl, iteT ?_⟩
      refine ⟨_, rfl, x, _, dx, _, _, rfl, hx, T.l_Habit, T.a_rows, rfl, _, rfl, z, _, dz, _, _, rfl, hz, T.l_Habit, T.a_rows, rfl, rowsP ds, rowsP ds2, dp_rows g2 hr1.row, dp_rows k2 hr2.row, shaped_rows _, shaped_rows _, ?_⟩
      rw [eqv_rows]
      exact q H (Same.refl H)
    · obtain ⟨t, _, _, ty, kt⟩ := ho.oty T
      refine ⟨_, rfl, _, _, _, _, _, rfl, .own _, ty, kt, _, rfl, iteF ?_⟩
      exact q H (Same.refl H)
def spShareW (T : Txt K mg) : Sp := fun vs H _ E => ∃ (x : Addr) (ss : List Int) (ds : List Dt) (v1 v2 : V) (d1 d2 : Dt) (C : Addr), vs = [.ref x, v1, v2] ∧ Hb K T.c_Habit H x ss ds ∧ SizesOk ss ∧ Dh K H v1 d1 ∧ Dh K H v2 d2 ∧
  ((d1.isPat ss.length = false ∧ C = T.c_NoPattern) ∨ (d1.isPat ss.length = true ∧ d2.isCont ss = false ∧ C = T.c_NoContent)) ∧ ∀ H', Same H H' → E (.ref C) none H'
theorem okw_share (T : Txt K mg) : FnOk P w K mg base (L2.CX P w) 3 T.f_share T.d_share ["habit", "pattern", "content"] (spShareW T) := by
  refine T.F_share.okX sc_share (fun vs H Q E h => ?_) (fun cdv A outer s H vs Q E hr h => ?_)
  · obtain ⟨_, _, _, _, _, _, _, _, rfl, _⟩ := h
    rfl
  · obtain ⟨x, ss, ds, v1, v2, d1, d2, C, rfl, hh, ok, h1, h2, hw, q⟩ := h
    obtain ⟨dx, u1, u2, hx, g1, g2⟩ := hh.ex
    obtain ⟨sa, rfl, hsa⟩ := ct_inv g1
    refine ⟨_, (pss_cons (ps_if (pt_not (pt_val (pe_call (ok_is_pattern T) hr (by rfl) T.g_is_pattern T.F_is_pattern.kp T.b_is_pattern .nil pass0 (pa_cons (pe_callB (call_lenK K) (by rfl) T.z_len PySem.boot_len (pa_cons (pe_fld (pv 0) rfl) pa_nil)) (pa_cons (pv 1) pa_nil))))) (pss_one (ps_raise rfl (takes_of rfl rfl rfl rfl) (pmk_oexN T.o_NoPattern T.i_NoPattern T.t_NoPattern (ok_NoPattern_init T) (hr.mono (by decide)) T.b_NoPattern_init pass0 (by rfl) T.g_NoPattern))) pss_nil)
      (pss_cons (ps_if (pt_not (pt_val (pe_call (ok_is_content T) hr (by rfl) T.g_is_content T.F_is_content.kp T.b_is_content .nil pass0 (pa_cons (pe_fld (pv 0) rfl) (pa_cons (pv 2) pa_nil))))) (pss_one (ps_raise rfl (takes_of rfl rfl rfl rfl) (pmk_oexN T.o_NoContent T.i_NoContent T.t_NoContent (ok_NoContent_init T) (hr.mono (by decide)) T.b_NoContent_init pass0 (by rfl) T.g_NoContent))) pss_nil)
      (pss_cons (ps_for (passes_of rfl) rfl (pi_tupK K (pe_ix (ix_tupK K) (pe_fld (pv 0) rfl) (pe_call (ok_place_of T) (hr.mono (by decide)) (by rfl) T.g_place_of T.F_place_of.kp T.b_place_of .nil pass0 (pa_cons (pe_fld (pv 0) rfl) (pa_cons (pv 2) pa_nil))) (fun _ _ => rfl))) (pg_tupK K (n := 2) rfl (pgs_cons (pg_name (i := 3) sc_share.nd rfl (.inl rfl)) (pgs_cons (pg_name (i := 4) sc_share.nd rfl (.inl rfl)) pgs_nil))) (pss_one (ps_if (pt_cmpR (op_eqK K hr.units) (pv 3) (pv 1) (nomark _)) (pss_one (ps_ret (pv 4))) pss_nil)))
      (pss_one (ps_ret (pe_glob (by rfl) T.g_ZERO (show L2.RelV (.ref T.v_ZERO) _ from rfl))))))), ?_⟩
    refine ⟨_, rfl, x, _, dx, _, _, rfl, hx, T.l_Habit, T.a_sizes, rfl, sa, _, rfl, .inr hsa, _, rfl, ?_⟩
    refine spD_bl (.cons (.int _) (.cons h1 .nil)) rfl fun H1 s1 => ⟨_, rfl, ?_⟩
    rw [List.length_map]
    rcases hw with ⟨hp, rfl⟩ | ⟨hp, hc, rfl⟩
    · rw [hp]
      exact iteT (q H1 s1)
    · rw [hp]
      refine iteF ?_
      refine ⟨_, rfl, x, _, dx, _, _, rfl, s1 _ _ hx, T.l_Habit, T.a_sizes, rfl, _, rfl, false, sa, ss, _, _, rfl, (Ext.of s1).sqT hsa, h2.ext (.of s1), fun H2 s2 => ⟨_, rfl, ?_⟩⟩
      rw [hc]
      exact iteT (q H2 (s1.trans s2))
def spXShare (T : Txt K mg) : Sp := fun vs H Q E => spShare K T.c_Habit vs H Q L2.E0 ∨ spShareW T vs H Q E
theorem okx_share (T : Txt K mg) : FnOk P w K mg base (L2.CX P w) 3 T.f_share T.d_share ["habit", "pattern", "content"] (spXShare T) := FnOk.orX (ok_share T) (okw_share T)

end
end Fm
namespace Fm
open PySem PySem.Spec PyProof.Rows L2
section
variable {P : Program} {w : World} {K : PySem.W.Frag} {mg : Str → Option Value} {base : Heap}

/-! ### rows: the sum, the whole -/
theorem gz_mul {k a b : Int} (hk : 0 < k) : gz (k * a) (k * b) = k * gz a b := by
  unfold gz
  rw [Int.natAbs_mul, Int.natAbs_mul, Nat.gcd_mul_left, Int.natCast_mul]
  congr 1
  omega
theorem low_mul {k a b : Int} (hk : 0 < k) : lowZ (k * a) (k * b) = lowZ a b := by
  unfold lowZ
  rw [gz_mul hk, Int.mul_ediv_mul_of_pos _ _ hk, Int.mul_ediv_mul_of_pos _ _ hk]
theorem low_cross {a b c d : Int} (hb : 0 < b) (hd : 0 < d) (h : a * d = c * b) : lowZ a b = lowZ c d := by
  rw [← low_mul (a := a) (b := b) hd, ← low_mul (a := c) (b := d) hb, Int.mul_comm d a, h, Int.mul_comm c b, Int.mul_comm d b]
theorem low_parts {t b : Int} (h0 : 0 < b) : t = gz t b * (lowZ t b).1 ∧ b = gz t b * (lowZ t b).2 := by
  obtain ⟨h1, h2⟩ := gz_dvd t b
  unfold lowZ
  exact ⟨(Int.mul_ediv_cancel' h1).symm, (Int.mul_ediv_cancel' h2).symm⟩
theorem low_pos {t b : Int} (h0 : 0 < b) (ht : 0 ≤ t) : 0 < (lowZ t b).2 := (low_fr (n := t.toNat) (B := b.toNat) h0 (by omega) ht (by
  have : t * 1 ≤ t * b := Int.mul_le_mul_of_nonneg_left h0 ht
  have e : ((t.toNat : Nat) : Int) = t := by omega
  rw [e]
  omega)).pos
theorem plus_low {a b B : Int} (hB : 0 < B) (ha : 0 ≤ a) (hb : 0 ≤ b) : plusZ (lowZ a B) (lowZ b B) = lowZ (a + b) B := by
  obtain ⟨a1, a2⟩ := low_parts (t := a) hB
  obtain ⟨b1, b2⟩ := low_parts (t := b) hB
  have p1 := low_pos hB ha
  have p2 := low_pos hB hb
  unfold plusZ
  generalize (lowZ a B).1 = x at *
  generalize (lowZ a B).2 = y at *
  generalize (lowZ b B).1 = u at *
  generalize (lowZ b B).2 = v at *
  generalize gz a B = g at a1 a2
  generalize gz b B = h at b1 b2
  refine low_cross (Int.mul_pos p1 p2) hB ?_
  have e1 : x * v * B = a * (y * v) := by
    rw [a1]
    conv => lhs; rw [a2]
    ac_rfl
  have e2 : u * y * B = b * (y * v) := by
    rw [b1]
    conv => lhs; rw [b2]
    ac_rfl
  rw [Int.add_mul, Int.add_mul, e1, e2]
theorem low_zero {B : Int} (hB : 0 < B) : lowZ 0 B = (0, 1) := by
  unfold lowZ gz
  rw [Int.natAbs_zero, Nat.gcd_zero_left]
  have e : ((B.natAbs : Nat) : Int) = B := by omega
  rw [e, Int.zero_ediv, Int.ediv_self (by omega)]
theorem low_one {B : Int} (hB : 0 < B) : lowZ B B = (1, 1) := by
  unfold lowZ gz
  rw [Nat.gcd_self]
  have e : ((B.natAbs : Nat) : Int) = B := by omega
  rw [e, Int.ediv_self (by omega)]
theorem low_gcd {t b : Int} (h0 : 0 < b) (ht : 0 ≤ t) : gz (lowZ t b).1 (lowZ t b).2 = 1 := by
  have g0 := gz_pos (t := t) h0
  obtain ⟨a1, a2⟩ := low_parts (t := t) h0
  have e : gz t b = gz t b * gz (lowZ t b).1 (lowZ t b).2 := by
    have z := gz_mul (k := gz t b) (a := (lowZ t b).1) (b := (lowZ t b).2) g0
    rw [← a1, ← a2] at z
    exact z
  have : gz t b * 1 = gz t b * gz (lowZ t b).1 (lowZ t b).2 := by rw [Int.mul_one]; exact e
  exact (Int.eq_of_mul_eq_mul_left (by omega) this).symm
def sumI (l : List Int) : Int := l.foldl (· + ·) 0
theorem sumI_snoc (l : List Int) (m : Int) : sumI (l ++ [m]) = sumI l + m := by
  unfold sumI
  rw [List.foldl_append]
  rfl
theorem foldl_low {B : Int} (hB : 0 < B) : ∀ {ms : List Int} {s : Int}, 0 ≤ s → (∀ m ∈ ms, 0 ≤ m) → (ms.map fun m => lowZ m B).foldl plusZ (lowZ s B) = lowZ (ms.foldl (· + ·) s) B
  | [], _, _, _ => rfl
  | m :: ms, s, hs, h => by
    have hm := h m (List.mem_cons_self ..)
    rw [List.map_cons, List.foldl_cons, plus_low hB hs hm, foldl_low hB (by omega) fun x hx => h x (List.mem_cons_of_mem _ hx)]
    rfl
theorem sum_low {B : Int} (hB : 0 < B) {ms : List Int} (h : ∀ m ∈ ms, 0 ≤ m) (hs : sumI ms = B) : sumZ (ms.map fun m => lowZ m B) = (1, 1) := by
  have q := foldl_low hB (s := 0) (Int.le_refl 0) h
  rw [low_zero hB] at q
  unfold sumZ
  rw [q]
  have e : ms.foldl (· + ·) 0 = B := hs
  rw [e]
  exact low_one hB
def ltE (x y : Dt) : Bool := HT.lexLt x.p1.ints y.p1.ints
def hdOk (last : Option (List Int)) : List Dt → Bool
  | [] => true
  | d :: _ => lastLt last d.p1.ints
theorem rowGo_eq {n : Int} : ∀ {ds : List Dt} {last : Option (List Int)} {tot : Int × Int}, rowGo n last tot ds = (ds.all Dt.isPair && ((ds.all fun d => d.p1.isPat n && d.p2.isShr) && ((hdOk last ds && adj ltE ds) && decide ((ds.map fun d => d.p2.zz).foldl plusZ tot = (1, 1)))))
  | [], last, tot => rfl
  | [d], last, tot => by
    show (d.isPair && (d.p1.isPat n && (d.p2.isShr && (lastLt last d.p1.ints && decide (plusZ tot d.p2.zz = (1, 1)))))) = ((d.isPair && true) && (((d.p1.isPat n && d.p2.isShr) && true) && ((lastLt last d.p1.ints && true) && decide (plusZ tot d.p2.zz = (1, 1)))))
    cases d.isPair <;> cases d.p1.isPat n <;> cases d.p2.isShr <;> cases lastLt last d.p1.ints <;> rfl
  | d :: e :: ds, last, tot => by
    have ih := rowGo_eq (n := n) (ds := e :: ds) (last := some d.p1.ints) (tot := plusZ tot d.p2.zz)
    show (d.isPair && (d.p1.isPat n && (d.p2.isShr && (lastLt last d.p1.ints && rowGo n (some d.p1.ints) (plusZ tot d.p2.zz) (e :: ds))))) = ((d.isPair && (e :: ds).all Dt.isPair) && (((d.p1.isPat n && d.p2.isShr) && ((e :: ds).all fun d => d.p1.isPat n && d.p2.isShr)) && ((lastLt last d.p1.ints && (ltE d e && adj ltE (e :: ds))) && decide (((e :: ds).map fun d => d.p2.zz).foldl plusZ (plusZ tot d.p2.zz) = (1, 1)))))
    rw [ih]
    have eh : hdOk (some d.p1.ints) (e :: ds) = ltE d e := rfl
    rw [eh]
    generalize (e :: ds).all Dt.isPair = b1
    generalize ((e :: ds).all fun d => d.p1.isPat n && d.p2.isShr) = b2
    generalize ltE d e = b3
    generalize adj ltE (e :: ds) = b4
    generalize decide (((e :: ds).map fun d => d.p2.zz).foldl plusZ (plusZ tot d.p2.zz) = (1, 1)) = b5
    cases d.isPair <;> cases d.p1.isPat n <;> cases d.p2.isShr <;> cases lastLt last d.p1.ints <;> cases b1 <;> cases b2 <;> cases b3 <;> cases b4 <;> cases b5 <;> rfl
theorem adj_pw {α : Type} {r : α → α → Bool} : ∀ {l : List α}, l.Pairwise (fun x y => r x y = true) → adj r l = true
  | [], _ => rfl
  | [_], _ => rfl
  | x :: y :: l, h => by
    have h' := List.pairwise_cons.mp h
    show (r x y && adj r (y :: l)) = true
    rw [h'.1 y (List.mem_cons_self ..), adj_pw h'.2]
    rfl

end
end Fm
namespace Fm
open PySem PySem.Spec PyProof.Rows L2
section
variable {P : Program} {w : World} {K : PySem.W.Frag} {mg : Str → Option Value} {base : Heap}

/-! ### patterns drawn -/
def CtS (K : PySem.W.Frag) (H : Hp) (xs : List V) : Prop := ∀ x ∈ xs, ∃ c : List Int, Dh K H x (ctD c) ∧ c.length ≤ 5
theorem CtS.ext {H H' : Hp} {xs : List V} (e : Ext H H') (h : CtS K H xs) : CtS K H' xs := fun x hx => by
  obtain ⟨c, hc, hl⟩ := h x hx
  exact ⟨c, hc.ext e, hl⟩
theorem cts_data {H : Hp} : ∀ {xs : List V}, CtS K H xs → ∃ bs : List (V × PyData), bs.map (·.1) = xs ∧ ∀ b ∈ bs, ∃ c : List Int, Dh K H b.1 (ctD c) ∧ b.2 = ctP c
  | [], _ => ⟨[], rfl, fun b hb => by cases hb⟩
  | x :: xs, h => by
    obtain ⟨c, hc, _⟩ := h x (List.mem_cons_self ..)
    obtain ⟨bs, e, hb⟩ := cts_data (xs := xs) fun y hy => h y (List.mem_cons_of_mem _ hy)
    refine ⟨(x, ctP c) :: bs, by rw [List.map_cons, e], fun b hm => ?_⟩
    rcases List.mem_cons.mp hm with z | z
    · rw [z]
      exact ⟨c, hc, rfl⟩
    · exact hb b z
theorem sort_cts {H : Hp} {a : Addr} {xs : List V} {Q : VK} (hs : SqL K H a xs) (hc : CtS K H xs) (q : ∀ p ys, H p = none → ys.length = xs.length → (∀ y ∈ ys, y ∈ xs) → Q (.ref p) (upd H p (.lst ys))) : rSortTs K [.ref a] H Q := by
  obtain ⟨bs, e, hb⟩ := cts_data hc
  refine ⟨a, bs, rfl, by rw [e]; exact hs, fun b hm => ?_, ?_, fun p np => q p _ np ?_ fun y hy => ?_⟩
  · obtain ⟨c, h1, h2⟩ := hb b hm
    rw [h2]
    refine ⟨dp_ct h1, ⟨_, rfl⟩, ?_⟩
    have z := (lay_ct c).2
    omega
  · intro d hd d' hd'
    obtain ⟨b, hm, rfl⟩ := List.mem_map.mp hd
    obtain ⟨b', hm', rfl⟩ := List.mem_map.mp hd'
    obtain ⟨c, _, h2⟩ := hb b hm
    obtain ⟨c', _, h2'⟩ := hb b' hm'
    rw [h2, h2']
    show PySem.W.alikeAll (c.map PyData.int) (c'.map PyData.int) = true
    exact PySem.W.alike_ints c c'
  · rw [List.length_map, List.length_mergeSort, ← e, List.length_map]
  · obtain ⟨b, hm, rfl⟩ := List.mem_map.mp hy
    rw [← e]
    exact List.mem_map.mpr ⟨b, List.mem_mergeSort.mp hm, rfl⟩
/-- patterns of so many columns -/
def CtA (K : PySem.W.Frag) (H : Hp) (n : Nat) (xs : List V) : Prop := ∀ x ∈ xs, ∃ c : List Int, Dh K H x (ctD c) ∧ Asc n (-1) c
theorem CtA.ext {H H' : Hp} {n : Nat} {xs : List V} (e : Ext H H') (h : CtA K H n xs) : CtA K H' n xs := fun x hx => by
  obtain ⟨c, hc, hl⟩ := h x hx
  exact ⟨c, hc.ext e, hl⟩
theorem Asc.snoc {n : Int} : ∀ {l : Int} {ps : List Int}, Asc n l ps → l < n → Asc (n + 1) l (ps ++ [n])
  | _, [], _, h => ⟨h, by omega, True.intro⟩
  | _, c :: r, ⟨h1, h2, h3⟩, _ => ⟨h1, by omega, h3.snoc h2⟩
theorem Asc.wide {n : Int} : ∀ {l : Int} {ps : List Int}, Asc n l ps → Asc (n + 1) l ps
  | _, [], _ => True.intro
  | _, c :: r, ⟨h1, h2, h3⟩ => ⟨h1, by omega, h3.wide⟩
def spPats (K : PySem.W.Frag) : Sp := fun vs H Q _ => ∃ n : Nat, vs = [.int n] ∧ n ≤ 5 ∧ ∀ p xs H', H p = none → Same H H' → H' p = some (.lst xs) → CtA K H' n xs → xs.length ≤ 32 → 1 ≤ xs.length → Q (.ref p) H'
theorem ok_law_patterns (T : Txt K mg) : FnOk P w K mg base CX0 1 T.f_law_patterns T.d_law_patterns ["columns"] (spPats K) := by
  refine T.F_law_patterns.ok sc_law_patterns (fun vs H Q E h => ?_) (fun cdv A outer s H vs Q E hr h => ?_)
  · obtain ⟨_, rfl, _⟩ := h
    rfl
  · obtain ⟨n, rfl, hn, q⟩ := h
    refine ⟨_, (pss_cons (ps_set (i := 1) sc_law_patterns.nd rfl (.inl rfl) (pe_lst (pa_cons (pe_tup pa_nil) pa_nil)))
      (pss_cons (ps_for PassesOwn.never rfl (pi_range1 (by rfl) T.z_range (pa_cons (pv 0) pa_nil)) (pg_name (i := 2) sc_law_patterns.nd rfl (.inr rfl)) (pss_one (ps_set (i := 1) sc_law_patterns.nd rfl (.inl rfl) (pe_op op_cat (pv 1) (pe_lc (own := [("pattern", 3)]) rfl sc_law_patterns.nd (pi_listK K (pv 1)) (blkOk_by (N := N_law_patterns) (sc := defScope s_law_patterns) (by decide +kernel)) (fun _ _ _ _ _ => (pg_name (i := 3) sc_law_patterns.nd rfl (.inl rfl))) (fun _ _ _ _ _ => pts_nil) (fun _ _ _ _ _ => (pe_op (op_catK K) (pv 3) (pe_tup (pa_cons (pv 2) pa_nil)))))))))
      (pss_one (ps_ret (pe_callB (call_sortTsK (K := K) hr.units) (by rfl) T.z_sorted (by decide +kernel) (pa_cons (pv 1) pa_nil)))))), ?_⟩
    refine ⟨by show 0 ≤ sizeLine; decide, fun t nt => ⟨by show 1 ≤ sizeLine; decide, fun f nf => ?_⟩⟩
    have s1 : Same H (upd H t (.tup [])) := same_new nt
    have e1 : (upd H t (.tup [])) t = some (.tup []) := upd_same
    generalize upd H t (.tup []) = H1 at s1 e1 nf ⊢
    have s2 : Same H1 (upd H1 f (.lst [.ref t])) := same_new nf
    have e2 : (upd H1 f (.lst [.ref t])) f = some (.lst [.ref t]) := upd_same
    generalize upd H1 f (.lst [.ref t]) = H2 at s2 e2 ⊢
    have s12 := s1.trans s2
    refine ⟨_, rfl, n, rfl, by omega, by omega, for_range (lo := 0) (n := ((n : Nat) : Int).toNat) (fun i σ H' => ∃ (f : Addr) (xs : List V) (y2 y3 : Option V), σ = [some (.int n), some (.ref f), y2, y3] ∧ Same H H' ∧ H' f = some (.lst xs) ∧ (∀ x ∈ xs, ∃ c : List Int, Dh K H' x (ctD c) ∧ Asc i (-1) c) ∧ xs.length ≤ 2 ^ i ∧ 1 ≤ xs.length)
      ⟨f, _, none, none, rfl, s12, e2, (fun x hx => ⟨[], by rw [List.mem_singleton.mp hx]; exact .tup (SqT.of (s2 _ _ e1)) .nil, True.intro⟩), by show 1 ≤ 1; decide, by show 1 ≤ 1; decide⟩ ?_ ?_⟩
    · rintro i σ H0 hi ⟨f, xs, y2, y3, rfl, sm, hf, hc, hlen, hpos⟩
      rw [Int.toNat_natCast] at hi
      have h32 : 2 ^ i ≤ 2 ^ 5 := Nat.pow_le_pow_right (by decide) (by omega)
      refine ⟨_, rfl, ?_⟩
      refine ⟨_, rfl, f, rfl, ⟨xs, SqL.of hf⟩, fun D nD => lc_list (K := K) (xs := xs) (fun j H' => ∃ acc, Same H0 H' ∧ H' D = some (.lst acc) ∧ acc.length = j ∧ ∀ x ∈ acc, ∃ c : List Int, Dh K H' x (ctD c) ∧ Asc ((i : Int) + 1) (-1) c) ⟨[], same_new nD, upd_same, rfl, fun x hx => by cases hx⟩ (fun j H' _ ⟨_, s', _⟩ => s'.seq (SqL.of hf)) ?_ ?_⟩
      · rintro j x H' hx ⟨acc, s', hD, hal, hac⟩
        obtain ⟨c, hxc, hcl⟩ := hc x (List.mem_of_getElem? hx)
        have hjl := (List.getElem?_eq_some_iff.mp hx).1
        refine ⟨rfl, ?_⟩
        dsimp only [tYes]
        rw [if_pos rfl]
        have hc5 : c.length ≤ 1000 := by
          have := hcl.len (by omega)
          omega
        refine ⟨_, rfl, _, rfl, by show 1 ≤ sizeLine; decide, fun r nr => cat_ct (K := K) (c := c) (j := (0 + (i : Int))) (hxc.ext (.of (s'.trans (same_new nr)))) hc5 upd_same fun v H3 s4 hv => ?_⟩
        have s5 : Same H' H3 := (same_new nr).trans s4
        refine ⟨acc, s5 _ _ hD, sz_small (by omega), acc ++ [v], Same.put nD (s'.trans s5), upd_same, by rw [List.length_append, hal]; rfl, fun y hy => ?_⟩
        have ep : Ext H3 (upd H3 D (.lst (acc ++ [v]))) := Ext.put (s5 _ _ hD)
        rcases List.mem_append.mp hy with hy | hy
        · obtain ⟨c', h1, h2⟩ := hac y hy
          exact ⟨c', (h1.ext (.of s5)).ext ep, h2⟩
        · rw [List.mem_singleton.mp hy]
          exact ⟨c ++ [0 + (i : Int)], hv.ext ep, by rw [Int.zero_add]; exact hcl.snoc (by omega)⟩
      · rintro H' ⟨acc, s', hD, hal, hac⟩
        refine ⟨f, D, xs, acc, rfl, rfl, s' _ _ hf, hD, Nat.le_of_lt (sz_small (by omega)), fun p np => ?_⟩
        have sp : Same H' (upd H' p (.lst (xs ++ acc))) := same_new np
        refine ⟨p, _, _, _, rfl, (sm.trans s').trans sp, upd_same, fun x hx => ?_, ?_⟩
        · rcases List.mem_append.mp hx with hx | hx
          · obtain ⟨c, h1, h2⟩ := hc x hx
            exact ⟨c, h1.ext (.of (s'.trans sp)), h2.wide⟩
          · obtain ⟨c, h1, h2⟩ := hac x hx
            exact ⟨c, h1.ext (.of sp), h2⟩
        · rw [List.length_append, hal, Nat.pow_succ]
          refine ⟨by omega, by omega⟩
    · rintro σ H' ⟨f, xs, y2, y3, rfl, sm, hf, hc, hlen, hpos⟩
      rw [Int.toNat_natCast] at hc hlen
      have h32 : 2 ^ n ≤ 2 ^ 5 := Nat.pow_le_pow_right (by decide) hn
      have hcs : CtS K H' xs := fun x hx => by
        obtain ⟨c, h1, h2⟩ := hc x hx
        exact ⟨c, h1, by have := h2.len (by omega); omega⟩
      have hca : CtA K H' n xs := hc
      refine ⟨_, rfl, sort_cts (SqL.of hf) hcs fun p ys np hyl hy => ?_⟩
      have sp : Same H' (upd H' p (.lst ys)) := same_new np
      exact q p ys _ (sm.free np) (sm.trans sp) upd_same (fun y hm => (hca.ext (.of sp)) y (hy y hm)) (by omega) (by omega)

end
end Fm
namespace Fm
open PySem PySem.Spec PyProof.Rows L2
section
variable {P : Program} {w : World} {K : PySem.W.Frag} {mg : Str → Option Value} {base : Heap}

/-! ### rows drawn -/
theorem Keep.putN {H H' : Hp} {h c D : Addr} {o : HO} (x : HandOk H h c) (k : Keep h c H H') (n : H' D = none) : Keep h c H (upd H' D o) := k.same (same_new n)
/-- a drawn row -/
def RowV (K : PySem.W.Frag) (H : Hp) (n : Int) (v : V) : Prop := ∃ ps, Dh K H v (.tup ps) ∧ Wf (.tup ps) ∧ (Dt.tup ps).isRow n = true ∧ 1 ≤ ps.length ∧ ps.length ≤ 4 ∧ ∀ e ∈ ps, e.p2.zz.2 ≤ 100
theorem RowV.ext {H H' : Hp} {n : Int} {v : V} (e : Ext H H') : RowV K H n v → RowV K H' n v := fun ⟨ps, h1, h2⟩ => ⟨ps, h1.ext e, h2⟩
def spLRow (K : PySem.W.Frag) : Sp := fun vs H Q _ => ∃ (h c : Addr) (n : Nat), vs = [.ref h, .int n] ∧ HandOk H h c ∧ n ≤ 5 ∧ ∀ v H', Keep h c H H' → RowV K H' n v → Q v H'
/-- the items made so far -/
def itD (B : Int) (q : List Int) (m : Int) : Dt := .tup [ctD q, frD (lowZ m B)]
theorem itD_shr {B m : Int} (h1 : 1 ≤ m) (h2 : m ≤ B) : (frD (lowZ m B)).isShr = true := by
  have hB : 0 < B := by omega
  have hm : 0 ≤ m := by omega
  have f := low_fr (n := 1) (B := B.toNat) hB (by omega) hm (by omega)
  have g := low_gcd (t := m) hB hm
  obtain ⟨a1, a2⟩ := low_parts (t := m) hB
  have t1 : 1 ≤ (lowZ m B).1 := by
    rcases Int.lt_or_le 0 (lowZ m B).1 with h | h
    · exact h
    · have e : (lowZ m B).1 = 0 := by have := f.top0; omega
      rw [e, Int.mul_zero] at a1
      omega
  have t2 : (lowZ m B).1 ≤ (lowZ m B).2 := by have := f.top; omega
  show (decide (1 ≤ (lowZ m B).1) && (decide ((lowZ m B).1 ≤ (lowZ m B).2) && decide (gz (lowZ m B).1 (lowZ m B).2 = 1))) = true
  rw [decide_eq_true t1, decide_eq_true t2, decide_eq_true g]
  rfl
theorem itD_wf {n : Nat} {B m : Int} {q : List Int} (hn : n ≤ 5) (ha : Asc n (-1) q) (h1 : 1 ≤ m) (h2 : m ≤ B) (hB : B ≤ 100) : Wf (itD B q m) := by
  have f := low_fr (n := 1) (B := B.toNat) (by omega) (by omega) (show 0 ≤ m by omega) (show m ≤ ((1 : Nat) : Int) * B by omega)
  have b1 := f.bot
  have b2 := f.top
  have b3 := f.top0
  have b4 := f.pos
  have big : 100 ≤ B30 := by decide
  have ql := ha.len (by omega)
  refine .tup (by show 2 ≤ 10; decide) fun d hd => ?_
  simp only [List.mem_cons, List.not_mem_nil, or_false] at hd
  rcases hd with rfl | rfl
  · refine .tup (by rw [List.length_map]; omega) fun d hd => ?_
    obtain ⟨i, hi, rfl⟩ := List.mem_map.mp hd
    have := ha.mem i hi
    exact .int (by omega)
  · refine .tup (by show 2 ≤ 10; decide) fun d hd => ?_
    obtain ⟨i, hi, rfl⟩ := List.mem_map.mp hd
    simp only [List.mem_cons, List.not_mem_nil, or_false] at hi
    rcases hi with rfl | rfl
    · exact .int (by omega)
    · exact .int (by omega)
/-- such a row is right -/
theorem made_row {n : Nat} {B : Int} {qs : List (List Int)} {ms : List Int} (hn : n ≤ 5) (hl : qs.length = ms.length) (hq : ∀ q ∈ qs, Asc n (-1) q) (hp : qs.Pairwise fun x y => HT.lexLt x y = true) (h1 : ∀ m ∈ ms, 1 ≤ m ∧ m ≤ B) (hs : sumI ms = B) (hB : B ≤ 100) (h0 : 0 < B) (h4 : qs.length ≤ 4) :
    Wf (.tup (List.zipWith (itD B) qs ms)) ∧ (Dt.tup (List.zipWith (itD B) qs ms)).isRow n = true ∧ ∀ e ∈ List.zipWith (itD B) qs ms, e.p2.zz.2 ≤ 100 := by
  have mem : ∀ d ∈ List.zipWith (itD B) qs ms, ∃ q m, q ∈ qs ∧ m ∈ ms ∧ d = itD B q m := fun d hd => by
    obtain ⟨i, hi, rfl⟩ := List.mem_iff_getElem.mp hd
    rw [List.length_zipWith] at hi
    rw [List.getElem_zipWith]
    exact ⟨_, _, List.getElem_mem _, List.getElem_mem _, rfl⟩
  refine ⟨.tup (by rw [List.length_zipWith]; omega) fun d hd => ?_, ?_, fun d hd => ?_⟩
  rotate_left 2
  · obtain ⟨q, m, e1, e2, rfl⟩ := mem d hd
    have f := low_fr (n := 1) (B := B.toNat) (t := m) h0 (by omega) (by have := (h1 m e2).1; omega) (by have := (h1 m e2).2; omega)
    have z : (lowZ m B).2 ≤ 100 := by have := f.bot; omega
    exact z
  · obtain ⟨q, m, e1, e2, rfl⟩ := mem d hd
    exact itD_wf hn (hq q e1) (h1 m e2).1 (h1 m e2).2 hB
  · show rowGo n none (0, 1) _ = true
    rw [rowGo_eq]
    have a1 : (List.zipWith (itD B) qs ms).all Dt.isPair = true := List.all_eq_true.mpr fun d hd => by
      obtain ⟨q, m, _, _, rfl⟩ := mem d hd
      rfl
    have a2 : ((List.zipWith (itD B) qs ms).all fun d => d.p1.isPat n && d.p2.isShr) = true := List.all_eq_true.mpr fun d hd => by
      obtain ⟨q, m, e1, e2, rfl⟩ := mem d hd
      show ((ctD q).isPat n && (frD (lowZ m B)).isShr) = true
      rw [(hq q e1).isPat, itD_shr (h1 m e2).1 (h1 m e2).2]
      rfl
    have a3 : hdOk none (List.zipWith (itD B) qs ms) = true := by
      cases List.zipWith (itD B) qs ms <;> rfl
    have key : ∀ (qs : List (List Int)) (ms : List Int), qs.length = ms.length → (List.zipWith (itD B) qs ms).map (fun d => d.p1.ints) = qs ∧ (List.zipWith (itD B) qs ms).map (fun d => d.p2.zz) = ms.map fun m => lowZ m B := by
      intro qs
      induction qs with
      | nil =>
        intro ms h
        have : ms = [] := List.eq_nil_of_length_eq_zero h.symm
        subst this
        exact ⟨rfl, rfl⟩
      | cons q qs ih =>
        intro ms h
        match ms, h with
        | m :: ms, h =>
          obtain ⟨i1, i2⟩ := ih ms (by simpa using h)
          refine ⟨?_, ?_⟩
          · rw [List.zipWith_cons_cons, List.map_cons, i1]
            show (ctD q).ints :: qs = q :: qs
            rw [ints_ct]
          · rw [List.zipWith_cons_cons, List.map_cons, i2]
            rfl
    obtain ⟨k1, k2⟩ := key qs ms hl
    have a4 : adj ltE (List.zipWith (itD B) qs ms) = true := by
      refine adj_pw ?_
      have z : ((List.zipWith (itD B) qs ms).map fun d => d.p1.ints).Pairwise fun x y => HT.lexLt x y = true := by rw [k1]; exact hp
      exact List.pairwise_map.mp z
    have a5 : ((List.zipWith (itD B) qs ms).map fun d => d.p2.zz).foldl plusZ (0, 1) = (1, 1) := by
      rw [k2]
      exact sum_low h0 (fun m hm => by have := (h1 m hm).1; omega) hs
    rw [a1, a2, a3, a4, a5]
    rfl
theorem nodup_len {α : Type} [DecidableEq α] : ∀ (l D : List α), l.Nodup → (∀ x ∈ l, x ∈ D) → l.length ≤ D.length
  | [], _, _, _ => Nat.zero_le _
  | x :: l, D, hn, hs => by
    have h' := List.nodup_cons.mp hn
    have hx := hs x (List.mem_cons_self ..)
    have ih := nodup_len l (D.erase x) h'.2 fun y hy => (List.mem_erase_of_ne (show y ≠ x from by
      intro e
      rw [e] at hy
      exact h'.1 hy)).mpr (hs y (List.mem_cons_of_mem _ hy))
    rw [List.length_erase_of_mem hx] at ih
    have := List.length_pos_of_mem hx
    rw [List.length_cons]
    omega
theorem e_more {h c f kp : Addr} {left : Int} {N i : Nat} {acc kl : List V} {z1 z2 z4 z7 z8 z9 : Option V} {H : Hp} {Q : VK} (hx : HandOk H h c) (hf : H f = some (.lst acc)) (hk : H kp = some (.lst kl)) (la : acc.length = i) (lk : kl.length = N) (hi : i < N) (l0 : 0 ≤ left) (lb : left ≤ 100)
    (q : ∀ more H2, Keep h c H H2 → 0 ≤ more → more ≤ left → (i + 1 = N → more = left) → Q (.int more) H2) :
    tIf (tTest (tOp rEq (tCB (rLenK K) (tCons (tVar 6) tNil)) (tOp (rI0 fun i j => V.int (i - j)) (tCB (rLenK K) (tCons (tVar 3) tNil)) (tC (V.int 1))))) (tVar 5) (tCall (spDraw K) [] E0 (tCons (tVar 0) (tCons (tOp (rI0 fun i j => V.int (i + j)) (tVar 5) (tC (V.int 1))) tNil)))
      [some (.ref h), z1, z2, some (.ref kp), z4, some (.int left), some (.ref f), z7, z8, z9] H Q := by
  refine ⟨_, rfl, f, _, rfl, .inl (SqL.of hf), _, rfl, kp, _, rfl, .inl (SqL.of hk), _, _, rfl, rfl, rfl, _, rfl, ?_⟩
  rw [dec_int, la, lk]
  by_cases e : i + 1 = N
  · have e2 : ((i : Int) == (N : Int) - 1) = true := beq_iff_eq.mpr (by omega)
    rw [e2]
    refine iteT ?_
    exact ⟨_, rfl, q left H (Keep.of hx (Same.refl H)) l0 (Int.le_refl _) fun _ => rfl⟩
  · have e2 : ((i : Int) == (N : Int) - 1) = false := beq_eq_false_iff_ne.mpr (by omega)
    rw [e2]
    refine iteF ?_
    exact ⟨_, rfl, _, rfl, _, _, rfl, rfl, h, c, left + 1, rfl, hx, by omega, by omega, fun d H2 d0 d1 k => q d H2 k d0 (by omega) fun z => absurd z e⟩
theorem ok_law_row (T : Txt K mg) : FnOk P w K mg base CX0 3 T.f_law_row T.d_law_row ["hand", "columns"] (spLRow K) := by
  refine T.F_law_row.ok sc_law_row (fun vs H Q E h => ?_) (fun cdv A outer s H vs Q E hr h => ?_)
  · obtain ⟨_, _, _, rfl, _⟩ := h
    rfl
  · obtain ⟨h, c, n, rfl, hx, hn, q⟩ := h
    refine ⟨_, (pss_cons (ps_set (i := 2) sc_law_row.nd rfl (.inr rfl) (pe_call (ok_law_patterns T) (hr.mono (by decide)) (by rfl) T.g_law_patterns T.F_law_patterns.kp T.b_law_patterns .nil pass0 (pa_cons (pv 1) pa_nil)))
      (pss_cons (ps_set (i := 3) sc_law_row.nd rfl (.inl rfl) (pe_callB (call_sortSU (K := K) (P := P) (w := w) rfl hr.units) (by rfl) T.z_sorted (by decide +kernel) (pa_cons (pe_callTy (call_setOfTK (K := K) (P := P) (w := w) rfl hr.units) (by rfl) T.z_set (by decide +kernel) (pa_cons (pe_lc (own := [("k", 9)]) rfl sc_law_row.nd (pi_range1 (by rfl) T.z_range (pa_cons (pe_op op_add pe_int (pe_call (ok_law_draw T) (hr.mono (by decide)) (by rfl) T.g_law_draw T.F_law_draw.kp T.b_law_draw .nil pass0 (pa_cons (pv 0) (pa_cons pe_int pa_nil)))) pa_nil)) (blkOk_by (N := N_law_row) (sc := defScope s_law_row) (by decide +kernel)) (fun _ _ _ _ _ => (pg_name (i := 9) sc_law_row.nd rfl (.inl rfl))) (fun _ _ _ _ _ => pts_nil) (fun _ _ _ _ _ => (pe_call (ok_law_some T) hr (by rfl) T.g_law_some T.F_law_some.kp T.b_law_some .nil pass0 (pa_cons (pv 0) (pa_cons (pv 2) pa_nil))))) pa_nil)) pa_nil)))
      (pss_cons (ps_set (i := 4) sc_law_row.nd rfl (.inl rfl) (pe_op op_add (pe_callB (call_lenK K) (by rfl) T.z_len PySem.boot_len (pa_cons (pv 3) pa_nil)) (pe_call (ok_law_draw T) (hr.mono (by decide)) (by rfl) T.g_law_draw T.F_law_draw.kp T.b_law_draw .nil pass0 (pa_cons (pv 0) (pa_cons pe_int pa_nil)))))
      (pss_cons (ps_set (i := 5) sc_law_row.nd rfl (.inl rfl) (pe_op op_sub (pv 4) (pe_callB (call_lenK K) (by rfl) T.z_len PySem.boot_len (pa_cons (pv 3) pa_nil))))
      (pss_cons (ps_set (i := 6) sc_law_row.nd rfl (.inl rfl) (pe_lst pa_nil))
      (pss_cons (ps_for PassesOwn.never rfl (pi_listK K (pv 3)) (pg_name (i := 7) sc_law_row.nd rfl (.inl rfl)) (pss_cons (ps_set (i := 8) sc_law_row.nd rfl (.inl rfl) (pe_ifExp (pt_cmpR op_eq (pe_callB (call_lenK K) (by rfl) T.z_len PySem.boot_len (pa_cons (pv 6) pa_nil)) (pe_op op_sub (pe_callB (call_lenK K) (by rfl) T.z_len PySem.boot_len (pa_cons (pv 3) pa_nil)) pe_int) (nomark _)) (pv 5) (pe_call (ok_law_draw T) (hr.mono (by decide)) (by rfl) T.g_law_draw T.F_law_draw.kp T.b_law_draw .nil pass0 (pa_cons (pv 0) (pa_cons (pe_op op_add (pv 5) pe_int) pa_nil)))))
      (pss_cons (ps_set (i := 5) sc_law_row.nd rfl (.inl rfl) (pe_op op_sub (pv 5) (pv 8)))
      (pss_one (ps_expr (pe_bm PySem.F.plainAttrs_list PySem.F.slot_list_append PySem.F.type_list_append mt_append (pv 6) (pa_cons (pe_tup (pa_cons (pv 7) (pa_cons (pe_call (ok_law_low T) (hr.mono (by decide)) (by rfl) T.g_law_low T.F_law_low.kp T.b_law_low .nil pass0 (pa_cons (pe_op op_add pe_int (pv 8)) (pa_cons (pv 4) pa_nil))) pa_nil))) pa_nil)))))))
      (pss_one (ps_ret (pe_callTy (call_tupleK K) (by rfl) T.z_tuple (by decide +kernel) (pa_cons (pv 6) pa_nil)))))))))), ?_⟩
    refine ⟨_, rfl, n, rfl, hn, fun p xs H1 np s1 hp hc hl h1 => ?_⟩
    have nph : p ≠ h := (hx.ne np).1
    have x1 := hx.same s1
    -- the set
    refine ⟨_, rfl, h, c, 4, rfl, x1, by decide, by decide, fun d H2 d0 d1 k2 => ?_⟩
    refine ⟨1, d, rfl, rfl, _, rfl, by omega, by omega, fun D hD => lc_range (lo := 0) (n := (1 + d).toNat) (fun i H' => ∃ ks : List (Addr × List Int), Keep h c H2 H' ∧ H' D = some (.lst (ks.map fun p => V.ref p.1)) ∧ (∀ p ∈ ks, SqT K H' p.1 (p.2.map V.int) ∧ Asc n (-1) p.2) ∧ ks.length = i)
      ⟨[], Keep.of k2.hand (same_new hD), upd_same, (fun p hp => by cases hp), rfl⟩ ?_ ?_⟩
    · rintro i H' hi ⟨ks, k, hDl, hks, hkl⟩
      have ndh : D ≠ h := (k2.hand.ne hD).1
      have k12 := k2.trans k
      refine ⟨rfl, ?_⟩
      dsimp only [tYes]
      rw [if_pos rfl]
      refine ⟨_, rfl, _, rfl, h, c, p, xs, rfl, k12.hand, nph, k12.rest _ _ nph hp, by omega, by omega, fun x H3 hxm k3 => ?_⟩
      obtain ⟨ct, hct, asc⟩ := (hc.ext (Keep.ext x1 (k12.trans k3))) x hxm
      obtain ⟨a, rfl, ha⟩ := ct_inv hct
      have hD3 := k3.rest _ _ ndh hDl
      have ep : Ext H3 (upd H3 D (.lst ((ks.map fun p => V.ref p.1) ++ [V.ref a]))) := Ext.put hD3
      refine ⟨_, hD3, ?_, ks ++ [(a, ct)], Keep.put k2.hand (k.trans k3) hD, ?_, ?_, ?_⟩
      · rw [List.length_map]
        exact sz_small (by omega)
      · rw [upd_same, List.map_append]
        rfl
      · intro p hp
        rcases List.mem_append.mp hp with hp | hp
        · exact ⟨ep.sqT ((Keep.ext k.hand k3).sqT (hks p hp).1), (hks p hp).2⟩
        · rw [List.mem_singleton.mp hp]
          exact ⟨ep.sqT ha, asc⟩
      · rw [List.length_append, hkl]
        rfl
    · rintro H3 ⟨ks, k3, hDl, hks, hkl⟩
      refine ⟨D, ks, rfl, SqL.of hDl, fun p hp => (hks p hp).1, by omega, fun sa L nsa hsub hall => ?_⟩
      have sA : Same H3 (upd H3 sa (SetTO P w sa L)) := same_new nsa
      refine ⟨sa, L, rfl, upd_same, fun p hp => (Ext.of sA).sqT (hks p (hsub p hp)).1, fun L' kp perm hlt pw nkp => ?_⟩
      have sB : Same H3 (upd (upd H3 sa (SetTO P w sa L)) kp (.lst (L'.map fun q => V.ref q.1))) := sA.trans (same_new nkp)
      have hkp : (upd (upd H3 sa (SetTO P w sa L)) kp (.lst (L'.map fun q => V.ref q.1))) kp = some (.lst (L'.map fun q => V.ref q.1)) := upd_same
      have hL' : ∀ q ∈ L', SqT K (upd (upd H3 sa (SetTO P w sa L)) kp (.lst (L'.map fun q => V.ref q.1))) q.1 (q.2.map V.int) ∧ Asc n (-1) q.2 := fun q hq => by
        have z := hks q (hsub q (perm.mem_iff.mp hq))
        exact ⟨(Ext.of sB).sqT z.1, z.2⟩
      have kpn : kp ≠ h := ((k3.hand.same sA).ne nkp).1
      have kB := (k2.trans k3).same sB
      have lpos : 1 ≤ L'.length := by
        rw [perm.length_eq]
        have hk0 : 0 < ks.length := by omega
        have z := hall ks[0] (List.getElem_mem hk0)
        cases L with
        | nil => cases z
        | cons y r =>
          rw [List.length_cons]
          omega
      have l4 : L'.length ≤ 4 := by
        have z : (L'.map (·.2)).Nodup := by
          refine List.pairwise_map.mpr (pw.imp fun {a b} hab e => ?_)
          rw [e, lexLt_dec] at hab
          exact List.lt_irrefl _ (of_decide_eq_true hab)
        have y := nodup_len (L'.map (·.2)) (ks.map (·.2)) z fun e he => by
          obtain ⟨q, hq, rfl⟩ := List.mem_map.mp he
          exact List.mem_map.mpr ⟨q, hsub q (perm.mem_iff.mp hq), rfl⟩
        rw [List.length_map, List.length_map] at y
        omega
      generalize upd (upd H3 sa (SetTO P w sa L)) kp (.lst (L'.map fun q => V.ref q.1)) = H4 at sB hkp hL' kB ⊢
      have kA := (Keep.of hx s1).trans kB
      clear k2 k3 hDl hks hall hsub sA nsa perm hlt hc hp hl h1 s1 sB hD hkl nkp d0 d1
      refine ⟨_, rfl, kp, _, rfl, .inl (SqL.of hkp), _, rfl, h, c, 8, rfl, kA.hand, by decide, by decide, fun r H5 r0 r1 k5 => ⟨_, r, rfl, rfl, ?_⟩⟩
      have hkp5 := k5.rest _ _ kpn hkp
      refine ⟨_, rfl, _, rfl, kp, _, rfl, .inl (SqL.of hkp5), _, _, rfl, rfl, ?_⟩
      refine ⟨by show 0 ≤ sizeLine; decide, fun f nf => ?_⟩
      have nfh : f ≠ h := (k5.hand.ne nf).1
      have nfk : f ≠ kp := fun e => by
        rw [e, hkp5] at nf
        cases nf
      have k6 : Keep h c H (upd H5 f (.lst [])) := (kA.trans k5).same (same_new nf)
      have hkp6 : (upd H5 f (.lst [])) kp = some (.lst (L'.map fun q => V.ref q.1)) := (same_new nf) _ _ hkp5
      have hf6 : (upd H5 f (.lst [])) f = some (.lst []) := upd_same
      have hL6 : ∀ q ∈ L', SqT K (upd H5 f (.lst [])) q.1 (q.2.map V.int) ∧ Asc n (-1) q.2 := fun q hq => ⟨(Ext.new nf).sqT ((Keep.ext kA.hand k5).sqT (hL' q hq).1), (hL' q hq).2⟩
      have nfH : H f = none := Keep.free hx (kA.trans k5) nf
      generalize upd H5 f (.lst []) = H6 at k6 hkp6 hf6 hL6 ⊢
      rw [List.length_map] at *
      generalize hN : L'.length = N at *
      obtain ⟨r', rfl⟩ := Int.eq_ofNat_of_zero_le r0
      have hB : ((N : Int) + (r' : Int)) ≤ 100 := by omega
      generalize hBB : ((N : Int) + (r' : Int)) = B at *
      refine ⟨_, rfl, kp, rfl, ⟨_, SqL.of hkp6⟩, for_list (K := K) (a := kp) (xs := L'.map fun q => V.ref q.1) (fun i σ H' => ∃ (left : Int) (y7 y8 y9 : Option V) (acc : List V) (ms : List Int), σ = [some (.ref h), some (.int n), some (.ref p), some (.ref kp), some (.int B), some (.int left), some (.ref f), y7, y8, y9] ∧ Keep h c H H' ∧ H' kp = some (.lst (L'.map fun q => V.ref q.1)) ∧ H' f = some (.lst acc) ∧ (∀ q ∈ L', SqT K H' q.1 (q.2.map V.int) ∧ Asc n (-1) q.2) ∧
          ms.length = i ∧ DhAll K H' acc (List.zipWith (itD B) ((L'.map (·.2)).take i) ms) ∧ (∀ m ∈ ms, 1 ≤ m ∧ m ≤ B) ∧ 0 ≤ left ∧ sumI ms + left + N = B + i ∧ (i = N → left = 0))
        ⟨B - N, none, none, none, [], [], ?_, k6, hkp6, hf6, hL6, rfl, .nil, (fun m hm => by cases hm), ?_, ?_, ?_⟩ (fun i σ H' _ ⟨_, _, _, _, _, _, _, _, e, _⟩ => SqL.of e) ?_ ?_⟩
      · rw [← hBB]
        rfl
      · omega
      · show (0 : Int) + _ + _ = _
        omega
      · intro e
        omega
      · rintro i x σ H' hxi ⟨left, y7, y8, y9, acc, ms, rfl, k, ekp, ef, hLi, hml, hacc, hms, l0, hsum, hend⟩
        have hiN : i < N := by
          have z := (List.getElem?_eq_some_iff.mp hxi).1
          rw [List.length_map, hN] at z
          exact z
        obtain ⟨q', hq', rfl⟩ := map_at hxi
        have hqm := List.mem_of_getElem? hq'
        have hal : acc.length = i := by
          rw [hacc.length, List.length_zipWith, List.length_take, List.length_map, hN, hml]
          omega
        have hms0 : 0 ≤ sumI ms ∧ (i : Int) ≤ sumI ms := by
          have key : ∀ (l : List Int), (∀ m ∈ l, 1 ≤ m) → (l.length : Int) ≤ sumI l := by
            intro l
            have gen : ∀ (l : List Int) (s : Int), (∀ m ∈ l, 1 ≤ m) → (l.length : Int) + s ≤ l.foldl (· + ·) s := by
              intro l
              induction l with
              | nil => intro s _; show ((0 : Nat) : Int) + s ≤ s; omega
              | cons m l ih =>
                intro s hl
                have h1 := hl m (List.mem_cons_self ..)
                have h2 := ih (s + m) fun y hy => hl y (List.mem_cons_of_mem _ hy)
                rw [List.length_cons, List.foldl_cons]
                omega
            intro hl
            have := gen l 0 hl
            unfold sumI
            omega
          have z := key ms fun m hm => (hms m hm).1
          rw [hml] at z
          exact ⟨by omega, z⟩
        refine e_more (K := K) k.hand ef ekp hal (by rw [List.length_map, hN]) hiN l0 (by omega) fun more H2 k2 m0 m1 m2 => ?_
        have ef2 := k2.rest _ _ nfh ef
        have ekp2 := k2.rest _ _ kpn ekp
        have kk := k.trans k2
        have hL2 : ∀ q ∈ L', SqT K H2 q.1 (q.2.map V.int) ∧ Asc n (-1) q.2 := fun q hq => ⟨(Keep.ext k.hand k2).sqT (hLi q hq).1, (hLi q hq).2⟩
        have hacc2 := hacc.ext (Keep.ext k.hand k2)
        refine ⟨_, rfl, _, rfl, _, _, rfl, rfl, ?_⟩
        have bbig : (100 : Int) ≤ (top300 : Int) := by decide +kernel
        refine ⟨_, rfl, .inl ⟨rfl, _, SqL.of ef2⟩, _, rfl, _, rfl, _, _, rfl, rfl, _, rfl, 1 + more, B, rfl, by omega, by omega, by omega, fun v H3 s3 hv => ⟨by show 2 ≤ sizeLine; decide, fun t nt => ?_⟩⟩
        have s4 : Same H2 (upd H3 t (.tup [.ref q'.1, v])) := s3.trans (same_new nt)
        have ef4 := s4 _ _ ef2
        refine ⟨f, _, _, rfl, rfl, ef4, sz_small (by omega), ?_⟩
        have ep : Ext (upd H3 t (.tup [.ref q'.1, v])) (upd (upd H3 t (.tup [.ref q'.1, v])) f (.lst (acc ++ [.ref t]))) := Ext.put ef4
        refine ⟨left - more, _, _, y9, acc ++ [.ref t], ms ++ [1 + more], rfl, Keep.put hx (kk.same s4) nfH, ?_, upd_same, ?_, by rw [List.length_append, hml]; rfl, ?_, ?_, by omega, ?_, ?_⟩
        · rw [upd_ne nfk.symm]
          exact s4 _ _ ekp2
        · intro q hq
          exact ⟨ep.sqT ((Ext.of s4).sqT (hL2 q hq).1), (hL2 q hq).2⟩
        · have e1 : (L'.map (·.2)).take (i + 1) = (L'.map (·.2)).take i ++ [q'.2] := by
            rw [List.take_add_one, List.getElem?_map, hq']
            rfl
          rw [e1, List.zipWith_append (by rw [List.length_take, List.length_map, hN, hml]; omega)]
          refine (hacc2.ext (.of s4)).ext ep |>.snoc ?_
          refine .tup (ep.sqT (SqT.of upd_same)) (.cons (dh_ct (ep.sqT ((Ext.of s4).sqT (hL2 q' hqm).1))) (.cons ((hv.ext (Ext.new nt)).ext ep) .nil))
        · intro m hm
          rcases List.mem_append.mp hm with hm | hm
          · exact hms m hm
          · rw [List.mem_singleton.mp hm]
            exact ⟨by omega, by omega⟩
        · rw [sumI_snoc]
          omega
        · intro e
          have := m2 e
          omega
      · rintro σ H' ⟨left, y7, y8, y9, acc, ms, rfl, k, ekp, ef, hLi, hml, hacc, hms, l0, hsum, hend⟩
        rw [List.length_map, hN] at hml hacc hsum hend
        have hleft := hend rfl
        have et : (L'.map (·.2)).take N = L'.map (·.2) := List.take_of_length_le (by rw [List.length_map, hN]; exact Nat.le_refl _)
        rw [et] at hacc
        obtain ⟨wf, row, few⟩ := made_row (n := n) (B := B) (qs := L'.map (·.2)) (ms := ms) hn (by rw [List.length_map, hN, hml]) (fun q hq => by
          obtain ⟨y, hy, rfl⟩ := List.mem_map.mp hq
          exact (hLi y hy).2) (List.pairwise_map.mpr pw) hms (by omega) hB (by omega) (by rw [List.length_map, hN]; exact l4)
        have hzl : (List.zipWith (itD B) (L'.map (·.2)) ms).length = N := by
          rw [List.length_zipWith, List.length_map, hN, hml]
          omega
        refine ⟨_, rfl, f, acc, rfl, .inl ⟨SqL.of ef, fun t nt => ?_⟩⟩
        refine q _ _ (k.same (same_new nt)) ⟨_, .tup (SqT.of upd_same) (hacc.ext (Ext.new nt)), wf, row, by omega, by omega, few⟩

end
end Fm
namespace Fm
open PySem PySem.Spec PyProof.Rows L2
section
variable {P : Program} {w : World} {K : PySem.W.Frag} {mg : Str → Option Value} {base : Heap}

/-! ### rows drawn for all contents -/
def RowsV (K : PySem.W.Frag) (H : Hp) (ss : List Int) (v : V) : Prop := ∃ a xs, v = .ref a ∧ SqT K H a xs ∧ xs.length = (allC ss).length ∧ ∀ x ∈ xs, RowV K H ss.length x
theorem RowsV.ext {H H' : Hp} {ss : List Int} {v : V} (e : Ext H H') : RowsV K H ss v → RowsV K H' ss v := fun ⟨a, xs, h1, h2, h3, h4⟩ => ⟨a, xs, h1, e.sqT h2, h3, fun x hx => (h4 x hx).ext e⟩
theorem RowsV.data {H : Hp} {ss : List Int} {v : V} (h : RowsV K H ss v) : ∃ ds, Dh K H v (.tup ds) ∧ Rows ss ds ∧ ∀ d ∈ ds, Wf d := by
  obtain ⟨a, xs, rfl, hs, hl, hx⟩ := h
  have key : ∀ xs : List V, (∀ x ∈ xs, RowV K H ss.length x) → ∃ ds, DhAll K H xs ds ∧ (∀ d ∈ ds, d.isRow ss.length = true) ∧ ∀ d ∈ ds, Wf d := by
    intro xs
    induction xs with
    | nil => intro _; exact ⟨[], .nil, (fun d hd => by cases hd), fun d hd => by cases hd⟩
    | cons x xs ih =>
      intro h
      obtain ⟨ps, h1, h2, h3, _⟩ := h x (List.mem_cons_self ..)
      obtain ⟨ds, k1, k2, k3⟩ := ih fun y hy => h y (List.mem_cons_of_mem _ hy)
      refine ⟨_ :: ds, .cons h1 k1, fun d hd => ?_, fun d hd => ?_⟩
      · rcases List.mem_cons.mp hd with e | e
        · rw [e]; exact h3
        · exact k2 d e
      · rcases List.mem_cons.mp hd with e | e
        · rw [e]; exact h2
        · exact k3 d e
  obtain ⟨ds, k1, k2, k3⟩ := key xs hx
  exact ⟨ds, .tup hs k1, ⟨by rw [← k1.length, hl], k2⟩, k3⟩
def spRows (K : PySem.W.Frag) : Sp := fun vs H Q _ => ∃ (h c a : Addr) (ss : List Int), vs = [.ref h, .ref a] ∧ HandOk H h c ∧ SqT K H a (ss.map V.int) ∧ SizesOk ss ∧ ∀ v H', Keep h c H H' → RowsV K H' ss v → Q v H'
theorem ok_law_rows (T : Txt K mg) : FnOk P w K mg base CX0 4 T.f_law_rows T.d_law_rows ["hand", "sizes"] (spRows K) := by
  refine T.F_law_rows.ok sc_law_rows (fun vs H Q E h => ?_) (fun cdv A outer s H vs Q E hr h => ?_)
  · obtain ⟨_, _, _, _, rfl, _⟩ := h
    rfl
  · obtain ⟨h, c, a, ss, rfl, hx, ha, ok, q⟩ := h
    have hl5 := ok.facts.2.1
    refine ⟨_, (pss_cons (ps_set (i := 2) sc_law_rows.nd rfl (.inr rfl) (pe_lc (own := [("k", 3)]) rfl sc_law_rows.nd (pi_range1 (by rfl) T.z_range (pa_cons (pe_op op_add pe_int (pe_call (ok_law_draw T) (hr.mono (by decide)) (by rfl) T.g_law_draw T.F_law_draw.kp T.b_law_draw .nil pass0 (pa_cons (pv 0) (pa_cons pe_int pa_nil)))) pa_nil)) (blkOk_by (N := N_law_rows) (sc := defScope s_law_rows) (by decide +kernel)) (fun _ _ _ _ _ => (pg_name (i := 3) sc_law_rows.nd rfl (.inl rfl))) (fun _ _ _ _ _ => pts_nil) (fun _ _ _ _ _ => (pe_call (ok_law_row T) hr (by rfl) T.g_law_row T.F_law_row.kp T.b_law_row .nil pass0 (pa_cons (pv 0) (pa_cons (pe_callB (call_lenK K) (by rfl) T.z_len PySem.boot_len (pa_cons (pv 1) pa_nil)) pa_nil))))))
      (pss_one (ps_ret (pe_callTy (call_tupleK K) (by rfl) T.z_tuple (by decide +kernel) (pa_cons (pe_lc (own := [("turn", 4)]) rfl sc_law_rows.nd (pi_range1 (by rfl) T.z_range (pa_cons (pe_callB (call_lenK K) (by rfl) T.z_len PySem.boot_len (pa_cons (pe_call (ok_law_contents T) (hr.mono (by decide)) (by rfl) T.g_law_contents T.F_law_contents.kp T.b_law_contents .nil pass0 (pa_cons (pv 1) pa_nil)) pa_nil)) pa_nil)) (blkOk_by (N := N_law_rows) (sc := defScope s_law_rows) (by decide +kernel)) (fun _ _ _ _ _ => (pg_name (i := 4) sc_law_rows.nd rfl (.inl rfl))) (fun _ _ _ _ _ => pts_nil) (fun _ _ _ _ _ => (pe_call (ok_law_some T) (hr.mono (by decide)) (by rfl) T.g_law_some T.F_law_some.kp T.b_law_some .nil pass0 (pa_cons (pv 0) (pa_cons (pv 2) pa_nil))))) pa_nil))))), ?_⟩
    refine ⟨_, rfl, h, c, 4, rfl, hx, by decide, by decide, fun d H1 d0 d1 k1 => ⟨1, d, rfl, rfl, _, rfl, by omega, by omega, fun D nD => lc_range (lo := 0) (n := (1 + d).toNat) (fun i H' => ∃ acc, Keep h c H1 H' ∧ H' D = some (.lst acc) ∧ acc.length = i ∧ ∀ x ∈ acc, RowV K H' ss.length x)
      ⟨[], Keep.of k1.hand (same_new nD), upd_same, rfl, fun x hx => by cases hx⟩ ?_ ?_⟩⟩
    · rintro i H' hi ⟨acc, k, hD, hal, hac⟩
      have ndh : D ≠ h := (k1.hand.ne nD).1
      refine ⟨rfl, ?_⟩
      dsimp only [tYes]
      rw [if_pos rfl]
      refine ⟨_, rfl, _, rfl, a, _, rfl, .inr (Ext.sqT (Keep.ext hx (k1.trans k)) ha), h, c, ss.length, by rw [List.length_map]; rfl, k.hand, hl5, fun v H2 k2 hv => ?_⟩
      have hD2 := k2.rest _ _ ndh hD
      have ep : Ext H2 (upd H2 D (.lst (acc ++ [v]))) := Ext.put hD2
      refine ⟨acc, hD2, sz_small (by omega), acc ++ [v], Keep.put k1.hand (k.trans k2) nD, upd_same, by rw [List.length_append, hal]; rfl, fun x hx => ?_⟩
      rcases List.mem_append.mp hx with hx | hx
      · exact ((hac x hx).ext (Keep.ext k.hand k2)).ext ep
      · rw [List.mem_singleton.mp hx]
        exact hv.ext ep
    · rintro H2 ⟨acc, k2, hD, hal, hac⟩
      have ndh : D ≠ h := (k1.hand.ne nD).1
      have k12 := k1.trans k2
      have ha2 := Ext.sqT (Keep.ext hx k12) ha
      refine ⟨_, rfl, a, ss, rfl, ha2, ok, fun p xs H3 np s3 hp hxs => ?_⟩
      have hlen : xs.length = (allC ss).length := by rw [hxs.length, List.length_map]
      have hal' := (allC_all ok).1
      have k3 : Keep h c H H3 := k12.same s3
      have hD3 := s3 _ _ hD
      have nDp : D ≠ p := fun e => by
        rw [e] at hD
        rw [hD] at np
        cases np
      refine ⟨p, xs, rfl, .inl (SqL.of hp), _, rfl, by omega, by omega, fun D2 nD2 => lc_range (lo := 0) (n := ((xs.length : Nat) : Int).toNat) (fun i H' => ∃ acc2, Keep h c H3 H' ∧ H' D2 = some (.lst acc2) ∧ acc2.length = i ∧ ∀ x ∈ acc2, RowV K H' ss.length x)
        ⟨[], Keep.of k3.hand (same_new nD2), upd_same, rfl, fun x hx => by cases hx⟩ ?_ ?_⟩
      · rintro i H' hi ⟨acc2, k, hDD, hal2, hac2⟩
        have ndh2 : D2 ≠ h := (k3.hand.ne nD2).1
        refine ⟨rfl, ?_⟩
        dsimp only [tYes]
        rw [if_pos rfl]
        refine ⟨_, rfl, _, rfl, h, c, D, acc, rfl, k.hand, ndh, k.rest _ _ ndh hD3, by omega, by omega, fun v H4 hvm k4 => ?_⟩
        have hD4 := k4.rest _ _ ndh2 hDD
        have ep : Ext H4 (upd H4 D2 (.lst (acc2 ++ [v]))) := Ext.put hD4
        refine ⟨acc2, hD4, sz_small (by omega), acc2 ++ [v], Keep.put k3.hand (k.trans k4) nD2, upd_same, by rw [List.length_append, hal2]; rfl, fun x hx => ?_⟩
        rcases List.mem_append.mp hx with hx | hx
        · exact ((hac2 x hx).ext (Keep.ext k.hand k4)).ext ep
        · rw [List.mem_singleton.mp hx]
          exact (((hac v hvm).ext (.of s3)).ext (Keep.ext k3.hand (k.trans k4))).ext ep
      · rintro H5 ⟨acc2, k5, hDD, hal2, hac2⟩
        rw [Int.toNat_natCast] at hal2
        refine ⟨D2, acc2, rfl, .inl ⟨SqL.of hDD, fun t nt => ?_⟩⟩
        refine q _ _ ((k3.trans k5).same (same_new nt)) ⟨t, acc2, rfl, SqT.of upd_same, by omega, fun x hx => (hac2 x hx).ext (Ext.new nt)⟩
theorem low_self {t b : Int} (hb : 0 < b) : lowZ t b = (t, b) ↔ gz t b = 1 := by
  constructor
  · intro h
    obtain ⟨_, a2⟩ := low_parts (t := t) hb
    rw [h] at a2
    have : gz t b * b = 1 * b := by rw [Int.one_mul]; exact a2.symm
    exact Int.eq_of_mul_eq_mul_right (by omega) this
  · intro h
    unfold lowZ
    rw [h, Int.ediv_one, Int.ediv_one]
def spLShare (K : PySem.W.Frag) : Sp := fun vs H Q _ => ∃ (v : V) (d : Dt), vs = [v] ∧ Dh K H v d ∧ Wf d ∧ ∀ H', Same H H' → Q (.bl d.isShr) H'
theorem shr_none {d : Dt} (h : d.fr? = none) : d.isShr = false := by
  unfold Dt.isShr
  rw [h]
theorem num_of_in {d : Dt} {l m : Int} (h : d.inI l m = true) : ∃ i, d = .int i ∧ l ≤ i ∧ i ≤ m := by
  cases d with
  | int i =>
    have h' : (decide (l ≤ i) && decide (i ≤ m)) = true := h
    rw [Bool.and_eq_true, decide_eq_true_eq, decide_eq_true_eq] at h'
    exact ⟨i, rfl, h'⟩
  | _ => cases h
theorem ok_law_is_share (T : Txt K mg) : FnOk P w K mg base CX0 2 T.f_law_is_share T.d_law_is_share ["thing"] (spLShare K) := by
  refine T.F_law_is_share.ok sc_law_is_share (fun vs H Q E h => ?_) (fun cdv A outer s H vs Q E hr h => ?_)
  · obtain ⟨_, _, rfl, _⟩ := h
    rfl
  · obtain ⟨v, d, rfl, hv, wf, q⟩ := h
    obtain ⟨t, ty, ki, kt, kb⟩ := hv.kinds
    refine ⟨_, (pss_cons (ps_if (PW.pt (pw_or (pt_not (pt_val (pe_callB (call_isiK' K) (by rfl) T.z_isinstance (by decide +kernel) (pa_cons (pv 0) (pa_cons (pe_bltn (v := .ty "tuple") (by rfl) T.z_tuple (by decide +kernel) rfl) pa_nil))))) (pw_or1 (pt_cmpR op_ne (pe_callB (call_lenK K) (by rfl) T.z_len PySem.boot_len (pa_cons (pv 0) pa_nil)) pe_int (nomark _))))) (pss_one (ps_ret pe_bl)) pss_nil)
      (pss_cons (ps_if (PW.pt (pw_or (pt_not (pt_val (pe_call (ok_law_is_int T) hr (by rfl) T.g_law_is_int T.F_law_is_int.kp T.b_law_is_int .nil pass0 (pa_cons (pe_ix (ix_tupK K) (pv 0) pe_int (fun _ _ => rfl)) (pa_cons pe_int (pa_cons (pe_op op_pow pe_int pe_int) pa_nil)))))) (pw_or1 (pt_not (pt_val (pe_call (ok_law_is_int T) hr (by rfl) T.g_law_is_int T.F_law_is_int.kp T.b_law_is_int .nil pass0 (pa_cons (pe_ix (ix_tupK K) (pv 0) pe_int (fun _ _ => rfl)) (pa_cons (pe_ix (ix_tupK K) (pv 0) pe_int (fun _ _ => rfl)) (pa_cons (pe_op op_pow pe_int pe_int) pa_nil))))))))) (pss_one (ps_ret pe_bl)) pss_nil)
      (pss_one (ps_ret (pe_cmpR (op_eqK K hr.units) (pe_call (ok_law_low T) hr (by rfl) T.g_law_low T.F_law_low.kp T.b_law_low .nil pass0 (pa_cons (pe_ix (ix_tupK K) (pv 0) pe_int (fun _ _ => rfl)) (pa_cons (pe_ix (ix_tupK K) (pv 0) pe_int (fun _ _ => rfl)) pa_nil))) (pv 0) (nomark _)))))), ?_⟩
    refine ⟨_, rfl, _, _, _, _, _, rfl, .ty _, ty, kt, _, rfl, ?_⟩
    cases hi : d.isTup with
    | false =>
      refine iteT (iteT ?_)
      have e : d.isShr = false := by cases d <;> first | rfl | cases hi
      rw [e] at q
      exact q H (Same.refl H)
    | true =>
      refine iteF ?_
      cases d with
      | tup ds =>
        obtain ⟨a, xs, rfl, hs, hx⟩ := hv.tup_inv
        have hl := hx.length
        refine ⟨_, rfl, a, _, rfl, .inr hs, rfl, _, rfl, ?_⟩
        rw [dec_int]
        by_cases h2 : ds.length = 2
        · have e : (((xs.length : Nat) : Int) == 2) = true := by
            rw [beq_iff_eq]
            omega
          rw [e]
          refine iteF ?_
          match ds, h2, hx, wf, q with
          | [x, y], _, hx, wf, q =>
            obtain ⟨w1, w2⟩ := wf.items
            have wx := w2 x (by simp)
            have wy := w2 y (by simp)
            obtain ⟨v1, v2, rfl, g1, g2⟩ := dh_two hx
            refine ⟨_, rfl, a, _, 0, _, rfl, rfl, hs, atI_nat (j := 0) rfl, 10, 60, rfl, rfl, ⟨by decide, by decide, by decide⟩, v1, x, 1, _, rfl, g1, fun H1 s1 => ⟨_, rfl, ?_⟩⟩
            have big : (B30 : Int) ≤ 10 ^ (60 : Int).toNat := by decide +kernel
            have bad : x.fr? = x.fr? → (∀ H', Same H H' → Q (.bl (Dt.tup [x, y]).isShr) H') := fun _ => q
            cases hin : x.inI 1 (10 ^ (60 : Int).toNat) with
            | false =>
              refine iteT (iteT ?_)
              have e : (Dt.tup [x, y]).isShr = false := by
                cases hw : x.isW with
                | false => exact shr_none (fr_two (.inl hw))
                | true =>
                  obtain ⟨i, rfl⟩ := isW_inv hw
                  cases hw2 : y.isW with
                  | false => exact shr_none (fr_two (.inr hw2))
                  | true =>
                    obtain ⟨j, rfl⟩ := isW_inv hw2
                    show (decide (1 ≤ i) && _) = false
                    have hin' : (decide (1 ≤ i) && decide (i ≤ 10 ^ (60 : Int).toNat)) = false := hin
                    have := wx.num
                    rw [decide_eq_true (show i ≤ 10 ^ (60 : Int).toNat by omega), Bool.and_true] at hin'
                    rw [hin', Bool.false_and]
              rw [e] at q
              exact q H1 s1
            | true =>
              refine iteF ?_
              obtain ⟨i, rfl, i1, i2⟩ := num_of_in hin
              cases g1
              have hs1 := (Ext.of s1).sqT hs
              refine ⟨_, rfl, a, _, 1, _, rfl, rfl, hs1, atI_nat (j := 1) rfl, _, rfl, a, _, 0, _, rfl, rfl, hs1, atI_nat (j := 0) rfl, 10, 60, rfl, rfl, ⟨by decide, by decide, by decide⟩, v2, y, i, _, rfl, g2.ext (.of s1), fun H2 s2 => ⟨_, rfl, ?_⟩⟩
              have s12 := s1.trans s2
              cases hin2 : y.inI i (10 ^ (60 : Int).toNat) with
              | false =>
                refine iteT ?_
                have e : (Dt.tup [.int i, y]).isShr = false := by
                  cases hw2 : y.isW with
                  | false => exact shr_none (fr_two (.inr hw2))
                  | true =>
                    obtain ⟨j, rfl⟩ := isW_inv hw2
                    show (decide (1 ≤ i) && (decide (i ≤ j) && decide (gz i j = 1))) = false
                    have hin' : (decide (i ≤ j) && decide (j ≤ 10 ^ (60 : Int).toNat)) = false := hin2
                    have := wy.num
                    rw [decide_eq_true (show j ≤ 10 ^ (60 : Int).toNat by omega), Bool.and_true] at hin'
                    rw [hin', Bool.false_and, Bool.and_false]
                rw [e] at q
                exact q H2 s12
              | true =>
                refine iteF ?_
                obtain ⟨j, rfl, j1, j2⟩ := num_of_in hin2
                cases g2
                have hs2 := (Ext.of s12).sqT hs
                have hj := wy.num
                have bb : (B30 : Int) ≤ (top300 : Int) := by decide +kernel
                refine ⟨_, rfl, a, _, 0, _, rfl, rfl, hs2, atI_nat (j := 0) rfl, _, rfl, a, _, 1, _, rfl, rfl, hs2, atI_nat (j := 1) rfl, i, j, rfl, by omega, by omega, by omega, fun w H3 s3 hw => ?_⟩
                refine ⟨_, rfl, ctP [(lowZ i j).1, (lowZ i j).2], ctP [i, j], dp_ct hw, .tup ((Ext.of s3).sqT hs2) (dp_ints [i, j]), shaped_ct _, shaped_ct _, ?_⟩
                rw [eqv_fr (lowZ i j) (i, j)]
                have e : (Dt.tup [.int i, .int j]).isShr = decide (lowZ i j = (i, j)) := by
                  show (decide (1 ≤ i) && (decide (i ≤ j) && decide (gz i j = 1))) = _
                  rw [decide_eq_true i1, decide_eq_true j1, Bool.true_and, Bool.true_and, Bool.eq_iff_iff]
                  rw [decide_eq_true_eq, decide_eq_true_eq]
                  exact (low_self (by omega)).symm
                rw [← e]
                exact q H3 (s12.trans s3)
        · have e : (((xs.length : Nat) : Int) == 2) = false := by
            rw [beq_eq_false_iff_ne]
            omega
          rw [e]
          refine iteT ?_
          have z : (Dt.tup ds).isShr = false := by
            refine shr_none (notpair_fr ?_)
            show (ds.length == 2) = false
            rw [beq_eq_false_iff_ne]
            exact h2
          rw [z] at q
          exact q H (Same.refl H)
      | _ => cases hi

end
end Fm
namespace Fm
open PySem PySem.Spec PyProof.Rows L2
section
variable {P : Program} {w : World} {K : PySem.W.Frag} {mg : Str → Option Value} {base : Heap}

instance : Inhabited Dt := ⟨.non⟩
theorem pair_tup {d : Dt} (h : d.isPair = true) : d = .tup [d.p1, d.p2] := by
  obtain ⟨x, y, rfl⟩ := pair_inv h
  rfl
/-- one item of a row -/
theorem pair_at {H : Hp} {xs : List V} {ds : List Dt} (hx : DhAll K H xs ds) (hp : ∀ d ∈ ds, d.isPair = true) {i : Nat} {x : V} (hi : xs[i]? = some x) : ∃ (p : Addr) (v1 v2 : V), x = .ref p ∧ SqT K H p [v1, v2] ∧ Dh K H v1 (ds.getD i .non).p1 ∧ Dh K H v2 (ds.getD i .non).p2 ∧ ds.getD i .non ∈ ds := by
  obtain ⟨d, hd, hxd⟩ := hx.get hi
  have hm := List.mem_of_getElem? hd
  have e : ds.getD i .non = d := by rw [List.getD_eq_getElem?_getD, hd]; rfl
  rw [e]
  rw [pair_tup (hp d hm)] at hxd
  obtain ⟨p, ys, rfl, hs, hy⟩ := hxd.tup_inv
  obtain ⟨v1, v2, rfl, h1, h2⟩ := dh_two hy
  exact ⟨p, v1, v2, rfl, hs, h1, h2, hm⟩
theorem all_false {α : Type} {l : List α} {f : α → Bool} (h : l.all f = false) (g : Bool) : (l.all f && g) = false := by rw [h, Bool.false_and]
def spLIsRow (K : PySem.W.Frag) : Sp := fun vs H Q _ => ∃ (n : Int) (v : V) (d : Dt), vs = [.int n, v] ∧ Dh K H v d ∧ Wf d ∧ ∀ H', Same H H' → Q (.bl (d.isRow n)) H'
theorem ok_law_is_row (T : Txt K mg) : FnOk P w K mg base CX0 4 T.f_law_is_row T.d_law_is_row ["columns", "thing"] (spLIsRow K) := by
  refine T.F_law_is_row.ok sc_law_is_row (fun vs H Q E h => ?_) (fun cdv A outer s H vs Q E hr h => ?_)
  · obtain ⟨_, _, _, rfl, _⟩ := h
    rfl
  · obtain ⟨n, v, d, rfl, hv, wf, q⟩ := h
    obtain ⟨t, ty, ki, kt, kb⟩ := hv.kinds
    refine ⟨_, (pss_cons (ps_if (PW.pt (pw_or (pt_not (pt_val (pe_callB (call_isiK' K) (by rfl) T.z_isinstance (by decide +kernel) (pa_cons (pv 1) (pa_cons (pe_bltn (v := .ty "tuple") (by rfl) T.z_tuple (by decide +kernel) rfl) pa_nil))))) (pw_or1 (pt_not (pt_val (pe_callB (call_allK (K := K) rfl) (by rfl) T.z_all (by decide +kernel) (pa_cons (pe_lc (own := [("pair", 2)]) rfl sc_law_is_row.nd (pi_tupK K (pv 1)) (blkOk_by (N := N_law_is_row) (sc := defScope s_law_is_row) (by decide +kernel)) (fun _ _ _ _ _ => (pg_name (i := 2) sc_law_is_row.nd rfl (.inl rfl))) (fun _ _ _ _ _ => pts_nil) (fun _ _ _ _ _ => (pe_and (pe_callB (call_isiK' K) (by rfl) T.z_isinstance (by decide +kernel) (pa_cons (pv 2) (pa_cons (pe_bltn (v := .ty "tuple") (by rfl) T.z_tuple (by decide +kernel) rfl) pa_nil))) (pe_one (pe_cmpR op_eq (pe_callB (call_lenK K) (by rfl) T.z_len PySem.boot_len (pa_cons (pv 2) pa_nil)) pe_int (nomark _)))))) pa_nil))))))) (pss_one (ps_ret pe_bl)) pss_nil)
      (pss_cons (ps_if (pt_not (pt_val (pe_callB (call_allK (K := K) rfl) (by rfl) T.z_all (by decide +kernel) (pa_cons (pe_lc (own := [("pair", 2)]) rfl sc_law_is_row.nd (pi_tupK K (pv 1)) (blkOk_by (N := N_law_is_row) (sc := defScope s_law_is_row) (by decide +kernel)) (fun _ _ _ _ _ => (pg_name (i := 2) sc_law_is_row.nd rfl (.inl rfl))) (fun _ _ _ _ _ => pts_nil) (fun _ _ _ _ _ => (pe_and (pe_call (ok_law_is_pattern T) (hr.mono (by decide)) (by rfl) T.g_law_is_pattern T.F_law_is_pattern.kp T.b_law_is_pattern .nil pass0 (pa_cons (pv 0) (pa_cons (pe_ix (ix_tupK K) (pv 2) pe_int (fun _ _ => rfl)) pa_nil))) (pe_one (pe_call (ok_law_is_share T) (hr.mono (by decide)) (by rfl) T.g_law_is_share T.F_law_is_share.kp T.b_law_is_share .nil pass0 (pa_cons (pe_ix (ix_tupK K) (pv 2) pe_int (fun _ _ => rfl)) pa_nil)))))) pa_nil)))) (pss_one (ps_ret pe_bl)) pss_nil)
      (pss_cons (ps_if (pt_not (pt_val (pe_callB (call_allK (K := K) rfl) (by rfl) T.z_all (by decide +kernel) (pa_cons (pe_lc (own := [("k", 3)]) rfl sc_law_is_row.nd (pi_range2 (by rfl) T.z_range (pa_cons pe_int (pa_cons (pe_callB (call_lenK K) (by rfl) T.z_len PySem.boot_len (pa_cons (pv 1) pa_nil)) pa_nil))) (blkOk_by (N := N_law_is_row) (sc := defScope s_law_is_row) (by decide +kernel)) (fun _ _ _ _ _ => (pg_name (i := 3) sc_law_is_row.nd rfl (.inl rfl))) (fun _ _ _ _ _ => pts_nil) (fun _ _ _ _ _ => (pe_cmpR (op_ltTK (K := K) hr.units0) (pe_ix (ix_tupK K) (pe_ix (ix_tupK K) (pv 1) (pe_op op_sub (pv 3) pe_int) (fun _ _ => rfl)) pe_int (fun _ _ => rfl)) (pe_ix (ix_tupK K) (pe_ix (ix_tupK K) (pv 1) (pv 3) (fun _ _ => rfl)) pe_int (fun _ _ => rfl)) (nomark _)))) pa_nil)))) (pss_one (ps_ret pe_bl)) pss_nil)
      (pss_one (ps_ret (pe_cmpR (op_eqK K hr.units) (pe_call (ok_law_sum T) hr (by rfl) T.g_law_sum T.F_law_sum.kp T.b_law_sum .nil pass0 (pa_cons (pe_lc (own := [("pair", 2)]) rfl sc_law_is_row.nd (pi_tupK K (pv 1)) (blkOk_by (N := N_law_is_row) (sc := defScope s_law_is_row) (by decide +kernel)) (fun _ _ _ _ _ => (pg_name (i := 2) sc_law_is_row.nd rfl (.inl rfl))) (fun _ _ _ _ _ => pts_nil) (fun _ _ _ _ _ => (pe_ix (ix_tupK K) (pv 2) pe_int (fun _ _ => rfl)))) pa_nil)) (pe_tup (pa_cons pe_int (pa_cons pe_int pa_nil))) (nomark _))))))), ?_⟩
    refine ⟨_, rfl, _, _, _, _, _, rfl, .ty _, ty, kt, _, rfl, ?_⟩
    cases hi : d.isTup with
    | false =>
      refine iteT (iteT ?_)
      have e : d.isRow n = false := by cases d <;> first | rfl | cases hi
      rw [e] at q
      exact q H (Same.refl H)
    | true =>
      refine iteF ?_
      cases d with
      | tup ds =>
        obtain ⟨a, xs, rfl, hs, hx⟩ := hv.tup_inv
        obtain ⟨w10, wds⟩ := wf.items
        have hl := hx.length
        have eq0 : (Dt.tup ds).isRow n = rowGo n none (0, 1) ds := rfl
        rw [eq0, rowGo_eq] at q
        dsimp only [tNext, tIfS, tNot, tB, tCB, tCons, tSeq]
        refine lc_bT (K := K) (kx := 2) (tp := tVar 1) (xs := xs) (fun i => (ds.getD i .non).isPair) (fun R hR => ⟨_, rfl, hR⟩) hs (by omega) (fun _ => rfl) (fun i x H' hxi sm R hR => ?_) fun D H1 nD s1 hD => ?_
        · obtain ⟨dx, hdx, hxd⟩ := hx.get hxi
          have e : ds.getD i .non = dx := by rw [List.getD_eq_getElem?_getD, hdx]; rfl
          rw [e] at hR
          have hxd := hxd.ext (.of sm)
          obtain ⟨t2, ty2, _, kt2, _⟩ := hxd.kinds
          refine ⟨_, rfl, _, _, _, _, _, rfl, .ty _, ty2, kt2, _, rfl, ?_⟩
          cases hi2 : dx.isTup with
          | false =>
            refine iteF ?_
            have e2 : dx.isPair = false := by cases dx <;> first | rfl | cases hi2
            rw [e2] at hR
            exact hR H' (Same.refl H')
          | true =>
            refine iteT ?_
            cases dx with
            | tup es =>
              obtain ⟨b, ys, rfl, hb, hy⟩ := hxd.tup_inv
              refine ⟨_, rfl, b, ys, rfl, .inr hb, rfl, ?_⟩
              have e2 : decide (V.int (ys.length : Int) = V.int 2) = (es.length == 2) := by
                rw [dec_int, hy.length, Bool.eq_iff_iff]
                simp
                omega
              rw [e2]
              exact hR H' (Same.refl H')
            | _ => cases hi2
        · refine ⟨D, _, rfl, SqL.of hD, _, rfl, ?_⟩
          rw [hl, all_map_range ds _ Dt.isPair (fun i x hx => by rw [List.getD_eq_getElem?_getD, hx]; rfl)]
          cases hall : ds.all Dt.isPair with
          | false =>
            refine iteT ?_
            rw [hall, Bool.false_and] at q
            exact q H1 s1
          | true =>
            refine iteF ?_
            rw [hall, Bool.true_and] at q
            have hpair : ∀ d ∈ ds, d.isPair = true := fun d hd => List.all_eq_true.mp hall d hd
            have hs1 := (Ext.of s1).sqT hs
            have hx1 := hx.ext (.of s1)
            refine lc_bT (K := K) (kx := 2) (tp := tVar 1) (xs := xs) (fun i => (ds.getD i .non).p1.isPat n && (ds.getD i .non).p2.isShr) (fun R hR => ⟨_, rfl, hR⟩) hs1 (by omega) (fun _ => rfl) (fun i x H' hxi sm R hR => ?_) fun D2 H2 nD2 s2 hD2 => ?_
            · obtain ⟨p, v1, v2, rfl, hp, g1, g2, hm⟩ := pair_at hx1 hpair hxi
              have wd := wds _ hm
              rw [pair_tup (hpair _ hm)] at wd
              have w1 := wd.items.2 _ (List.mem_cons_self ..)
              have w2 := wd.items.2 _ (List.mem_cons_of_mem _ (List.mem_cons_self ..))
              have sh : (ds.getD i .non).p1.short := by
                cases e : (ds.getD i .non).p1 with
                | tup es =>
                  rw [e] at w1
                  have := w1.items.1
                  show es.length ≤ 1000
                  omega
                | _ => exact True.intro
              refine ⟨_, rfl, _, rfl, p, _, 0, _, rfl, rfl, (Ext.of sm).sqT hp, atI_nat (j := 0) rfl, n, v1, _, rfl, g1.ext (.of sm), sh, fun H3 s3 => ⟨_, rfl, ?_⟩⟩
              cases hpt : (ds.getD i .non).p1.isPat n with
              | false =>
                refine iteF ?_
                rw [hpt, Bool.false_and] at hR
                exact hR H3 s3
              | true =>
                refine iteT ?_
                rw [hpt, Bool.true_and] at hR
                refine ⟨_, rfl, p, _, 1, _, rfl, rfl, (Ext.of (sm.trans s3)).sqT hp, atI_nat (j := 1) rfl, v2, _, rfl, g2.ext (.of (sm.trans s3)), w2, fun H4 s4 => hR H4 (s3.trans s4)⟩
            · refine ⟨D2, _, rfl, SqL.of hD2, _, rfl, ?_⟩
              rw [hl, all_map_range ds _ (fun d => d.p1.isPat n && d.p2.isShr) (fun i x hx => by rw [List.getD_eq_getElem?_getD, hx]; rfl)]
              cases hall2 : ds.all (fun d => d.p1.isPat n && d.p2.isShr) with
              | false =>
                refine iteT ?_
                rw [hall2, Bool.false_and] at q
                exact q H2 (s1.trans s2)
              | true =>
                refine iteF ?_
                rw [hall2, Bool.true_and] at q
                have hok : ∀ d ∈ ds, d.p1.isPat n = true ∧ d.p2.isShr = true := fun d hd => by
                  have z := List.all_eq_true.mp hall2 d hd
                  rw [Bool.and_eq_true] at z
                  exact z
                have s12 := s1.trans s2
                have hs2 := (Ext.of s12).sqT hs
                have hx2 := hx.ext (.of s12)
                have e0 : hdOk none ds = true := by cases ds <;> rfl
                rw [e0, Bool.true_and] at q
                have at_ : ∀ (H' : Hp), Same H2 H' → ∀ j, j < ds.length → ∃ (x p : Addr) (v2 : V) (ps : List Int), xs[j]? = some (.ref x) ∧ SqT K H' x [.ref p, v2] ∧ SqT K H' p (ps.map V.int) ∧ (ds.getD j default).p1.ints = ps := fun H' sm j hj => by
                  obtain ⟨x, hxj⟩ : ∃ x, xs[j]? = some x := ⟨_, List.getElem?_eq_getElem (by omega)⟩
                  obtain ⟨p, v1, v2, rfl, hp, g1, g2, hm⟩ := pair_at hx2 hpair hxj
                  obtain ⟨ps, eps, _⟩ := isPat_ct (hok _ hm).1
                  rw [eps] at g1
                  obtain ⟨u, rfl, hu⟩ := ct_inv g1
                  refine ⟨p, u, v2, ps, hxj, (Ext.of sm).sqT hp, (Ext.of sm).sqT hu, ?_⟩
                  show (ds.getD j .non).p1.ints = ps
                  rw [eps, ints_ct]
                refine lc_bR (kx := 3) (lo := 1) (n := ds.length - 1) (fun k => ltE (ds.getD k default) (ds.getD (k + 1) default)) (fun R hR => ⟨_, rfl, a, _, rfl, .inr hs2, 1, xs.length, rfl, by omega, ?_⟩) (by omega) (fun _ => rfl) (fun i H' hi2 sm R hR => ?_) fun D3 H3 nD3 s3 hD3 => ?_
                · have e : ((xs.length : Int) - 1).toNat = ds.length - 1 := by omega
                  rw [e]
                  exact hR
                · obtain ⟨x1, p1, u1, c1, g1, f1, t1, i1⟩ := at_ H' sm i (by omega)
                  obtain ⟨x2, p2, u2, c2, g2, f2, t2, i2⟩ := at_ H' sm (i + 1) (by omega)
                  have ha2 := (Ext.of sm).sqT hs2
                  have z := hR H' (Same.refl H')
                  rw [show ltE (ds.getD i default) (ds.getD (i + 1) default) = HT.lexLt c1 c2 by unfold ltE; rw [i1, i2]] at z
                  exact ⟨_, rfl, _, rfl, _, _, rfl, rfl, a, _, _, _, rfl, rfl, ha2, at_of (j := i) (by omega) g1, x1, _, 0, _, rfl, rfl, f1, atI_nat (j := 0) rfl, _, rfl, _, rfl, a, _, _, _, rfl, rfl, ha2, at_of (j := i + 1) (by omega) g2, x2, _, 0, _, rfl, rfl, f2, atI_nat (j := 0) rfl, p1, p2, c1, c2, rfl, rfl, t1, t2, z⟩
                · refine ⟨D3, _, rfl, SqL.of hD3, _, rfl, ?_⟩
                  rw [adj_all ltE ds]
                  have s13 := s12.trans s3
                  cases hadj : adj ltE ds with
                  | false =>
                    refine iteT ?_
                    rw [hadj, Bool.false_and] at q
                    exact q H3 s13
                  | true =>
                    refine iteF ?_
                    rw [hadj, Bool.true_and] at q
                    have hs3 := (Ext.of s13).sqT hs
                    have hx3 := hx.ext (.of s13)
                    dsimp only [tRet, tCall, tOp, tCons]
                    refine ⟨_, rfl, a, rfl, ⟨_, hs3⟩, fun D4 nD4 => lc_tup (K := K) (xs := xs) (fun i H' => ∃ acc, Same H3 H' ∧ H' D4 = some (.lst acc) ∧ acc.length = i ∧ DhAll K H' acc ((ds.take i).map fun d => d.p2)) ⟨[], same_new nD4, upd_same, rfl, .nil⟩ (fun i H' _ ⟨_, sm, _⟩ => (Ext.of sm).sqT hs3) ?_ ?_⟩
                    · rintro i x H' hxi ⟨acc, sm, hD4, hal, hacc⟩
                      have hil := (List.getElem?_eq_some_iff.mp hxi).1
                      obtain ⟨p, v1, v2, rfl, hp, g1, g2, hm⟩ := pair_at hx3 hpair hxi
                      refine ⟨rfl, ?_⟩
                      dsimp only [tYes]
                      rw [if_pos rfl]
                      refine ⟨_, rfl, p, _, 1, _, rfl, rfl, (Ext.of sm).sqT hp, atI_nat (j := 1) rfl, acc, hD4, sz_small (by omega), acc ++ [v2], Same.put nD4 sm, upd_same, by rw [List.length_append, hal]; rfl, ?_⟩
                      have ei : (ds.take (i + 1)).map (fun d => d.p2) = (ds.take i).map (fun d => d.p2) ++ [(ds.getD i .non).p2] := by
                        rw [List.take_add_one, List.getElem?_eq_getElem (by omega), List.map_append, List.getD_eq_getElem?_getD, List.getElem?_eq_getElem (by omega)]
                        rfl
                      rw [ei]
                      exact (hacc.ext (Ext.put hD4)).snoc ((g2.ext (.of sm)).ext (Ext.put hD4))
                    · rintro H4 ⟨acc, sm, hD4, hal, hacc⟩
                      rw [hl, List.take_length] at hacc
                      have hzz : ∀ d ∈ ds, d.p2 = frD d.p2.zz ∧ Fr 1 B30 d.p2.zz := fun d hd => by
                        have wd := wds d hd
                        rw [pair_tup (hpair d hd)] at wd
                        have w2 := wd.items.2 _ (List.mem_cons_of_mem _ (List.mem_cons_self ..))
                        have hsh := (hok d hd).2
                        refine ⟨?_, shr_fr hsh w2⟩
                        have hsh' := hsh
                        rw [shr_eq, Bool.and_eq_true] at hsh'
                        obtain ⟨t, b, e1, e2⟩ := zz_sh0 hsh'.1
                        rw [e2, e1]
                        rfl
                      have em : ds.map (fun d => d.p2) = (ds.map fun d => d.p2.zz).map frD := by
                        rw [List.map_map]
                        exact List.map_congr_left fun d hd => (hzz d hd).1
                      rw [em] at hacc
                      have fs : Frs (ds.map fun d => d.p2.zz) := frs_of (fun p hp => by
                        obtain ⟨d, hd, rfl⟩ := List.mem_map.mp hp
                        exact (hzz d hd).2) (by rw [List.length_map]; exact w10)
                      refine ⟨D4, acc, _, rfl, SqL.of hD4, hacc, fs, fun w H5 s5 hw => ⟨by show 2 ≤ sizeLine; decide, fun t nt => ?_⟩⟩
                      have s6 : Same H5 (upd H5 t (.tup [.int 1, .int 1])) := same_new nt
                      refine ⟨ctP [(sumZ (ds.map fun d => d.p2.zz)).1, (sumZ (ds.map fun d => d.p2.zz)).2], ctP [1, 1], dp_ct (hw.ext (.of s6)), .tup (SqT.of upd_same) (dp_ints [1, 1]), shaped_ct _, shaped_ct _, ?_⟩
                      rw [eqv_fr (sumZ (ds.map fun d => d.p2.zz)) (1, 1)]
                      exact q _ (((s13.trans sm).trans s5).trans s6)
      | _ => cases hi

end
end Fm
namespace Fm
open PySem PySem.Spec PyProof.Rows L2
section
variable {P : Program} {w : World} {K : PySem.W.Frag} {mg : Str → Option Value} {base : Heap}

/-! ### what is due, what is told -/
theorem pe_fldK {X : Cx} {K : PySem.W.Frag} {e : Expr} {te : TE} {f : Str} {pos : Pos} (h : PE X e te) (eK : X.K = K := by rfl) (hb : attributeBase e f X.env (eval e X.env) = eval e X.env := by rfl) : PE X (.Attribute e f pos) (tFld K te f) := by
  subst eK
  exact pe_fld h hb
def dueV : Option Part → V
  | none => .str "let"
  | some p => p.v
def firstOr (l : List Nat) (o : Option Nat) : Option Nat := match l with
  | [] => o
  | k :: _ => some k
def spLDue (K : PySem.W.Frag) : Sp := fun vs H Q _ => ∃ (v1 v2 : V) (d1 d2 : Dt), vs = [v1, v2] ∧ Dh K H v1 d1 ∧ Dh K H v2 d2 ∧ RsWf d2 ∧ ∀ H', Same H H' → Q (dueV (dueD d1 d2)) H'
theorem ok_law_due (T : Txt K mg) : FnOk P w K mg base CX0 5 T.f_law_due T.d_law_due ["sizes", "rows"] (spLDue K) := by
  refine T.F_law_due.ok sc_law_due (fun vs H Q E h => ?_) (fun cdv A outer s H vs Q E hr h => ?_)
  · obtain ⟨_, _, _, _, rfl, _⟩ := h
    rfl
  · obtain ⟨v1, v2, d1, d2, rfl, h1, h2, wf, q⟩ := h
    refine ⟨_, (pss_cons (ps_if (pt_not (pt_val (pe_call (ok_law_are_sizes T) (hr.mono (by decide)) (by rfl) T.g_law_are_sizes T.F_law_are_sizes.kp T.b_law_are_sizes .nil pass0 (pa_cons (pv 0) pa_nil)))) (pss_one (ps_ret pe_str)) pss_nil)
      (pss_cons (ps_if (PW.pt (pw_or (pt_not (pt_val (pe_callB (call_isiK' K) (by rfl) T.z_isinstance (by decide +kernel) (pa_cons (pv 1) (pa_cons (pe_bltn (v := .ty "tuple") (by rfl) T.z_tuple (by decide +kernel) rfl) pa_nil))))) (pw_or1 (pt_cmpR op_ne (pe_callB (call_lenK K) (by rfl) T.z_len PySem.boot_len (pa_cons (pv 1) pa_nil)) (pe_callB (call_lenK K) (by rfl) T.z_len PySem.boot_len (pa_cons (pe_call (ok_law_contents T) (hr.mono (by decide)) (by rfl) T.g_law_contents T.F_law_contents.kp T.b_law_contents .nil pass0 (pa_cons (pv 0) pa_nil)) pa_nil)) (nomark _))))) (pss_one (ps_ret pe_str)) pss_nil)
      (pss_cons (ps_setLc (i := 2) (own := [("at", 3)]) rfl sc_law_due.nd rfl rfl (sw_true rfl rfl rfl (by decide +kernel)) (pi_range1 (by rfl) T.z_range (pa_cons (pe_callB (call_lenK K) (by rfl) T.z_len PySem.boot_len (pa_cons (pv 1) pa_nil)) pa_nil)) (blkOk_by (N := N_law_due) (sc := defScope s_law_due) (by decide +kernel)) (fun _ _ _ _ _ => (pg_name (i := 3) sc_law_due.nd rfl (.inl rfl))) (fun _ _ _ _ _ => (pts_one (pt_not (pt_val (pe_call (ok_law_is_row T) hr (by rfl) T.g_law_is_row T.F_law_is_row.kp T.b_law_is_row .nil pass0 (pa_cons (pe_callB (call_lenK K) (by rfl) T.z_len PySem.boot_len (pa_cons (pv 0) pa_nil)) (pa_cons (pe_ix (ix_tupK K) (pv 1) (pv 3) (fun _ _ => rfl)) pa_nil))))))) (fun _ _ _ _ _ => (pv 3)))
      (pss_one (ps_ret (pe_ifExp (pt_cmpR op_gt (pe_callB (call_lenK K) (by rfl) T.z_len PySem.boot_len (pa_cons (pv 2) pa_nil)) pe_int (nomark _)) (pe_ix (ix_listK K) (pv 2) pe_int (fun _ _ => rfl)) pe_str)))))), ?_⟩
    unfold dueD at q
    refine ⟨_, rfl, v1, d1, rfl, h1, fun H1 s1 => ⟨_, rfl, ?_⟩⟩
    cases es : d1.isSizes with
    | false =>
      refine iteT ?_
      rw [es, if_neg Bool.false_ne_true] at q
      exact q H1 s1
    | true =>
      refine iteF ?_
      rw [es, if_pos rfl] at q
      obtain ⟨ss, rfl, ok⟩ := isSizes_inv es
      rw [ints_ct] at q
      have hl5 := ok.facts.2.1
      obtain ⟨sa, rfl, hsa⟩ := ct_inv (h1.ext (.of s1))
      have h21 := h2.ext (.of s1)
      obtain ⟨t, ty, ki, kt, kb⟩ := h21.kinds
      refine ⟨_, rfl, _, _, _, _, _, rfl, .ty _, ty, kt, _, rfl, ?_⟩
      cases hi : d2.isTup with
      | false =>
        refine iteT (iteT ?_)
        rw [if_neg (by rw [hi]; exact fun z => Bool.false_ne_true z.1)] at q
        exact q H1 s1
      | true =>
        refine iteF ?_
        cases d2 with
        | tup ds =>
          obtain ⟨ra, rs, rfl, hra, hrs⟩ := h21.tup_inv
          have hl := hrs.length
          refine ⟨_, rfl, ra, _, rfl, .inr hra, ?_⟩
          refine ⟨_, rfl, sa, ss, rfl, hsa, ok, fun p xs H2 np s2 hp hxs => ?_⟩
          have s12 := s1.trans s2
          have hl2 : xs.length = (allC ss).length := by
            rw [hxs.length, List.length_map]
          have hal := (allC_all ok).1
          refine ⟨p, xs, rfl, .inl (SqL.of hp), rfl, _, rfl, ?_⟩
          have ed : (Dt.tup ds).dues = ds := rfl
          rw [ed] at q
          by_cases hle : ds.length = (allC ss).length
          · rw [decide_eq_true (show V.int (rs.length : Int) = V.int (xs.length : Int) by rw [hl, hl2, hle])]
            refine iteF ?_
            rw [if_pos ⟨rfl, hle⟩] at q
            have hra2 := (Ext.of s2).sqT hra
            have hrs2 := hrs.ext (.of s2)
            refine ⟨_, rfl, ra, _, rfl, .inr hra2, _, rfl, by omega, by omega, fun D nD => lc_range (lo := 0) (n := ((rs.length : Nat) : Int).toNat) (fun i H' => ∃ l : List Nat, Same H2 H' ∧ H' D = some (.lst (l.map fun (k : Nat) => V.int (k : Int))) ∧ l.length ≤ i ∧ badAt ss.length ds 0 = firstOr l (badAt ss.length (ds.drop i) i))
              ⟨[], same_new nD, upd_same, Nat.le_refl _, rfl⟩ ?_ ?_⟩
            · rintro i H' hi2 ⟨l, sm, hD, hll, eb⟩
              rw [Int.toNat_natCast] at hi2
              obtain ⟨r, hr'⟩ : ∃ r, rs[i]? = some r := ⟨_, List.getElem?_eq_getElem hi2⟩
              obtain ⟨d, hd, hdr⟩ := hrs2.get hr'
              have hdm := List.mem_of_getElem? hd
              rw [drop_at hd] at eb
              have e1 : badAt ss.length (d :: ds.drop (i + 1)) i = if d.isRow ss.length = true then badAt ss.length (ds.drop (i + 1)) (i + 1) else some i := rfl
              rw [e1] at eb
              refine ⟨rfl, _, rfl, sa, _, rfl, .inr ((Ext.of (s2.trans sm)).sqT hsa), _, rfl, _, rfl, ra, _, _, _, rfl, rfl, (Ext.of sm).sqT hra2, at_of (j := i) (by omega) hr', _, r, d, rfl, hdr.ext (.of sm), wf d hdm, fun H3 s3 => ⟨_, rfl, ?_⟩⟩
              rw [List.length_map]
              cases hrw : d.isRow ss.length with
              | true =>
                refine iteF ?_
                rw [if_pos hrw] at eb
                exact ⟨l, sm.trans s3, s3 _ _ hD, by omega, eb⟩
              | false =>
                refine iteT ?_
                rw [if_neg (by rw [hrw]; exact Bool.false_ne_true)] at eb
                refine ⟨_, rfl, _, s3 _ _ hD, ?_, l ++ [i], Same.put nD (sm.trans s3), ?_, ?_, ?_⟩
                · rw [List.length_map]
                  exact sz_small (by omega)
                · rw [upd_same, List.map_append, Int.zero_add]
                  rfl
                · rw [List.length_append]
                  show l.length + 1 ≤ i + 1
                  omega
                · rw [eb]
                  cases l with
                  | nil => rfl
                  | cons k r => rfl
            · rintro H3 ⟨l, sm, hD, hll, eb⟩
              rw [Int.toNat_natCast, List.drop_eq_nil_of_le (by omega)] at eb
              refine ⟨_, rfl, D, _, rfl, .inl (SqL.of hD), _, _, rfl, rfl, _, rfl, ?_⟩
              cases l with
              | nil =>
                have eb' : badAt ss.length ds 0 = none := eb
                rw [eb'] at q
                exact iteF (q H3 (s12.trans sm))
              | cons k r =>
                have eb' : badAt ss.length ds 0 = some k := eb
                rw [eb'] at q
                have e : decide ((((k :: r).map fun (k : Nat) => V.int (k : Int)).length : Int) > 0) = true := decide_eq_true (by rw [List.length_map, List.length_cons]; omega)
                rw [e]
                refine iteT ?_
                exact ⟨_, rfl, D, _, 0, _, rfl, rfl, SqL.of hD, atI_nat (j := 0) rfl, q H3 (s12.trans sm)⟩
          · have ne : decide (V.int (rs.length : Int) = V.int (xs.length : Int)) = false := by
              rw [dec_int, beq_eq_false_iff_ne]
              omega
            rw [ne]
            refine iteT ?_
            rw [if_neg (fun z => hle z.2)] at q
            exact q H2 s12
        | _ => cases hi
theorem due_none {d1 d2 : Dt} (h : dueD d1 d2 = none) : ∃ ss ds, d1 = ctD ss ∧ SizesOk ss ∧ d2 = .tup ds ∧ Rows ss ds := by
  unfold dueD at h
  cases es : d1.isSizes with
  | false =>
    rw [es, if_neg Bool.false_ne_true] at h
    cases h
  | true =>
    rw [es, if_pos rfl] at h
    obtain ⟨ss, rfl, ok⟩ := isSizes_inv es
    rw [ints_ct] at h
    by_cases hc : d2.isTup = true ∧ d2.dues.length = (allC ss).length
    · rw [if_pos hc] at h
      cases d2 with
      | tup ds =>
        have ed : (Dt.tup ds).dues = ds := rfl
        rw [ed] at h hc
        cases eb : badAt ss.length ds 0 with
        | none => exact ⟨ss, ds, rfl, ok, rfl, hc.2, badAt_none eb⟩
        | some k =>
          rw [eb] at h
          cases h
      | _ => cases hc.1
    · rw [if_neg hc] at h
      cases h
theorem badAt_ok {n : Int} : ∀ {ds : List Dt} {i : Nat}, (∀ d ∈ ds, d.isRow n = true) → badAt n ds i = none
  | [], _, _ => rfl
  | d :: r, i, h => by
    show (if d.isRow n = true then badAt n r (i + 1) else some i) = none
    rw [if_pos (h d (List.mem_cons_self ..))]
    exact badAt_ok fun e he => h e (List.mem_cons_of_mem _ he)
theorem due_right {ss : List Int} {ds : List Dt} (ok : SizesOk ss) (h : Rows ss ds) : dueD (ctD ss) (.tup ds) = none := by
  unfold dueD
  have ok' : (ctD ss).isSizes = true := ok
  rw [ok', if_pos rfl, ints_ct, if_pos ⟨rfl, h.len⟩, show (Dt.tup ds).dues = ds from rfl, badAt_ok h.row]
  rfl
def spTold (K : PySem.W.Frag) : Sp := fun vs H Q _ => ∃ (v1 v2 : V) (d1 d2 : Dt), vs = [v1, v2] ∧ Dh K H v1 d1 ∧ Dh K H v2 d2 ∧ RsWf d2 ∧ ∀ H', Same H H' → Q (dueV (dueD d1 d2)) H'
theorem ok_law_told (T : Txt K mg) : FnOk P w K mg base CX0 7 T.f_law_told T.d_law_told ["sizes", "rows"] (spTold K) := by
  refine T.F_law_told.ok sc_law_told (fun vs H Q E h => ?_) (fun cdv A outer s H vs Q E hr h => ?_)
  · obtain ⟨_, _, _, _, rfl, _⟩ := h
    rfl
  · obtain ⟨v1, v2, d1, d2, rfl, h1, h2, wf, q⟩ := h
    refine' ⟨_, ?dr, ?rd⟩
    case dr =>
      refine' (pss_cons (ps_set (i := 2) sc_law_told.nd rfl (.inl rfl) pe_str)
      (pss_cons ?tr
      (pss_one (ps_ret (pv 2)))))
      case tr =>
        refine' ps_try_as (i := 3) rfl rfl sc_law_told.nd rfl rfl ⟨rfl, by decide, .inl T.g_BadHabit⟩ takes0 (fun W pn xe tk _ => ?tb) (fun a oe cls d pn hz hf => ?ts)
        case tb => exact (pss_cons (ps_set (i := 4) sc_law_told.nd rfl (.inl rfl) (pe_makeS T.M_Habit (okx_Habit_init T) (hr.mono (by decide)) (by rfl) T.g_Habit T.b_Habit_init (fun σ => passAt tk σ) (pa_cons (pv 0) (pa_cons (pv 1) pa_nil))))
      (pss_one (ps_if (PW.pt (pw_or (pt_cmpR (op_neK K hr.units) (pe_fldK (K := K) (pv 4)) (pv 0) (nomark _)) (pw_or1 (pt_cmpR (op_neK K hr.units) (pe_fldK (K := K) (pv 4)) (pv 1) (nomark _))))) (pss_one (ps_set (i := 2) sc_law_told.nd rfl (.inl rfl) pe_str)) pss_nil)))
        case ts => exact (pss_one (ps_set (i := 2) sc_law_told.nd rfl (.inl rfl) (pe_xf T.xf_BadHabit T.p_BadHabit hz hf (pv 3))))
    case rd =>
      refine ⟨_, rfl, _, rfl, fun x dx nx ndx ne => ?_⟩
      have sA : Same H (upd (upd H dx (.own x)) x (.ins T.c_Habit dx [])) := fun z o e => by
        rw [upd_ne (ne_of_none e nx), upd_ne (ne_of_none e ndx)]
        exact e
      cases hdue : dueD d1 d2 with
      | none =>
        rw [hdue] at q
        obtain ⟨ss, ds, rfl, ok, rfl, rows⟩ := due_none hdue
        refine .inl ⟨x, dx, v1, v2, ss, ds, rfl, upd_same, ok, h1.ext (.of sA), h2.ext (.of sA), wf, rows.len, rows.row, fun H5 hins k5 => ⟨rfl, ?_⟩⟩
        have s5 : Same H H5 := fun z o e => k5 z o (ne_of_none e nx) (sA _ _ e)
        have h15 := h1.ext (.of s5)
        have h25 := h2.ext (.of s5)
        refine ⟨_, rfl, x, _, dx, _, _, rfl, hins, T.l_Habit, T.a_sizes, rfl, _, rfl, ctP ss, ctP ss, dp_ct h15, dp_ct h15, shaped_ct _, shaped_ct _, _, rfl, ?_⟩
        rw [eqv_ct, decide_eq_true rfl]
        refine iteF ?_
        refine ⟨_, rfl, x, _, dx, _, _, rfl, hins, T.l_Habit, T.a_rows, rfl, _, rfl, rowsP ds, rowsP ds, dp_rows h25 rows.row, dp_rows h25 rows.row, shaped_rows _, shaped_rows _, _, rfl, ?_⟩
        rw [eqv_rows, decide_eq_true rfl]
        refine iteF ?_
        exact ⟨_, rfl, q H5 s5⟩
      | some p =>
        rw [hdue] at q
        refine .inr ⟨x, dx, v1, v2, d1, d2, p, rfl, upd_same, h1.ext (.of sA), h2.ext (.of sA), wf, hdue, fun d H5 s5 hd => ?_⟩
        have s5' := sA.trans s5
        exact ⟨true, T.xx_BadHabit, fun _ a na => ⟨_, rfl, rfl, rfl, d, _, p.v, rfl, hd, rfl, ⟨_, rfl, q H5 s5'⟩⟩, fun z => nomatch z⟩

end
end Fm
namespace Fm
open PySem PySem.Spec PyProof.Rows L2
section
variable {P : Program} {w : World} {K : PySem.W.Frag} {mg : Str → Option Value} {base : Heap}

/-! ### odd things -/
def Good (K : PySem.W.Frag) (H : Hp) (x : V) : Prop := ∃ d, Dh K H x d ∧ Wf d
theorem Good.ext {H H' : Hp} {x : V} (e : Ext H H') : Good K H x → Good K H' x := fun ⟨d, h, s⟩ => ⟨d, h.ext e, s⟩
theorem Good.non {H : Hp} : Good K H .non := ⟨_, .non, .non⟩
theorem Good.bl {H : Hp} (b : Bool) : Good K H (.bl b) := ⟨_, .bl b, .bl b⟩
theorem Good.int {H : Hp} (i : Int) (h : i.natAbs ≤ B30 := by decide +kernel) : Good K H (.int i) := ⟨_, .int i, .int h⟩
theorem Good.str {H : Hp} (x : Str) : Good K H (.str x) := ⟨_, .str x, .str x⟩
theorem Good.lst {H : Hp} {a : Addr} {xs : List V} (h : H a = some (.lst xs)) : Good K H (.ref a) :=
  ⟨_, .oth (.base (.lst h)) (kit_ty (show kitB "list" "int" = some false by decide +kernel)) (kit_ty (show kitB "list" "tuple" = some false by decide +kernel)), .oth _⟩
theorem Good.dct {H : Hp} {a : Addr} {kvs : List (Key × V)} (h : H a = some (.dK kvs)) : Good K H (.ref a) :=
  ⟨_, .oth (.base (.dK h)) (kit_ty (show kitB "dict" "int" = some false by decide +kernel)) (kit_ty (show kitB "dict" "tuple" = some false by decide +kernel)), .oth _⟩
theorem goods_data {H : Hp} : ∀ {xs : List V}, (∀ x ∈ xs, Good K H x) → ∃ ds, DhAll K H xs ds ∧ ∀ d ∈ ds, Wf d
  | [], _ => ⟨[], .nil, fun d hd => by cases hd⟩
  | x :: xs, h => by
    obtain ⟨d, hd, sd⟩ := h x (List.mem_cons_self ..)
    obtain ⟨ds, hds, sds⟩ := goods_data fun y hy => h y (List.mem_cons_of_mem _ hy)
    refine ⟨d :: ds, .cons hd hds, fun e he => ?_⟩
    rcases List.mem_cons.mp he with z | z
    · rw [z]
      exact sd
    · exact sds e z
theorem Good.tup {H : Hp} {a : Addr} {xs : List V} (h : SqT K H a xs) (hl : xs.length ≤ 10) (hx : ∀ x ∈ xs, Good K H x) : Good K H (.ref a) := by
  obtain ⟨ds, hds, sds⟩ := goods_data hx
  have e := hds.length
  exact ⟨_, .tup h hds, .tup (by omega) sds⟩
def spThing (K : PySem.W.Frag) : Sp := fun vs H Q _ => ∃ h c, vs = [.ref h] ∧ HandOk H h c ∧ ∀ v H', Keep h c H H' → Good K H' v → Q v H'
/-- one of some -/
theorem some_of {H : Hp} {h c p : Addr} {xs : List V} {Q : VK} (hx : HandOk H h c) (ne : p ≠ h) (hp : H p = some (.lst xs)) (l0 : 0 < xs.length) (l1 : xs.length < 1000) (hg : ∀ x ∈ xs, Good K H x) (q : ∀ x H', x ∈ xs → Keep h c H H' → Good K H' x → Q x H') : spSome K [.ref h, .ref p] H Q E0 :=
  ⟨h, c, p, xs, rfl, hx, ne, hp, l0, by omega, fun x H' hm k => q x H' hm k ((hg x hm).ext (Keep.ext hx k))⟩
theorem ok_law_deep (T : Txt K mg) : FnOk P w K mg base CX0 3 T.f_law_deep T.d_law_deep ["hand"] (spThing K) := by
  refine T.F_law_deep.ok sc_law_deep (fun vs H Q E h => ?_) (fun cdv A outer s H vs Q E hr h => ?_)
  · obtain ⟨_, _, rfl, _⟩ := h
    rfl
  · obtain ⟨h, c, rfl, hx, q⟩ := h
    refine ⟨_, (pss_cons (ps_set (i := 1) sc_law_deep.nd rfl (.inl rfl) (pe_call (ok_law_some T) hr (by rfl) T.g_law_some T.F_law_some.kp T.b_law_some .nil pass0 (pa_cons (pv 0) (pa_cons (pe_lst (pa_cons pe_non (pa_cons (pe_tup pa_nil) (pa_cons pe_int (pa_cons pe_str pa_nil))))) pa_nil))))
      (pss_cons (ps_for PassesOwn.never rfl (pi_range1 (by rfl) T.z_range (pa_cons (pe_op op_add pe_int (pe_call (ok_law_draw T) (hr.mono (by decide)) (by rfl) T.g_law_draw T.F_law_draw.kp T.b_law_draw .nil pass0 (pa_cons (pv 0) (pa_cons pe_int pa_nil)))) pa_nil)) (pg_name (i := 2) sc_law_deep.nd rfl (.inl rfl)) (pss_one (ps_set (i := 1) sc_law_deep.nd rfl (.inl rfl) (pe_call (ok_law_some T) hr (by rfl) T.g_law_some T.F_law_some.kp T.b_law_some .nil pass0 (pa_cons (pv 0) (pa_cons (pe_lst (pa_cons (pe_lst (pa_cons (pv 1) pa_nil)) (pa_cons (pe_tup (pa_cons (pv 1) pa_nil)) (pa_cons (pe_disp (pps_cons pe_int (pv 1) pps_nil) rfl rfl (by decide) (by decide)) pa_nil)))) pa_nil))))))
      (pss_one (ps_ret (pv 1))))), ?_⟩
    refine ⟨_, rfl, ⟨by show 0 ≤ sizeLine; decide, fun t nt => ⟨by show 4 ≤ sizeLine; decide, fun p np => ?_⟩⟩⟩
    have s1 : Same H (upd H t (.tup [])) := same_new nt
    have e1 : (upd H t (.tup [])) t = some (.tup []) := upd_same
    generalize upd H t (.tup []) = H1 at s1 e1 np ⊢
    have s2 : Same H1 (upd H1 p (.lst [.non, .ref t, .int 0, .str "a"])) := same_new np
    have e2 : (upd H1 p (.lst [.non, .ref t, .int 0, .str "a"])) p = some (.lst [.non, .ref t, .int 0, .str "a"]) := upd_same
    generalize upd H1 p (.lst [.non, .ref t, .int 0, .str "a"]) = H2 at s2 e2 ⊢
    have s12 := s1.trans s2
    refine some_of (K := K) (hx.same s12) (hx.ne (s1.free np)).1 e2 (by show 0 < 4; decide) (by show 4 < 1000; decide) (fun x hm => ?_) fun x H3 _ k3 g3 => ?_
    · simp only [List.mem_cons, List.not_mem_nil, or_false] at hm
      rcases hm with rfl | rfl | rfl | rfl
      · exact .non
      · exact .tup (SqT.of (s2 _ _ e1)) (by decide) (fun x hx => by cases hx)
      · exact .int 0
      · exact .str _
    · have k03 : Keep h c H H3 := (Keep.of hx s12).trans k3
      refine ⟨_, rfl, h, c, 7, rfl, k03.hand, by decide, by decide, fun d H4 d0 d1 k4 => ?_⟩
      have k04 := k03.trans k4
      have g4 := g3.ext (Keep.ext k03.hand k4)
      refine ⟨_, _, rfl, rfl, _, rfl, by omega, by omega, for_range (lo := 0) (n := (30 + d).toNat) (fun i σ H' => ∃ (v : V) (y2 : Option V), σ = [some (.ref h), some v, y2] ∧ Keep h c H H' ∧ Good K H' v) ⟨x, none, rfl, k04, g4⟩ ?_ ?_⟩
      · rintro i σ H0 hi ⟨v, y2, rfl, k0, g0⟩
        refine ⟨_, rfl, _, rfl, ⟨by show 1 ≤ sizeLine; decide, fun a1 n1 => ?_⟩⟩
        have t1 : Same H0 (upd H0 a1 (.lst [v])) := same_new n1
        have f1 : (upd H0 a1 (.lst [v])) a1 = some (.lst [v]) := upd_same
        generalize upd H0 a1 (.lst [v]) = K1 at t1 f1 ⊢
        refine ⟨_, rfl, ⟨by show 1 ≤ sizeLine; decide, fun a2 n2 => ?_⟩⟩
        have t2 : Same K1 (upd K1 a2 (.tup [v])) := same_new n2
        have f2 : (upd K1 a2 (.tup [v])) a2 = some (.tup [v]) := upd_same
        generalize upd K1 a2 (.tup [v]) = K2 at t2 f2 ⊢
        intro a3 n3
        refine ⟨_, rfl, upd_same, [(.inl 0, v)], rfl, by show 1 ≤ 15; decide, ⟨by show 3 ≤ sizeLine; decide, fun a4 n4 => ?_⟩⟩
        have t3 : Same K2 (upd (upd K2 a3 (.dK [])) a3 (.dK (mergeK [] [(.inl 0, v)]))) := Same.put n3 (same_new n3)
        have f3 : (upd (upd K2 a3 (.dK [])) a3 (.dK (mergeK [] [(.inl 0, v)]))) a3 = some (.dK (mergeK [] [(.inl 0, v)])) := upd_same
        generalize upd (upd K2 a3 (.dK [])) a3 (.dK (mergeK [] [(.inl 0, v)])) = K3 at t3 f3 n4 ⊢
        have t4 : Same K3 (upd K3 a4 (.lst [.ref a1, .ref a2, .ref a3])) := same_new n4
        have f4 : (upd K3 a4 (.lst [.ref a1, .ref a2, .ref a3])) a4 = some (.lst [.ref a1, .ref a2, .ref a3]) := upd_same
        generalize upd K3 a4 (.lst [.ref a1, .ref a2, .ref a3]) = K4 at t4 f4 ⊢
        have tA := ((t1.trans t2).trans t3).trans t4
        refine some_of (K := K) (k0.hand.same tA) (k0.hand.ne ((t1.trans t2).trans t3 |>.free n4)).1 f4 (by show 0 < 3; decide) (by show 3 < 1000; decide) (fun x hm => ?_) fun x H5 _ k5 g5 => ?_
        · simp only [List.mem_cons, List.not_mem_nil, or_false] at hm
          rcases hm with rfl | rfl | rfl
          · exact .lst (((t2.trans t3).trans t4) _ _ f1)
          · refine .tup (SqT.of ((t3.trans t4) _ _ f2)) (by show 1 ≤ 10; decide) fun x hx => ?_
            rw [List.mem_singleton.mp hx]
            exact g0.ext (.of tA)
          · exact .dct (t4 _ _ f3)
        · exact ⟨_, _, rfl, (k0.same tA).trans k5, g5⟩
      · rintro σ H' ⟨v, y2, rfl, k0, g0⟩
        exact ⟨_, rfl, q v H' k0 g0⟩
/-! ### the one habit that the law makes -/
abbrev oneD : Dt := ctD [1, 1]
abbrev pairD : Dt := .tup [.tup [], oneD]
abbrev rowD : Dt := .tup [pairD]
abbrev rowsD : Dt := .tup [rowD, rowD]
theorem wf_row : Wf rowD := by
  have one : Wf (.int 1) := .int (by decide +kernel)
  refine .tup (by decide) fun d hd => ?_
  rw [List.mem_singleton.mp hd]
  refine .tup (by decide) fun d hd => ?_
  simp only [List.mem_cons, List.not_mem_nil, or_false] at hd
  rcases hd with rfl | rfl
  · exact .tup (by decide) fun d hd => by cases hd
  · refine .tup (by decide) fun d hd => ?_
    simp only [List.map_cons, List.map_nil, List.mem_cons, List.not_mem_nil, or_false] at hd
    rcases hd with rfl | rfl <;> exact one
theorem row_right : rowD.isRow 1 = true := by decide +kernel
/-- (((), (1, 1)),) -/
theorem t_row {σ : L2.St} {H : Hp} {Q : VK} (q : ∀ v H', Same H H' → Dh K H' v rowD → Q v H') : tTup (tCons (tTup (tCons (tTup tNil) (tCons (tTup (tCons (tC (.int 1)) (tCons (tC (.int 1)) tNil))) tNil))) tNil) σ H Q := by
  refine ⟨by show 0 ≤ sizeLine; decide, fun a na => ⟨by show 2 ≤ sizeLine; decide, fun b nb => ⟨by show 2 ≤ sizeLine; decide, fun c nc => ⟨by show 1 ≤ sizeLine; decide, fun d nd => ?_⟩⟩⟩⟩
  have s1 : Same H (upd H a (.tup [])) := same_new na
  have e1 : (upd H a (.tup [])) a = some (.tup []) := upd_same
  generalize upd H a (.tup []) = H1 at s1 e1 nb nc nd ⊢
  have s2 : Same H1 (upd H1 b (.tup [.int 1, .int 1])) := same_new nb
  have e2 : (upd H1 b (.tup [.int 1, .int 1])) b = some (.tup [.int 1, .int 1]) := upd_same
  generalize upd H1 b (.tup [.int 1, .int 1]) = H2 at s2 e2 nc nd ⊢
  have s3 : Same H2 (upd H2 c (.tup [.ref a, .ref b])) := same_new nc
  have e3 : (upd H2 c (.tup [.ref a, .ref b])) c = some (.tup [.ref a, .ref b]) := upd_same
  generalize upd H2 c (.tup [.ref a, .ref b]) = H3 at s3 e3 nd ⊢
  have s4 : Same H3 (upd H3 d (.tup [.ref c])) := same_new nd
  refine q _ _ (((s1.trans s2).trans s3).trans s4) (.tup (SqT.of upd_same) (.cons (.tup (SqT.of (s4 _ _ e3)) (.cons (.tup (SqT.of ((s2.trans s3).trans s4 _ _ e1)) .nil) (.cons (dh_ct (c := [1, 1]) (SqT.of ((s3.trans s4) _ _ e2))) .nil))) .nil))
theorem t_rows {σ : L2.St} {H : Hp} {Q : VK} (q : ∀ v H', Same H H' → Dh K H' v rowsD → Q v H') :
    tTup (tCons (tTup (tCons (tTup (tCons (tTup tNil) (tCons (tTup (tCons (tC (.int 1)) (tCons (tC (.int 1)) tNil))) tNil))) tNil)) (tCons (tTup (tCons (tTup (tCons (tTup tNil) (tCons (tTup (tCons (tC (.int 1)) (tCons (tC (.int 1)) tNil))) tNil))) tNil)) tNil)) σ H Q := by
  have two : ∀ (t : TE), (∀ (σ : L2.St) (H : Hp) (Q : VK), (∀ v H', Same H H' → Dh K H' v rowD → Q v H') → t σ H Q) → tTup (tCons t (tCons t tNil)) σ H Q := fun t ht => by
    show t σ H _
    refine ht σ H _ fun r1 H2 s2 hr1 => ?_
    show t σ H2 _
    refine ht σ H2 _ fun r2 H3 s3 hr2 => ?_
    refine ⟨by show 2 ≤ sizeLine; decide, fun b nb => ?_⟩
    have s4 : Same H3 (upd H3 b (.tup [r1, r2])) := same_new nb
    exact q _ _ ((s2.trans s3).trans s4) (.tup (SqT.of upd_same) (.cons (hr1.ext (.of (s3.trans s4))) (.cons (hr2.ext (.of s4)) .nil)))
  exact two _ fun σ H Q hq => t_row hq
theorem odd_end {H7 : Hp} {D : Ends} {h c p : Addr} {y1 : Option V} {L : List V} (hx : HandOk H7 h c) (hp : H7 p = some (.lst L)) (hg : ∀ z ∈ L, Good K H7 z) (hl : L.length = 12) (q : ∀ v H', Keep h c H7 H' → Good K H' v → D.rt v H') :
    tRet (tCall (spSome K) [] E0 (tCons (tVar 0) (tCons (tOp rCat (tVar 2) (tLst (tCons (tCall (spThing K) [] E0 (tCons (tVar 0) tNil)) tNil))) tNil))) D [some (.ref h), y1, some (.ref p)] H7 := by
  refine ⟨_, rfl, _, rfl, _, rfl, h, c, rfl, hx, fun v H1 k1 g1 => ⟨by show 1 ≤ sizeLine; decide, fun a na => ?_⟩⟩
  have s1 : Same H1 (upd H1 a (.lst [v])) := same_new na
  have e1 : (upd H1 a (.lst [v])) a = some (.lst [v]) := upd_same
  generalize upd H1 a (.lst [v]) = H2 at s1 e1 ⊢
  have nph : p ≠ h := fun e => by
    obtain ⟨_, _, _, _, _, z, _⟩ := hx.ex
    rw [e, z] at hp
    have z' := congrArg List.length (HO.lst.inj (Option.some.inj hp))
    rw [hl] at z'
    cases z'
  have hp2 := s1 _ _ (k1.rest _ _ nph hp)
  refine ⟨p, a, L, [v], rfl, rfl, hp2, e1, Nat.le_of_lt (sz_small (by rw [hl]; show 12 + 1 ≤ 100000; decide)), fun r nr => ?_⟩
  have s2 : Same H2 (upd H2 r (.lst (L ++ [v]))) := same_new nr
  have e2 : (upd H2 r (.lst (L ++ [v]))) r = some (.lst (L ++ [v])) := upd_same
  generalize upd H2 r (.lst (L ++ [v])) = H3 at s2 e2 ⊢
  have k3 : Keep h c H7 H3 := (k1.same s1).same s2
  refine some_of (K := K) k3.hand ((k1.same s1).hand.ne nr).1 e2 (by rw [List.length_append, hl]; show 0 < 12 + 1; decide) (by rw [List.length_append, hl]; show 12 + 1 < 1000; decide) (fun x hm => ?_) fun x H4 _ k4 g4 => q x H4 (k3.trans k4) g4
  rcases List.mem_append.mp hm with hm | hm
  · exact (hg x hm).ext (Keep.ext hx k3)
  · rw [List.mem_singleton.mp hm]
    exact g1.ext (.of (s1.trans s2))
theorem ok_law_odd (T : Txt K mg) : FnOk P w K mg base CX0 7 T.f_law_odd T.d_law_odd ["hand"] (spThing K) := by
  refine T.F_law_odd.ok sc_law_odd (fun vs H Q E h => ?_) (fun cdv A outer s H vs Q E hr h => ?_)
  · obtain ⟨_, _, rfl, _⟩ := h
    rfl
  · obtain ⟨h, c, rfl, hx, q⟩ := h
    refine ⟨_, (pss_cons (ps_set (i := 1) sc_law_odd.nd rfl (.inl rfl) (pe_make T.M_Habit (ok_Habit_init T) (hr.mono (by decide)) (by rfl) T.g_Habit T.b_Habit_init .nil pass0 (pa_cons (pe_tup (pa_cons pe_int pa_nil)) (pa_cons (pe_tup (pa_cons (pe_tup (pa_cons (pe_tup (pa_cons (pe_tup pa_nil) (pa_cons (pe_tup (pa_cons pe_int (pa_cons pe_int pa_nil))) pa_nil))) pa_nil)) (pa_cons (pe_tup (pa_cons (pe_tup (pa_cons (pe_tup pa_nil) (pa_cons (pe_tup (pa_cons pe_int (pa_cons pe_int pa_nil))) pa_nil))) pa_nil)) pa_nil))) pa_nil))))
      (pss_cons (ps_set (i := 2) sc_law_odd.nd rfl (.inl rfl) (pe_lst (pa_cons pe_non (pa_cons pe_bl (pa_cons pe_int (pa_cons (pe_un un_neg pe_int) (pa_cons pe_str (pa_cons pe_str (pa_cons (pe_lst pa_nil) (pa_cons pe_dnewK (pa_cons (pe_tup (pa_cons pe_non pa_nil)) (pa_cons (pe_tup (pa_cons (pe_tup (pa_cons pe_int pa_nil)) (pa_cons (pe_tup (pa_cons pe_int pa_nil)) pa_nil))) (pa_cons (pe_op op_pow pe_int pe_int) (pa_cons (pv 1) pa_nil))))))))))))))
      (pss_one (ps_ret (pe_call (ok_law_some T) (hr.mono (by decide)) (by rfl) T.g_law_some T.F_law_some.kp T.b_law_some .nil pass0 (pa_cons (pv 0) (pa_cons (pe_op op_cat (pv 2) (pe_lst (pa_cons (pe_call (ok_law_deep T) (hr.mono (by decide)) (by rfl) T.g_law_deep T.F_law_deep.kp T.b_law_deep .nil pass0 (pa_cons (pv 0) pa_nil)) pa_nil))) pa_nil))))))), ?_⟩
    -- habit
    refine ⟨by show 1 ≤ sizeLine; decide, fun a na => ?_⟩
    have s1 : Same H (upd H a (.tup [.int 2])) := same_new na
    have e1 : (upd H a (.tup [.int 2])) a = some (.tup [.int 2]) := upd_same
    generalize upd H a (.tup [.int 2]) = H1 at s1 e1 ⊢
    refine t_rows (K := K) fun rv H4 s4 hrows => ?_
    have s14 := s1.trans s4
    intro x dx nx ndx nex
    have sA : Same H4 (upd (upd H4 dx (.own x)) x (.ins T.c_Habit dx [])) := fun z o e => by
      rw [upd_ne (ne_of_none e nx), upd_ne (ne_of_none e ndx)]
      exact e
    refine ⟨x, dx, .ref a, rv, [2], [rowD, rowD], rfl, upd_same, (show (Dt.tup ([2].map Dt.int)).isSizes = true by decide), (dh_ct (c := [2]) (SqT.of (s4 _ _ e1))).ext (.of sA), hrows.ext (.of sA), (fun d hd => by
      simp only [List.mem_cons, List.not_mem_nil, or_false] at hd
      rcases hd with rfl | rfl <;> exact wf_row), (by decide), (fun d hd => by
      simp only [List.mem_cons, List.not_mem_nil, or_false] at hd
      rcases hd with rfl | rfl <;> exact row_right), fun H5 hins k5 => ⟨rfl, ?_⟩⟩
    have s45 : Same H4 H5 := fun z o e => k5 z o (ne_of_none e nx) (sA _ _ e)
    have s5 := s14.trans s45
    clear k5 sA
    have hgood : Good K H5 (.ref x) := ⟨_, .oth (hab_ty T hins) T.k_Habit_int T.k_Habit_tuple, .oth _⟩
    refine ⟨_, rfl, ⟨by show 0 ≤ sizeLine; decide, fun a1 n1 => ?_⟩⟩
    have t1 : Same H5 (upd H5 a1 (.lst [])) := same_new n1
    have f1 : (upd H5 a1 (.lst [])) a1 = some (.lst []) := upd_same
    generalize upd H5 a1 (.lst []) = K1 at t1 f1 ⊢
    intro a2 n2
    have t2 : Same K1 (upd K1 a2 (.dK [])) := same_new n2
    have f2 : (upd K1 a2 (.dK [])) a2 = some (.dK []) := upd_same
    generalize upd K1 a2 (.dK []) = K2 at t2 f2 ⊢
    refine ⟨by show 1 ≤ sizeLine; decide, fun a3 n3 => ?_⟩
    have t3 : Same K2 (upd K2 a3 (.tup [.non])) := same_new n3
    have f3 : (upd K2 a3 (.tup [.non])) a3 = some (.tup [.non]) := upd_same
    generalize upd K2 a3 (.tup [.non]) = K3 at t3 f3 ⊢
    refine ⟨by show 1 ≤ sizeLine; decide, fun a4 n4 => ?_⟩
    have t4 : Same K3 (upd K3 a4 (.tup [.int 0])) := same_new n4
    have f4 : (upd K3 a4 (.tup [.int 0])) a4 = some (.tup [.int 0]) := upd_same
    generalize upd K3 a4 (.tup [.int 0]) = K4 at t4 f4 ⊢
    refine ⟨by show 1 ≤ sizeLine; decide, fun a5 n5 => ?_⟩
    have t5 : Same K4 (upd K4 a5 (.tup [.int 0])) := same_new n5
    have f5 : (upd K4 a5 (.tup [.int 0])) a5 = some (.tup [.int 0]) := upd_same
    generalize upd K4 a5 (.tup [.int 0]) = K5 at t5 f5 ⊢
    refine ⟨by show 2 ≤ sizeLine; decide, fun a6 n6 => ?_⟩
    have t6 : Same K5 (upd K5 a6 (.tup [.ref a4, .ref a5])) := same_new n6
    have f6 : (upd K5 a6 (.tup [.ref a4, .ref a5])) a6 = some (.tup [.ref a4, .ref a5]) := upd_same
    generalize upd K5 a6 (.tup [.ref a4, .ref a5]) = K6 at t6 f6 ⊢
    refine ⟨_, _, rfl, rfl, ⟨by decide, by decide, by decide⟩, _, rfl, ⟨by show 12 ≤ sizeLine; decide, fun p np => ?_⟩⟩
    have t16 : Same K1 K6 := (((t2.trans t3).trans t4).trans t5).trans t6
    have gx := hgood.ext (.of (t1.trans t16))
    have g0 : ∀ z ∈ [V.non, .bl true, .int 0, .int (-1), .str "", .str "01", .ref a1, .ref a2, .ref a3, .ref a6, .int (10 ^ 30), .ref x], Good K K6 z := fun z hz => by
      have gi : ∀ y ∈ [V.int 0], Good K K6 y := fun y hy => by
        rw [List.mem_singleton.mp hy]
        exact .int 0
      simp only [List.mem_cons, List.not_mem_nil, or_false] at hz
      rcases hz with rfl | rfl | rfl | rfl | rfl | rfl | rfl | rfl | rfl | rfl | rfl | rfl
      · exact .non
      · exact .bl _
      · exact .int _
      · exact .int _
      · exact .str _
      · exact .str _
      · exact .lst (t16 _ _ f1)
      · exact .dct ((((t3.trans t4).trans t5).trans t6) _ _ f2)
      · refine .tup (SqT.of (((t4.trans t5).trans t6) _ _ f3)) (by show 1 ≤ 10; decide) fun y hy => ?_
        rw [List.mem_singleton.mp hy]
        exact .non
      · refine .tup (SqT.of f6) (by show 2 ≤ 10; decide) fun y hy => ?_
        simp only [List.mem_cons, List.not_mem_nil, or_false] at hy
        rcases hy with rfl | rfl
        · exact .tup (SqT.of ((t5.trans t6) _ _ f4)) (by show 1 ≤ 10; decide) gi
        · exact .tup (SqT.of (t6 _ _ f5)) (by show 1 ≤ 10; decide) gi
      · exact .int _
      · exact gx
    have sP : Same H K6 := (s5.trans t1).trans t16
    exact odd_end (K := K) (hx.same (sP.trans (same_new np))) upd_same (fun z hz => (g0 z hz).ext (.of (same_new np))) rfl fun v H' k g => q v H' ((Keep.of hx (sP.trans (same_new np))).trans k) g

end
end Fm
namespace Fm
open PySem PySem.Spec PyProof.Rows L2
section
variable {P : Program} {w : World} {K : PySem.W.Frag} {mg : Str → Option Value} {base : Heap}

/-! ### tuples of good things -/
def GT (K : PySem.W.Frag) (H : Hp) (n : Nat) (v : V) : Prop := ∃ a xs, v = .ref a ∧ SqT K H a xs ∧ xs.length ≤ n ∧ ∀ x ∈ xs, Good K H x
theorem GT.ext {H H' : Hp} {n : Nat} {v : V} (e : Ext H H') : GT K H n v → GT K H' n v := fun ⟨a, xs, h1, h2, h3, h4⟩ => ⟨a, xs, h1, e.sqT h2, h3, fun x hx => (h4 x hx).ext e⟩
theorem GT.good {H : Hp} {n : Nat} {v : V} (h : GT K H n v) (hn : n ≤ 10) : Good K H v := by
  obtain ⟨a, xs, rfl, h2, h3, h4⟩ := h
  exact .tup h2 (by omega) h4
theorem gt_cat {H : Hp} {x y : V} {n m : Nat} {Q : VK} (hx : GT K H n x) (hy : GT K H m y) (hb : n + m ≤ 50000) (q : ∀ v H', Same H H' → GT K H' (n + m) v → Q v H') : rCatA K x y H Q := by
  obtain ⟨a, xs, rfl, sa, la, ga⟩ := hx
  obtain ⟨b, ys, rfl, sb, lb, gb⟩ := hy
  refine ⟨a, b, xs, ys, rfl, rfl, sa, sb, Nat.le_of_lt (sz_small (by omega)), fun e => ?_, fun _ e => ?_, fun _ _ p hp => ?_⟩
  · exact q _ H (Same.refl H) ⟨b, ys, rfl, sb, by omega, gb⟩
  · exact q _ H (Same.refl H) ⟨a, xs, rfl, sa, by omega, ga⟩
  · refine q _ _ (same_new hp) ⟨p, _, rfl, SqT.of upd_same, by rw [List.length_append]; omega, fun z hz => ?_⟩
    rcases List.mem_append.mp hz with hz | hz
    · exact (ga z hz).ext (.of (same_new hp))
    · exact (gb z hz).ext (.of (same_new hp))
theorem cut_mem {xs : List V} {lo hi : Option Int} {x : V} (h : x ∈ cutV xs lo hi) : x ∈ xs := List.mem_of_mem_drop (List.mem_of_mem_take h)
theorem gt_slice {H : Hp} {x : V} {n : Nat} {lo hi : Option Int} {Q : VK} (hx : GT K H n x) (q : ∀ v H', Same H H' → GT K H' n v → Q v H') : rSlA K x lo hi H Q := by
  obtain ⟨a, xs, rfl, sa, la, ga⟩ := hx
  refine ⟨a, xs, rfl, sa, ?_⟩
  refine ⟨fun _ => q _ H (Same.refl H) ⟨a, xs, rfl, sa, la, ga⟩, fun _ p np => q _ _ (same_new np) ⟨p, _, rfl, SqT.of upd_same, Nat.le_trans (cutV_length xs lo hi) la, fun z hz => (ga z (cut_mem hz)).ext (.of (same_new np))⟩⟩
theorem gt_list {H : Hp} {n : Nat} {x : V} {Q : VK} (hx : GT K H n x) (q : ∀ v H', Same H H' → Good K H' v → Q v H') : rListOf K [x] H Q := by
  obtain ⟨a, xs, rfl, sa, la, ga⟩ := hx
  exact ⟨a, xs, rfl, .inr sa, fun p np => q _ _ (same_new np) (.lst upd_same)⟩
/-! ### what makes such things, in any heap that goes on -/
section
variable (h c : Addr) (σ : L2.St) (H0 : Hp)
def MkP (G : Hp → V → Prop) (t : TE) : Prop := ∀ (H : Hp) (Q : VK), Keep h c H0 H → (∀ v H', Keep h c H H' → G H' v → Q v H') → t σ H Q
abbrev MkG (K : PySem.W.Frag) (t : TE) : Prop := MkP h c σ H0 (Good K) t
abbrev MkT (K : PySem.W.Frag) (n : Nat) (t : TE) : Prop := MkP h c σ H0 (fun H v => GT K H n v) t
def MkL (G : Hp → V → Prop) (n : Nat) (t : TE) : Prop := ∀ (H : Hp) (Q : VK), Keep h c H0 H → (∀ p xs H', Keep h c H H' → H' p = some (.lst xs) → p ≠ h → 0 < xs.length → xs.length ≤ n → (∀ x ∈ xs, G H' x) → Q (.ref p) H') → t σ H Q
def MkO (t : TO) : Prop := ∀ (H : Hp) (R : Option Int → Hp → Prop), (∀ o, R o H) → t σ H R
end
class Mon1 (G : Hp → V → Prop) : Prop where
  mon : ∀ {H H' : Hp} {v : V}, Ext H H' → G H v → G H' v
instance mon_good : Mon1 (Good K) := ⟨fun e g => g.ext e⟩
instance mon_gt {n : Nat} : Mon1 (fun H v => GT K H n v) := ⟨fun e g => g.ext e⟩
section
variable {h c : Addr} {σ : L2.St} {H0 : Hp} {G : Hp → V → Prop}
def MkA (h c : Addr) (σ : L2.St) (H0 : Hp) (G : Hp → V → Prop) (n : Nat) (ta : TA) : Prop := ∀ (H : Hp) (Q : List V → Hp → Prop), Keep h c H0 H → (∀ vs H', Keep h c H H' → vs.length = n → (∀ v ∈ vs, G H' v) → Q vs H') → ta σ H Q
theorem keep_refl {H H0 : Hp} {h c : Addr} (k : Keep h c H0 H) : Keep h c H H := Keep.of k.hand (Same.refl H)
theorem useL {n : Nat} {t : TE} {H : Hp} {Q : VK} (hx : HandOk H h c) (q : ∀ p xs H', Keep h c H H' → H' p = some (.lst xs) → p ≠ h → 0 < xs.length → xs.length ≤ n → (∀ x ∈ xs, G H' x) → Q (.ref p) H') (L : MkL h c σ H G n t) : t σ H Q := L H Q (Keep.of hx (Same.refl H)) q
theorem useP {t : TE} {H : Hp} {Q : VK} (hx : HandOk H h c) (q : ∀ v H', Keep h c H H' → G H' v → Q v H') (L : MkP h c σ H G t) : t σ H Q := L H Q (Keep.of hx (Same.refl H)) q
theorem mk_val {v : V} {t : TE} (ht : ∀ (H : Hp) (Q : VK), Q v H → t σ H Q) (g : ∀ H, G H v) : MkP h c σ H0 G t := fun H Q k q => ht H Q (q v H (keep_refl k) (g H))
theorem mk_var {k : Nat} {v : V} (hx : HandOk H0 h c) [Mon1 G] (e : σ[k]? = some (some v)) (g : G H0 v) : MkP h c σ H0 G (tVar k) := fun H Q kp q => ⟨v, e, q v H (keep_refl kp) (Mon1.mon (Keep.ext hx kp) g)⟩
theorem a_nil : MkA h c σ H0 G 0 tNil := fun H Q k q => q [] H (keep_refl k) rfl (fun v hv => by cases hv)
theorem a_cons [Mon1 G] {n : Nat} {t : TE} {r : TA} (h1 : MkP h c σ H0 G t) (h2 : MkA h c σ H0 G n r) : MkA h c σ H0 G (n + 1) (tCons t r) := fun H Q k q => h1 H _ k fun v H1 k1 g1 => h2 H1 _ (k.trans k1) fun vs H2 k2 hl gs => q (v :: vs) H2 (k1.trans k2) (by rw [List.length_cons, hl]) fun w hw => by
      rcases List.mem_cons.mp hw with e | e
      · rw [e]
        exact Mon1.mon (Keep.ext k1.hand k2) g1
      · exact gs w e
theorem mk_tupT {ta : TA} {n : Nat} (ht : MkA h c σ H0 (Good K) n ta) (hl : n ≤ 10 := by decide) : MkT h c σ H0 K n (tTup ta) := fun H Q k q =>
  ht H _ k fun vs H' k' e gs => ⟨Nat.le_of_lt (sz_small (by omega)), fun p np => q _ _ (k'.same (same_new np)) ⟨p, vs, rfl, SqT.of upd_same, by omega, fun x hx => (gs x hx).ext (Ext.new np)⟩⟩
theorem mk_gt {n : Nat} {t : TE} (h1 : MkT h c σ H0 K n t) (hn : n ≤ 10 := by decide) : MkG h c σ H0 K t := fun H Q k q => h1 H Q k fun v H' k' g => q v H' k' (g.good hn)
theorem mk_tup {ta : TA} {n : Nat} (ht : MkA h c σ H0 (Good K) n ta) (hl : n ≤ 10 := by decide) : MkG h c σ H0 K (tTup ta) := mk_gt (mk_tupT ht hl) hl
theorem mk_lst [Mon1 G] {ta : TA} {n : Nat} (ht : MkA h c σ H0 G n ta) (h0 : 0 < n := by decide) (hl : n ≤ 100 := by decide) : MkL h c σ H0 G n (tLst ta) := fun H Q k q =>
  ht H _ k fun vs H' k' e gs => ⟨Nat.le_of_lt (sz_small (by omega)), fun p np => q p vs _ (k'.same (same_new np)) upd_same (k'.hand.ne np).1 (by omega) (by omega) fun x hx => Mon1.mon (Ext.new np) (gs x hx)⟩
theorem mk_lvar {k n : Nat} {p : Addr} {xs : List V} (hx : HandOk H0 h c) [Mon1 G] (e : σ[k]? = some (some (.ref p))) (hp : H0 p = some (.lst xs)) (ne : p ≠ h) (l0 : 0 < xs.length) (l1 : xs.length ≤ n) (g : ∀ x ∈ xs, G H0 x) : MkL h c σ H0 G n (tVar k) :=
  fun H Q kp q => ⟨_, e, q p xs H (keep_refl kp) (kp.rest _ _ ne hp) ne l0 l1 fun x hm' => Mon1.mon (Keep.ext hx kp) (g x hm')⟩
theorem mk_lcat {n m : Nat} {t u : TE} [Mon1 G] (h1 : MkL h c σ H0 G n t) (h2 : MkL h c σ H0 G m u) (hb : n + m ≤ 200) : MkL h c σ H0 G (n + m) (tOp rCat t u) := fun H Q k q => h1 H _ k fun p xs H1 k1 e1 n1 l1 b1 g1 => h2 H1 _ (k.trans k1) fun p2 ys H2 k2 e2 n2 l2 b2 g2 => by
  have e1' := k2.rest _ _ n1 e1
  refine ⟨p, p2, xs, ys, rfl, rfl, e1', e2, Nat.le_of_lt (sz_small (by omega)), fun r nr => ?_⟩
  have s := same_new (o := .lst (xs ++ ys)) nr
  refine q r _ _ ((k1.trans k2).same s) upd_same (k2.hand.ne nr).1 (by rw [List.length_append]; omega) (by rw [List.length_append]; omega) fun x hx => ?_
  rcases List.mem_append.mp hx with hx | hx
  · exact Mon1.mon (.of s) (Mon1.mon (Keep.ext k1.hand k2) (g1 x hx))
  · exact Mon1.mon (.of s) (g2 x hx)
theorem mk_some {n kh : Nat} {t : TE} [Mon1 G] (eh : σ[kh]? = some (some (.ref h))) (h1 : MkL h c σ H0 G n t) (hn : n ≤ 1000) : MkP h c σ H0 G (tCall (spSome K) [] E0 (tCons (tVar kh) (tCons t tNil))) := fun H Q k q =>
  ⟨_, eh, h1 H _ k fun p xs H1 k1 e1 n1 l1 b1 g1 => ⟨h, c, p, xs, rfl, k1.hand, n1, e1, l1, by omega, fun x H2 hx k2 => q x H2 (k1.trans k2) (Mon1.mon (Keep.ext k1.hand k2) (g1 x hx))⟩⟩
theorem mk_thing {kh : Nat} (eh : σ[kh]? = some (some (.ref h))) : MkG h c σ H0 K (tCall (spThing K) [] E0 (tCons (tVar kh) tNil)) := fun H Q k q => ⟨_, eh, h, c, rfl, k.hand, fun v H' k' g => q v H' k' g⟩
theorem mk_cat {n m : Nat} {t u : TE} (h1 : MkT h c σ H0 K n t) (h2 : MkT h c σ H0 K m u) (hb : n + m ≤ 50000 := by decide) : MkT h c σ H0 K (n + m) (tOp (rCatA K) t u) := fun H Q k q => h1 H _ k fun v H1 k1 g1 => h2 H1 _ (k.trans k1) fun w H2 k2 g2 =>
  gt_cat (g1.ext (Keep.ext k1.hand k2)) g2 hb fun x H3 s3 g3 => q x H3 ((k1.trans k2).same s3) g3
theorem mk_sl {n : Nat} {t : TE} {lo hi : TO} (h1 : MkT h c σ H0 K n t) (hlo : MkO σ lo) (hhi : MkO σ hi) : MkT h c σ H0 K n (tSl (rSlA K) t lo hi) := fun H Q k q => h1 H _ k fun v H1 k1 g1 => hlo H1 _ fun l => hhi H1 _ fun r =>
  gt_slice g1 fun x H3 s3 g3 => q x H3 (k1.same s3) g3
theorem mk_rev {n k : Nat} {v : V} (hx : HandOk H0 h c) (e : σ[k]? = some (some v)) (g : GT K H0 n v) : MkT h c σ H0 K n (tRevT K (tVar k) (tUn (rU fun i => V.int (-i)) (tC (.int 1)))) := fun H Q kp q => by
  obtain ⟨a, xs, rfl, sa, la, ga⟩ := g.ext (Keep.ext hx kp)
  exact ⟨_, e, 1, rfl, rfl, a, xs, rfl, sa, fun p np => q _ _ ((keep_refl kp).same (same_new np)) ⟨p, _, rfl, SqT.of upd_same, by rw [List.length_reverse]; exact la, fun z hz => (ga z (List.mem_reverse.mp hz)).ext (.of (same_new np))⟩⟩
theorem mk_list {n : Nat} {t : TE} (h1 : MkT h c σ H0 K n t) : MkG h c σ H0 K (tCB (rListOf K) (tCons t tNil)) := fun H Q k q => h1 H _ k fun v H1 k1 g1 => gt_list g1 fun x H2 s2 g2 => q x H2 (k1.same s2) g2
theorem mo_none : MkO σ tNoPart := fun H R hR => hR _
theorem mo_var {k : Nat} {i : Int} (e : σ[k]? = some (some (.int i))) : MkO σ (tPart (tVar k)) := fun H R hR => ⟨_, e, i, rfl, hR _⟩
theorem mo_add {k : Nat} {i j : Int} (e : σ[k]? = some (some (.int i))) : MkO σ (tPart (tOp (rI0 fun i j => V.int (i + j)) (tVar k) (tC (V.int j)))) := fun H R hR => ⟨_, e, _, _, rfl, rfl, _, rfl, hR _⟩
theorem mo_int {i : Int} : MkO σ (tPart (tC (V.int i))) := fun H R hR => ⟨i, rfl, hR _⟩
theorem mk_cint {i : Int} (hi : i.natAbs ≤ B30 := by decide +kernel) : MkG h c σ H0 K (tC (.int i)) := mk_val (fun _ _ q => q) fun _ => .int i hi
theorem mk_cneg {i : Int} (hi : (-i).natAbs ≤ B30 := by decide +kernel) : MkG h c σ H0 K (tUn (rU fun i => V.int (-i)) (tC (.int i))) := mk_val (v := .int (-i)) (fun _ _ q => ⟨i, rfl, q⟩) fun _ => .int _ hi
theorem mk_cbl {b : Bool} : MkG h c σ H0 K (tC (.bl b)) := mk_val (fun _ _ q => q) fun _ => .bl b
theorem mk_cnon : MkG h c σ H0 K (tC .non) := mk_val (fun _ _ q => q) fun _ => .non
theorem mk_ix {k j : Nat} {b : Addr} {xs : List V} {v : V} (hx : HandOk H0 h c) [Mon1 G] (e : σ[k]? = some (some (.ref b))) (hb : SqT K H0 b xs) (hj : xs[j]? = some v) (g : G H0 v) : MkP h c σ H0 G (tOp (rIxT K) (tVar k) (tC (.int (j : Nat)))) := fun H Q kp q =>
  ⟨_, e, b, xs, _, v, rfl, rfl, (Keep.ext hx kp).sqT hb, atI_nat hj, q v H (keep_refl kp) (Mon1.mon (Keep.ext hx kp) g)⟩
/-- 2 * t[j] -/
theorem mk_dbl {k j : Nat} {b : Addr} {xs : List V} {i z : Int} (hx : HandOk H0 h c) (e : σ[k]? = some (some (.ref b))) (hb : SqT K H0 b xs) (hj : xs[j]? = some (.int i)) (hz : -1000 ≤ z ∧ z ≤ 1000) (hi : (z * i).natAbs ≤ B30) :
    MkG h c σ H0 K (tOp (rI CMul fun i j => V.int (i * j)) (tC (.int z)) (tOp (rIxT K) (tVar k) (tC (.int (j : Nat))))) := fun H Q kp q =>
  ⟨_, e, b, xs, _, _, rfl, rfl, (Keep.ext hx kp).sqT hb, atI_nat hj, z, i, rfl, rfl, .inl ⟨by omega, by omega⟩, q _ H (keep_refl kp) (.int _ hi)⟩
/-- t[j] + z -/
theorem mk_inc {k j : Nat} {b : Addr} {xs : List V} {i z : Int} (hx : HandOk H0 h c) (e : σ[k]? = some (some (.ref b))) (hb : SqT K H0 b xs) (hj : xs[j]? = some (.int i)) (hi : (i + z).natAbs ≤ B30) :
    MkG h c σ H0 K (tOp (rI0 fun i j => V.int (i + j)) (tOp (rIxT K) (tVar k) (tC (.int (j : Nat)))) (tC (.int z))) := fun H Q kp q =>
  ⟨_, e, b, xs, _, _, rfl, rfl, (Keep.ext hx kp).sqT hb, atI_nat hj, _, _, rfl, rfl, q _ H (keep_refl kp) (.int _ hi)⟩
/-- tuple(range(n)) -/
theorem mk_rg {k n : Nat} (e : σ[k]? = some (some (.int n))) (hn : n ≤ 5) : MkG h c σ H0 K (tTupRg (tRg1 (tVar k))) := fun H Q kp q =>
  ⟨_, e, n, rfl, RgOk.of_le (by omega) (by omega) (by omega) (by omega), fun a na => q _ _ ((keep_refl kp).same (same_new na)) (GT.good (n := 5) ⟨a, _, rfl, SqT.of upd_same, by rw [rgV_length]; omega, fun x hx => by
    unfold rgV at hx
    obtain ⟨i, hi, rfl⟩ := List.mem_map.mp hx
    have hi2 := List.mem_range.mp hi
    have big : 5 ≤ B30 := by decide +kernel
    exact .int _ (by omega)⟩ (by decide))⟩
theorem mk_newl [Mon1 G] {n : Nat} {t : TE} (L : MkL h c σ H0 G n t) : MkG h c σ H0 K t := fun H Q k q => L H Q k fun p xs H' k' e _ _ _ _ => q _ H' k' (.lst e)
end

end
end Fm
namespace Fm
open PySem PySem.Spec PyProof.Rows L2
section
variable {P : Program} {w : World} {K : PySem.W.Frag} {mg : Str → Option Value} {base : Heap}

/-! ### rows bent -/
def spBentRow (K : PySem.W.Frag) : Sp := fun vs H Q _ => ∃ (h c : Addr) (n : Nat) (rv : V), vs = [.ref h, .int n, rv] ∧ HandOk H h c ∧ n ≤ 5 ∧ RowV K H n rv ∧ ∀ v H', Keep h c H H' → Good K H' v → Q v H'
theorem gt_of {H : Hp} {a : Addr} {xs : List V} {ds : List Dt} {n : Nat} (hs : SqT K H a xs) (hx : DhAll K H xs ds) (hl : ds.length ≤ n) (hw : ∀ d ∈ ds, Wf d) : GT K H n (.ref a) := by
  have e := hx.length
  refine ⟨a, xs, rfl, hs, by omega, fun x hm => ?_⟩
  obtain ⟨d, hd, hxd⟩ := hx.mem hm
  exact ⟨d, hxd, hw d hd⟩
structure BRow (K : PySem.W.Frag) (h c pa pb r : Addr) (H : Hp) : Prop where
  hand : HandOk H h c
  gp : GT K H 5 (.ref pa)
  gt : GT K H 2 (.ref pb)
  gr : GT K H 4 (.ref r)
theorem BRow.keep {h c pa pb r : Addr} {H H' : Hp} (x : BRow K h c pa pb r H) (k : Keep h c H H') : BRow K h c pa pb r H' := ⟨k.hand, x.gp.ext (Keep.ext x.hand k), x.gt.ext (Keep.ext x.hand k), x.gr.ext (Keep.ext x.hand k)⟩
theorem ok_law_bent_row (T : Txt K mg) : FnOk P w K mg base CX0 8 T.f_law_bent_row T.d_law_bent_row ["hand", "columns", "row"] (spBentRow K) := by
  refine T.F_law_bent_row.ok sc_law_bent_row (fun vs H Q E h => ?_) (fun cdv A outer s H vs Q E hr h => ?_)
  · obtain ⟨_, _, _, _, rfl, _⟩ := h
    rfl
  · obtain ⟨h, c, n, rv, rfl, hx, hn, hrow, q⟩ := h
    obtain ⟨ps, hd, wf, row, l1, l4, few⟩ := hrow
    obtain ⟨r, xs, rfl, sr, hxs⟩ := hd.tup_inv
    have hl := hxs.length
    refine ⟨_, (pss_cons (ps_set (i := 3) sc_law_bent_row.nd rfl (.inl rfl) (pe_call (ok_law_draw T) (hr.mono (by decide)) (by rfl) T.g_law_draw T.F_law_draw.kp T.b_law_draw .nil pass0 (pa_cons (pv 0) (pa_cons (pe_callB (call_lenK K) (by rfl) T.z_len PySem.boot_len (pa_cons (pv 2) pa_nil)) pa_nil))))
      (pss_cons (ps_asg (pe_ix (ix_tupK K) (pv 2) (pv 3) (fun _ _ => rfl)) (pg_tupK K (n := 2) rfl (pgs_cons (pg_name (i := 9) sc_law_bent_row.nd rfl (.inl rfl)) (pgs_cons (pg_name (i := 10) sc_law_bent_row.nd rfl (.inl rfl)) pgs_nil))))
      (pss_cons (ps_set (i := 4) sc_law_bent_row.nd rfl (.inl rfl) (pe_lst (pa_cons (pe_tup (pa_cons (pe_op op_mul pe_int (pe_ix (ix_tupK K) (pv 10) pe_int (fun _ _ => rfl))) (pa_cons (pe_op op_mul pe_int (pe_ix (ix_tupK K) (pv 10) pe_int (fun _ _ => rfl))) pa_nil))) (pa_cons (pe_tup (pa_cons pe_int (pa_cons pe_int pa_nil))) (pa_cons (pe_tup (pa_cons (pe_un un_neg pe_int) (pa_cons pe_int pa_nil))) (pa_cons (pe_tup (pa_cons pe_bl (pa_cons pe_int pa_nil))) (pa_cons (pe_tup (pa_cons (pe_op op_add (pe_ix (ix_tupK K) (pv 10) pe_int (fun _ _ => rfl)) pe_int) (pa_cons (pe_ix (ix_tupK K) (pv 10) pe_int (fun _ _ => rfl)) pa_nil))) (pa_cons (pe_callTy (call_listK (K := K)) (by rfl) T.z_list (by decide +kernel) (pa_cons (pv 10) pa_nil)) (pa_cons (pe_ix (ix_tupK K) (pv 10) pe_int (fun _ _ => rfl)) pa_nil)))))))))
      (pss_cons (ps_set (i := 4) sc_law_bent_row.nd rfl (.inl rfl) (pe_call (ok_law_some T) (hr.mono (by decide)) (by rfl) T.g_law_some T.F_law_some.kp T.b_law_some .nil pass0 (pa_cons (pv 0) (pa_cons (pe_op op_cat (pv 4) (pe_lst (pa_cons (pe_op (op_catK K) (pv 10) (pe_tup (pa_cons pe_int pa_nil))) (pa_cons (pe_tup (pa_cons pe_int (pa_cons pe_int pa_nil))) (pa_cons (pe_call (ok_law_odd T) hr (by rfl) T.g_law_odd T.F_law_odd.kp T.b_law_odd .nil pass0 (pa_cons (pv 0) pa_nil)) pa_nil))))) pa_nil))))
      (pss_cons (ps_set (i := 5) sc_law_bent_row.nd rfl (.inl rfl) (pe_lst (pa_cons (pe_op (op_catK K) (pv 9) (pe_tup (pa_cons (pv 1) pa_nil))) (pa_cons (pe_revT (K := K) (pv 9) (pe_un un_neg pe_int)) (pa_cons (pe_tup (pa_cons pe_bl pa_nil)) (pa_cons (pe_callTy (call_listK (K := K)) (by rfl) T.z_list (by decide +kernel) (pa_cons (pv 9) pa_nil)) (pa_cons (pe_op (op_catK K) (pe_tup (pa_cons (pe_un un_neg pe_int) pa_nil)) (pv 9)) (pa_cons (pe_op (op_catK K) (pv 9) (pv 9)) pa_nil))))))))
      (pss_cons (ps_set (i := 5) sc_law_bent_row.nd rfl (.inl rfl) (pe_call (ok_law_some T) (hr.mono (by decide)) (by rfl) T.g_law_some T.F_law_some.kp T.b_law_some .nil pass0 (pa_cons (pv 0) (pa_cons (pe_op op_cat (pv 5) (pe_lst (pa_cons (pe_tup pa_nil) (pa_cons (pe_tupRg rfl (by rfl) T.z_tuple (prg_1 (by rfl) T.z_range (pv 1))) (pa_cons (pe_call (ok_law_odd T) hr (by rfl) T.g_law_odd T.F_law_odd.kp T.b_law_odd .nil pass0 (pa_cons (pv 0) pa_nil)) pa_nil))))) pa_nil))))
      (pss_cons (ps_set (i := 6) sc_law_bent_row.nd rfl (.inl rfl) (pe_lst (pa_cons (pe_tup (pa_cons (pv 9) (pa_cons (pv 4) pa_nil))) (pa_cons (pe_tup (pa_cons (pv 5) (pa_cons (pv 10) pa_nil))) (pa_cons (pe_tup (pa_cons (pv 9) (pa_cons (pv 10) (pa_cons pe_int pa_nil)))) (pa_cons (pe_lst (pa_cons (pv 9) (pa_cons (pv 10) pa_nil))) (pa_cons (pv 9) (pa_cons (pe_call (ok_law_odd T) hr (by rfl) T.g_law_odd T.F_law_odd.kp T.b_law_odd .nil pass0 (pa_cons (pv 0) pa_nil)) pa_nil))))))))
      (pss_cons (ps_set (i := 7) sc_law_bent_row.nd rfl (.inl rfl) (pe_call (ok_law_some T) (hr.mono (by decide)) (by rfl) T.g_law_some T.F_law_some.kp T.b_law_some .nil pass0 (pa_cons (pv 0) (pa_cons (pv 6) pa_nil))))
      (pss_cons (ps_set (i := 8) sc_law_bent_row.nd rfl (.inl rfl) (pe_lst (pa_cons (pe_op (op_catK K) (pe_op (op_catK K) (pe_slice (sl_tupK K) (pv 2) po_none (po_some (pv 3))) (pe_tup (pa_cons (pv 7) pa_nil))) (pe_slice (sl_tupK K) (pv 2) (po_some (pe_op op_add (pv 3) pe_int)) po_none)) (pa_cons (pe_op (op_catK K) (pe_op (op_catK K) (pe_slice (sl_tupK K) (pv 2) po_none (po_some (pv 3))) (pe_tup (pa_cons (pv 7) pa_nil))) (pe_slice (sl_tupK K) (pv 2) (po_some (pe_op op_add (pv 3) pe_int)) po_none)) (pa_cons (pe_op (op_catK K) (pe_slice (sl_tupK K) (pv 2) po_none (po_some (pv 3))) (pe_slice (sl_tupK K) (pv 2) (po_some (pe_op op_add (pv 3) pe_int)) po_none)) pa_nil)))))
      (pss_one (ps_ret (pe_call (ok_law_some T) (hr.mono (by decide)) (by rfl) T.g_law_some T.F_law_some.kp T.b_law_some .nil pass0 (pa_cons (pv 0) (pa_cons (pe_op op_cat (pv 8) (pe_lst (pa_cons (pe_op (op_catK K) (pv 2) (pe_slice (sl_tupK K) (pv 2) po_none (po_some pe_int))) (pa_cons (pe_revT (K := K) (pv 2) (pe_un un_neg pe_int)) (pa_cons (pe_callTy (call_listK (K := K)) (by rfl) T.z_list (by decide +kernel) (pa_cons (pv 2) pa_nil)) (pa_cons (pe_tup pa_nil) (pa_cons (pv 2) (pa_cons (pe_call (ok_law_odd T) hr (by rfl) T.g_law_odd T.F_law_odd.kp T.b_law_odd .nil pass0 (pa_cons (pv 0) pa_nil)) pa_nil)))))))) pa_nil)))))))))))))), ?_⟩
    refine ⟨_, rfl, _, rfl, r, _, rfl, .inr sr, h, c, _, rfl, hx, by omega, by omega, fun at' H1 a0 a1 k1 => ?_⟩
    have x01 := Keep.ext hx k1
    have sr1 := x01.sqT sr
    have hxs1 := hxs.ext x01
    obtain ⟨x, hxa⟩ : ∃ x, xs[at'.toNat]? = some x := ⟨_, List.getElem?_eq_getElem (by omega)⟩
    obtain ⟨d, hd', hxd⟩ := hxs1.get hxa
    have hdm := List.mem_of_getElem? hd'
    have wd := wf.items.2 d hdm
    obtain ⟨pq, ed, ep1, asc⟩ := row_items (show rowGo n none (0, 1) ps = true from row) d hdm
    have fewd := few d hdm
    have shr : d.p2.isShr = true := by
      have z := show rowGo n none (0, 1) ps = true from row
      rw [rowGo_eq, Bool.and_eq_true, Bool.and_eq_true] at z
      have y := List.all_eq_true.mp z.2.1 d hdm
      rw [Bool.and_eq_true] at y
      exact y.2
    generalize hz : d.p2.zz = z at ed fewd
    have z12 : 1 ≤ z.1 ∧ z.1 ≤ z.2 := by
      have e2 : d.p2 = frD z := by rw [ed]; rfl
      rw [e2] at shr
      have y : (decide (1 ≤ z.1) && (decide (z.1 ≤ z.2) && decide (gz z.1 z.2 = 1))) = true := shr
      rw [Bool.and_eq_true, Bool.and_eq_true, decide_eq_true_eq, decide_eq_true_eq] at y
      exact ⟨y.1, y.2.1⟩
    rw [ed] at hxd wd
    obtain ⟨p, ys, rfl, hp, hy⟩ := hxd.tup_inv
    obtain ⟨v1, v2, rfl, g1, g2⟩ := dh_two hy
    have w1 := wd.items.2 (ctD pq) (by simp)
    have w2 := wd.items.2 (frD z) (by simp)
    obtain ⟨pa, rfl, hpa⟩ := ct_inv g1
    obtain ⟨pb, rfl, hpb⟩ := fr_inv g2
    have gpat : GT K H1 5 (.ref pa) := gt_of hpa (ints_dh pq) (by rw [List.length_map]; have := asc.len (by omega); omega) (fun d hd => w1.items.2 d hd)
    have gpart : GT K H1 2 (.ref pb) := gt_of hpb (ints_dh [z.1, z.2]) (show 2 ≤ 2 from Nat.le_refl 2) (fun d hd => w2.items.2 d hd)
    have grow : GT K H1 4 (.ref r) := gt_of sr1 hxs1 l4 wf.items.2
    have big : 1000 ≤ B30 := by decide +kernel
    refine ⟨_, rfl, _, rfl, r, _, at', _, rfl, rfl, sr1, at_of (j := at'.toNat) (by omega) hxa, p, _, rfl, hp, rfl, _, _, rfl, _, _, rfl, rfl, ?_⟩
    have hx1 := k1.hand
    dsimp only [tSeq, tAsg, gName, L2.start, List.set_cons_succ, List.set_cons_zero]
    have b1 : BRow K h c pa pb r H1 := ⟨hx1, gpat, gpart, grow⟩
    refine useL (G := Good K) hx1 (fun p6 xs6 H2 k2 e6 n6 l6 b6 g6 => ?_) (mk_lst (a_cons (mk_tup (a_cons (mk_dbl hx1 rfl hpb (j := 0) rfl (by decide) (by omega)) (a_cons (mk_dbl hx1 rfl hpb (j := 1) rfl (by decide) (by omega)) a_nil)))
      (a_cons (mk_tup (a_cons mk_cint (a_cons mk_cint a_nil))) (a_cons (mk_tup (a_cons mk_cneg (a_cons mk_cint a_nil))) (a_cons (mk_tup (a_cons mk_cbl (a_cons mk_cint a_nil)))
      (a_cons (mk_tup (a_cons (mk_inc hx1 rfl hpb (j := 0) rfl (by omega)) (a_cons (mk_ix hx1 rfl hpb (j := 1) rfl (.int _ (by omega))) a_nil)))
      (a_cons (mk_list (mk_var hx1 rfl gpart)) (a_cons (mk_ix hx1 rfl hpb (j := 0) rfl (.int _ (by omega))) a_nil))))))))
    have b2 := b1.keep k2
    refine useP (G := Good K) b2.hand (fun wv H3 k3 g3 => ?_) (mk_some rfl (mk_lcat (mk_lvar b2.hand rfl e6 n6 l6 b6 g6) (mk_lst (a_cons (mk_gt (mk_cat (mk_var b2.hand rfl b2.gt) (mk_tupT (a_cons mk_cint a_nil)))) (a_cons (mk_tup (a_cons mk_cint (a_cons mk_cint a_nil))) (a_cons (mk_thing rfl) a_nil)))) (by decide)) (by decide))
    have b3 := b2.keep k3
    refine useL (G := Good K) b3.hand (fun p7 xs7 H4 k4 e7 n7 l7 b7 g7 => ?_) (mk_lst (a_cons (mk_gt (mk_cat (mk_var b3.hand rfl b3.gp) (mk_tupT (a_cons (mk_var b3.hand rfl (.int _ (by omega))) a_nil)))) (a_cons (mk_gt (mk_rev b3.hand rfl b3.gp)) (a_cons (mk_tup (a_cons mk_cbl a_nil)) (a_cons (mk_list (mk_var b3.hand rfl b3.gp))
      (a_cons (mk_gt (mk_cat (mk_tupT (a_cons mk_cneg a_nil)) (mk_var b3.hand rfl b3.gp))) (a_cons (mk_gt (mk_cat (mk_var b3.hand rfl b3.gp) (mk_var b3.hand rfl b3.gp))) a_nil)))))))
    have b4 := b3.keep k4
    refine useP (G := Good K) b4.hand (fun ov H5 k5 g5 => ?_) (mk_some rfl (mk_lcat (mk_lvar b4.hand rfl e7 n7 l7 b7 g7) (mk_lst (a_cons (mk_tup a_nil) (a_cons (mk_rg rfl hn) (a_cons (mk_thing rfl) a_nil)))) (by decide)) (by decide))
    have b5 := b4.keep k5
    have w5 := g3.ext (Keep.ext b3.hand (k4.trans k5))
    refine useL (G := Good K) b5.hand (fun p8 xs8 H6 k6 e8 n8 l8 b8 g8 => ?_) (mk_lst (a_cons (mk_tup (a_cons (mk_var b5.hand rfl (b5.gp.good (by decide))) (a_cons (mk_var b5.hand rfl w5) a_nil))) (a_cons (mk_tup (a_cons (mk_var b5.hand rfl g5) (a_cons (mk_var b5.hand rfl (b5.gt.good (by decide))) a_nil)))
      (a_cons (mk_tup (a_cons (mk_var b5.hand rfl (b5.gp.good (by decide))) (a_cons (mk_var b5.hand rfl (b5.gt.good (by decide))) (a_cons mk_cint a_nil)))) (a_cons (mk_newl (mk_lst (a_cons (mk_var b5.hand rfl (b5.gp.good (by decide))) (a_cons (mk_var b5.hand rfl (b5.gt.good (by decide))) a_nil))))
      (a_cons (mk_var b5.hand rfl (b5.gp.good (by decide))) (a_cons (mk_thing rfl) a_nil)))))))
    have b6 := b5.keep k6
    refine useP (G := Good K) b6.hand (fun pv H7 k7 g9 => ?_) (mk_some rfl (mk_lvar b6.hand rfl e8 n8 l8 b8 g8) (by decide))
    have b7 := b6.keep k7
    have piece : MkT h c _ H7 K (4 + 1 + 4) _ := mk_cat (mk_cat (mk_sl (mk_var b7.hand (σ := (((((((((L2.start N_law_bent_row [V.ref h, V.int n, V.ref r]).set 3 (some (V.int at'))).set 9 (some (V.ref pa))).set 10 (some (V.ref pb))).set 4 (some (V.ref p6))).set 4 (some wv)).set 5 (some (V.ref p7))).set 5 (some ov)).set 6 (some (V.ref p8))).set 7 (some pv)) (k := 2) rfl b7.gr) mo_none (mo_var (k := 3) (i := at') rfl)) (mk_tupT (a_cons (mk_var b7.hand (k := 7) rfl g9) a_nil))) (mk_sl (mk_var b7.hand (k := 2) rfl b7.gr) (mo_add (k := 3) (j := 1) (i := at') rfl) mo_none)
    refine useL (G := Good K) b7.hand (fun p9 xs9 H8 k8 e9 n9 l9 b9 g10 => ?_) (mk_lst (a_cons (mk_gt piece) (a_cons (mk_gt piece) (a_cons (mk_gt (mk_cat (mk_sl (mk_var b7.hand rfl b7.gr) mo_none (mo_var (i := at') rfl)) (mk_sl (mk_var b7.hand rfl b7.gr) (mo_add (i := at') rfl) mo_none))) a_nil))))
    have b8 := b7.keep k8
    refine useP (G := Good K) b8.hand (fun v H9 k9 g9 => ?_) (mk_some rfl (mk_lcat (mk_lvar b8.hand rfl e9 n9 l9 b9 g10) (mk_lst (a_cons (mk_gt (mk_cat (mk_var b8.hand rfl b8.gr) (mk_sl (mk_var b8.hand rfl b8.gr) mo_none mo_int))) (a_cons (mk_gt (mk_rev b8.hand rfl b8.gr)) (a_cons (mk_list (mk_var b8.hand rfl b8.gr)) (a_cons (mk_tup a_nil) (a_cons (mk_var b8.hand rfl (b8.gr.good (by decide))) (a_cons (mk_thing rfl) a_nil))))))) (by decide)) (by decide))
    exact q v H9 (k1.trans (k2.trans (k3.trans (k4.trans (k5.trans (k6.trans (k7.trans (k8.trans k9)))))))) g9

end
end Fm
namespace Fm
open PySem PySem.Spec PyProof.Rows L2
section
variable {P : Program} {w : World} {K : PySem.W.Frag} {mg : Str → Option Value} {base : Heap}

/-! ### rows of all contents bent -/
def RG (K : PySem.W.Frag) (H : Hp) (v : V) : Prop := ∃ d, Dh K H v d ∧ RsWf d
instance mon_rg : Mon1 (RG K) := ⟨fun e ⟨d, h, w⟩ => ⟨d, h.ext e, w⟩⟩
theorem GT.rg {H : Hp} {n : Nat} {v : V} (h : GT K H n v) : RG K H v := by
  obtain ⟨a, xs, rfl, h2, h3, h4⟩ := h
  obtain ⟨ds, k1, k2⟩ := goods_data h4
  exact ⟨_, .tup h2 k1, k2⟩
theorem Good.rg {H : Hp} {v : V} (h : Good K H v) : RG K H v := by
  obtain ⟨d, h1, h2⟩ := h
  exact ⟨d, h1, h2.rs⟩
section
variable {h c : Addr} {σ : L2.St} {H0 : Hp}
theorem mk_imp {G G' : Hp → V → Prop} {t : TE} (hi : ∀ H v, G H v → G' H v) (h1 : MkP h c σ H0 G t) : MkP h c σ H0 G' t := fun H Q k q => h1 H Q k fun v H' k' g => q v H' k' (hi _ _ g)
theorem mk_rgt {n : Nat} {t : TE} (h1 : MkT h c σ H0 K n t) : MkP h c σ H0 (RG K) t := mk_imp (fun _ _ g => GT.rg g) h1
theorem mk_rgg {t : TE} (h1 : MkG h c σ H0 K t) : MkP h c σ H0 (RG K) t := mk_imp (fun _ _ g => Good.rg g) h1
theorem RowV.good {H : Hp} {n : Int} {v : V} (h : RowV K H n v) : Good K H v := by
  obtain ⟨ps, h1, h2, _⟩ := h
  exact ⟨_, h1, h2⟩
theorem mk_bent {kh ks kr ka : Nat} {a r : Addr} {ss : List Int} {xs : List V} {i : Int} (hx : HandOk H0 h c) (eh : σ[kh]? = some (some (.ref h))) (es : σ[ks]? = some (some (.ref a))) (er : σ[kr]? = some (some (.ref r))) (ea : σ[ka]? = some (some (.int i))) (ha : SqT K H0 a (ss.map V.int)) (h5 : ss.length ≤ 5)
    (hr : SqT K H0 r xs) (hrow : ∀ x ∈ xs, RowV K H0 ss.length x) (i0 : 0 ≤ i) (i1 : i < xs.length) : MkG h c σ H0 K (tCall (spBentRow K) [] E0 (tCons (tVar kh) (tCons (tCB (rLenK K) (tCons (tVar ks) tNil)) (tCons (tOp (rIxT K) (tVar kr) (tVar ka)) tNil)))) := fun H Q k q => by
  have e := Keep.ext hx k
  obtain ⟨x, hxa⟩ : ∃ x, xs[i.toNat]? = some x := ⟨_, List.getElem?_eq_getElem (by omega)⟩
  refine ⟨_, eh, _, es, a, _, rfl, .inr (e.sqT ha), _, er, _, ea, r, _, i, x, rfl, rfl, e.sqT hr, at_of (j := i.toNat) (by omega) hxa, h, c, ss.length, x, ?_, k.hand, h5, (hrow x (List.mem_of_getElem? hxa)).ext e, fun v H' k' g => q v H' k' g⟩
  rw [List.length_map]
  rfl
theorem cut_two (xs : List V) : (cutV xs none (some 2)).length = min 2 xs.length := by
  have e : HT.sIx xs.length xs.length (some (2 : Int)) = min 2 xs.length := HT.sIx_nat xs.length xs.length 2
  unfold cutV
  rw [e, HT.sIx_none, List.length_take, List.length_drop]
  omega
theorem mo_neg {i : Int} : MkO σ (tPart (tUn (rU fun i => V.int (-i)) (tC (V.int i)))) := fun H R hR => ⟨i, rfl, _, rfl, hR _⟩
/-- things[:2] -/
theorem mk_lcut {G : Hp → V → Prop} [Mon1 G] {k : Nat} {p : Addr} {xs : List V} (hx : HandOk H0 h c) (e : σ[k]? = some (some (.ref p))) (hp : H0 p = some (.lst xs)) (ne : p ≠ h) (l0 : 0 < xs.length) (g : ∀ x ∈ xs, G H0 x) : MkL h c σ H0 G 2 (tSl (rSlL K) (tVar k) tNoPart (tPart (tC (.int 2)))) := fun H Q kp q =>
  ⟨_, e, 2, rfl, p, xs, rfl, SqL.of (kp.rest _ _ ne hp), fun r nr => q r _ _ ((keep_refl kp).same (same_new nr)) upd_same (kp.hand.ne nr).1 (by rw [cut_two]; omega) (by rw [cut_two]; omega) fun x hm => Mon1.mon (Ext.new nr) (Mon1.mon (Keep.ext hx kp) (g x (cut_mem hm)))⟩
end
def spBentAll (K : PySem.W.Frag) : Sp := fun vs H Q _ => ∃ (h c a : Addr) (ss : List Int) (rv : V), vs = [.ref h, .ref a, rv] ∧ HandOk H h c ∧ SqT K H a (ss.map V.int) ∧ SizesOk ss ∧ RowsV K H ss rv ∧ ∀ v H', Keep h c H H' → RG K H' v → Q v H'
structure BAll (K : PySem.W.Frag) (h c a r : Addr) (ss : List Int) (xs : List V) (H : Hp) : Prop where
  hand : HandOk H h c
  sz : SqT K H a (ss.map V.int)
  sr : SqT K H r xs
  rows : ∀ x ∈ xs, RowV K H ss.length x
theorem BAll.keep {h c a r : Addr} {ss : List Int} {xs : List V} {H H' : Hp} (x : BAll K h c a r ss xs H) (k : Keep h c H H') : BAll K h c a r ss xs H' := ⟨k.hand, (Keep.ext x.hand k).sqT x.sz, (Keep.ext x.hand k).sqT x.sr, fun y hy => (x.rows y hy).ext (Keep.ext x.hand k)⟩
theorem BAll.gt {h c a r : Addr} {ss : List Int} {xs : List V} {H : Hp} (x : BAll K h c a r ss xs H) (hl : xs.length ≤ 1024) : GT K H 1024 (.ref r) := ⟨r, xs, rfl, x.sr, hl, fun y hy => (x.rows y hy).good⟩
theorem ok_law_bent (T : Txt K mg) : FnOk P w K mg base CX0 9 T.f_law_bent T.d_law_bent ["hand", "sizes", "rows"] (spBentAll K) := by
  refine T.F_law_bent.ok sc_law_bent (fun vs H Q E h => ?_) (fun cdv A outer s H vs Q E hr h => ?_)
  · obtain ⟨_, _, _, _, _, rfl, _⟩ := h
    rfl
  · obtain ⟨h, c, a, ss, rv, rfl, hx, ha, ok, hrv, q⟩ := h
    obtain ⟨r, xs, rfl, sr, hl, hrow⟩ := hrv
    have hal := (allC_all ok).1
    have l1 : xs.length ≤ 1024 := by omega
    have l0 : 0 < xs.length := by
      rw [hl]
      have z : IsCt ss (ss.map fun _ => (0 : Int)) := isCt_iff.mpr ⟨by rw [List.length_map], fun i x s h1 h2 => by
        rw [List.getElem?_map, h2] at h1
        cases h1
        have := (ok.facts.2.2 s (List.mem_of_getElem? h2)).1
        exact ⟨Int.le_refl 0, by show (0 : Int) < s; omega⟩⟩
      exact List.length_pos_of_mem (mem_allC.mpr z)
    have h5 := ok.facts.2.1
    have b0 : BAll K h c a r ss xs H := ⟨hx, ha, sr, hrow⟩
    refine ⟨_, (pss_cons (ps_set (i := 3) sc_law_bent.nd rfl (.inl rfl) (pe_call (ok_law_draw T) (hr.mono (by decide)) (by rfl) T.g_law_draw T.F_law_draw.kp T.b_law_draw .nil pass0 (pa_cons (pv 0) (pa_cons (pe_callB (call_lenK K) (by rfl) T.z_len PySem.boot_len (pa_cons (pv 2) pa_nil)) pa_nil))))
      (pss_cons (ps_set (i := 4) sc_law_bent.nd rfl (.inl rfl) (pe_call (ok_law_bent_row T) hr (by rfl) T.g_law_bent_row T.F_law_bent_row.kp T.b_law_bent_row .nil pass0 (pa_cons (pv 0) (pa_cons (pe_callB (call_lenK K) (by rfl) T.z_len PySem.boot_len (pa_cons (pv 1) pa_nil)) (pa_cons (pe_ix (ix_tupK K) (pv 2) (pv 3) (fun _ _ => rfl)) pa_nil)))))
      (pss_cons (ps_set (i := 5) sc_law_bent.nd rfl (.inl rfl) (pe_call (ok_law_draw T) (hr.mono (by decide)) (by rfl) T.g_law_draw T.F_law_draw.kp T.b_law_draw .nil pass0 (pa_cons (pv 0) (pa_cons (pe_callB (call_lenK K) (by rfl) T.z_len PySem.boot_len (pa_cons (pv 2) pa_nil)) pa_nil))))
      (pss_cons (ps_set (i := 6) sc_law_bent.nd rfl (.inl rfl) (pe_op (op_catK K) (pe_op (op_catK K) (pe_slice (sl_tupK K) (pv 2) po_none (po_some (pv 5))) (pe_tup (pa_cons (pe_call (ok_law_bent_row T) hr (by rfl) T.g_law_bent_row T.F_law_bent_row.kp T.b_law_bent_row .nil pass0 (pa_cons (pv 0) (pa_cons (pe_callB (call_lenK K) (by rfl) T.z_len PySem.boot_len (pa_cons (pv 1) pa_nil)) (pa_cons (pe_ix (ix_tupK K) (pv 2) (pv 5) (fun _ _ => rfl)) pa_nil)))) pa_nil))) (pe_slice (sl_tupK K) (pv 2) (po_some (pe_op op_add (pv 5) pe_int)) po_none)))
      (pss_cons (ps_set (i := 7) sc_law_bent.nd rfl (.inl rfl) (pe_lst (pa_cons (pe_op (op_catK K) (pe_op (op_catK K) (pe_slice (sl_tupK K) (pv 2) po_none (po_some (pv 3))) (pe_tup (pa_cons (pv 4) pa_nil))) (pe_slice (sl_tupK K) (pv 2) (po_some (pe_op op_add (pv 3) pe_int)) po_none)) (pa_cons (pe_op (op_catK K) (pe_op (op_catK K) (pe_slice (sl_tupK K) (pv 6) po_none (po_some (pv 3))) (pe_tup (pa_cons (pv 4) pa_nil))) (pe_slice (sl_tupK K) (pv 6) (po_some (pe_op op_add (pv 3) pe_int)) po_none)) (pa_cons (pe_slice (sl_tupK K) (pv 2) po_none (po_some (pe_un un_neg pe_int))) (pa_cons (pe_op (op_catK K) (pv 2) (pe_slice (sl_tupK K) (pv 2) po_none (po_some pe_int))) pa_nil))))))
      (pss_one (ps_ret (pe_call (ok_law_some T) (hr.mono (by decide)) (by rfl) T.g_law_some T.F_law_some.kp T.b_law_some .nil pass0 (pa_cons (pv 0) (pa_cons (pe_op op_cat (pe_op op_cat (pv 7) (pe_slice (sl_listK K) (pv 7) po_none (po_some pe_int))) (pe_lst (pa_cons (pe_callTy (call_listK (K := K)) (by rfl) T.z_list (by decide +kernel) (pa_cons (pv 2) pa_nil)) (pa_cons (pe_tup pa_nil) (pa_cons (pe_call (ok_law_odd T) (hr.mono (by decide)) (by rfl) T.g_law_odd T.F_law_odd.kp T.b_law_odd .nil pass0 (pa_cons (pv 0) pa_nil)) pa_nil))))) pa_nil)))))))))), ?_⟩
    refine ⟨_, rfl, _, rfl, r, _, rfl, .inr sr, h, c, _, rfl, hx, by omega, by omega, fun i H1 i0 i1 k1 => ?_⟩
    have b1 := b0.keep k1
    dsimp only [tSeq, tAsg, gName]
    refine useP (G := Good K) b1.hand (fun rowv H2 k2 g2 => ?_) (mk_bent b1.hand rfl rfl rfl rfl b1.sz h5 b1.sr b1.rows i0 i1)
    have b2 := b1.keep k2
    refine ⟨_, rfl, _, rfl, r, _, rfl, .inr b2.sr, h, c, _, rfl, b2.hand, by omega, by omega, fun j H3 j0 j1 k3 => ?_⟩
    have b3 := b2.keep k3
    have g3 := g2.ext (Keep.ext b2.hand k3)
    refine useP (G := fun H v => GT K H (1024 + 1 + 1024) v) b3.hand (fun tw H4 k4 g4 => ?_) (mk_cat (mk_cat (mk_sl (mk_var b3.hand rfl (b3.gt l1)) mo_none (mo_var rfl)) (mk_tupT (a_cons (mk_bent b3.hand rfl rfl rfl rfl b3.sz h5 b3.sr b3.rows j0 j1) a_nil))) (mk_sl (mk_var b3.hand rfl (b3.gt l1)) (mo_add (i := j) rfl) mo_none))
    have b4 := b3.keep k4
    have g34 := g3.ext (Keep.ext b3.hand k4)
    refine useL (G := RG K) b4.hand (fun p7 xs7 H5 k5 e7 n7 l7 b7 g7 => ?_) (mk_lst (a_cons (mk_rgt (mk_cat (mk_cat (mk_sl (mk_var b4.hand rfl (b4.gt l1)) mo_none (mo_var (i := i) rfl)) (mk_tupT (a_cons (mk_var b4.hand rfl g34) a_nil))) (mk_sl (mk_var b4.hand rfl (b4.gt l1)) (mo_add (i := i) rfl) mo_none)))
      (a_cons (mk_rgt (mk_cat (mk_cat (mk_sl (mk_var b4.hand rfl g4) mo_none (mo_var (i := i) rfl)) (mk_tupT (a_cons (mk_var b4.hand rfl g34) a_nil))) (mk_sl (mk_var b4.hand rfl g4) (mo_add (i := i) rfl) mo_none)))
      (a_cons (mk_rgt (mk_sl (mk_var b4.hand rfl (b4.gt l1)) mo_none mo_neg)) (a_cons (mk_rgt (mk_cat (mk_var b4.hand rfl (b4.gt l1)) (mk_sl (mk_var b4.hand rfl (b4.gt l1)) mo_none mo_int))) a_nil)))))
    have b5 := b4.keep k5
    refine useP (G := RG K) b5.hand (fun v H6 k6 g6 => q v H6 (k1.trans (k2.trans (k3.trans (k4.trans (k5.trans k6))))) g6) (mk_some rfl (mk_lcat (mk_lcat (mk_lvar b5.hand rfl e7 n7 l7 b7 g7) (mk_lcut b5.hand rfl e7 n7 l7 g7) (by decide)) (mk_lst (a_cons (mk_rgg (mk_list (mk_var b5.hand rfl (b5.gt l1)))) (a_cons (mk_rgg (mk_tup a_nil)) (a_cons (mk_rgg (mk_thing rfl)) a_nil)))) (by decide)) (by decide))

end
end Fm
namespace Fm
open PySem PySem.Spec PyProof.Rows L2
section
variable {P : Program} {w : World} {K : PySem.W.Frag} {mg : Str → Option Value} {base : Heap}

/-! ### the word of share -/
def wordS (ss : List Int) (a b : Dt) : Str := if a.isPat ss.length = true then (if b.isCont ss = true then "let" else "content") else "pattern"
inductive Wd (T : Txt K mg) : Addr → Str → Prop
  | p : Wd T T.c_NoPattern "pattern"
  | c : Wd T T.c_NoContent "content"
theorem eqv_bl (b : Bool) : PyData.eqv (.bool b) (.bool true) = b := by
  rw [PyData.eqv]
  cases b <;> rfl
def tsWord (T : Txt K mg) (a : Addr) (cls : Value) (d : Option Addr) : TS :=
  tSeq (tAsg (tLst (tCons (tCB (rIsE2 K cls d a) (tCons (tVar 4) (tCons (tC (V.ref T.c_NoPattern)) tNil))) (tCons (tCB (rIsE2 K cls d a) (tCons (tVar 4) (tCons (tC (V.ref T.c_NoContent)) tNil))) tNil))) (gName 5))
    (tAsg (tIf (tTest (tOp rEq (tBM K "list" (rCntD K) (tVar 5) (tCons (tC (V.bl true)) tNil)) (tC (V.int 1))))
        (tOp (rIxL K) (tLst (tCons (tC (V.str (Str.ofString "pattern"))) (tCons (tC (V.str (Str.ofString "content"))) tNil))) (tBM K "list" (rIndexD K) (tVar 5) (tCons (tC (V.bl true)) tNil)))
        (tC (V.str (Str.ofString "strange")))) (gName 3))
theorem word_in (T : Txt K mg) {C a : Addr} {D : Ends} {z0 z1 z2 z3 z5 : Option V} {H : Hp} {wd : Str} {b1 b2 : Bool} {j : Nat} (he : ExcC K C) (k1 : PySem.W.kitOne K (.ref C) (.ref T.c_NoPattern) = some b1) (k2 : PySem.W.kitOne K (.ref C) (.ref T.c_NoContent) = some b2)
    (hc : ([b1, b2].countP fun b => b) = 1) (hj : [b1, b2][j]? = some true) (hm : ∀ m, m < j → ∀ b, [b1, b2][m]? = some b → b = false)
    (hwd : ([V.str "pattern", .str "content"] : List V)[j]? = some (.str wd)) (q : ∀ y5 H', Same H H' → D.nx [z0, z1, z2, some (.str wd), some (.ref a), y5] H') :
    tsWord T a (.ref C) none D [z0, z1, z2, z3, some (.ref a), z5] H := by
  refine ⟨_, rfl, C, rfl, rfl, he, _, _, _, rfl, fun u h => h, k1, _, rfl, C, rfl, rfl, he, _, _, _, rfl, fun u h => h, k2, ⟨by show 2 ≤ sizeLine; decide, fun l nl => ?_⟩⟩
  have s1 : Same H (upd H l (.lst [.bl b1, .bl b2])) := same_new nl
  have hl : (upd H l (.lst [.bl b1, .bl b2])) l = some (.lst ([b1, b2].map V.bl)) := upd_same
  generalize upd H l (.lst [.bl b1, .bl b2]) = H2 at s1 hl ⊢
  have hdp : ∀ {G : Hp}, G l = some (.lst ([b1, b2].map V.bl)) → Dp K G (.ref l) (.list ([b1, b2].map PyData.bool)) := fun e => .lst (SqL.of e) (.cons (.bl _) (.cons (.bl _) .nil))
  have hsh : SeqAt.shaped (.list ([b1, b2].map PyData.bool)) = true := by rfl
  refine ⟨_, rfl, .inl ⟨rfl, _, SqL.of hl⟩, l, .bl true, .bool true, _, rfl, rfl, hdp hl, .bl true, hsh, by rfl, ?_⟩
  have ec : (([b1, b2].map PyData.bool).countP fun z => PyData.eqv z (.bool true)) = 1 := by
    rw [List.countP_map, ← hc]
    congr 1
    funext b
    exact eqv_bl b
  refine ⟨rfl, _, rfl, ?_⟩
  rw [ec, dec_int]
  refine iteT ?_
  refine ⟨by show 2 ≤ sizeLine; decide, fun l2 nl2 => ?_⟩
  have s3 : Same H2 (upd H2 l2 (.lst [.str "pattern", .str "content"])) := same_new nl2
  have hl2 : (upd H2 l2 (.lst [.str "pattern", .str "content"])) l2 = some (.lst [.str "pattern", .str "content"]) := upd_same
  generalize upd H2 l2 (.lst [.str "pattern", .str "content"]) = H3 at s3 hl2 ⊢
  have hl3 := s3 _ _ hl
  refine ⟨_, rfl, .inl ⟨rfl, _, SqL.of hl3⟩, l, .bl true, .bool true, _, j, .bool true, rfl, rfl, hdp hl3, .bl true, hsh, by rfl, ?_, eqv_bl true, fun m z' hm2 hz => ?_, ?_⟩
  · rw [List.getElem?_map, hj]
    rfl
  · rw [List.getElem?_map] at hz
    obtain ⟨b, hb, rfl⟩ := Option.map_eq_some_iff.mp hz
    rw [eqv_bl]
    exact hm m hm2 b hb
  · exact ⟨l2, _, _, _, rfl, rfl, SqL.of hl2, at_of (j := j) rfl hwd, q _ H3 (s1.trans s3)⟩
theorem word_caught (T : Txt K mg) {C : Addr} {wd : Str} (hw : Wd T C wd) {D : Ends} {z0 z1 z2 z3 z4 z5 : Option V} {H : Hp} (q : ∀ y5 H', Same H H' → D.nx [z0, z1, z2, some (.str wd), none, y5] H') :
    wAs K (Value.ref T.c_MaskError) 4 (tsWord T) (fun _ _ _ _ => False) D (.ref C) none [z0, z1, z2, z3, z4, z5] H := by
  cases hw with
  | p => exact ⟨true, T.x_NoPattern, fun _ a na => word_in T (j := 0) T.e_NoPattern T.q_NoPattern_NoPattern T.q_NoPattern_NoContent rfl rfl (fun m h => absurd h (Nat.not_lt_zero m)) rfl fun y H' s' => q y H' s', fun z => nomatch z⟩
  | c => exact ⟨true, T.x_NoContent, fun _ a na => word_in T (j := 1) T.e_NoContent T.q_NoContent_NoPattern T.q_NoContent_NoContent rfl rfl (fun m h b hb => match m, h, hb with | 0, _, hb => (Option.some.inj hb).symm) rfl fun y H' s' => q y H' s', fun z => nomatch z⟩
def spWordS (T : Txt K mg) : Sp := fun vs H Q _ => ∃ (x : Addr) (ss : List Int) (ds : List Dt) (v1 v2 : V) (d1 d2 : Dt), vs = [.ref x, v1, v2] ∧ Hb K T.c_Habit H x ss ds ∧ SizesOk ss ∧ Rows ss ds ∧ Dh K H v1 d1 ∧ Dh K H v2 d2 ∧ ∀ H', Same H H' → Q (.str (wordS ss d1 d2)) H'
theorem ok_law_share_word (T : Txt K mg) : FnOk P w K mg base CX0 4 T.f_law_share_word T.d_law_share_word ["habit", "pattern", "content"] (spWordS T) := by
  refine T.F_law_share_word.ok sc_law_share_word (fun vs H Q E h => ?_) (fun cdv A outer s H vs Q E hr h => ?_)
  · obtain ⟨_, _, _, _, _, _, _, rfl, _⟩ := h
    rfl
  · obtain ⟨x, ss, ds, v1, v2, d1, d2, rfl, hb, ok, rows, h1, h2, q⟩ := h
    refine' ⟨_, ?dr, ?rd⟩
    case dr =>
      refine' (pss_cons (ps_set (i := 3) sc_law_share_word.nd rfl (.inl rfl) pe_str)
      (pss_cons ?tr
      (pss_one (ps_ret (pv 3)))))
      case tr =>
        refine' ps_try_as (i := 4) rfl rfl sc_law_share_word.nd rfl rfl ⟨rfl, by decide, .inl T.g_MaskError⟩ takes0 (fun W pn xe tk _ => ?tb) (fun a oe cls d pn hz hf => ?ts)
        case tb => exact (pss_one (ps_expr (pe_callS (okx_share T) (hr.mono (by decide)) (by rfl) T.g_share T.F_share.kp T.b_share (fun σ => passAt tk σ) (pa_cons (pv 0) (pa_cons (pv 1) (pa_cons (pv 2) pa_nil))))))
        case ts => exact (pss_cons (ps_set (i := 5) sc_law_share_word.nd rfl (.inl rfl) (pe_lst (pa_cons (pe_callB (by exact call_isE2 (K := K) hz hf) (by rfl) T.z_isinstance (by decide +kernel) (pa_cons (pv 4) (pa_cons (pe_glob (by rfl) T.g_NoPattern (show L2.RelV (.ref T.c_NoPattern) _ from rfl)) pa_nil))) (pa_cons (pe_callB (by exact call_isE2 (K := K) hz hf) (by rfl) T.z_isinstance (by decide +kernel) (pa_cons (pv 4) (pa_cons (pe_glob (by rfl) T.g_NoContent (show L2.RelV (.ref T.c_NoContent) _ from rfl)) pa_nil))) pa_nil))))
      (pss_one (ps_set (i := 3) sc_law_share_word.nd rfl (.inl rfl) (pe_ifExp (pt_cmpR op_eq (pe_bmK (K := K) PySem.F.plainAttrs_list PySem.F.slot_list_count PySem.F.type_list_count (mt_countD (K := K) (by exact (room65 hr : _))) (pv 5) (pa_cons pe_bl pa_nil)) pe_int (nomark _)) (pe_ix (ix_listK K) (pe_lst (pa_cons pe_str (pa_cons pe_str pa_nil))) (pe_bmK (K := K) PySem.F.plainAttrs_list PySem.F.slot_list_index PySem.F.type_list_index (mt_indexK (K := K) (by exact (room65 hr : _))) (pv 5) (pa_cons pe_bl pa_nil)) (fun _ _ => rfl)) pe_str))))
    case rd =>
      refine ⟨_, rfl, _, rfl, _, rfl, ?_⟩
      unfold wordS at q
      cases ep : d1.isPat ss.length with
      | false =>
        rw [ep, if_neg Bool.false_ne_true] at q
        refine .inr ⟨x, ss, ds, v1, v2, d1, d2, _, rfl, hb, ok, h1, h2, .inl ⟨ep, rfl⟩, fun H1 s1 => word_caught T .p fun y H2 s2 => ⟨_, rfl, q H2 (s1.trans s2)⟩⟩
      | true =>
        rw [ep, if_pos rfl] at q
        cases ec : d2.isCont ss with
        | false =>
          rw [ec, if_neg Bool.false_ne_true] at q
          refine .inr ⟨x, ss, ds, v1, v2, d1, d2, _, rfl, hb, ok, h1, h2, .inr ⟨ep, ec, rfl⟩, fun H1 s1 => word_caught T .c fun y H2 s2 => ⟨_, rfl, q H2 (s1.trans s2)⟩⟩
        | true =>
          rw [ec, if_pos rfl] at q
          obtain ⟨ps, rfl, asc⟩ := isPat_ct ep
          obtain ⟨ct, rfl, hc⟩ := isCont_inv ec
          exact .inl ⟨x, ss, ds, ps, ct, v1, v2, rfl, hb, ok, rows, h1, asc, h2, hc, fun v H' s' _ => ⟨_, rfl, q H' s'⟩⟩
def spDueS (K : PySem.W.Frag) : Sp := fun vs H Q _ => ∃ (a : Addr) (ss : List Int) (v1 v2 : V) (d1 d2 : Dt), vs = [.ref a, v1, v2] ∧ SqT K H a (ss.map V.int) ∧ ss.length ≤ 1000 ∧ Dh K H v1 d1 ∧ Dh K H v2 d2 ∧ d1.short ∧ ∀ H', Same H H' → Q (.str (wordS ss d1 d2)) H'
theorem ok_law_share_due (T : Txt K mg) : FnOk P w K mg base CX0 3 T.f_law_share_due T.d_law_share_due ["sizes", "pattern", "content"] (spDueS K) := by
  refine T.F_law_share_due.ok sc_law_share_due (fun vs H Q E h => ?_) (fun cdv A outer s H vs Q E hr h => ?_)
  · obtain ⟨_, _, _, _, _, _, rfl, _⟩ := h
    rfl
  · obtain ⟨a, ss, v1, v2, d1, d2, rfl, ha, hl, h1, h2, sh, q⟩ := h
    unfold wordS at q
    refine ⟨_, (pss_cons (ps_if (pt_not (pt_val (pe_call (ok_law_is_pattern T) hr (by rfl) T.g_law_is_pattern T.F_law_is_pattern.kp T.b_law_is_pattern .nil pass0 (pa_cons (pe_callB (call_lenK K) (by rfl) T.z_len PySem.boot_len (pa_cons (pv 0) pa_nil)) (pa_cons (pv 1) pa_nil))))) (pss_one (ps_ret pe_str)) pss_nil)
      (pss_one (ps_ret (pe_ifExp (pt_val (pe_call (ok_law_is_content T) hr (by rfl) T.g_law_is_content T.F_law_is_content.kp T.b_law_is_content .nil pass0 (pa_cons (pv 0) (pa_cons (pv 2) pa_nil)))) pe_str pe_str)))), ?_⟩
    refine ⟨_, rfl, a, _, rfl, .inr ha, _, rfl, _, v1, d1, rfl, h1, sh, fun H1 s1 => ⟨_, rfl, ?_⟩⟩
    rw [List.length_map]
    cases ep : d1.isPat ss.length with
    | false =>
      refine iteT ?_
      rw [ep, if_neg Bool.false_ne_true] at q
      exact q H1 s1
    | true =>
      refine iteF ?_
      rw [ep, if_pos rfl] at q
      refine ⟨_, rfl, _, rfl, a, ss, v2, d2, rfl, (Ext.of s1).sqT ha, hl, h2.ext (.of s1), fun H2 s2 => ⟨_, rfl, ?_⟩⟩
      cases ec : d2.isCont ss with
      | false =>
        rw [ec, if_neg Bool.false_ne_true] at q
        exact iteF (q H2 (s1.trans s2))
      | true =>
        rw [ec, if_pos rfl] at q
        exact iteT (q H2 (s1.trans s2))

end
end Fm
namespace Fm
open PySem PySem.Spec PyProof.Rows L2
section
variable {P : Program} {w : World} {K : PySem.W.Frag} {mg : Str → Option Value} {base : Heap}

/-! ### the law k03 -/
section
variable {h c : Addr} {σ : L2.St} {H0 : Hp}
theorem mk_rep {v : V} {t u : TE} {n : Int} (ht : ∀ (H : Hp) (Q : VK), Q v H → t σ H Q) (hu : ∀ (H : Hp) (Q : VK), Keep h c H0 H → Q (.int n) H → u σ H Q) (n0 : 1 ≤ n) (n1 : n ≤ 10) (g : ∀ H, Good K H v) : MkG h c σ H0 K (tOp (rRepU K) (tTup (tCons t tNil)) u) := fun H Q k q =>
  ht H _ ⟨by show 1 ≤ sizeLine; decide, fun a na => hu _ _ (k.same (same_new na)) ⟨a, n, [v], rfl, rfl, SqT.of upd_same, by simp, by omega, by omega, by show 1 ≤ 1000; decide, fun _ => q _ _ ((keep_refl k).same (same_new na)) (GT.good (n := 1) ⟨a, [v], rfl, SqT.of upd_same, Nat.le_refl _, fun x hx => by
      rw [List.mem_singleton.mp hx]
      exact g _⟩ (by decide)), fun b nb => by
    have e : (List.replicate n.toNat [v]).flatten = List.replicate n.toNat v := by
      induction n.toNat with
      | zero => rfl
      | succ m ih => rw [List.replicate_succ, List.flatten_cons, ih, List.replicate_succ]; rfl
    rw [e]
    refine q _ _ (((keep_refl k).same (same_new na)).same (same_new nb)) (GT.good (n := 10) ⟨b, _, rfl, SqT.of upd_same, by rw [List.length_replicate]; omega, fun x hx => ?_⟩ (Nat.le_refl _))
    rw [List.eq_of_mem_replicate hx]
    exact g _⟩⟩
theorem at_last {xs : List V} {v : V} (h : xs[xs.length - 1]? = some v) : atI xs (-1) = some v := by
  have hl := (List.getElem?_eq_some_iff.mp h).1
  have e : atI xs (-1) = xs[xs.length - 1]? := by
    unfold atI ixN
    rw [if_neg (by omega : ¬ (0 : Int) ≤ -1), if_pos (by omega)]
    show xs[((-1 : Int) + (xs.length : Int)).toNat]? = _
    congr 1
    omega
  rw [e, h]
/-- l[j], l[-1] of a list -/
theorem mk_lix {G : Hp → V → Prop} [Mon1 G] {k j : Nat} {p : Addr} {xs : List V} {v : V} (hx : HandOk H0 h c) (e : σ[k]? = some (some (.ref p))) (hp : H0 p = some (.lst xs)) (ne : p ≠ h) (hj : xs[j]? = some v) (g : G H0 v) : MkP h c σ H0 G (tOp (rIxL K) (tVar k) (tC (.int (j : Nat)))) := fun H Q kp q =>
  ⟨_, e, p, xs, _, v, rfl, rfl, SqL.of (kp.rest _ _ ne hp), atI_nat hj, q v H (keep_refl kp) (Mon1.mon (Keep.ext hx kp) g)⟩
theorem mk_llast {G : Hp → V → Prop} [Mon1 G] {k : Nat} {p : Addr} {xs : List V} {v : V} (hx : HandOk H0 h c) (e : σ[k]? = some (some (.ref p))) (hp : H0 p = some (.lst xs)) (ne : p ≠ h) (hj : xs[xs.length - 1]? = some v) (g : G H0 v) : MkP h c σ H0 G (tOp (rIxL K) (tVar k) (tUn (rU fun i => V.int (-i)) (tC (.int 1)))) := fun H Q kp q =>
  ⟨_, e, 1, rfl, p, xs, _, v, rfl, rfl, SqL.of (kp.rest _ _ ne hp), at_last hj, q v H (keep_refl kp) (Mon1.mon (Keep.ext hx kp) g)⟩
end
theorem ct_gt {H : Hp} {ss ct : List Int} {v : V} (ok : SizesOk ss) (h : IsCt ss ct) (hv : Dh K H v (ctD ct)) : GT K H 5 v := by
  obtain ⟨a, rfl, ha⟩ := ct_inv hv
  obtain ⟨hl, hb⟩ := isCt_iff.mp h
  have h5 := ok.facts.2.1
  have big : 4 ≤ B30 := by decide +kernel
  refine ⟨a, _, rfl, ha, by rw [List.length_map]; omega, fun x hx => ?_⟩
  obtain ⟨i, hi, rfl⟩ := List.mem_map.mp hx
  obtain ⟨j, hj, rfl⟩ := List.mem_iff_getElem.mp hi
  have e1 : ct[j]? = some ct[j] := List.getElem?_eq_getElem hj
  have e2 : ss[j]? = some (ss[j]'(by omega)) := List.getElem?_eq_getElem (by omega)
  have := hb j _ _ e1 e2
  have := (ok.facts.2.2 _ (List.mem_of_getElem? e2)).2
  exact .int _ (by omega)
/-- what stands through a turn -/
structure LS (K : PySem.W.Frag) (h c a r : Addr) (ss : List Int) (ds : List Dt) (H : Hp) : Prop where
  hand : HandOk H h c
  sz : SqT K H a (ss.map V.int)
  rv : RowsV K H ss (.ref r)
  rd : Dh K H (.ref r) (.tup ds)
theorem LS.keep {h c a r : Addr} {ss : List Int} {ds : List Dt} {H H' : Hp} (x : LS K h c a r ss ds H) (k : Keep h c H H') : LS K h c a r ss ds H' := ⟨k.hand, (Keep.ext x.hand k).sqT x.sz, x.rv.ext (Keep.ext x.hand k), x.rd.ext (Keep.ext x.hand k)⟩
theorem LS.same {h c a r : Addr} {ss : List Int} {ds : List Dt} {H H' : Hp} (x : LS K h c a r ss ds H) (s : Same H H') : LS K h c a r ss ds H' := x.keep (.of x.hand s)
/-- what stands through the shares asked -/
structure LE (K : PySem.W.Frag) (C h c a r x dx ev : Addr) (ss : List Int) (ds : List Dt) (exs : List V) (H : Hp) : Prop where
  ls : LS K h c a r ss ds H
  ins : H x = some (.ins C dx (hfs (.ref a) (.ref r)))
  ev : H ev = some (.lst exs)
  exs : DhAll K H exs ((allC ss).map ctD)
theorem LE.keep {C h c a r x dx ev : Addr} {ss : List Int} {ds : List Dt} {exs : List V} {H H' : Hp} (y : LE K C h c a r x dx ev ss ds exs H) (n1 : x ≠ h) (n2 : ev ≠ h) (k : Keep h c H H') : LE K C h c a r x dx ev ss ds exs H' := ⟨y.ls.keep k, k.rest _ _ n1 y.ins, k.rest _ _ n2 y.ev, y.exs.ext (Keep.ext y.ls.hand k)⟩
theorem LS.oth {h c a r : Addr} {ss : List Int} {ds : List Dt} {H : Hp} (x : LS K h c a r ss ds H) : Oth K H (.ref r) := by
  obtain ⟨a, xs, e, s, _⟩ := x.rv
  cases e
  exact .tup s
instance mon_oth : Mon1 (Oth K) := ⟨fun e o => by
  cases o with
  | non => exact .non
  | int i => exact .int i
  | str x => exact .str x
  | tup h => exact .tup (e.sqT h)⟩
theorem mk_otup {h c : Addr} {σ : L2.St} {H0 : Hp} {ta : TA} {n : Nat} (ht : MkA h c σ H0 (Oth K) n ta) (hl : n ≤ 10 := by decide) : MkP h c σ H0 (Oth K) (tTup ta) := fun H Q k q =>
  ht H _ k fun vs H' k' e gs => ⟨Nat.le_of_lt (sz_small (by omega)), fun p np => q _ _ (k'.same (same_new np)) (.tup (SqT.of upd_same))⟩
theorem lc_iL {K : PySem.W.Frag} {tl te : TE} {g : TG} {tt : TT} {vs : List Nat} {σ : L2.St} {H : Hp} {Q : VK} (h : tl σ H fun x H1 => tLc (fun _ H2 R => ∃ a, x = .ref a ∧ (∃ xs, SqL K H2 a xs) ∧ R (Itl K a) H2) g tt te vs σ H1 Q) : tLc (iList K tl) g tt te vs σ H Q := h
theorem t_len0 {K : PySem.W.Frag} {ti : TI} {te : TE} {g : TG} {tt : TT} {vs : List Nat} {σ : L2.St} {H : Hp} {k : Bool → Hp → Prop} (h : tLc ti g tt te vs σ H fun x H1 => rLenK K [x] H1 fun y H3 => rI0 (fun i j => V.bl (decide (j < i))) y (V.int 0) H3 fun w H5 => ∃ b, w = .bl b ∧ k b H5) :
    tTest (tOp (rI0 fun i j => V.bl (decide (j < i))) (tCB (rLenK K) (tCons (tLc ti g tt te vs) tNil)) (tC (V.int 0))) σ H k := h
theorem scal_due (o : Option Part) : scal (dueV o) (dueV o) = true := by
  cases o with
  | none => rfl
  | some p => cases p <;> rfl
def spLaw (K : PySem.W.Frag) : Sp := fun vs H Q _ => ∃ (a : Addr) (ns : List Int), vs = [.ref a] ∧ SqL K H a (ns.map V.int) ∧ ns.length ≤ 63 ∧ ∀ H', Q (.bl true) H'
abbrev st15 (a h : Addr) (y2 y3 y4 y5 y6 y7 y8 y9 y10 y11 y12 y13 y14 : Option V) : L2.St := [some (.ref a), some (.ref h), y2, y3, y4, y5, y6, y7, y8, y9, y10, y11, y12, y13, y14]
theorem ok_law (T : Txt K mg) {f : Addr} {fd : FuncData} (F : Fun K "law" "law" s_law f fd) : FnOk P w K mg base CX0 10 f fd ["script"] (spLaw K) := by
  refine F.ok sc_law (fun vs H Q E h => ?_) (fun cdv A outer s H vs Q E hr h => ?_)
  · obtain ⟨_, _, rfl, _⟩ := h
    rfl
  · obtain ⟨a, ns, rfl, hS, hl, q⟩ := h
    refine ⟨_, (pss_cons (ps_set (i := 1) sc_law.nd rfl (.inl rfl) (pe_call (ok_law_hand T) (hr.mono (by decide)) (by rfl) T.g_law_hand T.F_law_hand.kp T.b_law_hand .nil pass0 (pa_cons (pv 0) pa_nil)))
      (pss_cons (ps_for PassesOwn.never rfl (pi_range1 (by rfl) T.z_range (pa_cons pe_int pa_nil)) (pg_name (i := 2) sc_law.nd rfl (.inl rfl)) (pss_cons (ps_set (i := 3) sc_law.nd rfl (.inl rfl) (pe_call (ok_law_sizes T) (hr.mono (by decide)) (by rfl) T.g_law_sizes T.F_law_sizes.kp T.b_law_sizes .nil pass0 (pa_cons (pv 1) pa_nil)))
      (pss_cons (ps_set (i := 4) sc_law.nd rfl (.inl rfl) (pe_call (ok_law_rows T) (hr.mono (by decide)) (by rfl) T.g_law_rows T.F_law_rows.kp T.b_law_rows .nil pass0 (pa_cons (pv 1) (pa_cons (pv 3) pa_nil))))
      (pss_cons (ps_if (PW.pt (pw_or (pt_cmpR op_ne (pe_call (ok_law_told T) (hr.mono (by decide)) (by rfl) T.g_law_told T.F_law_told.kp T.b_law_told .nil pass0 (pa_cons (pv 3) (pa_cons (pv 4) pa_nil))) pe_str (nomark _)) (pw_or1 (pt_cmpR op_ne (pe_call (ok_law_due T) (hr.mono (by decide)) (by rfl) T.g_law_due T.F_law_due.kp T.b_law_due .nil pass0 (pa_cons (pv 3) (pa_cons (pv 4) pa_nil))) pe_str (nomark _))))) (pss_one (ps_ret pe_bl)) pss_nil)
      (pss_cons (ps_for PassesOwn.never rfl (pi_range1 (by rfl) T.z_range (pa_cons pe_int pa_nil)) (pg_name (i := 5) sc_law.nd rfl (.inl rfl)) (pss_cons (ps_set (i := 10) sc_law.nd rfl (.inl rfl) (pe_call (ok_law_bent T) hr (by rfl) T.g_law_bent T.F_law_bent.kp T.b_law_bent .nil pass0 (pa_cons (pv 1) (pa_cons (pv 3) (pa_cons (pv 4) pa_nil)))))
      (pss_one (ps_if (pt_cmpR op_ne (pe_call (ok_law_told T) (hr.mono (by decide)) (by rfl) T.g_law_told T.F_law_told.kp T.b_law_told .nil pass0 (pa_cons (pv 3) (pa_cons (pv 10) pa_nil))) (pe_call (ok_law_due T) (hr.mono (by decide)) (by rfl) T.g_law_due T.F_law_due.kp T.b_law_due .nil pass0 (pa_cons (pv 3) (pa_cons (pv 10) pa_nil))) (nomark _)) (pss_one (ps_ret pe_bl)) pss_nil))))
      (pss_cons (ps_set (i := 6) sc_law.nd rfl (.inl rfl) (pe_call (ok_law_some T) (hr.mono (by decide)) (by rfl) T.g_law_some T.F_law_some.kp T.b_law_some .nil pass0 (pa_cons (pv 1) (pa_cons (pe_lst (pa_cons (pe_tup (pa_cons pe_int pa_nil)) (pa_cons (pe_tup (pa_cons pe_int (pa_cons pe_int (pa_cons pe_int (pa_cons pe_int (pa_cons pe_int pa_nil)))))) (pa_cons (pe_op (op_repU (K := K)) (pe_tup (pa_cons pe_int pa_nil)) pe_int) (pa_cons (pe_tup pa_nil) (pa_cons (pe_tup (pa_cons pe_bl (pa_cons pe_int pa_nil))) (pa_cons (pe_lst (pa_cons pe_int (pa_cons pe_int pa_nil))) (pa_cons (pe_tup (pa_cons pe_int (pa_cons pe_int pa_nil))) (pa_cons (pe_call (ok_law_odd T) (hr.mono (by decide)) (by rfl) T.g_law_odd T.F_law_odd.kp T.b_law_odd .nil pass0 (pa_cons (pv 1) pa_nil)) pa_nil))))))))) pa_nil))))
      (pss_cons (ps_if (pt_cmpR op_ne (pe_call (ok_law_told T) (hr.mono (by decide)) (by rfl) T.g_law_told T.F_law_told.kp T.b_law_told .nil pass0 (pa_cons (pv 6) (pa_cons (pv 10) pa_nil))) (pe_call (ok_law_due T) (hr.mono (by decide)) (by rfl) T.g_law_due T.F_law_due.kp T.b_law_due .nil pass0 (pa_cons (pv 6) (pa_cons (pv 10) pa_nil))) (nomark _)) (pss_one (ps_ret pe_bl)) pss_nil)
      (pss_cons (ps_set (i := 7) sc_law.nd rfl (.inr rfl) (pe_make T.M_Habit (ok_Habit_init T) (hr.mono (by decide)) (by rfl) T.g_Habit T.b_Habit_init .nil pass0 (pa_cons (pv 3) (pa_cons (pv 4) pa_nil))))
      (pss_cons (ps_set (i := 8) sc_law.nd rfl (.inl rfl) (pe_call (ok_law_rows T) (hr.mono (by decide)) (by rfl) T.g_law_rows T.F_law_rows.kp T.b_law_rows .nil pass0 (pa_cons (pv 1) (pa_cons (pv 3) pa_nil))))
      (pss_cons (ps_if (PW.pt (pw_or (pt_not (pt_val (pe_call (ok_law_flag T) (hr.mono (by decide)) (by rfl) T.g_law_flag T.F_law_flag.kp T.b_law_flag .nil pass0 (pa_cons (pe_cmpR (op_eqO (ok_Habit_eq T) T.eq_Habit T.fn_Habit_eq T.b_Habit_eq (hr.mono (by decide)) (K := K)) (pv 7) (pe_make T.M_Habit (ok_Habit_init T) (hr.mono (by decide)) (by rfl) T.g_Habit T.b_Habit_init .nil pass0 (pa_cons (pv 3) (pa_cons (pv 8) pa_nil))) (nomark _)) (pa_cons (pe_cmpR (op_eqK K hr.units) (pv 4) (pv 8) (nomark _)) pa_nil))))) (pw_or1 (pt_cmpR (op_neO (ok_Habit_eq T) T.eq_Habit T.fn_Habit_eq T.b_Habit_eq (hr.mono (by decide)) T.ne_Habit T.h4_Habit (K := K)) (pv 7) (pe_make T.M_Habit (ok_Habit_init T) (hr.mono (by decide)) (by rfl) T.g_Habit T.b_Habit_init .nil pass0 (pa_cons (pv 3) (pa_cons (pv 4) pa_nil))) (nomark _))))) (pss_one (ps_ret pe_bl)) pss_nil)
      (pss_cons (ps_if (pt_cmpR op_gt (pe_callB (call_lenK K) (by rfl) T.z_len PySem.boot_len (pa_cons (pe_lc (own := [("one", 14)]) rfl sc_law.nd (pi_listK K (pe_lst (pa_cons pe_non (pa_cons (pv 3) (pa_cons (pv 4) (pa_cons (pe_tup (pa_cons (pv 3) (pa_cons (pv 4) pa_nil))) (pa_cons pe_int (pa_cons pe_str pa_nil)))))))) (blkOk_by (N := N_law) (sc := defScope s_law) (by decide +kernel)) (fun _ _ _ _ _ => (pg_name (i := 14) sc_law.nd rfl (.inl rfl))) (fun _ _ _ _ _ => (pts_one (pt_cmpR (op_eqO (ok_Habit_eq T) T.eq_Habit T.fn_Habit_eq T.b_Habit_eq (hr.mono (by decide)) (K := K)) (pv 7) (pv 14) (nomark _)))) (fun _ _ _ _ _ => (pv 14))) pa_nil)) pe_int (nomark _)) (pss_one (ps_ret pe_bl)) pss_nil)
      (pss_cons (ps_set (i := 9) sc_law.nd rfl (.inl rfl) (pe_call (ok_law_contents T) (hr.mono (by decide)) (by rfl) T.g_law_contents T.F_law_contents.kp T.b_law_contents .nil pass0 (pa_cons (pv 3) pa_nil)))
      (pss_one (ps_for PassesOwn.never rfl (pi_range1 (by rfl) T.z_range (pa_cons pe_int pa_nil)) (pg_name (i := 5) sc_law.nd rfl (.inl rfl)) (pss_cons (ps_set (i := 11) sc_law.nd rfl (.inl rfl) (pe_call (ok_law_some T) (hr.mono (by decide)) (by rfl) T.g_law_some T.F_law_some.kp T.b_law_some .nil pass0 (pa_cons (pv 1) (pa_cons (pe_lst (pa_cons (pe_tup pa_nil) (pa_cons (pe_tup (pa_cons pe_int pa_nil)) (pa_cons (pe_tup (pa_cons (pe_callB (call_lenK K) (by rfl) T.z_len PySem.boot_len (pa_cons (pv 3) pa_nil)) pa_nil)) (pa_cons (pe_tup (pa_cons pe_bl pa_nil)) (pa_cons (pe_lst (pa_cons pe_int pa_nil)) (pa_cons (pe_tup (pa_cons pe_int (pa_cons pe_int pa_nil))) (pa_cons (pe_tup (pa_cons pe_int (pa_cons pe_int pa_nil))) (pa_cons (pe_tup (pa_cons (pe_un un_neg pe_int) pa_nil)) (pa_cons (pe_call (ok_law_odd T) (hr.mono (by decide)) (by rfl) T.g_law_odd T.F_law_odd.kp T.b_law_odd .nil pass0 (pa_cons (pv 1) pa_nil)) pa_nil)))))))))) pa_nil))))
      (pss_cons (ps_set (i := 12) sc_law.nd rfl (.inl rfl) (pe_lst (pa_cons (pe_ix (ix_listK K) (pv 9) (pe_un un_neg pe_int) (fun _ _ => rfl)) (pa_cons (pe_slice (sl_tupK K) (pe_ix (ix_listK K) (pv 9) (pe_un un_neg pe_int) (fun _ _ => rfl)) po_none (po_some (pe_un un_neg pe_int))) (pa_cons (pe_op (op_repU (K := K)) (pe_tup (pa_cons pe_int pa_nil)) (pe_callB (call_lenK K) (by rfl) T.z_len PySem.boot_len (pa_cons (pv 3) pa_nil))) (pa_cons (pe_op (op_repU (K := K)) (pe_tup (pa_cons pe_bl pa_nil)) (pe_callB (call_lenK K) (by rfl) T.z_len PySem.boot_len (pa_cons (pv 3) pa_nil))) (pa_cons (pe_callTy (call_listK (K := K)) (by rfl) T.z_list (by decide +kernel) (pa_cons (pe_ix (ix_listK K) (pv 9) pe_int (fun _ _ => rfl)) pa_nil)) pa_nil)))))))
      (pss_cons (ps_set (i := 13) sc_law.nd rfl (.inl rfl) (pe_call (ok_law_some T) (hr.mono (by decide)) (by rfl) T.g_law_some T.F_law_some.kp T.b_law_some .nil pass0 (pa_cons (pv 1) (pa_cons (pe_op op_cat (pv 12) (pe_lst (pa_cons (pe_ix (ix_listK K) (pv 9) pe_int (fun _ _ => rfl)) (pa_cons (pe_call (ok_law_odd T) (hr.mono (by decide)) (by rfl) T.g_law_odd T.F_law_odd.kp T.b_law_odd .nil pass0 (pa_cons (pv 1) pa_nil)) pa_nil)))) pa_nil))))
      (pss_one (ps_if (pt_cmpR op_ne (pe_call (ok_law_share_word T) (hr.mono (by decide)) (by rfl) T.g_law_share_word T.F_law_share_word.kp T.b_law_share_word .nil pass0 (pa_cons (pv 7) (pa_cons (pv 11) (pa_cons (pv 13) pa_nil)))) (pe_call (ok_law_share_due T) (hr.mono (by decide)) (by rfl) T.g_law_share_due T.F_law_share_due.kp T.b_law_share_due .nil pass0 (pa_cons (pv 3) (pa_cons (pv 11) (pa_cons (pv 13) pa_nil)))) (nomark _)) (pss_one (ps_ret pe_bl)) pss_nil)))))))))))))))))))
      (pss_one (ps_ret pe_bl)))), ?_⟩
    refine ⟨_, rfl, a, ns, rfl, hS, by omega, fun h c H1 nh s1 hx => ?_⟩
    refine ⟨3, rfl, by decide, by decide, for_range (lo := 0) (n := 3) (fun i σ H' => ∃ y2 y3 y4 y5 y6 y7 y8 y9 y10 y11 y12 y13 y14 : Option V, σ = st15 a h y2 y3 y4 y5 y6 y7 y8 y9 y10 y11 y12 y13 y14 ∧ HandOk H' h c)
      ⟨none, none, none, none, none, none, none, none, none, none, none, none, none, rfl, hx⟩ ?_ ?_⟩
    · clear hx hS nh s1
      rintro i σ H' hi ⟨y2, y3, y4, y5, y6, y7, y8, y9, y10, y11, y12, y13, y14, rfl, hx⟩
      refine ⟨_, rfl, h, c, rfl, hx, fun sz ss H2 k2 ok hsz => ?_⟩
      obtain ⟨az, rfl, haz⟩ := ct_inv hsz
      obtain ⟨_, h5, _⟩ := ok.facts
      refine ⟨_, rfl, _, rfl, h, c, az, ss, rfl, k2.hand, haz, ok, fun rv H3 k3 hrv => ?_⟩
      obtain ⟨r, rxs, rfl, hr1, hr2, hr3⟩ := id hrv
      obtain ⟨ds, hrd, rows, wf⟩ := hrv.data
      have ls3 : LS K h c az r ss ds H3 := ⟨k3.hand, Ext.sqT (Keep.ext k2.hand k3) haz, hrv, hrd⟩
      clear hr1 hr2 hr3 hrv hrd hsz haz hx k2 k3
      have due := due_right ok rows
      -- told, due of the right rows
      refine ⟨_, rfl, _, rfl, _, _, ctD ss, .tup ds, rfl, dh_ct ls3.sz, ls3.rd, wf, fun H4 s4 => ?_⟩
      rw [due]
      refine ⟨rfl, _, rfl, ?_⟩
      rw [show decide (dueV none = V.str (Str.ofString "let")) = true from decide_eq_true rfl]
      refine iteF ?_
      have ls4 := ls3.same s4
      refine ⟨_, rfl, _, rfl, _, _, ctD ss, .tup ds, rfl, dh_ct ls4.sz, ls4.rd, wf, fun H5 s5 => ?_⟩
      rw [due]
      refine ⟨rfl, _, rfl, ?_⟩
      rw [show decide (dueV none = V.str (Str.ofString "let")) = true from decide_eq_true rfl]
      refine iteF ?_
      have ls5 := ls4.same s5
      clear ls3 ls4 s4 s5
      refine ⟨4, rfl, by decide, by decide, for_range (lo := 0) (n := 4) (fun j σ H' => ∃ y2 y5 y6 y7 y8 y9 y10 y11 y12 y13 y14 : Option V, σ = st15 a h y2 (some (.ref az)) (some (.ref r)) y5 y6 y7 y8 y9 y10 y11 y12 y13 y14 ∧ LS K h c az r ss ds H' ∧ (j = 0 ∨ ∃ tv, y10 = some tv ∧ RG K H' tv))
        ⟨_, _, _, _, _, _, _, _, _, _, _, rfl, ls5, .inl rfl⟩ ?_ ?_⟩
      · rintro j σ H0 hj ⟨y2, y5, y6, y7, y8, y9, y10, y11, y12, y13, y14, rfl, ls, _⟩
        refine ⟨_, rfl, _, rfl, _, rfl, h, c, az, ss, _, rfl, ls.hand, ls.sz, ok, ls.rv, fun tv H1 k1 g1 => ?_⟩
        have ls1 := ls.keep k1
        obtain ⟨dt, hdt, wdt⟩ := g1
        refine ⟨_, rfl, _, rfl, _, _, ctD ss, dt, rfl, dh_ct ls1.sz, hdt, wdt, fun H2 s2 => ?_⟩
        have ls2 := ls1.same s2
        refine ⟨_, rfl, _, rfl, _, _, ctD ss, dt, rfl, dh_ct ls2.sz, hdt.ext (.of s2), wdt, fun H3 s3 => ⟨scal_due _, _, rfl, ?_⟩⟩
        rw [decide_eq_true rfl]
        refine iteF ?_
        exact ⟨_, _, _, _, _, _, _, _, _, _, _, rfl, ls2.same s3, .inr ⟨tv, rfl, dt, hdt.ext (.of (s2.trans s3)), wdt⟩⟩
      · rintro σ H0 ⟨y2, y5, y6, y7, y8, y9, y10, y11, y12, y13, y14, rfl, ls, hy⟩
        obtain ⟨tv, rfl, g0⟩ : ∃ tv, y10 = some tv ∧ RG K H0 tv := by
          rcases hy with hy | hy
          · cases hy
          · exact hy
        clear ls5 hy
        dsimp only [tSeq, tAsg, gName, List.set_cons_succ, List.set_cons_zero]
        refine useP (G := Good K) ls.hand (fun wv H1 k1 g1 => ?_) (mk_some rfl (mk_lst (a_cons (mk_tup (a_cons mk_cint a_nil)) (a_cons (mk_tup (a_cons mk_cint (a_cons mk_cint (a_cons mk_cint (a_cons mk_cint (a_cons mk_cint a_nil)))))) (a_cons (mk_rep (n := 6) (fun _ _ q => q) (fun _ _ _ q => q) (by decide) (by decide) fun _ => .int 2)
          (a_cons (mk_tup a_nil) (a_cons (mk_tup (a_cons mk_cbl (a_cons mk_cint a_nil))) (a_cons (mk_newl (G := Good K) (mk_lst (a_cons mk_cint (a_cons mk_cint a_nil)))) (a_cons (mk_tup (a_cons mk_cint (a_cons mk_cint a_nil))) (a_cons (mk_thing rfl) a_nil))))))))) (by decide))
        have ls1 := ls.keep k1
        have gt1 : RG K H1 tv := Mon1.mon (Keep.ext ls.hand k1) g0
        obtain ⟨dw, hdw, _⟩ := g1
        obtain ⟨dt, hdt, wdt⟩ := gt1
        refine ⟨_, rfl, _, rfl, _, _, dw, dt, rfl, hdw, hdt, wdt, fun H2 s2 => ?_⟩
        refine ⟨_, rfl, _, rfl, _, _, dw, dt, rfl, hdw.ext (.of s2), hdt.ext (.of s2), wdt, fun H3 s3 => ⟨scal_due _, _, rfl, ?_⟩⟩
        rw [decide_eq_true rfl]
        refine iteF ?_
        have ls3 := (ls1.same s2).same s3
        clear ls ls1 s2 s3 hdw hdt wdt k1 g0
        -- habit
        refine ⟨_, rfl, _, rfl, fun x dx nx ndx nex => ?_⟩
        have sA : Same H3 (upd (upd H3 dx (.own x)) x (.ins T.c_Habit dx [])) := fun z o e => by
          rw [upd_ne (ne_of_none e nx), upd_ne (ne_of_none e ndx)]
          exact e
        refine ⟨x, dx, _, _, ss, ds, rfl, upd_same, ok, (dh_ct ls3.sz).ext (.of sA), ls3.rd.ext (.of sA), wf, rows.len, rows.row, fun H4 hins4 k4 => ⟨rfl, ?_⟩⟩
        have s4 : Same H3 H4 := fun z o e => k4 z o (ne_of_none e nx) (sA _ _ e)
        have ls4 := ls3.same s4
        clear ls3 s4 k4 sA nex ndx nx
        -- other
        refine ⟨_, rfl, _, rfl, h, c, az, ss, rfl, ls4.hand, ls4.sz, ok, fun ov H5 k5 hov => ?_⟩
        have ls5 := ls4.keep k5
        have nxh : x ≠ h := fun e => by
          obtain ⟨_, _, _, _, _, z, _⟩ := ls4.hand.ex
          rw [e, z] at hins4
          cases hins4
        have hins5 := k5.rest _ _ nxh hins4
        obtain ⟨ro, oxs, rfl, _⟩ := id hov
        obtain ⟨ds2, hrd2, rows2, wf2⟩ := hov.data
        clear ls4 hins4 k5 hov
        -- habit == Habit(sizes, other)
        refine ⟨_, rfl, _, rfl, _, rfl, fun x2 dx2 nx2 ndx2 ne2 => ?_⟩
        have sA : Same H5 (upd (upd H5 dx2 (.own x2)) x2 (.ins T.c_Habit dx2 [])) := fun z o e => by
          rw [upd_ne (ne_of_none e nx2), upd_ne (ne_of_none e ndx2)]
          exact e
        refine ⟨x2, dx2, _, _, ss, ds2, rfl, upd_same, ok, (dh_ct ls5.sz).ext (.of sA), hrd2.ext (.of sA), wf2, rows2.len, rows2.row, fun H6 hins26 k6 => ⟨rfl, ?_⟩⟩
        have s6 : Same H5 H6 := fun z o e => k6 z o (ne_of_none e nx2) (sA _ _ e)
        have ls6 := ls5.same s6
        have hins6 := s6 _ _ hins5
        have hrd26 := hrd2.ext (.of s6)
        have nf : PySem.W.notFirst K T.c_Habit (.ref T.c_Habit) = true := by
          unfold PySem.W.notFirst
          simp
        have hb6 : Hb K T.c_Habit H6 x ss ds := ⟨dx, _, _, hins6, dh_ct ls6.sz, ls6.rd⟩
        have hb26 : Hb K T.c_Habit H6 x2 ss ds2 := ⟨dx2, _, _, hins26, dh_ct ls6.sz, hrd26⟩
        refine ⟨x, dx, _, _, rfl, hins6, .ins hins26, nf, x, _, ss, ds, rfl, hb6, rows, .inl ⟨x2, ds2, rfl, hb26, rows2, fun H7 s7 => ⟨_, rfl, ?_⟩⟩⟩
        have ls7 := ls6.same s7
        refine ⟨_, rfl, _, rfl, rowsP ds, rowsP ds2, dp_rows ls7.rd rows.row, dp_rows (hrd26.ext (.of s7)) rows2.row, shaped_rows _, shaped_rows _, ?_⟩
        rw [eqv_rows]
        refine ⟨_, _, rfl, ⟨_, rfl, ?_⟩⟩
        rw [decide_eq_true rfl]
        refine iteF ?_
        have hins7 := s7 _ _ hins6
        clear ls5 ls6 hins5 hins6 hins26 hrd2 hrd26 hb6 hb26 s6 s7 sA k6 nx2 ndx2 ne2
        -- habit != Habit(sizes, rows)
        refine ⟨_, rfl, _, rfl, _, rfl, fun x3 dx3 nx3 ndx3 ne3 => ?_⟩
        have sA : Same H7 (upd (upd H7 dx3 (.own x3)) x3 (.ins T.c_Habit dx3 [])) := fun z o e => by
          rw [upd_ne (ne_of_none e nx3), upd_ne (ne_of_none e ndx3)]
          exact e
        refine ⟨x3, dx3, _, _, ss, ds, rfl, upd_same, ok, (dh_ct ls7.sz).ext (.of sA), ls7.rd.ext (.of sA), wf, rows.len, rows.row, fun H8 hins38 k8 => ⟨rfl, ?_⟩⟩
        have s8 : Same H7 H8 := fun z o e => k8 z o (ne_of_none e nx3) (sA _ _ e)
        have ls8 := ls7.same s8
        have hins8 := s8 _ _ hins7
        refine ⟨x, dx, _, _, rfl, hins8, .ins hins38, nf, x, _, ss, ds, rfl, ⟨dx, _, _, hins8, dh_ct ls8.sz, ls8.rd⟩, rows, .inl ⟨x3, ds, rfl, ⟨dx3, _, _, hins38, dh_ct ls8.sz, ls8.rd⟩, rows, fun H9 s9 => ⟨_, rfl, _, rfl, ?_⟩⟩⟩
        rw [decide_eq_true rfl]
        refine iteF ?_
        have ls9 := ls8.same s9
        have hins9 := s9 _ _ hins8
        clear ls7 ls8 hins7 hins8 hins38 s8 s9 sA k8 nx3 ndx3 ne3
        -- habit equals nothing else
        dsimp only [tNext, tSeq, tIfS, tAsg, gName, List.set_cons_succ, List.set_cons_zero]
        refine t_len0 (K := K) ?_
        refine lc_iL (K := K) ?_
        refine useL (G := Oth K) ls9.hand (fun p xs H10 k10 e10 n10 _ _ g10 => ?_) (mk_lst (a_cons (mk_val (fun _ _ q => q) fun _ => .non) (a_cons (mk_var ls9.hand rfl (.tup ls9.sz)) (a_cons (mk_var ls9.hand rfl ls9.oth)
          (a_cons (mk_otup (a_cons (mk_var ls9.hand rfl (.tup ls9.sz)) (a_cons (mk_var ls9.hand rfl ls9.oth) a_nil))) (a_cons (mk_val (fun _ _ q => q) fun _ => .int 0) (a_cons (mk_val (fun _ _ q => q) fun _ => .str _) a_nil)))))))
        have ls10 := ls9.keep k10
        have hins10 := k10.rest _ _ nxh hins9
        refine ⟨p, rfl, ⟨xs, SqL.of e10⟩, fun D nD => lc_list (K := K) (xs := xs) (fun i H' => Same H10 H' ∧ H' D = some (.lst [])) ⟨same_new nD, upd_same⟩ (fun i H' _ p => p.1.seq (SqL.of e10)) ?_ ?_⟩
        · rintro i y H' hy ⟨sm, hD⟩
          obtain ⟨t, oty, nf2, _, _⟩ := (Mon1.mon (.of sm) (g10 y (List.mem_of_getElem? hy)) : Oth K H' y).oty T
          have hinsm := sm _ _ hins10
          have lsm := ls10.same sm
          refine ⟨rfl, _, rfl, _, rfl, x, dx, _, t, rfl, hinsm, oty, nf2, x, y, ss, ds, rfl, ⟨dx, _, _, hinsm, dh_ct lsm.sz, lsm.rd⟩, rows, .inr ⟨Mon1.mon (.of sm) (g10 y (List.mem_of_getElem? hy)), fun H2 s2 => ⟨false, rfl, _, rfl, iteF ⟨sm.trans s2, s2 _ _ hD⟩⟩⟩⟩
        · rintro H11 ⟨s11, hD⟩
          refine ⟨D, _, rfl, .inl (SqL.of hD), _, _, rfl, rfl, _, rfl, iteF ?_⟩
          have ls11 := ls10.same s11
          have hins11 := s11 _ _ hins10
          clear ls9 ls10 hins9 hins10 e10 g10 hD s11 k10
          -- every
          refine ⟨_, rfl, az, ss, rfl, ls11.sz, ok, fun ev exs H12 nev s12 hev hexs => ?_⟩
          have ls12 := ls11.same s12
          have hins12 := s12 _ _ hins11
          have nevh : ev ≠ h := (ls11.hand.ne nev).1
          have hlen := hexs.length
          rw [List.length_map] at hlen
          have l0 : 0 < exs.length := by
            rw [hlen, ← rows.len]
            obtain ⟨_, rs, e, _, hl, _⟩ := ls12.rv
            have z : IsCt ss (ss.map fun _ => (0 : Int)) := isCt_iff.mpr ⟨by rw [List.length_map], fun i x s h1 h2 => by
              rw [List.getElem?_map, h2] at h1
              cases h1
              have := (ok.facts.2.2 s (List.mem_of_getElem? h2)).1
              exact ⟨Int.le_refl 0, by show (0 : Int) < s; omega⟩⟩
            rw [rows.len]
            exact List.length_pos_of_mem (mem_allC.mpr z)
          have le12 : LE K T.c_Habit h c az r x dx ev ss ds exs H12 := ⟨ls12, hins12, hev, hexs⟩
          clear ls11 ls12 hins11 hins12 hev hexs s12 nev
          refine ⟨4, rfl, by decide, by decide, for_range (lo := 0) (n := 4) (fun j σ H' => ∃ y5 y11 y12 y13 : Option V, σ = st15 a h y2 (some (.ref az)) (some (.ref r)) y5 (some wv) (some (.ref x)) (some (.ref ro)) (some (.ref ev)) (some tv) y11 y12 y13 y14 ∧ LE K T.c_Habit h c az r x dx ev ss ds exs H')
            ⟨_, _, _, _, rfl, le12⟩ ?_ ?_⟩
          · rintro j σ H0 hj ⟨y5, y11, y12, y13, rfl, le⟩
            dsimp only [tNext, tSeq, tIfS, tAsg, gName, List.set_cons_succ, List.set_cons_zero]
            have lenm : ∀ (H : Hp) (Q : VK) (σ : L2.St), σ[3]? = some (some (.ref az)) → Keep h c H0 H → Q (.int ss.length) H → tCB (rLenK K) (tCons (tVar 3) tNil) σ H Q := fun H Q σ e k q => ⟨_, e, az, _, rfl, .inr (le.keep nxh nevh k).ls.sz, by rw [List.length_map]; exact q⟩
            have big : 5 ≤ B30 := by decide +kernel
            refine useP (G := Good K) le.ls.hand (fun pv H1 k1 g1 => ?_) (mk_some rfl (mk_lst (a_cons (mk_tup a_nil) (a_cons (mk_tup (a_cons mk_cint a_nil)) (a_cons (mk_tup (a_cons (fun H Q k q => lenm H Q _ rfl k (q _ H (keep_refl k) (.int _ (by omega)))) a_nil))
              (a_cons (mk_tup (a_cons mk_cbl a_nil)) (a_cons (mk_newl (G := Good K) (mk_lst (a_cons mk_cint a_nil))) (a_cons (mk_tup (a_cons mk_cint (a_cons mk_cint a_nil))) (a_cons (mk_tup (a_cons mk_cint (a_cons mk_cint a_nil))) (a_cons (mk_tup (a_cons mk_cneg a_nil)) (a_cons (mk_thing rfl) a_nil)))))))))) (by decide))
            have le1 := le.keep nxh nevh k1
            obtain ⟨e0, he0⟩ : ∃ v, exs[0]? = some v := ⟨_, List.getElem?_eq_getElem l0⟩
            obtain ⟨e9, he9⟩ : ∃ v, exs[exs.length - 1]? = some v := ⟨_, List.getElem?_eq_getElem (by omega)⟩
            have gct : ∀ {v : V} {i : Nat}, exs[i]? = some v → GT K H1 5 v := fun {v i} hv => by
              obtain ⟨d, hd, hvd⟩ := le1.exs.get hv
              obtain ⟨ct, hct, rfl⟩ := map_at hd
              exact ct_gt ok (mem_allC.mp (List.mem_of_getElem? hct)) hvd
            have lenm1 : ∀ (H : Hp) (Q : VK) (σ : L2.St), σ[3]? = some (some (.ref az)) → Keep h c H1 H → Q (.int ss.length) H → tCB (rLenK K) (tCons (tVar 3) tNil) σ H Q := fun H Q σ e k q => lenm H Q σ e (k1.trans k) q
            refine useL (G := Good K) le1.ls.hand (fun p12 xs12 H2 k2 e12 n12 l12 b12 g12 => ?_) (mk_lst (a_cons (mk_llast le1.ls.hand rfl le1.ev nevh he9 ((gct he9).good (by decide))) (a_cons (mk_gt (mk_sl (mk_llast (G := fun H v => GT K H 5 v) le1.ls.hand rfl le1.ev nevh he9 (gct he9)) mo_none mo_neg))
              (a_cons (mk_rep (n := ss.length) (fun _ _ q => q) (fun H Q k q => lenm1 H Q _ rfl k q) (by have := ok.facts.1; omega) (by omega) fun _ => .int 4) (a_cons (mk_rep (n := ss.length) (fun _ _ q => q) (fun H Q k q => lenm1 H Q _ rfl k q) (by have := ok.facts.1; omega) (by omega) fun _ => .bl false)
              (a_cons (mk_list (mk_lix (G := fun H v => GT K H 5 v) (j := 0) le1.ls.hand rfl le1.ev nevh he0 (gct he0))) a_nil))))))
            have le2 := le1.keep nxh nevh k2
            refine useP (G := Good K) le2.ls.hand (fun cv H3 k3 g3 => ?_) (mk_some rfl (mk_lcat (mk_lvar le2.ls.hand rfl e12 n12 l12 b12 g12) (mk_lst (a_cons (mk_lix (j := 0) le2.ls.hand rfl le2.ev nevh he0 (((gct he0).good (by decide)).ext (Keep.ext le1.ls.hand k2))) (a_cons (mk_thing rfl) a_nil))) (by decide)) (by decide))
            have le3 := le2.keep nxh nevh k3
            obtain ⟨d1, hd1, w1⟩ := g1.ext (Keep.ext le1.ls.hand (k2.trans k3))
            obtain ⟨d2, hd2, w2⟩ := g3
            have sh : d1.short := by
              cases d1 with
              | tup es =>
                have := w1.items.1
                show es.length ≤ 1000
                omega
              | _ => exact True.intro
            refine ⟨_, rfl, _, rfl, _, rfl, x, ss, ds, _, _, d1, d2, rfl, ⟨dx, _, _, le3.ins, dh_ct le3.ls.sz, le3.ls.rd⟩, ok, rows, hd1, hd2, fun H4 s4 => ?_⟩
            have le4 := le3.keep nxh nevh (.of le3.ls.hand s4)
            refine ⟨_, rfl, _, rfl, _, rfl, az, ss, _, _, d1, d2, rfl, le4.ls.sz, by omega, hd1.ext (.of s4), hd2.ext (.of s4), sh, fun H5 s5 => ⟨rfl, _, rfl, ?_⟩⟩
            rw [decide_eq_true rfl]
            refine iteF ?_
            exact ⟨_, _, _, _, rfl, le4.keep nxh nevh (.of le4.ls.hand s5)⟩
          · rintro σ H' ⟨y5, y11, y12, y13, rfl, le⟩
            exact ⟨_, _, _, _, _, _, _, _, _, _, _, _, _, rfl, le.ls.hand⟩
    · rintro σ H' ⟨y2, y3, y4, y5, y6, y7, y8, y9, y10, y11, y12, y13, y14, rfl, hx⟩
      exact q H'

end
end Fm
namespace Fm
open PySem PySem.Spec PyProof.Rows L2
/-! ### isinstance and except among the classes of the text -/
theorem kit_own {K : PySem.W.Frag} {D C : Addr} {b : Bool} (hne : D ≠ C) (hdct : PySem.W.hasDictIn K C = true) (ht : PySem.W.typeIn K (.ref C) = some (.type "type")) (h : PySem.W.subIn K (.ref D) (.ref C) = some b) : PySem.W.kitOne K (.ref D) (.ref C) = some b := by
  obtain ⟨cd, hc, _⟩ := PySem.W.any_some hdct
  unfold PySem.W.kitOne
  rw [if_neg fun e => hne (Value.ref.inj (beq_iff_eq.mp e))]
  have e2 : ((PySem.W.clsIn K C).isSome && PySem.W.typeIn K (.ref C) == some (.type "type")) = true := by rw [hc, ht] <;> rfl
  show (if ((PySem.W.clsIn K C).isSome && PySem.W.typeIn K (.ref C) == some (.type "type")) = true then PySem.W.subIn K (.ref D) (.ref C) else none) = some b
  rw [if_pos e2]
  exact h
theorem kit_typ {K : PySem.W.Frag} {C : Addr} {T : String} {b : Bool} (hm : PySem.W.kitMeta T = true) (h : PySem.W.subIn K (.ref C) (.type T) = some b) : PySem.W.kitOne K (.ref C) (.type T) = some b := by
  unfold PySem.W.kitOne
  rw [if_neg fun e => by cases (beq_iff_eq.mp e)]
  show (if PySem.W.kitMeta T = true then PySem.W.subIn K (.ref C) (.type T) else none) = some b
  rw [if_pos hm]
  exact h
theorem oexC_mk {K : PySem.W.Frag} {C N : Addr} {nm q : Str} {bs bm sub : List Value} {sn : List Str} {ab : Bool} {col : Option Bool} {dd : Option Addr} {k0 k1 k2 k3 k5 : Option Value} (l : K.lookup C = some (excClassObj nm q C N bs bm true sn sub ab col dd k0 k1 k2 k3 k5 "ValueError.__new__"))
    (r : PySem.HandSPX.refsVE bm = true) (sa : PySem.W.findIn K (.ref C) "__setattr__" = some (some (.builtin "object.__setattr__"))) (ex : PySem.W.subIn K (.ref C) (.type "BaseException") = some true) (ty : PySem.W.typeIn K (.ref C) = some (.type "type")) (kC : PySem.W.keepIn K (.ref C) = true) : OexC K C :=
  ⟨⟨nm, q, N, bs, bm, sn, sub, ab, col, dd, k0, k1, k2, k3, k5, l, r⟩, sa, ex, ty, kC⟩
theorem sqK_mk {K : PySem.W.Frag} {a : Addr} {o : Obj} {xs : List V} (l : K.lookup a = some o) (h : ∃ its n, o.cls = .type "tuple" ∧ o.data = .seq its n ∧ its.size ≤ sizeLine ∧ Vals xs its.toList) (H : Hp) : SqT K H a xs := by
  obtain ⟨its, n, h1, h2, h3, h4⟩ := h
  exact .inr ⟨o, its, n, l, h1, h2, h3, h4⟩
theorem kit_base {K : PySem.W.Frag} {C : Addr} {T : String} {b : Bool} (hdct : PySem.W.hasDictIn K C = true) (ht : PySem.W.typeIn K (.ref C) = some (.type "type")) (h : PySem.W.subIn K (.type T) (.ref C) = some b) : PySem.W.kitOne K (.type T) (.ref C) = some b := by
  obtain ⟨cd, hc, _⟩ := PySem.W.any_some hdct
  unfold PySem.W.kitOne
  rw [if_neg fun e => by cases (beq_iff_eq.mp e)]
  have e2 : ((PySem.W.clsIn K C).isSome && PySem.W.typeIn K (.ref C) == some (.type "type")) = true := by rw [hc, ht] <;> rfl
  show (if ((PySem.W.clsIn K C).isSome && PySem.W.typeIn K (.ref C) == some (.type "type")) = true then PySem.W.subIn K (.type T) (.ref C) else none) = some b
  rw [if_pos e2]
  exact h
/-! ### what the top has left, the head -/
theorem all_mk {l : PySem.W.OpenLaw} {w : World} {K : PySem.W.Frag} {h : Heap} {mg : Str → Option Value} {fa f1 f2 f3 f4 f5 f6 f7 f8 f9 f10 f11 f12 f13 f14 f15 f16 f17 f18 f19 f20 f21 f22 f23 f24 f25 f26 f27 f28 f29 f30 f31 f32 f33 f34 f35 f36 f37 f38 f39 f40 f41 f42 f43 f44 f45 c_NoPattern c_NoContent c_BadHabit c_Habit c_MaskError v_ZERO v_ONE : Addr} (X : K.In h) (G : h.Ns mainGlobals mg) (hfa : mg "law" = some (.ref fa))
    {od1 an1 od2 an2 od3 an3 od4 an4 od5 an5 od6 an6 od7 an7 od8 an8 od9 an9 od10 an10 od11 an11 od12 an12 od13 an13 od14 an14 od15 an15 od16 an16 od17 an17 od18 an18 od19 an19 od20 an20 od21 an21 od22 an22 od23 an23 od24 an24 od25 an25 od26 an26 od27 an27 od28 an28 od29 an29 od30 an30 od31 an31 od32 an32 od33 an33 od34 an34 od35 an35 od36 an36 od37 an37 od38 an38 od39 an39 od40 an40 od41 an41 od42 an42 od43 an43 od44 an44 od45 an45 : Option Addr} {sl1 sl2 sl3 sl4 sl5 sl6 sl7 sl8 sl9 sl10 sl11 sl12 sl13 sl14 sl15 sl16 sl17 sl18 sl19 sl20 sl21 sl22 sl23 sl24 sl25 sl26 sl27 sl28 sl29 sl30 sl31 sl32 sl33 sl34 sl35 sl36 sl37 sl38 sl39 sl40 sl41 sl42 sl43 sl44 sl45 : Array (Option Value)} {oc1 kV1 dc1 pm1 cd1 ct1 oc2 kV2 dc2 pm2 cd2 ct2 oc3 kV3 dc3 pm3 cd3 ct3 oc4 kV4 dc4 pm4 cd4 ct4 oc5 kV5 dc5 pm5 cd5 ct5 oc6 kV6 dc6 pm6 cd6 ct6 oc7 kV7 dc7 pm7 cd7 ct7 oc8 kV8 dc8 pm8 cd8 ct8 oc9 kV9 dc9 pm9 cd9 ct9 oc10 kV10 dc10 pm10 cd10 ct10 oc11 kV11 dc11 pm11 cd11 ct11 oc12 kV12 dc12 pm12 cd12 ct12 oc13 kV13 dc13 pm13 cd13 ct13 oc14 kV14 dc14 pm14 cd14 ct14 oc15 kV15 dc15 pm15 cd15 ct15 oc16 kV16 dc16 pm16 cd16 ct16 oc17 kV17 dc17 pm17 cd17 ct17 oc18 kV18 dc18 pm18 cd18 ct18 oc19 kV19 dc19 pm19 cd19 ct19 oc20 kV20 dc20 pm20 cd20 ct20 oc21 kV21 dc21 pm21 cd21 ct21 oc22 kV22 dc22 pm22 cd22 ct22 oc23 kV23 dc23 pm23 cd23 ct23 oc24 kV24 dc24 pm24 cd24 ct24 oc25 kV25 dc25 pm25 cd25 ct25 oc26 kV26 dc26 pm26 cd26 ct26 oc27 kV27 dc27 pm27 cd27 ct27 oc28 kV28 dc28 pm28 cd28 ct28 oc29 kV29 dc29 pm29 cd29 ct29 oc30 kV30 dc30 pm30 cd30 ct30 oc31 kV31 dc31 pm31 cd31 ct31 oc32 kV32 dc32 pm32 cd32 ct32 oc33 kV33 dc33 pm33 cd33 ct33 oc34 kV34 dc34 pm34 cd34 ct34 oc35 kV35 dc35 pm35 cd35 ct35 oc36 kV36 dc36 pm36 cd36 ct36 oc37 kV37 dc37 pm37 cd37 ct37 oc38 kV38 dc38 pm38 cd38 ct38 oc39 kV39 dc39 pm39 cd39 ct39 oc40 kV40 dc40 pm40 cd40 ct40 oc41 kV41 dc41 pm41 cd41 ct41 oc42 kV42 dc42 pm42 cd42 ct42 oc43 kV43 dc43 pm43 cd43 ct43 oc44 kV44 dc44 pm44 cd44 ct44 oc45 kV45 dc45 pm45 cd45 ct45 m_MaskError : Value} {t1 t2 t3 t4 : _}
    (n_NoPattern : PySem.W.nsIn K mainGlobals "NoPattern" = some (some (.ref c_NoPattern)))
    (n_NoContent : PySem.W.nsIn K mainGlobals "NoContent" = some (some (.ref c_NoContent)))
    (n_BadHabit : PySem.W.nsIn K mainGlobals "BadHabit" = some (some (.ref c_BadHabit)))
    (n_Habit : PySem.W.nsIn K mainGlobals "Habit" = some (some (.ref c_Habit)))
    (n_MaskError : PySem.W.nsIn K mainGlobals "MaskError" = some (some (.ref c_MaskError)))
    (w_gcd : PySem.W.nsIn K mainGlobals "gcd" = some (some (.builtin "math.gcd")))
    (n_ZERO : PySem.W.nsIn K mainGlobals "ZERO" = some (some (.ref v_ZERO)))
    (n_ONE : PySem.W.nsIn K mainGlobals "ONE" = some (some (.ref v_ONE)))
    (a1 : PySem.W.nsIn K mainGlobals "is_whole" = some (some (.ref f1))) (l1 : K.lookup f1 = some ⟨oc1, od1, .func (PySem.W.fnOf "is_whole" "is_whole" (defArgs s_is_whole) (defBody s_is_whole) (defScope s_is_whole) .none kV1 dc1 pm1 an1 cd1 ct1), sl1⟩) (c1 : PySem.W.codeIn K cd1 "is_whole" = true) (k1 : PySem.W.keepIn K (.ref f1) = true)
    (a2 : PySem.W.nsIn K mainGlobals "is_pair" = some (some (.ref f2))) (l2 : K.lookup f2 = some ⟨oc2, od2, .func (PySem.W.fnOf "is_pair" "is_pair" (defArgs s_is_pair) (defBody s_is_pair) (defScope s_is_pair) .none kV2 dc2 pm2 an2 cd2 ct2), sl2⟩) (c2 : PySem.W.codeIn K cd2 "is_pair" = true) (k2 : PySem.W.keepIn K (.ref f2) = true)
    (a3 : PySem.W.nsIn K mainGlobals "is_fraction" = some (some (.ref f3))) (l3 : K.lookup f3 = some ⟨oc3, od3, .func (PySem.W.fnOf "is_fraction" "is_fraction" (defArgs s_is_fraction) (defBody s_is_fraction) (defScope s_is_fraction) .none kV3 dc3 pm3 an3 cd3 ct3), sl3⟩) (c3 : PySem.W.codeIn K cd3 "is_fraction" = true) (k3 : PySem.W.keepIn K (.ref f3) = true)
    (a4 : PySem.W.nsIn K mainGlobals "is_share" = some (some (.ref f4))) (l4 : K.lookup f4 = some ⟨oc4, od4, .func (PySem.W.fnOf "is_share" "is_share" (defArgs s_is_share) (defBody s_is_share) (defScope s_is_share) .none kV4 dc4 pm4 an4 cd4 ct4), sl4⟩) (c4 : PySem.W.codeIn K cd4 "is_share" = true) (k4 : PySem.W.keepIn K (.ref f4) = true)
    (a5 : PySem.W.nsIn K mainGlobals "fraction" = some (some (.ref f5))) (l5 : K.lookup f5 = some ⟨oc5, od5, .func (PySem.W.fnOf "fraction" "fraction" (defArgs s_fraction) (defBody s_fraction) (defScope s_fraction) .none kV5 dc5 pm5 an5 cd5 ct5), sl5⟩) (c5 : PySem.W.codeIn K cd5 "fraction" = true) (k5 : PySem.W.keepIn K (.ref f5) = true)
    (a6 : PySem.W.nsIn K mainGlobals "plus" = some (some (.ref f6))) (l6 : K.lookup f6 = some ⟨oc6, od6, .func (PySem.W.fnOf "plus" "plus" (defArgs s_plus) (defBody s_plus) (defScope s_plus) .none kV6 dc6 pm6 an6 cd6 ct6), sl6⟩) (c6 : PySem.W.codeIn K cd6 "plus" = true) (k6 : PySem.W.keepIn K (.ref f6) = true)
    (a7 : PySem.W.nsIn K mainGlobals "is_sizes" = some (some (.ref f7))) (l7 : K.lookup f7 = some ⟨oc7, od7, .func (PySem.W.fnOf "is_sizes" "is_sizes" (defArgs s_is_sizes) (defBody s_is_sizes) (defScope s_is_sizes) .none kV7 dc7 pm7 an7 cd7 ct7), sl7⟩) (c7 : PySem.W.codeIn K cd7 "is_sizes" = true) (k7 : PySem.W.keepIn K (.ref f7) = true)
    (a8 : PySem.W.nsIn K mainGlobals "is_content" = some (some (.ref f8))) (l8 : K.lookup f8 = some ⟨oc8, od8, .func (PySem.W.fnOf "is_content" "is_content" (defArgs s_is_content) (defBody s_is_content) (defScope s_is_content) .none kV8 dc8 pm8 an8 cd8 ct8), sl8⟩) (c8 : PySem.W.codeIn K cd8 "is_content" = true) (k8 : PySem.W.keepIn K (.ref f8) = true)
    (a9 : PySem.W.nsIn K mainGlobals "is_pattern" = some (some (.ref f9))) (l9 : K.lookup f9 = some ⟨oc9, od9, .func (PySem.W.fnOf "is_pattern" "is_pattern" (defArgs s_is_pattern) (defBody s_is_pattern) (defScope s_is_pattern) .none kV9 dc9 pm9 an9 cd9 ct9), sl9⟩) (c9 : PySem.W.codeIn K cd9 "is_pattern" = true) (k9 : PySem.W.keepIn K (.ref f9) = true)
    (a10 : PySem.W.nsIn K mainGlobals "all_contents" = some (some (.ref f10))) (l10 : K.lookup f10 = some ⟨oc10, od10, .func (PySem.W.fnOf "all_contents" "all_contents" (defArgs s_all_contents) (defBody s_all_contents) (defScope s_all_contents) .none kV10 dc10 pm10 an10 cd10 ct10), sl10⟩) (c10 : PySem.W.codeIn K cd10 "all_contents" = true) (k10 : PySem.W.keepIn K (.ref f10) = true)
    (a11 : PySem.W.nsIn K mainGlobals "place_of" = some (some (.ref f11))) (l11 : K.lookup f11 = some ⟨oc11, od11, .func (PySem.W.fnOf "place_of" "place_of" (defArgs s_place_of) (defBody s_place_of) (defScope s_place_of) .none kV11 dc11 pm11 an11 cd11 ct11), sl11⟩) (c11 : PySem.W.codeIn K cd11 "place_of" = true) (k11 : PySem.W.keepIn K (.ref f11) = true)
    (a12 : PySem.W.nsIn K mainGlobals "is_habit_row" = some (some (.ref f12))) (l12 : K.lookup f12 = some ⟨oc12, od12, .func (PySem.W.fnOf "is_habit_row" "is_habit_row" (defArgs s_is_habit_row) (defBody s_is_habit_row) (defScope s_is_habit_row) .none kV12 dc12 pm12 an12 cd12 ct12), sl12⟩) (c12 : PySem.W.codeIn K cd12 "is_habit_row" = true) (k12 : PySem.W.keepIn K (.ref f12) = true)
    (a13 : PySem.W.nsIn K mainGlobals "share" = some (some (.ref f13))) (l13 : K.lookup f13 = some ⟨oc13, od13, .func (PySem.W.fnOf "share" "share" (defArgs s_share) (defBody s_share) (defScope s_share) .none kV13 dc13 pm13 an13 cd13 ct13), sl13⟩) (c13 : PySem.W.codeIn K cd13 "share" = true) (k13 : PySem.W.keepIn K (.ref f13) = true)
    (a14 : PySem.W.nsIn K mainGlobals "_law_hand" = some (some (.ref f14))) (l14 : K.lookup f14 = some ⟨oc14, od14, .func (PySem.W.fnOf "_law_hand" "_law_hand" (defArgs s_law_hand) (defBody s_law_hand) (defScope s_law_hand) .none kV14 dc14 pm14 an14 cd14 ct14), sl14⟩) (c14 : PySem.W.codeIn K cd14 "_law_hand" = true) (k14 : PySem.W.keepIn K (.ref f14) = true)
    (a15 : PySem.W.nsIn K mainGlobals "_law_draw" = some (some (.ref f15))) (l15 : K.lookup f15 = some ⟨oc15, od15, .func (PySem.W.fnOf "_law_draw" "_law_draw" (defArgs s_law_draw) (defBody s_law_draw) (defScope s_law_draw) .none kV15 dc15 pm15 an15 cd15 ct15), sl15⟩) (c15 : PySem.W.codeIn K cd15 "_law_draw" = true) (k15 : PySem.W.keepIn K (.ref f15) = true)
    (a16 : PySem.W.nsIn K mainGlobals "_law_some" = some (some (.ref f16))) (l16 : K.lookup f16 = some ⟨oc16, od16, .func (PySem.W.fnOf "_law_some" "_law_some" (defArgs s_law_some) (defBody s_law_some) (defScope s_law_some) .none kV16 dc16 pm16 an16 cd16 ct16), sl16⟩) (c16 : PySem.W.codeIn K cd16 "_law_some" = true) (k16 : PySem.W.keepIn K (.ref f16) = true)
    (a17 : PySem.W.nsIn K mainGlobals "_law_deep" = some (some (.ref f17))) (l17 : K.lookup f17 = some ⟨oc17, od17, .func (PySem.W.fnOf "_law_deep" "_law_deep" (defArgs s_law_deep) (defBody s_law_deep) (defScope s_law_deep) .none kV17 dc17 pm17 an17 cd17 ct17), sl17⟩) (c17 : PySem.W.codeIn K cd17 "_law_deep" = true) (k17 : PySem.W.keepIn K (.ref f17) = true)
    (a18 : PySem.W.nsIn K mainGlobals "_law_sizes" = some (some (.ref f18))) (l18 : K.lookup f18 = some ⟨oc18, od18, .func (PySem.W.fnOf "_law_sizes" "_law_sizes" (defArgs s_law_sizes) (defBody s_law_sizes) (defScope s_law_sizes) .none kV18 dc18 pm18 an18 cd18 ct18), sl18⟩) (c18 : PySem.W.codeIn K cd18 "_law_sizes" = true) (k18 : PySem.W.keepIn K (.ref f18) = true)
    (a19 : PySem.W.nsIn K mainGlobals "_law_contents" = some (some (.ref f19))) (l19 : K.lookup f19 = some ⟨oc19, od19, .func (PySem.W.fnOf "_law_contents" "_law_contents" (defArgs s_law_contents) (defBody s_law_contents) (defScope s_law_contents) .none kV19 dc19 pm19 an19 cd19 ct19), sl19⟩) (c19 : PySem.W.codeIn K cd19 "_law_contents" = true) (k19 : PySem.W.keepIn K (.ref f19) = true)
    (a20 : PySem.W.nsIn K mainGlobals "_law_patterns" = some (some (.ref f20))) (l20 : K.lookup f20 = some ⟨oc20, od20, .func (PySem.W.fnOf "_law_patterns" "_law_patterns" (defArgs s_law_patterns) (defBody s_law_patterns) (defScope s_law_patterns) .none kV20 dc20 pm20 an20 cd20 ct20), sl20⟩) (c20 : PySem.W.codeIn K cd20 "_law_patterns" = true) (k20 : PySem.W.keepIn K (.ref f20) = true)
    (a21 : PySem.W.nsIn K mainGlobals "_law_is_int" = some (some (.ref f21))) (l21 : K.lookup f21 = some ⟨oc21, od21, .func (PySem.W.fnOf "_law_is_int" "_law_is_int" (defArgs s_law_is_int) (defBody s_law_is_int) (defScope s_law_is_int) .none kV21 dc21 pm21 an21 cd21 ct21), sl21⟩) (c21 : PySem.W.codeIn K cd21 "_law_is_int" = true) (k21 : PySem.W.keepIn K (.ref f21) = true)
    (a22 : PySem.W.nsIn K mainGlobals "_law_is_pattern" = some (some (.ref f22))) (l22 : K.lookup f22 = some ⟨oc22, od22, .func (PySem.W.fnOf "_law_is_pattern" "_law_is_pattern" (defArgs s_law_is_pattern) (defBody s_law_is_pattern) (defScope s_law_is_pattern) .none kV22 dc22 pm22 an22 cd22 ct22), sl22⟩) (c22 : PySem.W.codeIn K cd22 "_law_is_pattern" = true) (k22 : PySem.W.keepIn K (.ref f22) = true)
    (a23 : PySem.W.nsIn K mainGlobals "_law_is_content" = some (some (.ref f23))) (l23 : K.lookup f23 = some ⟨oc23, od23, .func (PySem.W.fnOf "_law_is_content" "_law_is_content" (defArgs s_law_is_content) (defBody s_law_is_content) (defScope s_law_is_content) .none kV23 dc23 pm23 an23 cd23 ct23), sl23⟩) (c23 : PySem.W.codeIn K cd23 "_law_is_content" = true) (k23 : PySem.W.keepIn K (.ref f23) = true)
    (a24 : PySem.W.nsIn K mainGlobals "_law_are_sizes" = some (some (.ref f24))) (l24 : K.lookup f24 = some ⟨oc24, od24, .func (PySem.W.fnOf "_law_are_sizes" "_law_are_sizes" (defArgs s_law_are_sizes) (defBody s_law_are_sizes) (defScope s_law_are_sizes) .none kV24 dc24 pm24 an24 cd24 ct24), sl24⟩) (c24 : PySem.W.codeIn K cd24 "_law_are_sizes" = true) (k24 : PySem.W.keepIn K (.ref f24) = true)
    (a25 : PySem.W.nsIn K mainGlobals "_law_low" = some (some (.ref f25))) (l25 : K.lookup f25 = some ⟨oc25, od25, .func (PySem.W.fnOf "_law_low" "_law_low" (defArgs s_law_low) (defBody s_law_low) (defScope s_law_low) .none kV25 dc25 pm25 an25 cd25 ct25), sl25⟩) (c25 : PySem.W.codeIn K cd25 "_law_low" = true) (k25 : PySem.W.keepIn K (.ref f25) = true)
    (a26 : PySem.W.nsIn K mainGlobals "_law_plus" = some (some (.ref f26))) (l26 : K.lookup f26 = some ⟨oc26, od26, .func (PySem.W.fnOf "_law_plus" "_law_plus" (defArgs s_law_plus) (defBody s_law_plus) (defScope s_law_plus) .none kV26 dc26 pm26 an26 cd26 ct26), sl26⟩) (c26 : PySem.W.codeIn K cd26 "_law_plus" = true) (k26 : PySem.W.keepIn K (.ref f26) = true)
    (a27 : PySem.W.nsIn K mainGlobals "_law_sum" = some (some (.ref f27))) (l27 : K.lookup f27 = some ⟨oc27, od27, .func (PySem.W.fnOf "_law_sum" "_law_sum" (defArgs s_law_sum) (defBody s_law_sum) (defScope s_law_sum) .none kV27 dc27 pm27 an27 cd27 ct27), sl27⟩) (c27 : PySem.W.codeIn K cd27 "_law_sum" = true) (k27 : PySem.W.keepIn K (.ref f27) = true)
    (a28 : PySem.W.nsIn K mainGlobals "_law_row" = some (some (.ref f28))) (l28 : K.lookup f28 = some ⟨oc28, od28, .func (PySem.W.fnOf "_law_row" "_law_row" (defArgs s_law_row) (defBody s_law_row) (defScope s_law_row) .none kV28 dc28 pm28 an28 cd28 ct28), sl28⟩) (c28 : PySem.W.codeIn K cd28 "_law_row" = true) (k28 : PySem.W.keepIn K (.ref f28) = true)
    (a29 : PySem.W.nsIn K mainGlobals "_law_rows" = some (some (.ref f29))) (l29 : K.lookup f29 = some ⟨oc29, od29, .func (PySem.W.fnOf "_law_rows" "_law_rows" (defArgs s_law_rows) (defBody s_law_rows) (defScope s_law_rows) .none kV29 dc29 pm29 an29 cd29 ct29), sl29⟩) (c29 : PySem.W.codeIn K cd29 "_law_rows" = true) (k29 : PySem.W.keepIn K (.ref f29) = true)
    (a30 : PySem.W.nsIn K mainGlobals "_law_is_share" = some (some (.ref f30))) (l30 : K.lookup f30 = some ⟨oc30, od30, .func (PySem.W.fnOf "_law_is_share" "_law_is_share" (defArgs s_law_is_share) (defBody s_law_is_share) (defScope s_law_is_share) .none kV30 dc30 pm30 an30 cd30 ct30), sl30⟩) (c30 : PySem.W.codeIn K cd30 "_law_is_share" = true) (k30 : PySem.W.keepIn K (.ref f30) = true)
    (a31 : PySem.W.nsIn K mainGlobals "_law_is_row" = some (some (.ref f31))) (l31 : K.lookup f31 = some ⟨oc31, od31, .func (PySem.W.fnOf "_law_is_row" "_law_is_row" (defArgs s_law_is_row) (defBody s_law_is_row) (defScope s_law_is_row) .none kV31 dc31 pm31 an31 cd31 ct31), sl31⟩) (c31 : PySem.W.codeIn K cd31 "_law_is_row" = true) (k31 : PySem.W.keepIn K (.ref f31) = true)
    (a32 : PySem.W.nsIn K mainGlobals "_law_due" = some (some (.ref f32))) (l32 : K.lookup f32 = some ⟨oc32, od32, .func (PySem.W.fnOf "_law_due" "_law_due" (defArgs s_law_due) (defBody s_law_due) (defScope s_law_due) .none kV32 dc32 pm32 an32 cd32 ct32), sl32⟩) (c32 : PySem.W.codeIn K cd32 "_law_due" = true) (k32 : PySem.W.keepIn K (.ref f32) = true)
    (a33 : PySem.W.nsIn K mainGlobals "_law_told" = some (some (.ref f33))) (l33 : K.lookup f33 = some ⟨oc33, od33, .func (PySem.W.fnOf "_law_told" "_law_told" (defArgs s_law_told) (defBody s_law_told) (defScope s_law_told) .none kV33 dc33 pm33 an33 cd33 ct33), sl33⟩) (c33 : PySem.W.codeIn K cd33 "_law_told" = true) (k33 : PySem.W.keepIn K (.ref f33) = true)
    (a34 : PySem.W.nsIn K mainGlobals "_law_odd" = some (some (.ref f34))) (l34 : K.lookup f34 = some ⟨oc34, od34, .func (PySem.W.fnOf "_law_odd" "_law_odd" (defArgs s_law_odd) (defBody s_law_odd) (defScope s_law_odd) .none kV34 dc34 pm34 an34 cd34 ct34), sl34⟩) (c34 : PySem.W.codeIn K cd34 "_law_odd" = true) (k34 : PySem.W.keepIn K (.ref f34) = true)
    (a35 : PySem.W.nsIn K mainGlobals "_law_bent_row" = some (some (.ref f35))) (l35 : K.lookup f35 = some ⟨oc35, od35, .func (PySem.W.fnOf "_law_bent_row" "_law_bent_row" (defArgs s_law_bent_row) (defBody s_law_bent_row) (defScope s_law_bent_row) .none kV35 dc35 pm35 an35 cd35 ct35), sl35⟩) (c35 : PySem.W.codeIn K cd35 "_law_bent_row" = true) (k35 : PySem.W.keepIn K (.ref f35) = true)
    (a36 : PySem.W.nsIn K mainGlobals "_law_bent" = some (some (.ref f36))) (l36 : K.lookup f36 = some ⟨oc36, od36, .func (PySem.W.fnOf "_law_bent" "_law_bent" (defArgs s_law_bent) (defBody s_law_bent) (defScope s_law_bent) .none kV36 dc36 pm36 an36 cd36 ct36), sl36⟩) (c36 : PySem.W.codeIn K cd36 "_law_bent" = true) (k36 : PySem.W.keepIn K (.ref f36) = true)
    (a37 : PySem.W.nsIn K mainGlobals "_law_share_word" = some (some (.ref f37))) (l37 : K.lookup f37 = some ⟨oc37, od37, .func (PySem.W.fnOf "_law_share_word" "_law_share_word" (defArgs s_law_share_word) (defBody s_law_share_word) (defScope s_law_share_word) .none kV37 dc37 pm37 an37 cd37 ct37), sl37⟩) (c37 : PySem.W.codeIn K cd37 "_law_share_word" = true) (k37 : PySem.W.keepIn K (.ref f37) = true)
    (a38 : PySem.W.nsIn K mainGlobals "_law_share_due" = some (some (.ref f38))) (l38 : K.lookup f38 = some ⟨oc38, od38, .func (PySem.W.fnOf "_law_share_due" "_law_share_due" (defArgs s_law_share_due) (defBody s_law_share_due) (defScope s_law_share_due) .none kV38 dc38 pm38 an38 cd38 ct38), sl38⟩) (c38 : PySem.W.codeIn K cd38 "_law_share_due" = true) (k38 : PySem.W.keepIn K (.ref f38) = true)
    (a39 : PySem.W.nsIn K mainGlobals "_law_flag" = some (some (.ref f39))) (l39 : K.lookup f39 = some ⟨oc39, od39, .func (PySem.W.fnOf "_law_flag" "_law_flag" (defArgs s_law_flag) (defBody s_law_flag) (defScope s_law_flag) .none kV39 dc39 pm39 an39 cd39 ct39), sl39⟩) (c39 : PySem.W.codeIn K cd39 "_law_flag" = true) (k39 : PySem.W.keepIn K (.ref f39) = true)
    (a40 : PySem.W.nsIn K mainGlobals "law" = some (some (.ref f40))) (l40 : K.lookup f40 = some ⟨oc40, od40, .func (PySem.W.fnOf "law" "law" (defArgs s_law) (defBody s_law) (defScope s_law) .none kV40 dc40 pm40 an40 cd40 ct40), sl40⟩) (c40 : PySem.W.codeIn K cd40 "law" = true) (k40 : PySem.W.keepIn K (.ref f40) = true)
    (a41 : PySem.W.findIn K (.ref c_NoPattern) "__init__" = some (some (.ref f41))) (l41 : K.lookup f41 = some ⟨oc41, od41, .func (PySem.W.fnOf "__init__" "NoPattern.__init__" (defArgs s_NoPattern_init) (defBody s_NoPattern_init) (defScope s_NoPattern_init) .none kV41 dc41 pm41 an41 cd41 ct41), sl41⟩) (c41 : PySem.W.codeIn K cd41 "NoPattern.__init__" = true) (k41 : PySem.W.keepIn K (.ref f41) = true)
    (a42 : PySem.W.findIn K (.ref c_NoContent) "__init__" = some (some (.ref f42))) (l42 : K.lookup f42 = some ⟨oc42, od42, .func (PySem.W.fnOf "__init__" "NoContent.__init__" (defArgs s_NoContent_init) (defBody s_NoContent_init) (defScope s_NoContent_init) .none kV42 dc42 pm42 an42 cd42 ct42), sl42⟩) (c42 : PySem.W.codeIn K cd42 "NoContent.__init__" = true) (k42 : PySem.W.keepIn K (.ref f42) = true)
    (a43 : PySem.W.findIn K (.ref c_BadHabit) "__init__" = some (some (.ref f43))) (l43 : K.lookup f43 = some ⟨oc43, od43, .func (PySem.W.fnOf "__init__" "BadHabit.__init__" (defArgs s_BadHabit_init) (defBody s_BadHabit_init) (defScope s_BadHabit_init) .none kV43 dc43 pm43 an43 cd43 ct43), sl43⟩) (c43 : PySem.W.codeIn K cd43 "BadHabit.__init__" = true) (k43 : PySem.W.keepIn K (.ref f43) = true)
    (a44 : PySem.W.findIn K (.ref c_Habit) "__init__" = some (some (.ref f44))) (l44 : K.lookup f44 = some ⟨oc44, od44, .func (PySem.W.fnOf "__init__" "Habit.__init__" (defArgs s_Habit_init) (defBody s_Habit_init) (defScope s_Habit_init) .none kV44 dc44 pm44 an44 cd44 ct44), sl44⟩) (c44 : PySem.W.codeIn K cd44 "Habit.__init__" = true) (k44 : PySem.W.keepIn K (.ref f44) = true)
    (a45 : PySem.W.findIn K (.ref c_Habit) "__eq__" = some (some (.ref f45))) (l45 : K.lookup f45 = some ⟨oc45, od45, .func (PySem.W.fnOf "__eq__" "Habit.__eq__" (defArgs s_Habit_eq) (defBody s_Habit_eq) (defScope s_Habit_eq) .none kV45 dc45 pm45 an45 cd45 ct45), sl45⟩) (c45 : PySem.W.codeIn K cd45 "Habit.__eq__" = true) (k45 : PySem.W.keepIn K (.ref f45) = true)
    (y_MaskError : PySem.W.typeIn K (.ref c_MaskError) = some m_MaskError)
    (U_MaskError : UpC K c_MaskError m_MaskError)
    (o_NoPattern : OexC K c_NoPattern)
    (t_NoPattern : PySem.W.typeIn K (.ref f41) = some (.type "function"))
    (e_NoPattern : ExcC K c_NoPattern)
    (x_NoPattern : PySem.W.exmOne K (.ref c_NoPattern) (.ref c_MaskError) = some true)
    (o_NoContent : OexC K c_NoContent)
    (t_NoContent : PySem.W.typeIn K (.ref f42) = some (.type "function"))
    (e_NoContent : ExcC K c_NoContent)
    (x_NoContent : PySem.W.exmOne K (.ref c_NoContent) (.ref c_MaskError) = some true)
    (o_BadHabit : OexC K c_BadHabit)
    (t_BadHabit : PySem.W.typeIn K (.ref f43) = some (.type "function"))
    (e_BadHabit : ExcC K c_BadHabit)
    (x_BadHabit : PySem.W.exmOne K (.ref c_BadHabit) (.ref c_MaskError) = some true)
    (q_NoPattern_NoPattern : PySem.W.kitOne K (.ref c_NoPattern) (.ref c_NoPattern) = some true)
    (q_NoPattern_NoContent : PySem.W.kitOne K (.ref c_NoPattern) (.ref c_NoContent) = some false)
    (q_NoPattern_BadHabit : PySem.W.kitOne K (.ref c_NoPattern) (.ref c_BadHabit) = some false)
    (q_NoContent_NoPattern : PySem.W.kitOne K (.ref c_NoContent) (.ref c_NoPattern) = some false)
    (q_NoContent_NoContent : PySem.W.kitOne K (.ref c_NoContent) (.ref c_NoContent) = some true)
    (q_NoContent_BadHabit : PySem.W.kitOne K (.ref c_NoContent) (.ref c_BadHabit) = some false)
    (q_BadHabit_NoPattern : PySem.W.kitOne K (.ref c_BadHabit) (.ref c_NoPattern) = some false)
    (q_BadHabit_NoContent : PySem.W.kitOne K (.ref c_BadHabit) (.ref c_NoContent) = some false)
    (q_BadHabit_BadHabit : PySem.W.kitOne K (.ref c_BadHabit) (.ref c_BadHabit) = some true)
    (M_Habit : Mk K c_Habit f44)
    (l_Habit : Cls K c_Habit)
    (a_sizes : PySem.W.findIn K (.ref c_Habit) "sizes" = some none)
    (a_rows : PySem.W.findIn K (.ref c_Habit) "rows" = some none)
    (h_Habit : PySem.W.findIn K (.ref c_Habit) "__class__" = some (some (.builtin "object.__class__")))
    (h2_Habit : PySem.W.specialIn K (.builtin "object.__class__") "__get__" = some (some (.builtin "getset_descriptor.__get__")))
    (h3_Habit : PySem.W.takesIn K (.builtin "object.__class__") = some true)
    (h4_Habit : PySem.W.mroIn K c_Habit (.type "object") = some true)
    (s_Habit_int : PySem.W.subIn K (.ref c_Habit) (.type "int") = some false)
    (s_Habit_tuple : PySem.W.subIn K (.ref c_Habit) (.type "tuple") = some false)
    (p_BadHabit : PySem.W.findIn K (.ref c_BadHabit) "part" = some none)
    (xf_BadHabit : XfC K c_BadHabit)
    (xx_BadHabit : PySem.W.exmOne K (.ref c_BadHabit) (.ref c_BadHabit) = some true)
    (tf_Habit_eq : PySem.W.typeIn K (.ref f45) = some (.type "function"))
    (ne_Habit : PySem.W.findIn K (.ref c_Habit) "__ne__" = some (some (.builtin "object.__ne__")))
    (hd_Habit : PySem.W.hasDictIn K c_Habit = true)
    (ty_Habit : PySem.W.typeIn K (.ref c_Habit) = some (.type "type"))
    (so_NoneType : PySem.W.subIn K (.type "NoneType") (.ref c_Habit) = some false)
    (so_int : PySem.W.subIn K (.type "int") (.ref c_Habit) = some false)
    (so_str : PySem.W.subIn K (.type "str") (.ref c_Habit) = some false)
    (so_tuple : PySem.W.subIn K (.type "tuple") (.ref c_Habit) = some false)
    (k_ZERO : ∀ H, SqT K H v_ZERO [.int 0, .int 1])
    (k_ONE : ∀ H, SqT K H v_ONE [.int 1, .int 1])
    (u1 : PySem.W.nsIn K mainGlobals "MOST_COLUMNS" = some (some (.int 5 t1)))
    (u2 : PySem.W.nsIn K mainGlobals "LEAST_SIZE" = some (some (.int 2 t2)))
    (u3 : PySem.W.nsIn K mainGlobals "MOST_SIZE" = some (some (.int 4 t3)))
    (u4 : PySem.W.nsIn K mainGlobals "MOST_CONTENTS" = some (some (.int 256 t4)))
    (z1 : PySem.W.nsIn K mainGlobals "len" = some none)
    (z2 : PySem.W.nsIn K mainGlobals "isinstance" = some none)
    (z3 : PySem.W.nsIn K mainGlobals "range" = some none)
    (z4 : PySem.W.nsIn K mainGlobals "zip" = some none)
    (z5 : PySem.W.nsIn K mainGlobals "tuple" = some none)
    (z6 : PySem.W.nsIn K mainGlobals "list" = some none)
    (z7 : PySem.W.nsIn K mainGlobals "int" = some none)
    (z8 : PySem.W.nsIn K mainGlobals "bool" = some none)
    (z9 : PySem.W.nsIn K mainGlobals "abs" = some none)
    (z10 : PySem.W.nsIn K mainGlobals "sorted" = some none)
    (z11 : PySem.W.nsIn K mainGlobals "set" = some none)
    (z12 : PySem.W.nsIn K mainGlobals "enumerate" = some none)
    (z13 : PySem.W.nsIn K mainGlobals "all" = some none)
    : ∃ fd : FuncData, (∀ (s : Shared) (v : Value), BindsTo s fd ⟨[v], []⟩ [("script", v)]) ∧ ∀ base : Heap, K.In base → base.Ns mainGlobals mg → FnOk l.prog w K mg base CX0 10 fa fd ["script"] (spLaw K) := by
  have e := hfa.symm.trans (PySem.W.mg_of X G a40)
  cases e
  have F1 := fun_mk (st := s_is_whole) l1 c1 k1
  have b1 := F1.binds (ps := ["thing"]) fun _ _ _ _ _ _ us hl => match us, hl with | [_], _ => rfl
  have F2 := fun_mk (st := s_is_pair) l2 c2 k2
  have b2 := F2.binds (ps := ["thing"]) fun _ _ _ _ _ _ us hl => match us, hl with | [_], _ => rfl
  have F3 := fun_mk (st := s_is_fraction) l3 c3 k3
  have b3 := F3.binds (ps := ["thing"]) fun _ _ _ _ _ _ us hl => match us, hl with | [_], _ => rfl
  have F4 := fun_mk (st := s_is_share) l4 c4 k4
  have b4 := F4.binds (ps := ["thing"]) fun _ _ _ _ _ _ us hl => match us, hl with | [_], _ => rfl
  have F5 := fun_mk (st := s_fraction) l5 c5 k5
  have b5 := F5.binds (ps := ["top", "bottom"]) fun _ _ _ _ _ _ us hl => match us, hl with | [_, _], _ => rfl
  have F6 := fun_mk (st := s_plus) l6 c6 k6
  have b6 := F6.binds (ps := ["one", "other"]) fun _ _ _ _ _ _ us hl => match us, hl with | [_, _], _ => rfl
  have F7 := fun_mk (st := s_is_sizes) l7 c7 k7
  have b7 := F7.binds (ps := ["thing"]) fun _ _ _ _ _ _ us hl => match us, hl with | [_], _ => rfl
  have F8 := fun_mk (st := s_is_content) l8 c8 k8
  have b8 := F8.binds (ps := ["sizes", "thing"]) fun _ _ _ _ _ _ us hl => match us, hl with | [_, _], _ => rfl
  have F9 := fun_mk (st := s_is_pattern) l9 c9 k9
  have b9 := F9.binds (ps := ["columns", "thing"]) fun _ _ _ _ _ _ us hl => match us, hl with | [_, _], _ => rfl
  have F10 := fun_mk (st := s_all_contents) l10 c10 k10
  have b10 := F10.binds (ps := ["sizes"]) fun _ _ _ _ _ _ us hl => match us, hl with | [_], _ => rfl
  have F11 := fun_mk (st := s_place_of) l11 c11 k11
  have b11 := F11.binds (ps := ["sizes", "content"]) fun _ _ _ _ _ _ us hl => match us, hl with | [_, _], _ => rfl
  have F12 := fun_mk (st := s_is_habit_row) l12 c12 k12
  have b12 := F12.binds (ps := ["columns", "thing"]) fun _ _ _ _ _ _ us hl => match us, hl with | [_, _], _ => rfl
  have F13 := fun_mk (st := s_share) l13 c13 k13
  have b13 := F13.binds (ps := ["habit", "pattern", "content"]) fun _ _ _ _ _ _ us hl => match us, hl with | [_, _, _], _ => rfl
  have F14 := fun_mk (st := s_law_hand) l14 c14 k14
  have b14 := F14.binds (ps := ["script"]) fun _ _ _ _ _ _ us hl => match us, hl with | [_], _ => rfl
  have F15 := fun_mk (st := s_law_draw) l15 c15 k15
  have b15 := F15.binds (ps := ["hand", "many"]) fun _ _ _ _ _ _ us hl => match us, hl with | [_, _], _ => rfl
  have F16 := fun_mk (st := s_law_some) l16 c16 k16
  have b16 := F16.binds (ps := ["hand", "things"]) fun _ _ _ _ _ _ us hl => match us, hl with | [_, _], _ => rfl
  have F17 := fun_mk (st := s_law_deep) l17 c17 k17
  have b17 := F17.binds (ps := ["hand"]) fun _ _ _ _ _ _ us hl => match us, hl with | [_], _ => rfl
  have F18 := fun_mk (st := s_law_sizes) l18 c18 k18
  have b18 := F18.binds (ps := ["hand"]) fun _ _ _ _ _ _ us hl => match us, hl with | [_], _ => rfl
  have F19 := fun_mk (st := s_law_contents) l19 c19 k19
  have b19 := F19.binds (ps := ["sizes"]) fun _ _ _ _ _ _ us hl => match us, hl with | [_], _ => rfl
  have F20 := fun_mk (st := s_law_patterns) l20 c20 k20
  have b20 := F20.binds (ps := ["columns"]) fun _ _ _ _ _ _ us hl => match us, hl with | [_], _ => rfl
  have F21 := fun_mk (st := s_law_is_int) l21 c21 k21
  have b21 := F21.binds (ps := ["thing", "least", "most"]) fun _ _ _ _ _ _ us hl => match us, hl with | [_, _, _], _ => rfl
  have F22 := fun_mk (st := s_law_is_pattern) l22 c22 k22
  have b22 := F22.binds (ps := ["columns", "thing"]) fun _ _ _ _ _ _ us hl => match us, hl with | [_, _], _ => rfl
  have F23 := fun_mk (st := s_law_is_content) l23 c23 k23
  have b23 := F23.binds (ps := ["sizes", "thing"]) fun _ _ _ _ _ _ us hl => match us, hl with | [_, _], _ => rfl
  have F24 := fun_mk (st := s_law_are_sizes) l24 c24 k24
  have b24 := F24.binds (ps := ["thing"]) fun _ _ _ _ _ _ us hl => match us, hl with | [_], _ => rfl
  have F25 := fun_mk (st := s_law_low) l25 c25 k25
  have b25 := F25.binds (ps := ["top", "bottom"]) fun _ _ _ _ _ _ us hl => match us, hl with | [_, _], _ => rfl
  have F26 := fun_mk (st := s_law_plus) l26 c26 k26
  have b26 := F26.binds (ps := ["one", "other"]) fun _ _ _ _ _ _ us hl => match us, hl with | [_, _], _ => rfl
  have F27 := fun_mk (st := s_law_sum) l27 c27 k27
  have b27 := F27.binds (ps := ["row"]) fun _ _ _ _ _ _ us hl => match us, hl with | [_], _ => rfl
  have F28 := fun_mk (st := s_law_row) l28 c28 k28
  have b28 := F28.binds (ps := ["hand", "columns"]) fun _ _ _ _ _ _ us hl => match us, hl with | [_, _], _ => rfl
  have F29 := fun_mk (st := s_law_rows) l29 c29 k29
  have b29 := F29.binds (ps := ["hand", "sizes"]) fun _ _ _ _ _ _ us hl => match us, hl with | [_, _], _ => rfl
  have F30 := fun_mk (st := s_law_is_share) l30 c30 k30
  have b30 := F30.binds (ps := ["thing"]) fun _ _ _ _ _ _ us hl => match us, hl with | [_], _ => rfl
  have F31 := fun_mk (st := s_law_is_row) l31 c31 k31
  have b31 := F31.binds (ps := ["columns", "thing"]) fun _ _ _ _ _ _ us hl => match us, hl with | [_, _], _ => rfl
  have F32 := fun_mk (st := s_law_due) l32 c32 k32
  have b32 := F32.binds (ps := ["sizes", "rows"]) fun _ _ _ _ _ _ us hl => match us, hl with | [_, _], _ => rfl
  have F33 := fun_mk (st := s_law_told) l33 c33 k33
  have b33 := F33.binds (ps := ["sizes", "rows"]) fun _ _ _ _ _ _ us hl => match us, hl with | [_, _], _ => rfl
  have F34 := fun_mk (st := s_law_odd) l34 c34 k34
  have b34 := F34.binds (ps := ["hand"]) fun _ _ _ _ _ _ us hl => match us, hl with | [_], _ => rfl
  have F35 := fun_mk (st := s_law_bent_row) l35 c35 k35
  have b35 := F35.binds (ps := ["hand", "columns", "row"]) fun _ _ _ _ _ _ us hl => match us, hl with | [_, _, _], _ => rfl
  have F36 := fun_mk (st := s_law_bent) l36 c36 k36
  have b36 := F36.binds (ps := ["hand", "sizes", "rows"]) fun _ _ _ _ _ _ us hl => match us, hl with | [_, _, _], _ => rfl
  have F37 := fun_mk (st := s_law_share_word) l37 c37 k37
  have b37 := F37.binds (ps := ["habit", "pattern", "content"]) fun _ _ _ _ _ _ us hl => match us, hl with | [_, _, _], _ => rfl
  have F38 := fun_mk (st := s_law_share_due) l38 c38 k38
  have b38 := F38.binds (ps := ["sizes", "pattern", "content"]) fun _ _ _ _ _ _ us hl => match us, hl with | [_, _, _], _ => rfl
  have F39 := fun_mk (st := s_law_flag) l39 c39 k39
  have b39 := F39.binds (ps := ["told", "due"]) fun _ _ _ _ _ _ us hl => match us, hl with | [_, _], _ => rfl
  have F40 := fun_mk (st := s_law) l40 c40 k40
  have F41 := fun_mk (st := s_NoPattern_init) l41 c41 k41
  have b41 := F41.binds (ps := ["self"]) fun _ _ _ _ _ _ us hl => match us, hl with | [_], _ => rfl
  have F42 := fun_mk (st := s_NoContent_init) l42 c42 k42
  have b42 := F42.binds (ps := ["self"]) fun _ _ _ _ _ _ us hl => match us, hl with | [_], _ => rfl
  have F43 := fun_mk (st := s_BadHabit_init) l43 c43 k43
  have b43 := F43.binds (ps := ["self", "part"]) fun _ _ _ _ _ _ us hl => match us, hl with | [_, _], _ => rfl
  have F44 := fun_mk (st := s_Habit_init) l44 c44 k44
  have b44 := F44.binds (ps := ["self", "sizes", "rows"]) fun _ _ _ _ _ _ us hl => match us, hl with | [_, _, _], _ => rfl
  have F45 := fun_mk (st := s_Habit_eq) l45 c45 k45
  have b45 := F45.binds (ps := ["self", "other"]) fun _ _ _ _ _ _ us hl => match us, hl with | [_, _], _ => rfl
  let T : Txt K mg := { f_is_whole := f1, d_is_whole := _, F_is_whole := F1, b_is_whole := b1, g_is_whole := PySem.W.mg_of X G a1, f_is_pair := f2, d_is_pair := _, F_is_pair := F2, b_is_pair := b2, g_is_pair := PySem.W.mg_of X G a2, f_is_fraction := f3, d_is_fraction := _, F_is_fraction := F3, b_is_fraction := b3, g_is_fraction := PySem.W.mg_of X G a3, f_is_share := f4, d_is_share := _, F_is_share := F4, b_is_share := b4, g_is_share := PySem.W.mg_of X G a4, f_fraction := f5, d_fraction := _, F_fraction := F5, b_fraction := b5, g_fraction := PySem.W.mg_of X G a5, f_plus := f6, d_plus := _, F_plus := F6, b_plus := b6, g_plus := PySem.W.mg_of X G a6, f_is_sizes := f7, d_is_sizes := _, F_is_sizes := F7, b_is_sizes := b7, g_is_sizes := PySem.W.mg_of X G a7, f_is_content := f8, d_is_content := _, F_is_content := F8, b_is_content := b8, g_is_content := PySem.W.mg_of X G a8, f_is_pattern := f9, d_is_pattern := _, F_is_pattern := F9, b_is_pattern := b9, g_is_pattern := PySem.W.mg_of X G a9, f_all_contents := f10, d_all_contents := _, F_all_contents := F10, b_all_contents := b10, g_all_contents := PySem.W.mg_of X G a10, f_place_of := f11, d_place_of := _, F_place_of := F11, b_place_of := b11, g_place_of := PySem.W.mg_of X G a11, f_is_habit_row := f12, d_is_habit_row := _, F_is_habit_row := F12, b_is_habit_row := b12, g_is_habit_row := PySem.W.mg_of X G a12, f_share := f13, d_share := _, F_share := F13, b_share := b13, g_share := PySem.W.mg_of X G a13, f_law_hand := f14, d_law_hand := _, F_law_hand := F14, b_law_hand := b14, g_law_hand := PySem.W.mg_of X G a14, f_law_draw := f15, d_law_draw := _, F_law_draw := F15, b_law_draw := b15, g_law_draw := PySem.W.mg_of X G a15, f_law_some := f16, d_law_some := _, F_law_some := F16, b_law_some := b16, g_law_some := PySem.W.mg_of X G a16, f_law_deep := f17, d_law_deep := _, F_law_deep := F17, b_law_deep := b17, g_law_deep := PySem.W.mg_of X G a17, f_law_sizes := f18, d_law_sizes := _, F_law_sizes := F18, b_law_sizes := b18, g_law_sizes := PySem.W.mg_of X G a18, f_law_contents := f19, d_law_contents := _, F_law_contents := F19, b_law_contents := b19, g_law_contents := PySem.W.mg_of X G a19, f_law_patterns := f20, d_law_patterns := _, F_law_patterns := F20, b_law_patterns := b20, g_law_patterns := PySem.W.mg_of X G a20, f_law_is_int := f21, d_law_is_int := _, F_law_is_int := F21, b_law_is_int := b21, g_law_is_int := PySem.W.mg_of X G a21, f_law_is_pattern := f22, d_law_is_pattern := _, F_law_is_pattern := F22, b_law_is_pattern := b22, g_law_is_pattern := PySem.W.mg_of X G a22, f_law_is_content := f23, d_law_is_content := _, F_law_is_content := F23, b_law_is_content := b23, g_law_is_content := PySem.W.mg_of X G a23, f_law_are_sizes := f24, d_law_are_sizes := _, F_law_are_sizes := F24, b_law_are_sizes := b24, g_law_are_sizes := PySem.W.mg_of X G a24, f_law_low := f25, d_law_low := _, F_law_low := F25, b_law_low := b25, g_law_low := PySem.W.mg_of X G a25, f_law_plus := f26, d_law_plus := _, F_law_plus := F26, b_law_plus := b26, g_law_plus := PySem.W.mg_of X G a26, f_law_sum := f27, d_law_sum := _, F_law_sum := F27, b_law_sum := b27, g_law_sum := PySem.W.mg_of X G a27, f_law_row := f28, d_law_row := _, F_law_row := F28, b_law_row := b28, g_law_row := PySem.W.mg_of X G a28, f_law_rows := f29, d_law_rows := _, F_law_rows := F29, b_law_rows := b29, g_law_rows := PySem.W.mg_of X G a29, f_law_is_share := f30, d_law_is_share := _, F_law_is_share := F30, b_law_is_share := b30, g_law_is_share := PySem.W.mg_of X G a30, f_law_is_row := f31, d_law_is_row := _, F_law_is_row := F31, b_law_is_row := b31, g_law_is_row := PySem.W.mg_of X G a31, f_law_due := f32, d_law_due := _, F_law_due := F32, b_law_due := b32, g_law_due := PySem.W.mg_of X G a32, f_law_told := f33, d_law_told := _, F_law_told := F33, b_law_told := b33, g_law_told := PySem.W.mg_of X G a33, f_law_odd := f34, d_law_odd := _, F_law_odd := F34, b_law_odd := b34, g_law_odd := PySem.W.mg_of X G a34, f_law_bent_row := f35, d_law_bent_row := _, F_law_bent_row := F35, b_law_bent_row := b35, g_law_bent_row := PySem.W.mg_of X G a35, f_law_bent := f36, d_law_bent := _, F_law_bent := F36, b_law_bent := b36, g_law_bent := PySem.W.mg_of X G a36, f_law_share_word := f37, d_law_share_word := _, F_law_share_word := F37, b_law_share_word := b37, g_law_share_word := PySem.W.mg_of X G a37, f_law_share_due := f38, d_law_share_due := _, F_law_share_due := F38, b_law_share_due := b38, g_law_share_due := PySem.W.mg_of X G a38, f_law_flag := f39, d_law_flag := _, F_law_flag := F39, b_law_flag := b39, g_law_flag := PySem.W.mg_of X G a39, f_NoPattern_init := f41, d_NoPattern_init := _, F_NoPattern_init := F41, b_NoPattern_init := b41, f_NoContent_init := f42, d_NoContent_init := _, F_NoContent_init := F42, b_NoContent_init := b42, f_BadHabit_init := f43, d_BadHabit_init := _, F_BadHabit_init := F43, b_BadHabit_init := b43, f_Habit_init := f44, d_Habit_init := _, F_Habit_init := F44, b_Habit_init := b44, f_Habit_eq := f45, d_Habit_eq := _, F_Habit_eq := F45, b_Habit_eq := b45, c_NoPattern := c_NoPattern, g_NoPattern := PySem.W.mg_of X G n_NoPattern, c_NoContent := c_NoContent, g_NoContent := PySem.W.mg_of X G n_NoContent, c_BadHabit := c_BadHabit, g_BadHabit := PySem.W.mg_of X G n_BadHabit, c_Habit := c_Habit, g_Habit := PySem.W.mg_of X G n_Habit, c_MaskError := c_MaskError, g_MaskError := PySem.W.mg_of X G n_MaskError, m_MaskError := m_MaskError, U_MaskError := U_MaskError, o_NoPattern := o_NoPattern, t_NoPattern := t_NoPattern, e_NoPattern := e_NoPattern, x_NoPattern := x_NoPattern, i_NoPattern := a41, o_NoContent := o_NoContent, t_NoContent := t_NoContent, e_NoContent := e_NoContent, x_NoContent := x_NoContent, i_NoContent := a42, o_BadHabit := o_BadHabit, t_BadHabit := t_BadHabit, e_BadHabit := e_BadHabit, x_BadHabit := x_BadHabit, i_BadHabit := a43, q_NoPattern_NoPattern := q_NoPattern_NoPattern, q_NoPattern_NoContent := q_NoPattern_NoContent, q_NoPattern_BadHabit := q_NoPattern_BadHabit, q_NoContent_NoPattern := q_NoContent_NoPattern, q_NoContent_NoContent := q_NoContent_NoContent, q_NoContent_BadHabit := q_NoContent_BadHabit, q_BadHabit_NoPattern := q_BadHabit_NoPattern, q_BadHabit_NoContent := q_BadHabit_NoContent, q_BadHabit_BadHabit := q_BadHabit_BadHabit, M_Habit := M_Habit, l_Habit := l_Habit, a_sizes := a_sizes, a_rows := a_rows, h_Habit := h_Habit, h2_Habit := h2_Habit, h3_Habit := h3_Habit, h4_Habit := h4_Habit, k_Habit_int := Fm.kit_typ (by decide +kernel) s_Habit_int, k_Habit_tuple := Fm.kit_typ (by decide +kernel) s_Habit_tuple, p_BadHabit := p_BadHabit, xf_BadHabit := xf_BadHabit, xx_BadHabit := xx_BadHabit, ne_Habit := ne_Habit, so_NoneType := so_NoneType, so_int := so_int, so_str := so_str, so_tuple := so_tuple, eq_Habit := a45, fn_Habit_eq := beq_iff_eq.mpr tf_Habit_eq, kk_Habit := if_pos (beq_self_eq_true _), ko_NoneType := Fm.kit_base hd_Habit ty_Habit so_NoneType, ko_int := Fm.kit_base hd_Habit ty_Habit so_int, ko_str := Fm.kit_base hd_Habit ty_Habit so_str, ko_tuple := Fm.kit_base hd_Habit ty_Habit so_tuple, w_gcd := PySem.W.mg_of X G w_gcd, v_ZERO := v_ZERO, g_ZERO := PySem.W.mg_of X G n_ZERO, k_ZERO := k_ZERO, v_ONE := v_ONE, g_ONE := PySem.W.mg_of X G n_ONE, k_ONE := k_ONE, u_MOST_COLUMNS := _, k_MOST_COLUMNS := ⟨PySem.W.mg_of X G u1, ⟨_, rfl⟩⟩, u_LEAST_SIZE := _, k_LEAST_SIZE := ⟨PySem.W.mg_of X G u2, ⟨_, rfl⟩⟩, u_MOST_SIZE := _, k_MOST_SIZE := ⟨PySem.W.mg_of X G u3, ⟨_, rfl⟩⟩, u_MOST_CONTENTS := _, k_MOST_CONTENTS := ⟨PySem.W.mg_of X G u4, ⟨_, rfl⟩⟩, z_len := PySem.W.mg_none_of X G z1, z_isinstance := PySem.W.mg_none_of X G z2, z_range := PySem.W.mg_none_of X G z3, z_zip := PySem.W.mg_none_of X G z4, z_tuple := PySem.W.mg_none_of X G z5, z_list := PySem.W.mg_none_of X G z6, z_int := PySem.W.mg_none_of X G z7, z_bool := PySem.W.mg_none_of X G z8, z_abs := PySem.W.mg_none_of X G z9, z_sorted := PySem.W.mg_none_of X G z10, z_set := PySem.W.mg_none_of X G z11, z_enumerate := PySem.W.mg_none_of X G z12, z_all := PySem.W.mg_none_of X G z13 }
  exact ⟨PySem.W.fnOf "law" "law" (defArgs s_law) (defBody s_law) (defScope s_law) .none kV40 dc40 pm40 an40 cd40 ct40, fun s v => .of_eq rfl, fun base _ _ => ok_law T F40⟩
end Fm
open PySem PySem.W PyProof.Rows
set_option maxHeartbeats 0 in
theorem PySem.Challenge.cw_fairmasks_k03_habits_judged_and_refused_holds : PySem.Challenge.rw_fairmasks_k03_habits_judged_and_refused.Holds := by
  w_on; o_law; k_head; (case hw => w_witness2)
  k_fill
  refine L2.walk_of (l := PySem.Challenge.rw_fairmasks_k03_habits_judged_and_refused) (n := 63) (k := 10) (x := "script") (CX := fun _ => L2.CX0) (sp := fun w => Fm.spLaw _) rfl (by decide) rfl ⟨rfl, by decide, by decide⟩ (fun w h Y => PySem.W.kIn_of Y) ?F (fun _ _ a ns hl _ hS => ⟨a, ns, rfl, hS, hl, fun _ => rfl⟩) (fun _ _ _ _ _ h => h)
  case F =>
    intro w mg fa h KX G hmg
    refine' Fm.all_mk KX G hmg ?n_NoPattern ?n_NoContent ?n_BadHabit ?n_Habit ?n_MaskError ?w_gcd ?n_ZERO ?n_ONE ?a1 ?l1 ?c1 ?k1 ?a2 ?l2 ?c2 ?k2 ?a3 ?l3 ?c3 ?k3 ?a4 ?l4 ?c4 ?k4 ?a5 ?l5 ?c5 ?k5 ?a6 ?l6 ?c6 ?k6 ?a7 ?l7 ?c7 ?k7 ?a8 ?l8 ?c8 ?k8 ?a9 ?l9 ?c9 ?k9 ?a10 ?l10 ?c10 ?k10 ?a11 ?l11 ?c11 ?k11 ?a12 ?l12 ?c12 ?k12 ?a13 ?l13 ?c13 ?k13 ?a14 ?l14 ?c14 ?k14 ?a15 ?l15 ?c15 ?k15 ?a16 ?l16 ?c16 ?k16 ?a17 ?l17 ?c17 ?k17 ?a18 ?l18 ?c18 ?k18 ?a19 ?l19 ?c19 ?k19 ?a20 ?l20 ?c20 ?k20 ?a21 ?l21 ?c21 ?k21 ?a22 ?l22 ?c22 ?k22 ?a23 ?l23 ?c23 ?k23 ?a24 ?l24 ?c24 ?k24 ?a25 ?l25 ?c25 ?k25 ?a26 ?l26 ?c26 ?k26 ?a27 ?l27 ?c27 ?k27 ?a28 ?l28 ?c28 ?k28 ?a29 ?l29 ?c29 ?k29 ?a30 ?l30 ?c30 ?k30 ?a31 ?l31 ?c31 ?k31 ?a32 ?l32 ?c32 ?k32 ?a33 ?l33 ?c33 ?k33 ?a34 ?l34 ?c34 ?k34 ?a35 ?l35 ?c35 ?k35 ?a36 ?l36 ?c36 ?k36 ?a37 ?l37 ?c37 ?k37 ?a38 ?l38 ?c38 ?k38 ?a39 ?l39 ?c39 ?k39 ?a40 ?l40 ?c40 ?k40 ?a41 ?l41 ?c41 ?k41 ?a42 ?l42 ?c42 ?k42 ?a43 ?l43 ?c43 ?k43 ?a44 ?l44 ?c44 ?k44 ?a45 ?l45 ?c45 ?k45 ?y_MaskError ?U_MaskError ?o_NoPattern ?t_NoPattern ?e_NoPattern ?x_NoPattern ?o_NoContent ?t_NoContent ?e_NoContent ?x_NoContent ?o_BadHabit ?t_BadHabit ?e_BadHabit ?x_BadHabit ?q_NoPattern_NoPattern ?q_NoPattern_NoContent ?q_NoPattern_BadHabit ?q_NoContent_NoPattern ?q_NoContent_NoContent ?q_NoContent_BadHabit ?q_BadHabit_NoPattern ?q_BadHabit_NoContent ?q_BadHabit_BadHabit ?M_Habit ?l_Habit ?a_sizes ?a_rows ?h_Habit ?h2_Habit ?h3_Habit ?h4_Habit ?s_Habit_int ?s_Habit_tuple ?p_BadHabit ?xf_BadHabit ?xx_BadHabit ?tf_Habit_eq ?ne_Habit ?hd_Habit ?ty_Habit ?so_NoneType ?so_int ?so_str ?so_tuple ?k_ZERO ?k_ONE ?u1 ?u2 ?u3 ?u4 ?z1 ?z2 ?z3 ?z4 ?z5 ?z6 ?z7 ?z8 ?z9 ?z10 ?z11 ?z12 ?z13
    case n_NoPattern => k_is
    case n_NoContent => k_is
    case n_BadHabit => k_is
    case n_Habit => k_is
    case n_MaskError => k_is
    case w_gcd => k_is
    case n_ZERO => k_is
    case n_ONE => k_is
    case a1 => k_is
    case l1 => k_is
    case c1 => k_is
    case k1 => k_is
    case a2 => k_is
    case l2 => k_is
    case c2 => k_is
    case k2 => k_is
    case a3 => k_is
    case l3 => k_is
    case c3 => k_is
    case k3 => k_is
    case a4 => k_is
    case l4 => k_is
    case c4 => k_is
    case k4 => k_is
    case a5 => k_is
    case l5 => k_is
    case c5 => k_is
    case k5 => k_is
    case a6 => k_is
    case l6 => k_is
    case c6 => k_is
    case k6 => k_is
    case a7 => k_is
    case l7 => k_is
    case c7 => k_is
    case k7 => k_is
    case a8 => k_is
    case l8 => k_is
    case c8 => k_is
    case k8 => k_is
    case a9 => k_is
    case l9 => k_is
    case c9 => k_is
    case k9 => k_is
    case a10 => k_is
    case l10 => k_is
    case c10 => k_is
    case k10 => k_is
    case a11 => k_is
    case l11 => k_is
    case c11 => k_is
    case k11 => k_is
    case a12 => k_is
    case l12 => k_is
    case c12 => k_is
    case k12 => k_is
    case a13 => k_is
    case l13 => k_is
    case c13 => k_is
    case k13 => k_is
    case a14 => k_is
    case l14 => k_is
    case c14 => k_is
    case k14 => k_is
    case a15 => k_is
    case l15 => k_is
    case c15 => k_is
    case k15 => k_is
    case a16 => k_is
    case l16 => k_is
    case c16 => k_is
    case k16 => k_is
    case a17 => k_is
    case l17 => k_is
    case c17 => k_is
    case k17 => k_is
    case a18 => k_is
    case l18 => k_is
    case c18 => k_is
    case k18 => k_is
    case a19 => k_is
    case l19 => k_is
    case c19 => k_is
    case k19 => k_is
    case a20 => k_is
    case l20 => k_is
    case c20 => k_is
    case k20 => k_is
    case a21 => k_is
    case l21 => k_is
    case c21 => k_is
    case k21 => k_is
    case a22 => k_is
    case l22 => k_is
    case c22 => k_is
    case k22 => k_is
    case a23 => k_is
    case l23 => k_is
    case c23 => k_is
    case k23 => k_is
    case a24 => k_is
    case l24 => k_is
    case c24 => k_is
    case k24 => k_is
    case a25 => k_is
    case l25 => k_is
    case c25 => k_is
    case k25 => k_is
    case a26 => k_is
    case l26 => k_is
    case c26 => k_is
    case k26 => k_is
    case a27 => k_is
    case l27 => k_is
    case c27 => k_is
    case k27 => k_is
    case a28 => k_is
    case l28 => k_is
    case c28 => k_is
    case k28 => k_is
    case a29 => k_is
    case l29 => k_is
    case c29 => k_is
    case k29 => k_is
    case a30 => k_is
    case l30 => k_is
    case c30 => k_is
    case k30 => k_is
    case a31 => k_is
    case l31 => k_is
    case c31 => k_is
    case k31 => k_is
    case a32 => k_is
    case l32 => k_is
    case c32 => k_is
    case k32 => k_is
    case a33 => k_is
    case l33 => k_is
    case c33 => k_is
    case k33 => k_is
    case a34 => k_is
    case l34 => k_is
    case c34 => k_is
    case k34 => k_is
    case a35 => k_is
    case l35 => k_is
    case c35 => k_is
    case k35 => k_is
    case a36 => k_is
    case l36 => k_is
    case c36 => k_is
    case k36 => k_is
    case a37 => k_is
    case l37 => k_is
    case c37 => k_is
    case k37 => k_is
    case a38 => k_is
    case l38 => k_is
    case c38 => k_is
    case k38 => k_is
    case a39 => k_is
    case l39 => k_is
    case c39 => k_is
    case k39 => k_is
    case a40 => k_is
    case l40 => k_is
    case c40 => k_is
    case k40 => k_is
    case a41 => k_is
    case l41 => k_is
    case c41 => k_is
    case k41 => k_is
    case a42 => k_is
    case l42 => k_is
    case c42 => k_is
    case k42 => k_is
    case a43 => k_is
    case l43 => k_is
    case c43 => k_is
    case k43 => k_is
    case a44 => k_is
    case l44 => k_is
    case c44 => k_is
    case k44 => k_is
    case a45 => k_is
    case l45 => k_is
    case c45 => k_is
    case k45 => k_is
    case y_MaskError => k_is
    case U_MaskError => refine' ⟨?g_U_MaskError_z1, ?g_U_MaskError_z2, ?g_U_MaskError_z3⟩ <;> k_is
    case o_NoPattern => refine' Fm.oexC_mk ?g_o_NoPattern_z1 ?g_o_NoPattern_z2 ?g_o_NoPattern_z3 ?g_o_NoPattern_z4 ?g_o_NoPattern_z5 ?g_o_NoPattern_z6; (case g_o_NoPattern_z1 => k_is); (case g_o_NoPattern_z2 => decide +kernel); (case g_o_NoPattern_z3 => k_is); (case g_o_NoPattern_z4 => k_is); (case g_o_NoPattern_z5 => k_is); (case g_o_NoPattern_z6 => k_is)
    case t_NoPattern => k_is
    case e_NoPattern => refine' ⟨?g_e_NoPattern_z1, ?g_e_NoPattern_z2, ?g_e_NoPattern_z3, ?g_e_NoPattern_z4, ?g_e_NoPattern_z5, ?g_e_NoPattern_z6, ?g_e_NoPattern_z7, ?g_e_NoPattern_z8⟩ <;> k_is
    case x_NoPattern => refine' PySem.W.exm_ref ?g_x_NoPattern_z1 ?g_x_NoPattern_z2 ?g_x_NoPattern_z3 ?g_x_NoPattern_z4 <;> k_is
    case o_NoContent => refine' Fm.oexC_mk ?g_o_NoContent_z1 ?g_o_NoContent_z2 ?g_o_NoContent_z3 ?g_o_NoContent_z4 ?g_o_NoContent_z5 ?g_o_NoContent_z6; (case g_o_NoContent_z1 => k_is); (case g_o_NoContent_z2 => decide +kernel); (case g_o_NoContent_z3 => k_is); (case g_o_NoContent_z4 => k_is); (case g_o_NoContent_z5 => k_is); (case g_o_NoContent_z6 => k_is)
    case t_NoContent => k_is
    case e_NoContent => refine' ⟨?g_e_NoContent_z1, ?g_e_NoContent_z2, ?g_e_NoContent_z3, ?g_e_NoContent_z4, ?g_e_NoContent_z5, ?g_e_NoContent_z6, ?g_e_NoContent_z7, ?g_e_NoContent_z8⟩ <;> k_is
    case x_NoContent => refine' PySem.W.exm_ref ?g_x_NoContent_z1 ?g_x_NoContent_z2 ?g_x_NoContent_z3 ?g_x_NoContent_z4 <;> k_is
    case o_BadHabit => refine' Fm.oexC_mk ?g_o_BadHabit_z1 ?g_o_BadHabit_z2 ?g_o_BadHabit_z3 ?g_o_BadHabit_z4 ?g_o_BadHabit_z5 ?g_o_BadHabit_z6; (case g_o_BadHabit_z1 => k_is); (case g_o_BadHabit_z2 => decide +kernel); (case g_o_BadHabit_z3 => k_is); (case g_o_BadHabit_z4 => k_is); (case g_o_BadHabit_z5 => k_is); (case g_o_BadHabit_z6 => k_is)
    case t_BadHabit => k_is
    case e_BadHabit => refine' ⟨?g_e_BadHabit_z1, ?g_e_BadHabit_z2, ?g_e_BadHabit_z3, ?g_e_BadHabit_z4, ?g_e_BadHabit_z5, ?g_e_BadHabit_z6, ?g_e_BadHabit_z7, ?g_e_BadHabit_z8⟩ <;> k_is
    case x_BadHabit => refine' PySem.W.exm_ref ?g_x_BadHabit_z1 ?g_x_BadHabit_z2 ?g_x_BadHabit_z3 ?g_x_BadHabit_z4 <;> k_is
    case q_NoPattern_NoPattern => exact if_pos (beq_self_eq_true _)
    case q_NoPattern_NoContent => refine' Fm.kit_own ?g_q_NoPattern_NoContent_z1 ?g_q_NoPattern_NoContent_z2 ?g_q_NoPattern_NoContent_z3 ?g_q_NoPattern_NoContent_z4; (case g_q_NoPattern_NoContent_z1 => decide); (case g_q_NoPattern_NoContent_z2 => k_is); (case g_q_NoPattern_NoContent_z3 => k_is); (case g_q_NoPattern_NoContent_z4 => k_is)
    case q_NoPattern_BadHabit => refine' Fm.kit_own ?g_q_NoPattern_BadHabit_z1 ?g_q_NoPattern_BadHabit_z2 ?g_q_NoPattern_BadHabit_z3 ?g_q_NoPattern_BadHabit_z4; (case g_q_NoPattern_BadHabit_z1 => decide); (case g_q_NoPattern_BadHabit_z2 => k_is); (case g_q_NoPattern_BadHabit_z3 => k_is); (case g_q_NoPattern_BadHabit_z4 => k_is)
    case q_NoContent_NoPattern => refine' Fm.kit_own ?g_q_NoContent_NoPattern_z1 ?g_q_NoContent_NoPattern_z2 ?g_q_NoContent_NoPattern_z3 ?g_q_NoContent_NoPattern_z4; (case g_q_NoContent_NoPattern_z1 => decide); (case g_q_NoContent_NoPattern_z2 => k_is); (case g_q_NoContent_NoPattern_z3 => k_is); (case g_q_NoContent_NoPattern_z4 => k_is)
    case q_NoContent_NoContent => exact if_pos (beq_self_eq_true _)
    case q_NoContent_BadHabit => refine' Fm.kit_own ?g_q_NoContent_BadHabit_z1 ?g_q_NoContent_BadHabit_z2 ?g_q_NoContent_BadHabit_z3 ?g_q_NoContent_BadHabit_z4; (case g_q_NoContent_BadHabit_z1 => decide); (case g_q_NoContent_BadHabit_z2 => k_is); (case g_q_NoContent_BadHabit_z3 => k_is); (case g_q_NoContent_BadHabit_z4 => k_is)
    case q_BadHabit_NoPattern => refine' Fm.kit_own ?g_q_BadHabit_NoPattern_z1 ?g_q_BadHabit_NoPattern_z2 ?g_q_BadHabit_NoPattern_z3 ?g_q_BadHabit_NoPattern_z4; (case g_q_BadHabit_NoPattern_z1 => decide); (case g_q_BadHabit_NoPattern_z2 => k_is); (case g_q_BadHabit_NoPattern_z3 => k_is); (case g_q_BadHabit_NoPattern_z4 => k_is)
    case q_BadHabit_NoContent => refine' Fm.kit_own ?g_q_BadHabit_NoContent_z1 ?g_q_BadHabit_NoContent_z2 ?g_q_BadHabit_NoContent_z3 ?g_q_BadHabit_NoContent_z4; (case g_q_BadHabit_NoContent_z1 => decide); (case g_q_BadHabit_NoContent_z2 => k_is); (case g_q_BadHabit_NoContent_z3 => k_is); (case g_q_BadHabit_NoContent_z4 => k_is)
    case q_BadHabit_BadHabit => exact if_pos (beq_self_eq_true _)
    case M_Habit => refine' ⟨?g_M_Habit_z1, ?g_M_Habit_z2, ?g_M_Habit_z3, ?g_M_Habit_z4⟩ <;> k_is
    case l_Habit => refine' ⟨?g_l_Habit_z1, ?g_l_Habit_z2, ?g_l_Habit_z3, ?g_l_Habit_z4⟩ <;> k_is
    case a_sizes => k_is
    case a_rows => k_is
    case h_Habit => k_is
    case h2_Habit => k_is
    case h3_Habit => k_is
    case h4_Habit => k_is
    case s_Habit_int => k_is
    case s_Habit_tuple => k_is
    case p_BadHabit => k_is
    case xf_BadHabit => refine' ⟨?g_xf_BadHabit_z1, ?g_xf_BadHabit_z2, ?g_xf_BadHabit_z3, ?g_xf_BadHabit_z4⟩ <;> k_is
    case xx_BadHabit => refine' PySem.W.exm_ref ?g_xx_BadHabit_z1 ?g_xx_BadHabit_z2 ?g_xx_BadHabit_z3 ?g_xx_BadHabit_z4 <;> k_is
    case tf_Habit_eq => k_is
    case ne_Habit => k_is
    case hd_Habit => k_is
    case ty_Habit => k_is
    case so_NoneType => k_is
    case so_int => k_is
    case so_str => k_is
    case so_tuple => k_is
    case k_ZERO => refine' Fm.sqK_mk ?g_k_ZERO_z1 ?g_k_ZERO_z2; (case g_k_ZERO_z1 => k_is); (case g_k_ZERO_z2 => exact ⟨_, _, rfl, rfl, by decide, .cons ⟨_, rfl⟩ (.cons ⟨_, rfl⟩ .nil)⟩)
    case k_ONE => refine' Fm.sqK_mk ?g_k_ONE_z1 ?g_k_ONE_z2; (case g_k_ONE_z1 => k_is); (case g_k_ONE_z2 => exact ⟨_, _, rfl, rfl, by decide, .cons ⟨_, rfl⟩ (.cons ⟨_, rfl⟩ .nil)⟩)
    case u1 => k_is
    case u2 => k_is
    case u3 => k_is
    case u4 => k_is
    case z1 => k_is
    case z2 => k_is
    case z3 => k_is
    case z4 => k_is
    case z5 => k_is
    case z6 => k_is
    case z7 => k_is
    case z8 => k_is
    case z9 => k_is
    case z10 => k_is
    case z11 => k_is
    case z12 => k_is
    case z13 => k_is
