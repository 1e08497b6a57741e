import PyProof.Rows.All
import Wide.All
import OpenK.AllK
import Wide.FinOn
import HandS.ForMost
import HandS.IsInst
import HandS.TupAny
import HandS.SetKeys
import HandS.DictComp
import HandS.Zip
import HandS.TupLe
import HandS.More
import HandS.Conv
import HandS.Codes
import KE.GoesNew
import KE.KDictZip
import HandS.Zip0
import KE.SortCalls
import KE.SortData
import HandS.Exc
import HandS.ExcInit
import HandS.ExcIs
import HandS.ClsMeth
import HandS.ForExc
import HandS.Deep
import HandS.TupMul
import HandS.Gcd
import HandS.WordsExc
import PySem.Challenge.RW_fairmasks_k02_boxes_and_lists_judged_and
set_option Elab.async false
set_option maxRecDepth 100000
set_option maxHeartbeats 4000000
/-! Plain things of the fairmasks laws: data that a value stands for, heaps that go on, the drawing hand. -/
namespace Fm
open PySem PySem.Spec PyProof.Rows L2

/-- a thing that is judged: lists, dicts, instances are told by their type alone -/
inductive Dt where
  | non | bl (b : Bool) | int (i : Int) | str (s : Str) | tup (ds : List Dt) | oth (t : Value)

/-- only lists may have changed, and they are lists still -/
def Ext (H H' : Hp) : Prop := ∀ b o, H b = some o → H' b = some o ∨ ((∃ xs, o = .lst xs) ∧ ∃ ys, H' b = some (.lst ys))
theorem Ext.refl (H : Hp) : Ext H H := fun _ _ e => .inl e
theorem Ext.of {H H' : Hp} (s : Same H H') : Ext H H' := fun b o e => .inl (s b o e)
theorem Ext.trans {H H1 H2 : Hp} (a : Ext H H1) (b : Ext H1 H2) : Ext H H2 := fun c o e => by
  rcases a c o e with e1 | ⟨⟨xs, rfl⟩, ys, e1⟩
  · exact b c o e1
  · rcases b c _ e1 with e2 | ⟨_, zs, e2⟩
    · exact .inr ⟨⟨xs, rfl⟩, ys, e2⟩
    · exact .inr ⟨⟨xs, rfl⟩, zs, e2⟩
theorem Ext.tup {H H' : Hp} (e : Ext H H') {a : Addr} {xs : List V} (h : H a = some (.tup xs)) : H' a = some (.tup xs) := by
  rcases e a _ h with e1 | ⟨⟨ys, q⟩, _⟩
  · exact e1
  · cases q
theorem Ext.frz {H H' : Hp} (e : Ext H H') {a : Addr} {o : Obj} {u : HO} (h : H a = some (.frz o u)) : H' a = some (.frz o u) := by
  rcases e a _ h with e1 | ⟨⟨ys, q⟩, _⟩
  · exact e1
  · cases q
theorem Ext.sqT {K : PySem.W.Frag} {H H' : Hp} (e : Ext H H') {a : Addr} {xs : List V} (h : SqT K H a xs) : SqT K H' a xs := by
  rcases h with (h | ⟨o, h⟩) | h
  · exact .inl (.inl (e.tup h))
  · exact .inl (.inr ⟨o, e.frz h⟩)
  · exact .inr h
theorem same_new {H : Hp} {p : Addr} {o : HO} (h : H p = none) : Same H (upd H p o) := fun b x e => by
  rw [upd_ne (ne_of_none e h)]
  exact e
theorem Ext.new {H : Hp} {p : Addr} {o : HO} (h : H p = none) : Ext H (upd H p o) := .of (same_new h)
theorem TyX.ext {K : PySem.W.Frag} {H H' : Hp} {v : V} {t : Value} (e : Ext H H') (h : TyX K H v t) : TyX K H' v t := by
  have go : ∀ {a : Addr} {o : HO}, H a = some o → (∀ xs, o ≠ .lst xs) → H' a = some o := fun {a o} q n => by
    rcases e a _ q with e1 | ⟨⟨ys, z⟩, _⟩
    · exact e1
    · exact absurd z (n ys)
  cases h with
  | base b =>
    cases b with
    | non => exact .base .non
    | bl x => exact .base (.bl x)
    | int i => exact .base (.int i)
    | str x => exact .base (.str x)
    | flt x => exact .base (.flt x)
    | @lst a xs q =>
      rcases e a _ q with e1 | ⟨_, ys, e1⟩
      · exact .base (.lst e1)
      · exact .base (.lst e1)
    | frz q => exact .base (.frz (e.frz q))
    | tup q => exact .base (.tup (e.tup q))
    | dK q => exact .base (.dK (go q fun _ z => nomatch z))
    | dT q => exact .base (.dT (go q fun _ z => nomatch z))
    | ins q cl ha hn htk hm => exact .base (.ins (go q fun _ z => nomatch z) cl ha hn htk hm)
  | byt b => exact .byt b
  | set q => exact .set (go q fun _ z => nomatch z)
  | kList q c => exact .kList q c
  | kTuple q c => exact .kTuple q c
  | kDict q c => exact .kDict q c
  | fTuple q => exact .fTuple (e.frz q)
  | fDict q => exact .fDict (e.frz q)

mutual
inductive Dh (K : PySem.W.Frag) (H : Hp) : V → Dt → Prop
  | non : Dh K H .non .non
  | bl (b : Bool) : Dh K H (.bl b) (.bl b)
  | int (i : Int) : Dh K H (.int i) (.int i)
  | str (x : Str) : Dh K H (.str x) (.str x)
  | tup {a : Addr} {xs : List V} {ds : List Dt} : SqT K H a xs → DhAll K H xs ds → Dh K H (.ref a) (.tup ds)
  | oth {v : V} {t : Value} : TyX K H v t → PySem.W.kitOne K t (.type "int") = some false → PySem.W.kitOne K t (.type "tuple") = some false → Dh K H v (.oth t)
inductive DhAll (K : PySem.W.Frag) (H : Hp) : List V → List Dt → Prop
  | nil : DhAll K H [] []
  | cons {v : V} {vs : List V} {d : Dt} {ds : List Dt} : Dh K H v d → DhAll K H vs ds → DhAll K H (v :: vs) (d :: ds)
end
section
variable {K : PySem.W.Frag} {H H' : Hp}
mutual
theorem Dh.ext (e : Ext H H') : ∀ {v : V} {d : Dt}, Dh K H v d → Dh K H' v d
  | _, _, .non => .non
  | _, _, .bl b => .bl b
  | _, _, .int i => .int i
  | _, _, .str x => .str x
  | _, _, .tup s h => .tup (e.sqT s) (DhAll.ext e h)
  | _, _, .oth t k1 k2 => .oth (TyX.ext e t) k1 k2
theorem DhAll.ext (e : Ext H H') : ∀ {vs : List V} {ds : List Dt}, DhAll K H vs ds → DhAll K H' vs ds
  | _, _, .nil => .nil
  | _, _, .cons h t => .cons (Dh.ext e h) (DhAll.ext e t)
end
theorem DhAll.length : ∀ {vs : List V} {ds : List Dt}, DhAll K H vs ds → vs.length = ds.length
  | _, _, .nil => rfl
  | _, _, .cons _ t => congrArg (· + 1) (DhAll.length t)
theorem DhAll.get : ∀ {vs : List V} {ds : List Dt} {i : Nat} {v : V}, DhAll K H vs ds → vs[i]? = some v → ∃ d, ds[i]? = some d ∧ Dh K H v d
  | _, _, _, _, .nil, e => by simp at e
  | _, _, 0, _, .cons h _, e => by simp at e; subst e; exact ⟨_, rfl, h⟩
  | _, _, i + 1, v, .cons _ t, e => by
    obtain ⟨d, h1, h2⟩ := DhAll.get (i := i) (v := v) t (by simpa using e)
    exact ⟨d, by simpa using h1, h2⟩
theorem DhAll.at : ∀ {vs : List V} {ds : List Dt} {i : Nat} {d : Dt}, DhAll K H vs ds → ds[i]? = some d → ∃ v, vs[i]? = some v ∧ Dh K H v d
  | _, _, _, _, .nil, e => by simp at e
  | _, _, 0, _, .cons h _, e => by simp at e; subst e; exact ⟨_, rfl, h⟩
  | _, _, i + 1, d, .cons _ t, e => by
    obtain ⟨v, h1, h2⟩ := DhAll.at (i := i) (d := d) t (by simpa using e)
    exact ⟨v, by simpa using h1, h2⟩
theorem DhAll.snoc : ∀ {vs : List V} {ds : List Dt} {v : V} {d : Dt}, DhAll K H vs ds → Dh K H v d → DhAll K H (vs ++ [v]) (ds ++ [d])
  | _, _, _, _, .nil, h => .cons h .nil
  | _, _, _, _, .cons q t, h => .cons q (DhAll.snoc t h)
theorem DhAll.append : ∀ {vs ws : List V} {ds es : List Dt}, DhAll K H vs ds → DhAll K H ws es → DhAll K H (vs ++ ws) (ds ++ es)
  | _, _, _, _, .nil, h => h
  | _, _, _, _, .cons q t, h => .cons q (DhAll.append t h)

/-! ### what isinstance tells -/
def Dt.isInt : Dt → Bool
  | .int _ => true
  | .bl _ => true
  | _ => false
def Dt.isW : Dt → Bool
  | .int _ => true
  | _ => false
def Dt.isTup : Dt → Bool
  | .tup _ => true
  | _ => false
theorem tyx_tup {a : Addr} {xs : List V} (h : SqT K H a xs) : TyX K H (.ref a) (.type "tuple") := by
  rcases h with (h | ⟨o, h⟩) | ⟨o, its, n, h1, h2, _⟩
  · exact .base (.tup h)
  · exact .fTuple h
  · exact .kTuple h1 h2
theorem Dh.kinds {v : V} {d : Dt} (h : Dh K H v d) : ∃ t, TyX K H v t ∧ PySem.W.kitOne K t (.type "int") = some d.isInt ∧ PySem.W.kitOne K t (.type "tuple") = some d.isTup ∧ (d.isInt = true → PySem.W.kitOne K t (.type "bool") = some (!d.isW)) := by
  cases h with
  | non => exact ⟨_, .base .non, kit_ty (by decide +kernel), kit_ty (by decide +kernel), fun z => nomatch z⟩
  | bl b => exact ⟨_, .base (.bl b), kit_ty (show kitB "bool" "int" = some true by decide +kernel), kit_ty (show kitB "bool" "tuple" = some false by decide +kernel), fun _ => kit_ty (show kitB "bool" "bool" = some true by decide +kernel)⟩
  | int i => exact ⟨_, .base (.int i), kit_ty (show kitB "int" "int" = some true by decide +kernel), kit_ty (show kitB "int" "tuple" = some false by decide +kernel), fun _ => kit_ty (show kitB "int" "bool" = some false by decide +kernel)⟩
  | str x => exact ⟨_, .base (.str x), kit_ty (show kitB "str" "int" = some false by decide +kernel), kit_ty (show kitB "str" "tuple" = some false by decide +kernel), fun z => nomatch z⟩
  | tup s _ => exact ⟨_, tyx_tup s, kit_ty (show kitB "tuple" "int" = some false by decide +kernel), kit_ty (show kitB "tuple" "tuple" = some true by decide +kernel), fun z => nomatch z⟩
  | oth t k1 k2 => exact ⟨_, t, k1, k2, fun z => nomatch z⟩
end

/-! ### promises of defs over data -/
/-- plain: some data come in, one comes out, nothing is changed -/
def spD (K : PySem.W.Frag) (f : List Dt → Option Dt) : Sp := fun vs H Q _ => ∃ ds r, DhAll K H vs ds ∧ f ds = some r ∧ ∀ v H', Same H H' → Dh K H' v r → Q v H'
/-- .. a new list of data comes out -/
def spL (K : PySem.W.Frag) (f : List Dt → Option (List Dt)) : Sp := fun vs H Q _ => ∃ ds rs, DhAll K H vs ds ∧ f ds = some rs ∧ ∀ p xs H', H p = none → Same H H' → H' p = some (.lst xs) → DhAll K H' xs rs → Q (.ref p) H'
theorem Dh.bl_inv {K : PySem.W.Frag} {H : Hp} {v : V} {b : Bool} (h : Dh K H v (.bl b)) : v = .bl b := by cases h; rfl
theorem Dh.int_inv {K : PySem.W.Frag} {H : Hp} {v : V} {i : Int} (h : Dh K H v (.int i)) : v = .int i := by cases h; rfl
theorem Dh.non_inv {K : PySem.W.Frag} {H : Hp} {v : V} (h : Dh K H v .non) : v = .non := by cases h; rfl
theorem Dh.tup_inv {K : PySem.W.Frag} {H : Hp} {v : V} {ds : List Dt} (h : Dh K H v (.tup ds)) : ∃ a xs, v = .ref a ∧ SqT K H a xs ∧ DhAll K H xs ds := by
  cases h with
  | tup s t => exact ⟨_, _, rfl, s, t⟩
/-- the call of such a def -/
theorem spD_of {K : PySem.W.Frag} {f : List Dt → Option Dt} {vs : List V} {H : Hp} {Q : VK} {ds : List Dt} {r : Dt} (h : DhAll K H vs ds) (e : f ds = some r) (q : ∀ v H', Same H H' → Dh K H' v r → Q v H') : spD K f vs H Q E0 := ⟨ds, r, h, e, q⟩
theorem spD_bl {K : PySem.W.Frag} {f : List Dt → Option Dt} {vs : List V} {H : Hp} {Q : VK} {ds : List Dt} {b : Bool} (h : DhAll K H vs ds) (e : f ds = some (.bl b)) (q : ∀ H', Same H H' → Q (.bl b) H') : spD K f vs H Q E0 :=
  ⟨ds, _, h, e, fun v H' s d => by rw [d.bl_inv]; exact q H' s⟩
theorem spD_int {K : PySem.W.Frag} {f : List Dt → Option Dt} {vs : List V} {H : Hp} {Q : VK} {ds : List Dt} {b : Int} (h : DhAll K H vs ds) (e : f ds = some (.int b)) (q : ∀ H', Same H H' → Q (.int b) H') : spD K f vs H Q E0 :=
  ⟨ds, _, h, e, fun v H' s d => by rw [d.int_inv]; exact q H' s⟩
end Fm
namespace Fm
open PySem PySem.Spec PyProof.Rows L2
/-! ### zip of a list and a tuple that both stay as they are -/
/-- a list (true), a tuple (false) that is read -/
def SqA (L : Bool) (K : PySem.W.Frag) (H : Hp) (a : Addr) (xs : List V) : Prop := match L with
  | true => SqL K H a xs
  | false => SqT K H a xs
theorem Ext.sqTs {K : PySem.W.Frag} {H H' : Hp} {a : Addr} {xs : List V} {L : Bool} (e : Same H H') (h : SqA L K H a xs) : SqA L K H' a xs := match L, h with
  | true, h => e.seq h
  | false, h => (Ext.of e).sqT h
theorem SqA.any {K : PySem.W.Frag} {H : Hp} {a : Addr} {xs : List V} {L : Bool} (h : SqA L K H a xs) : SqL K H a xs ∨ SqT K H a xs := match L, h with
  | true, h => .inl h
  | false, h => .inr h
/-- pairs of the items of a list or tuple and of a tuple that stay as they are -/
def ItM (L : Bool) (K : PySem.W.Frag) (a b : Addr) (xs ys : List V) : It where
  go := fun i H => SqA L K H a xs ∧ SqT K H b ys ∧ i < xs.length ∧ i < ys.length
  yld := fun i H v H' => ∃ T x y, v = .ref T ∧ H T = none ∧ H' = upd H T (.tup [x, y]) ∧ xs[i]? = some x ∧ ys[i]? = some y
  stop := fun i H => SqA L K H a xs ∧ SqT K H b ys ∧ i = min xs.length ys.length
theorem vals_at {xs : List V} {us : List Value} {i : Nat} {u : Value} (r : Vals xs us) (h : us[i]? = some u) : ∃ x, xs[i]? = some x ∧ RelV x u := by
  obtain ⟨hl, e⟩ := List.getElem?_eq_some_iff.mp h
  have hx : i < xs.length := by rw [r.length]; exact hl
  obtain ⟨u', e1, e2⟩ := r.get (List.getElem?_eq_getElem hx)
  rw [h] at e1
  cases e1
  exact ⟨_, List.getElem?_eq_getElem hx, e2⟩
theorem turn_m {P : Program} {w : World} {K : PySem.W.Frag} {elts : List Expr} {kk : Nat} {tp : Pos} {a b z TI TO i1 i2 : Addr} {xs ys : List V} (S : ZipSep2 z TI TO i1 i2 [i1, a] [i2, b]) (n1 : a ≠ i1) (n2 : b ≠ i2) :
    Turn P w K (.Tuple elts kk tp) (ItM true K a b xs ys) [z, TI, TO, i1, i2] z
      (fun i h => IsZip h z TI TO .none ∧ IsTupOf2 h TI (.ref i1) (.ref i2) ∧ (∃ u v, IsTupOf2 h TO u v) ∧ h.IsListIter i1 a i ∧ h.IsTupleIter i2 b i) where
  mem := List.mem_cons_self ..
  obj := by
    rintro i h ⟨q1, q2, ⟨u, v, q3⟩, ⟨o4, q4, _, d4⟩, ⟨o5, q5, _, d5⟩⟩ c hc
    rcases (show c = z ∨ c = TI ∨ c = TO ∨ c = i1 ∨ c = i2 by simpa using hc) with e | e | e | e | e <;> subst e
    · exact ⟨_, q1, fun _ y => nomatch y⟩
    · exact ⟨_, q2, fun _ y => nomatch y⟩
    · exact ⟨_, q3, fun _ y => nomatch y⟩
    · exact ⟨o4, q4, fun _ y => by rw [d4] at y; cases y⟩
    · exact ⟨o5, q5, fun _ y => by rw [d5] at y; cases y⟩
  keep := by
    rintro i h h' ⟨q1, q2, ⟨u, v, q3⟩, q4, q5⟩ k
    exact ⟨k _ (by simp) _ q1, k _ (by simp) _ q2, ⟨u, v, k _ (by simp) _ q3⟩, q4.at fun o e => k _ (by simp) o e, q5.at fun o e => k _ (by simp) o e⟩
  item := by
    intro X hP hw hK hc i pins s σ H E I hf st hg
    subst hP hw hK
    obtain ⟨hx, hy, lx, ly⟩ := hg
    obtain ⟨us, rx, px, _⟩ := I.list hx
    obtain ⟨ws, ry, py, _⟩ := I.tuple hy
    have hd : X.A.in1.handled = none := I.ok.hd hc
    have W := GoesN.zip2 (elts := elts) (x1 := kk) (pos := tp) S (Draws.list (prog := X.prog) (w := X.w) hd i1 a n1 us.toArray) (Draws.tuple (prog := X.prog) (w := X.w) hd i2 b n2 ws.toArray)
    have hlt : i < min us.toArray.size ws.toArray.size := by
      rw [List.size_toArray, List.size_toArray, ← rx.length, ← ry.length]
      omega
    obtain ⟨q1, q2, q3, q4, q5⟩ := st
    refine W.goes i s (fun v s2 => ∃ x H', Inv X pins σ H' s2 ∧ RelV x v ∧ (ItM true X.K a b xs ys).yld i H x H' ∧ (IsZip s2.heap z TI TO .none ∧ IsTupOf2 s2.heap TI (.ref i1) (.ref i2) ∧ (∃ u v, IsTupOf2 s2.heap TO u v) ∧ s2.heap.IsListIter i1 a (i + 1) ∧ s2.heap.IsTupleIter i2 b (i + 1)) ∧ ∀ c ∈ [z, TI, TO, i1, i2], H' c = none) E hlt
      ⟨q1, q2, q3, ⟨q4, px.isList⟩, q5, py⟩ fun v h' tk hY st' hk _ => ?_
    obtain ⟨T, u, v', rfl, hT, hu, hv, hTt⟩ := hY
    obtain ⟨g1, g2, g3, ⟨g4, _⟩, g5, _⟩ := st'
    obtain ⟨x, ex, rxu⟩ := vals_at rx (show us[i]? = some u by simpa using hu)
    obtain ⟨y, ey, ryu⟩ := vals_at ry (show ws[i]? = some v' by simpa using hv)
    have new : ObjOk X.prog X.w (upd H T (.tup [x, y])) h' T (.tup [x, y]) := ⟨by show 2 ≤ sizeLine; decide, [u, v'], .cons rxu (.cons ryu .nil), hTt⟩
    refine ⟨.ref T, _, I.turnedNew (t' := tk) (ch := [z, TI, TO, i1, i2]) (fun c o hn e => hk c o (fun m => hn ?_) e) hf hT new, rfl, ⟨T, x, y, rfl, I.hok.fresh hT, rfl, ex, ey⟩, ⟨g1, g2, g3, g4, g5⟩, fun c hm => ?_⟩
    · simp only [List.mem_cons, List.not_mem_nil, or_false] at m ⊢
      rcases m with m | m | m | m <;> simp [m]
    · obtain ⟨o, e⟩ : ∃ o, s.heap.get? c = some o := by
        rcases (show c = z ∨ c = TI ∨ c = TO ∨ c = i1 ∨ c = i2 by simpa using hm) with e | e | e | e | e <;> subst e
        · exact ⟨_, q1⟩
        · exact ⟨_, q2⟩
        · obtain ⟨_, _, q⟩ := q3
          exact ⟨_, q⟩
        · obtain ⟨o, q, _⟩ := q4
          exact ⟨o, q⟩
        · obtain ⟨o, q, _⟩ := q5
          exact ⟨o, q⟩
      rw [upd_ne (Nat.ne_of_lt (Nat.lt_of_lt_of_le (Heap.lt_size e) hT))]
      exact (hf c hm).1
  done := by
    intro X hP hw hK hc i pins s σ H E I hf st hg
    subst hP hw hK
    obtain ⟨hx, hy, hi⟩ := hg
    obtain ⟨us, rx, px, _⟩ := I.list hx
    obtain ⟨ws, ry, py, _⟩ := I.tuple hy
    have hd : X.A.in1.handled = none := I.ok.hd hc
    have W := GoesN.zip2 (elts := elts) (x1 := kk) (pos := tp) S (Draws.list (prog := X.prog) (w := X.w) hd i1 a n1 us.toArray) (Draws.tuple (prog := X.prog) (w := X.w) hd i2 b n2 ws.toArray)
    have hn : i = min us.toArray.size ws.toArray.size := by
      rw [List.size_toArray, List.size_toArray, ← rx.length, ← ry.length]
      exact hi
    subst hn
    obtain ⟨q1, q2, q3, q4, q5⟩ := st
    refine W.stops s (fun s1 => Inv X pins σ H s1) E ⟨q1, q2, q3, ⟨q4, px.isList⟩, q5, py⟩ fun h' tk hk _ => ?_
    refine I.turnedL (t' := tk) (ch := [z, TI, TO, i1, i2]) (fun c o hn e => hk c o (fun m => hn ?_) e) hf
    simp only [List.mem_cons, List.not_mem_nil, or_false] at m ⊢
    rcases m with m | m | m | m <;> simp [m]
  self := fun _ _ _ _ _ st q => wpAny_pyIter_zip st.1 q
theorem turn_t {P : Program} {w : World} {K : PySem.W.Frag} {elts : List Expr} {kk : Nat} {tp : Pos} {a b z TI TO i1 i2 : Addr} {xs ys : List V} (S : ZipSep2 z TI TO i1 i2 [i1, a] [i2, b]) (n1 : a ≠ i1) (n2 : b ≠ i2) :
    Turn P w K (.Tuple elts kk tp) (ItM false K a b xs ys) [z, TI, TO, i1, i2] z
      (fun i h => IsZip h z TI TO .none ∧ IsTupOf2 h TI (.ref i1) (.ref i2) ∧ (∃ u v, IsTupOf2 h TO u v) ∧ h.IsTupleIter i1 a i ∧ h.IsTupleIter i2 b i) where
  mem := List.mem_cons_self ..
  obj := by
    rintro i h ⟨q1, q2, ⟨u, v, q3⟩, ⟨o4, q4, _, d4⟩, ⟨o5, q5, _, d5⟩⟩ c hc
    rcases (show c = z ∨ c = TI ∨ c = TO ∨ c = i1 ∨ c = i2 by simpa using hc) with e | e | e | e | e <;> subst e
    · exact ⟨_, q1, fun _ y => nomatch y⟩
    · exact ⟨_, q2, fun _ y => nomatch y⟩
    · exact ⟨_, q3, fun _ y => nomatch y⟩
    · exact ⟨o4, q4, fun _ y => by rw [d4] at y; cases y⟩
    · exact ⟨o5, q5, fun _ y => by rw [d5] at y; cases y⟩
  keep := by
    rintro i h h' ⟨q1, q2, ⟨u, v, q3⟩, q4, q5⟩ k
    exact ⟨k _ (by simp) _ q1, k _ (by simp) _ q2, ⟨u, v, k _ (by simp) _ q3⟩, q4.at fun o e => k _ (by simp) o e, q5.at fun o e => k _ (by simp) o e⟩
  item := by
    intro X hP hw hK hc i pins s σ H E I hf st hg
    subst hP hw hK
    obtain ⟨hx, hy, lx, ly⟩ := hg
    obtain ⟨us, rx, px, _⟩ := I.tuple hx
    obtain ⟨ws, ry, py, _⟩ := I.tuple hy
    have hd : X.A.in1.handled = none := I.ok.hd hc
    have W := GoesN.zip2 (elts := elts) (x1 := kk) (pos := tp) S (Draws.tuple (prog := X.prog) (w := X.w) hd i1 a n1 us.toArray) (Draws.tuple (prog := X.prog) (w := X.w) hd i2 b n2 ws.toArray)
    have hlt : i < min us.toArray.size ws.toArray.size := by
      rw [List.size_toArray, List.size_toArray, ← rx.length, ← ry.length]
      omega
    obtain ⟨q1, q2, q3, q4, q5⟩ := st
    refine W.goes i s (fun v s2 => ∃ x H', Inv X pins σ H' s2 ∧ RelV x v ∧ (ItM false X.K a b xs ys).yld i H x H' ∧ (IsZip s2.heap z TI TO .none ∧ IsTupOf2 s2.heap TI (.ref i1) (.ref i2) ∧ (∃ u v, IsTupOf2 s2.heap TO u v) ∧ s2.heap.IsTupleIter i1 a (i + 1) ∧ s2.heap.IsTupleIter i2 b (i + 1)) ∧ ∀ c ∈ [z, TI, TO, i1, i2], H' c = none) E hlt
      ⟨q1, q2, q3, ⟨q4, px⟩, q5, py⟩ fun v h' tk hY st' hk _ => ?_
    obtain ⟨T, u, v', rfl, hT, hu, hv, hTt⟩ := hY
    obtain ⟨g1, g2, g3, ⟨g4, _⟩, g5, _⟩ := st'
    obtain ⟨x, ex, rxu⟩ := vals_at rx (show us[i]? = some u by simpa using hu)
    obtain ⟨y, ey, ryu⟩ := vals_at ry (show ws[i]? = some v' by simpa using hv)
    have new : ObjOk X.prog X.w (upd H T (.tup [x, y])) h' T (.tup [x, y]) := ⟨by show 2 ≤ sizeLine; decide, [u, v'], .cons rxu (.cons ryu .nil), hTt⟩
    refine ⟨.ref T, _, I.turnedNew (t' := tk) (ch := [z, TI, TO, i1, i2]) (fun c o hn e => hk c o (fun m => hn ?_) e) hf hT new, rfl, ⟨T, x, y, rfl, I.hok.fresh hT, rfl, ex, ey⟩, ⟨g1, g2, g3, g4, g5⟩, fun c hm => ?_⟩
    · simp only [List.mem_cons, List.not_mem_nil, or_false] at m ⊢
      rcases m with m | m | m | m <;> simp [m]
    · obtain ⟨o, e⟩ : ∃ o, s.heap.get? c = some o := by
        rcases (show c = z ∨ c = TI ∨ c = TO ∨ c = i1 ∨ c = i2 by simpa using hm) with e | e | e | e | e <;> subst e
        · exact ⟨_, q1⟩
        · exact ⟨_, q2⟩
        · obtain ⟨_, _, q⟩ := q3
          exact ⟨_, q⟩
        · obtain ⟨o, q, _⟩ := q4
          exact ⟨o, q⟩
        · obtain ⟨o, q, _⟩ := q5
          exact ⟨o, q⟩
      rw [upd_ne (Nat.ne_of_lt (Nat.lt_of_lt_of_le (Heap.lt_size e) hT))]
      exact (hf c hm).1
  done := by
    intro X hP hw hK hc i pins s σ H E I hf st hg
    subst hP hw hK
    obtain ⟨hx, hy, hi⟩ := hg
    obtain ⟨us, rx, px, _⟩ := I.tuple hx
    obtain ⟨ws, ry, py, _⟩ := I.tuple hy
    have hd : X.A.in1.handled = none := I.ok.hd hc
    have W := GoesN.zip2 (elts := elts) (x1 := kk) (pos := tp) S (Draws.tuple (prog := X.prog) (w := X.w) hd i1 a n1 us.toArray) (Draws.tuple (prog := X.prog) (w := X.w) hd i2 b n2 ws.toArray)
    have hn : i = min us.toArray.size ws.toArray.size := by
      rw [List.size_toArray, List.size_toArray, ← rx.length, ← ry.length]
      exact hi
    subst hn
    obtain ⟨q1, q2, q3, q4, q5⟩ := st
    refine W.stops s (fun s1 => Inv X pins σ H s1) E ⟨q1, q2, q3, ⟨q4, px⟩, q5, py⟩ fun h' tk hk _ => ?_
    refine I.turnedL (t' := tk) (ch := [z, TI, TO, i1, i2]) (fun c o hn e => hk c o (fun m => hn ?_) e) hf
    simp only [List.mem_cons, List.not_mem_nil, or_false] at m ⊢
    rcases m with m | m | m | m <;> simp [m]
  self := fun _ _ _ _ _ st q => wpAny_pyIter_zip st.1 q
/-- zip(list or tuple, tuple) as what a for walks -/
def iZipM (K : PySem.W.Frag) (ta : TA) : TI := fun σ H R => ta σ H fun vs H1 => ∃ (L : Bool) (a b : Addr) (xs ys : List V), vs = [.ref a, .ref b] ∧ SqA L K H1 a xs ∧ SqT K H1 b ys ∧ R (ItM L K a b xs ys) H1
theorem pi_zipM {X : Cx} {e e2 : Expr} {ta : TA} {p pos tp : Pos} {elts : List Expr} {kk : Nat} (hg : Gl X "zip") (hm : X.mg "zip" = none) (ha : PA X [e, e2] ta)
    (h1 : starEach [e, e2] X.env = (false, eval e X.env) :: starEach [e2] X.env := by rfl) (h2 : (backTo pos (starEach [e2] X.env)).any (·.1) = false := by rfl) :
    PI X (.Tuple elts kk tp) (.Call (.Name "zip" p) [e, e2] [] pos) (iZipM X.K ta) := by
  constructor
  intro pins s σ H R I h
  refine Call_ (ld_blt I hg hm PyProof.Rows.boot_zip (PyProof.Rows.callWith_type1 (thn (ha.run pos pins s σ H _ I h) fun us s1 q => ?_) h1 h2))
  obtain ⟨vs, H1, I1, r1, L, a, b, xs, ys, rfl, hx, hy, q⟩ := q
  match us, r1 with
  | [_, _], .cons ra (.cons rb .nil) =>
    cases ra
    cases rb
    cases L with
    | true =>
      have hx : SqL X.K H1 a xs := hx
      obtain ⟨us, rx, px, _⟩ := I1.list hx
      obtain ⟨ws, ry, py, _⟩ := I1.tuple hy
      have la : a < s1.heap.objs.size := px.lt
      have lb : b < s1.heap.objs.size := by
        obtain ⟨o, e, _⟩ := py
        exact Heap.lt_size e
      refine zip_begins2 (begins_list a us.toArray) (begins_tuple b ws.toArray) px.isList py fun h' k1 k2 k3 k4 k5 k6 k7 => wpAny_pyIter_zip k1 ?_
      have I2 : Inv X pins σ H1 { s1 with heap := h' } := I1.kept (t' := s1.toks) k7
      refine ⟨_, [s1.heap.objs.size + 4, s1.heap.objs.size + 2, s1.heap.objs.size + 3, s1.heap.objs.size, s1.heap.objs.size + 1], _, _, H1, rfl, I2,
        turn_m (zip_sep2 (N := s1.heap.objs.size) (fp1 := [a]) (fp2 := [b]) (by simpa using la) (by simpa using lb)) (Nat.ne_of_lt la) (Nat.ne_of_lt (Nat.lt_succ_of_lt lb)), ⟨k1, k2, ⟨_, _, k3⟩, ⟨_, k4, rfl, rfl⟩, ⟨_, k5, rfl, rfl⟩⟩, fun c hc => ?_, q⟩
      have hle : s1.heap.objs.size ≤ c := by
        simp only [List.mem_cons, List.not_mem_nil, or_false] at hc
        rcases hc with e | e | e | e | e <;> (rw [e]; first | exact Nat.le_refl _ | exact Nat.le_add_right _ _)
      exact I1.fpOk hle (I1.hok.fresh hle)
    | false =>
      have hx : SqT X.K H1 a xs := hx
      obtain ⟨us, rx, px, _⟩ := I1.tuple hx
      obtain ⟨ws, ry, py, _⟩ := I1.tuple hy
      have la : a < s1.heap.objs.size := by
        obtain ⟨o, e, _⟩ := px
        exact Heap.lt_size e
      have lb : b < s1.heap.objs.size := by
        obtain ⟨o, e, _⟩ := py
        exact Heap.lt_size e
      refine zip_begins2 (begins_tuple a us.toArray) (begins_tuple b ws.toArray) px py fun h' k1 k2 k3 k4 k5 k6 k7 => wpAny_pyIter_zip k1 ?_
      have I2 : Inv X pins σ H1 { s1 with heap := h' } := I1.kept (t' := s1.toks) k7
      refine ⟨_, [s1.heap.objs.size + 4, s1.heap.objs.size + 2, s1.heap.objs.size + 3, s1.heap.objs.size, s1.heap.objs.size + 1], _, _, H1, rfl, I2,
        turn_t (zip_sep2 (N := s1.heap.objs.size) (fp1 := [a]) (fp2 := [b]) (by simpa using la) (by simpa using lb)) (Nat.ne_of_lt la) (Nat.ne_of_lt (Nat.lt_succ_of_lt lb)), ⟨k1, k2, ⟨_, _, k3⟩, ⟨_, k4, rfl, rfl⟩, ⟨_, k5, rfl, rfl⟩⟩, fun c hc => ?_, q⟩
      have hle : s1.heap.objs.size ≤ c := by
        simp only [List.mem_cons, List.not_mem_nil, or_false] at hc
        rcases hc with e | e | e | e | e <;> (rw [e]; first | exact Nat.le_refl _ | exact Nat.le_add_right _ _)
      exact I1.fpOk hle (I1.hok.fresh hle)
/-- a loop over such pairs -/
theorem for_zipM {L : Bool} {K : PySem.W.Frag} {a b : Addr} {xs ys : List V} {g : TG} {tb : TS} {D : Ends} {σ : L2.St} {H : Hp} (Pv : Nat → L2.St → Hp → Prop) (h0 : Pv 0 σ H) (hq : ∀ i σ H, Pv i σ H → SqA L K H a xs ∧ SqT K H b ys)
    (hs : ∀ (i : Nat) (x y : V) (T : Addr) (σ : L2.St) (H : Hp), xs[i]? = some x → ys[i]? = some y → Pv i σ H → H T = none → g (.ref T) σ (upd H T (.tup [x, y])) fun σ2 H2 => tb { D with nx := Pv (i + 1), ct := Pv (i + 1), bk := D.nx } σ2 H2)
    (hd : ∀ σ H, Pv (min xs.length ys.length) σ H → D.nx σ H) :
    ∃ W : Nat → Nat → L2.St → Hp → Prop, (∃ m, W 0 m σ H) ∧ ∀ i m σ H, W i m σ H →
      ((ItM L K a b xs ys).stop i H ∧ D.nx σ H) ∨ ((ItM L K a b xs ys).go i H ∧ ∃ N : L2.St → Hp → Prop, (∀ σ' H', N σ' H' → ∃ m', m' < m ∧ W (i + 1) m' σ' H') ∧ ∀ v H', (ItM L K a b xs ys).yld i H v H' → g v σ H' fun σ2 H2 => tb { D with nx := N, ct := N, bk := D.nx } σ2 H2) := by
  refine ⟨fun i m σ H => i + m = min xs.length ys.length ∧ Pv i σ H, ⟨_, Nat.zero_add _, h0⟩, ?_⟩
  rintro i m σ H ⟨em, p⟩
  obtain ⟨qx, qy⟩ := hq i σ H p
  cases m with
  | zero =>
    have ei : i = min xs.length ys.length := em
    refine .inl ⟨⟨qx, qy, ei⟩, hd σ H ?_⟩
    rw [← ei]
    exact p
  | succ m =>
    refine .inr ⟨⟨qx, qy, by omega, by omega⟩, Pv (i + 1), fun σ' H' p' => ⟨m, Nat.lt_succ_self m, by omega, p'⟩, fun v H' y => ?_⟩
    obtain ⟨T, x, y', rfl, hT, rfl, f1, f2⟩ := y
    exact hs i x y' T σ H f1 f2 p hT
end Fm
namespace Fm
open PySem PySem.Spec PyProof.Rows L2
/-- a comprehension over a list, within it over range(n): Pv by both turns and the heap -/
theorem lc2_lr {K : PySem.W.Frag} {a : Addr} {xs : List V} {n : Nat} {i0 j0 : Nat} {ta : TA} {te : TE} {vs vs1 : List Nat} {σ : L2.St} {H1 : Hp} {D : Addr} {Qd : Hp → Prop} (Pv : Nat → Nat → Hp → Prop) (hn : n < 2 ^ 62)
    (hw : ∀ x, wipe ((wipe σ vs).set i0 (some x)) vs = wipe σ vs) (hw1 : ∀ x y, wipe ((wipe ((wipe σ vs).set i0 (some x)) vs1).set j0 (some y)) vs1 = wipe ((wipe σ vs).set i0 (some x)) vs1) (h0 : Pv 0 0 (upd H1 D (.lst []))) (hl : ∀ i j H, Pv i j H → SqL K H a xs)
    (hr : ∀ i x H, xs[i]? = some x → Pv i 0 H → ∀ R : List V → Hp → Prop, R [.int n] H → ta ((wipe σ vs).set i0 (some x)) H R)
    (hs : ∀ (i j : Nat) x H, xs[i]? = some x → j < n → Pv i j H → te ((wipe ((wipe σ vs).set i0 (some x)) vs1).set j0 (some (.int (j : Int)))) H fun y H7 => ∃ acc, H7 D = some (.lst acc) ∧ acc.length < sizeLine ∧ Pv i (j + 1) (upd H7 D (.lst (acc ++ [y]))))
    (hj : ∀ i H, i < xs.length → Pv i n H → Pv (i + 1) 0 H) (hd : ∀ H, Pv xs.length 0 H → Qd H) :
    ∃ W : Nat → Nat → Hp → Prop, (∃ m, W 0 m (upd H1 D (.lst []))) ∧ ∀ i m H, W i m H →
      ((Itl K a).stop i H ∧ Qd H) ∨ ((Itl K a).go i H ∧ ∃ Nx : Hp → Prop, (∀ H', Nx H' → ∃ m', m' < m ∧ W (i + 1) m' H') ∧ ∀ x H', (Itl K a).yld i H x H' → gName i0 x (wipe σ vs) H' fun σ2 H2 => wipe σ2 vs = wipe σ vs ∧ tYes σ2 H2 fun b H3 =>
        if b = true then (iRng1 ta) σ2 H3 fun J1 H4 => ∃ W1 : Nat → Nat → Hp → Prop, (∃ m, W1 0 m H4) ∧ ∀ j k H, W1 j k H →
          (J1.stop j H ∧ Nx H) ∨ (J1.go j H ∧ ∃ Nx1 : Hp → Prop, (∀ H', Nx1 H' → ∃ k', k' < k ∧ W1 (j + 1) k' H') ∧ ∀ x H', J1.yld j H x H' → gName j0 x (wipe σ2 vs1) H' fun σ3 H5 => wipe σ3 vs1 = wipe σ2 vs1 ∧ tYes σ3 H5 fun b H6 =>
            if b = true then te σ3 H6 fun y H7 => ∃ acc, H7 D = some (.lst acc) ∧ acc.length < sizeLine ∧ Nx1 (upd H7 D (.lst (acc ++ [y]))) else Nx1 H6)
        else Nx H3) := by
  refine ⟨fun i m H => i + m = xs.length ∧ Pv i 0 H, ⟨xs.length, Nat.zero_add _, h0⟩, fun i m H h => ?_⟩
  obtain ⟨em, p⟩ := h
  have q := hl i 0 H p
  cases m with
  | zero =>
    have ei : i = xs.length := em
    subst ei
    exact .inl ⟨⟨xs, q, Nat.le_refl _⟩, hd H p⟩
  | succ m =>
    have hlt : i < xs.length := by omega
    refine .inr ⟨⟨xs, xs[i], q, List.getElem?_eq_getElem hlt⟩, Pv (i + 1) 0, fun H' p' => ⟨m, Nat.lt_succ_self m, by omega, p'⟩, fun x H' y => ?_⟩
    obtain ⟨rfl, y⟩ := y
    have hx := y xs q
    refine ⟨hw x, ?_⟩
    dsimp only [tYes]
    rw [if_pos rfl]
    refine hr i x _ hx p _ ⟨(n : Int), rfl, by omega, by omega, ?_⟩
    refine ⟨fun j k H => j + k = n ∧ Pv i j H, ⟨n, Nat.zero_add _, p⟩, fun j k H h => ?_⟩
    obtain ⟨ek, pj⟩ := h
    cases k with
    | zero =>
      have ej : j = n := ek
      subst ej
      exact .inl ⟨by show ((j : Nat) : Int).toNat ≤ j; omega, hj i H hlt pj⟩
    | succ k =>
      have hjn : j < n := by omega
      refine .inr ⟨by show j < ((n : Nat) : Int).toNat; omega, Pv i (j + 1), fun H' p' => ⟨k, Nat.lt_succ_self k, by omega, p'⟩, fun y H' e => ?_⟩
      obtain ⟨rfl, rfl⟩ := e
      have e0 : (0 : Int) + (j : Int) = (j : Int) := Int.zero_add _
      rw [e0]
      refine ⟨hw1 x _, ?_⟩
      rw [if_pos rfl]
      exact hs i j x _ hx hjn pj
end Fm
namespace Fm
open PySem PySem.Spec PyProof.Rows L2
/-! ### rules whose reading is to name the written part by itself (within a comprehension's block) -/
section
variable {X : Cx} (K : PySem.W.Frag)
theorem op_catK (e : X.K = K := by rfl) : OpR X (binaryOp .Add) (rCatA K) := e ▸ op_catA
theorem op_eqK (hu : X.A.units + 64 < cLine) (e : X.K = K := by rfl) : OpR X (compareOp .Eq) (rEqD K) := e ▸ op_eqD hu
theorem op_neK (hu : X.A.units + 64 < cLine) (e : X.K = K := by rfl) : OpR X (compareOp .NotEq) (rNeD K) := e ▸ op_neD hu
theorem ix_tupK (e : X.K = K := by rfl) : IxR X (rIxT K) := e ▸ ix_tup
theorem ix_listK (e : X.K = K := by rfl) : IxR X (rIxL K) := e ▸ ix_list
theorem call_isiK' (e : X.K = K := by rfl) : CallR X (.builtin "isinstance") (rIsi K) := e ▸ call_isi
theorem pg_tupK {es : List Expr} {k : Nat} {t : TGs} {n : Nat} {pos : Pos} (hc : X.calm = true) (h : PGs X es t) (e : X.K = K := by rfl) (hn : (assignEach es X.env).length = n := by rfl) (hst : (assignEach es X.env).findIdx? (·.1) = none := by rfl) :
    PG X (.Tuple es k pos) (gTup K n t) := e ▸ pg_tup hc h hn hst
theorem pi_tupK {tg l : Expr} {tl : TE} (hl : PE X l tl) (e : X.K = K := by rfl) : PI X tg l (iTup K tl) := e ▸ pi_tup hl
theorem pi_listK {tg l : Expr} {tl : TE} (hl : PE X l tl) (e : X.K = K := by rfl) : PI X tg l (iList K tl) := e ▸ pi_list hl
theorem sl_tupK (e : X.K = K := by rfl) : SlR X (rSlA K) := e ▸ sl_tupA
theorem sl_listK (e : X.K = K := by rfl) : SlR X (rSlL K) := e ▸ sl_list
/-- len of a list or tuple; tuple(list or tuple) -/
def rLenK (K : PySem.W.Frag) : List V → Hp → VK → Prop := fun xs H Q => ∃ p ys, xs = [.ref p] ∧ (SqL K H p ys ∨ SqT K H p ys) ∧ Q (.int ys.length) H
theorem call_lenK (e : X.K = K := by rfl) : CallR X (.builtin "len") (rLenK K) := e ▸ call_len_seq
def rTupK (K : PySem.W.Frag) : List V → Hp → VK → Prop := fun xs H Q => ∃ p ys, xs = [.ref p] ∧ ((SqL K H p ys ∧ ∀ l, H l = none → Q (.ref l) (upd H l (.tup ys))) ∨ (SqT K H p ys ∧ Q (.ref p) H))
theorem call_tupleK (e : X.K = K := by rfl) : CallR X (.type "tuple") (rTupK K) := e ▸ call_tuple_of
end
end Fm
namespace Fm
open PySem PySem.Spec PyProof.Rows L2
/-! ### dict(zip(t, u)) of two tuples: the pair that zip gave out before is still held -/
section
variable {prog : Program} {w : World} {A : Around} {E : Value → Shared → Prop} {s : Shared}
theorem zh_item {z TI TO T i1 i2 l1 l2 : Addr} {f : Bool} {oT : Obj} {k1 k2 : Nat} {xs ys : Array Value} {x y : Value} {Q : Value → Shared → Prop} (D : ZipApart z TI TO i1 i2 l1 l2) (hz : IsZipHeld s.heap z TI TO T f) (hT : s.heap.get? T = some oT) (hTI : IsPair s.heap TI (.ref i1) (.ref i2))
    (g1 : s.heap.IsTupleIter i1 l1 k1) (g2 : s.heap.IsTupleIter i2 l2 k2) (t1 : s.heap.IsTuple l1 xs) (t2 : s.heap.IsTuple l2 ys) (hx : xs[k1]? = some x) (hy : ys[k2]? = some y)
    (q : ∀ h', IsZipHeld h' z TI TO T true → h'.IsTupleIter i1 l1 (k1 + 1) → h'.IsTupleIter i2 l2 (k2 + 1) → IsPair h' s.heap.objs.size x y → (∀ c o, c ≠ z → c ≠ i1 → c ≠ i2 → s.heap.get? c = some o → h'.get? c = some o) → Q (.ref s.heap.objs.size) { s with heap := h' }) :
    wpAny (model prog w) A (Builtin.«zip.__next__» ⟨[.ref z], []⟩) (fun fin s' => ∃ v, fin = .done (.ret v) ∧ Q v s') E s := by
  show wpAny _ _ (field (.ref z) 2 >>= _) _ _ _; refine wpAny_bind (wpAny_field hz rfl (x := .bool false) rfl ?_)
  show wpAny _ _ (field (.ref z) 3 >>= _) _ _ _; refine wpAny_bind (wpAny_field hz rfl (x := .ref TI) rfl (wpAny_bind (wpAny_seqItems hTI rfl ?_)))
  show wpAny _ _ (Builtin.SmallTypes.ownedTupleIsFree (.ref z) >>= _) _ _ _; refine wpAny_bind (wpAny_tupleHeld_zip hz hT fun ha za sa => ?_)
  simp only [Bool.false_eq_true, if_false]; refine wpAny_bind ?_; rw [← Array.forIn_toList]; simp only [List.forIn_cons, List.forIn_nil]
  refine wpAny_bind (wpAny_bind (wpAny_holding ?_)); show wpAny _ _ (Builtin.SmallTypes.nextOf (.ref i1) >>= _) _ _ _
  refine wpAny_bind (RZ.nextOf_tuple_item (s := { s with heap := ha }) (g1.at fun o e => sa.extBut _ _ D.i1z e) (t1.at fun o e => sa.extBut _ _ D.l1z e) hx fun hb gb sb => wpAny_pure (wpAny_pure ?_))
  refine wpAny_bind (wpAny_bind (wpAny_holding ?_)); show wpAny _ _ (Builtin.SmallTypes.nextOf (.ref i2) >>= _) _ _ _
  refine wpAny_bind (RZ.nextOf_tuple_item (s := { s with heap := hb }) (g2.at fun o e => sb.extBut _ _ D.i12.symm (sa.extBut _ _ D.i2z e)) (t2.at fun o e => sb.extBut _ _ D.l2i1 (sa.extBut _ _ D.l2z e)) hy fun hc gc sc => wpAny_pure (wpAny_pure (wpAny_pure ?_)))
  show wpAny _ _ (newTuple [x, y] >>= _) _ _ _; refine wpAny_bind (wpAny_newTuple (wpAny_pure ⟨_, rfl, ?_⟩))
  have ez : hc.objs.size = s.heap.objs.size := by rw [sc.1, sb.1, sa.1]
  have kk : ∀ c o, c ≠ z → c ≠ i1 → c ≠ i2 → s.heap.get? c = some o → hc.get? c = some o := fun c o c1 c2 c3 e => sc.extBut _ _ c3 (sb.extBut _ _ c2 (sa.extBut _ _ c1 e))
  have hp : IsPair (hc.push { cls := .type "tuple", data := .seq #[x, y] }) hc.objs.size x y := Heap.get?_push_size _ rfl
  show Q (.ref hc.objs.size) _
  rw [ez] at hp ⊢
  exact q _ (Heap.get?_push_of_some _ (sc.extBut _ _ D.i2z.symm (sb.extBut _ _ D.i1z.symm za))) (gb.at fun o e => Heap.get?_push_of_some _ (sc.extBut _ _ D.i12 e)) (gc.at fun o e => Heap.get?_push_of_some _ e) hp fun c o c1 c2 c3 e => Heap.get?_push_of_some _ (kk c o c1 c2 c3 e)
theorem zh_end {z TI TO T i1 i2 l1 l2 : Addr} {f : Bool} {oT : Obj} {k1 k2 : Nat} {xs ys : Array Value} {Q : Fin → Shared → Prop} (hh : A.handled = none) (D : ZipApart z TI TO i1 i2 l1 l2) (hz : IsZipHeld s.heap z TI TO T f) (hT : s.heap.get? T = some oT) (hTI : IsPair s.heap TI (.ref i1) (.ref i2))
    (g1 : s.heap.IsTupleIter i1 l1 k1) (g2 : s.heap.IsTupleIter i2 l2 k2) (t1 : s.heap.IsTuple l1 xs) (t2 : s.heap.IsTuple l2 ys) (hend : xs[k1]? = none ∨ ys[k2]? = none)
    (q : ∀ h' e, (∀ c o, c ≠ z → c ≠ i1 → c ≠ i2 → s.heap.get? c = some o → h'.get? c = some o) → (∃ o, h'.get? e = some o ∧ o.cls = .type "StopIteration") → E (.ref e) { s with heap := h' }) :
    wpAny (model prog w) A (Builtin.«zip.__next__» ⟨[.ref z], []⟩) Q E s := by
  show wpAny _ _ (field (.ref z) 2 >>= _) _ _ _; refine wpAny_bind (wpAny_field hz rfl (x := .bool false) rfl ?_)
  show wpAny _ _ (field (.ref z) 3 >>= _) _ _ _; refine wpAny_bind (wpAny_field hz rfl (x := .ref TI) rfl (wpAny_bind (wpAny_seqItems hTI rfl ?_)))
  show wpAny _ _ (Builtin.SmallTypes.ownedTupleIsFree (.ref z) >>= _) _ _ _; refine wpAny_bind (wpAny_tupleHeld_zip hz hT fun ha za sa => ?_)
  simp only [Bool.false_eq_true, if_false]; refine wpAny_bind ?_; rw [← Array.forIn_toList]; simp only [List.forIn_cons, List.forIn_nil]
  refine wpAny_bind (wpAny_bind (wpAny_holding ?_)); show wpAny _ _ (Builtin.SmallTypes.nextOf (.ref i1) >>= _) _ _ _
  cases hx : xs[k1]? with
  | none => exact wpAny_bind (RZ.nextOf_tuple_end (s := { s with heap := ha }) hh (g1.at fun o e => sa.extBut _ _ D.i1z e) (t1.at fun o e => sa.extBut _ _ D.l1z e) hx fun hb e sb he => q hb e (fun c o c1 c2 _ x => sb _ _ c2 (sa.extBut _ _ c1 x)) he)
  | some x =>
    have hy : ys[k2]? = none := by
      rcases hend with n | n
      · rw [hx] at n; cases n
      · exact n
    refine wpAny_bind (RZ.nextOf_tuple_item (s := { s with heap := ha }) (g1.at fun o e => sa.extBut _ _ D.i1z e) (t1.at fun o e => sa.extBut _ _ D.l1z e) hx fun hb gb sb => wpAny_pure (wpAny_pure ?_))
    refine wpAny_bind (wpAny_bind (wpAny_holding ?_)); show wpAny _ _ (Builtin.SmallTypes.nextOf (.ref i2) >>= _) _ _ _
    exact wpAny_bind (RZ.nextOf_tuple_end (s := { s with heap := hb }) hh (g2.at fun o e => sb.extBut _ _ D.i12.symm (sa.extBut _ _ D.i2z e)) (t2.at fun o e => sb.extBut _ _ D.l2i1 (sa.extBut _ _ D.l2z e)) hy fun hc e sc he => q hc e (fun c o c1 c2 c3 x => sc _ _ c3 (sb.extBut _ _ c2 (sa.extBut _ _ c1 x))) he)
theorem zh_next {z TI TO T i1 i2 l1 l2 : Addr} {f : Bool} {oT : Obj} {k1 k2 : Nat} {xs ys : Array Value} {x y : Value} {Q : Option Value → Shared → Prop} (D : ZipApart z TI TO i1 i2 l1 l2) (hz : IsZipHeld s.heap z TI TO T f) (hT : s.heap.get? T = some oT) (hTI : IsPair s.heap TI (.ref i1) (.ref i2))
    (g1 : s.heap.IsTupleIter i1 l1 k1) (g2 : s.heap.IsTupleIter i2 l2 k2) (t1 : s.heap.IsTuple l1 xs) (t2 : s.heap.IsTuple l2 ys) (hx : xs[k1]? = some x) (hy : ys[k2]? = some y)
    (q : ∀ h', IsZipHeld h' z TI TO T true → h'.IsTupleIter i1 l1 (k1 + 1) → h'.IsTupleIter i2 l2 (k2 + 1) → IsPair h' s.heap.objs.size x y → (∀ c o, c ≠ z → c ≠ i1 → c ≠ i2 → s.heap.get? c = some o → h'.get? c = some o) → Q (some (.ref s.heap.objs.size)) { s with heap := h' }) :
    wpAny (model prog w) A (pyNext (.ref z)) Q E s := by
  have ty : s.TypeIs (.ref z) "zip" := ⟨_, hz, rfl⟩
  unfold pyNext
  exact wpAny_bind (wpAny_attempt (wpAny_callSpecial?_slot (name := Str.ofString "__next__") ty F.slot_zip_next (wpAny_call_entry F.slot_zip_next ty F.entry_zip_next (zh_item D hz hT hTI g1 g2 t1 t2 hx hy fun h' a1 a2 a3 a4 a5 => wpAny_pure (q h' a1 a2 a3 a4 a5)) (F.args_zip_next_1 _))))
theorem zh_stop {z TI TO T i1 i2 l1 l2 : Addr} {f : Bool} {oT : Obj} {k1 k2 : Nat} {xs ys : Array Value} {Q : Option Value → Shared → Prop} (hh : A.handled = none) (D : ZipApart z TI TO i1 i2 l1 l2) (hz : IsZipHeld s.heap z TI TO T f) (hT : s.heap.get? T = some oT) (hTI : IsPair s.heap TI (.ref i1) (.ref i2))
    (g1 : s.heap.IsTupleIter i1 l1 k1) (g2 : s.heap.IsTupleIter i2 l2 k2) (t1 : s.heap.IsTuple l1 xs) (t2 : s.heap.IsTuple l2 ys) (hend : xs[k1]? = none ∨ ys[k2]? = none)
    (q : ∀ h', (∀ c o, c ≠ z → c ≠ i1 → c ≠ i2 → s.heap.get? c = some o → h'.get? c = some o) → Q none { s with heap := h' }) : wpAny (model prog w) A (pyNext (.ref z)) Q E s := by
  have ty : s.TypeIs (.ref z) "zip" := ⟨_, hz, rfl⟩
  unfold pyNext
  refine wpAny_bind (wpAny_attempt (wpAny_callSpecial?_slot (name := Str.ofString "__next__") ty F.slot_zip_next (wpAny_call_entry F.slot_zip_next ty F.entry_zip_next (zh_end hh D hz hT hTI g1 g2 t1 t2 hend fun h' e k he => ?_) (F.args_zip_next_1 _))))
  obtain ⟨o, ho, hc⟩ := he
  exact wpAny_bind (wpAny_isInstance (T := "StopIteration") (b := true) ⟨o, ho, hc⟩ isSubtype_stop (wpAny_pure (q _ k)))
end
section
variable {prog : Program} {w : World}
theorem zipArg (z TI TO i1 i2 l1 l2 : Addr) (D : ZipApart z TI TO i1 i2 l1 l2) (xs ys : Array Value) : PairArg prog w "zip" z [z, TI, TO, i1, i2, l1, l2] [z, TO, i1, i2] (min xs.size ys.size) (fun i k v => xs[i]? = some k ∧ ys[i]? = some v)
    (fun h => IsZip h z TI TO .none ∧ IsPair h TI (.ref i1) (.ref i2) ∧ (∃ a b, IsPair h TO a b) ∧ h.IsTupleIter i1 l1 0 ∧ h.IsTupleIter i2 l2 0 ∧ h.IsTuple l1 xs ∧ h.IsTuple l2 ys) where
  type := fun s ok => ⟨_, ok.1, rfl⟩
  notDict := by decide
  keep := fun h h' ⟨a1, a2, ⟨u, v, a3⟩, a4, a5, a6, a7⟩ k => ⟨k _ _ a1, k _ _ a2, ⟨u, v, k _ _ a3⟩, a4.at fun o e => k _ o e, a5.at fun o e => k _ o e, a6.at fun o e => k _ o e, a7.at fun o e => k _ o e⟩
  there := fun h ⟨a1, a2, ⟨_, _, a3⟩, ⟨_, a4, _⟩, ⟨_, a5, _⟩, ⟨_, a6, _⟩, ⟨_, a7, _⟩⟩ b hb => by
    rcases (show b = z ∨ b = TI ∨ b = TO ∨ b = i1 ∨ b = i2 ∨ b = l1 ∨ b = l2 by simpa using hb) with e | e | e | e | e | e | e <;> rw [e]
    · exact ⟨_, a1⟩
    · exact ⟨_, a2⟩
    · exact ⟨_, a3⟩
    · exact ⟨_, a4⟩
    · exact ⟨_, a5⟩
    · exact ⟨_, a6⟩
    · exact ⟨_, a7⟩
  sub := fun b hb => by
    rcases (show b = z ∨ b = TO ∨ b = i1 ∨ b = i2 by simpa using hb) with e | e | e | e <;> simp [e]
  noKeys := fun A s Q E hA ok q => getAttrOr_miss_zip ok.1 rfl rfl rfl zip_no_keys (by decide +kernel) hA q
  iter := fun A s d Q E hA ⟨a1, a2, ⟨u0, v0, a3⟩, a4, a5, a6, a7⟩ hd hdf q => by
    have df : d ≠ z ∧ d ≠ TI ∧ d ≠ TO ∧ d ≠ i1 ∧ d ≠ i2 ∧ d ≠ l1 ∧ d ≠ l2 := by simpa [not_or] using hdf
    obtain ⟨d1, d2, d3, d4, d5, d6, d7⟩ := df
    refine wpAny_pyIter_zip a1 (q z [z, TO, i1, i2] (fun i h => IsPair h TI (.ref i1) (.ref i2) ∧ h.IsTupleIter i1 l1 i ∧ h.IsTupleIter i2 l2 i ∧ h.IsTuple l1 xs ∧ h.IsTuple l2 ys ∧
      ((IsZip h z TI TO .none ∧ ∃ a b, IsPair h TO a b) ∨ ∃ T f oT, IsZipHeld h z TI TO T f ∧ h.get? T = some oT ∧ T ≠ z ∧ T ≠ i1 ∧ T ≠ i2 ∧ T ≠ d)) s.heap s.toks ?_ ⟨a2, a4, a5, a6, a7, .inl ⟨a1, u0, v0, a3⟩⟩ (fun _ _ e => e) fun b hb => .inl hb)
    have out : ∀ {c : Addr}, c ∉ [z, TO, i1, i2] → c ≠ z ∧ c ≠ TO ∧ c ≠ i1 ∧ c ≠ i2 := fun {c} hc => by simpa [not_or] using hc
    constructor
    · intro m
      rcases (show d = z ∨ d = TO ∨ d = i1 ∨ d = i2 by simpa using m) with e | e | e | e
      · exact d1 e
      · exact d3 e
      · exact d4 e
      · exact d5 e
    · rintro i ha hb ⟨b2, b4, b5, b6, b7, st⟩ k
      refine ⟨k _ _ d2.symm b2, b4.at fun o e => k _ o d4.symm e, b5.at fun o e => k _ o d5.symm e, b6.at fun o e => k _ o d6.symm e, b7.at fun o e => k _ o d7.symm e, ?_⟩
      rcases st with ⟨b1, u, v, b3⟩ | ⟨T, f, oT, b1, bT, r1, r2, r3, r4⟩
      · exact .inl ⟨k _ _ d1.symm b1, u, v, k _ _ d3.symm b3⟩
      · exact .inr ⟨T, f, oT, k _ _ d1.symm b1, k _ _ r4 bT, r1, r2, r3, r4⟩
    · rintro i s1 Q1 E1 hi ⟨b2, b4, b5, b6, b7, st⟩ hds hQ
      have ex := Array.getElem?_eq_getElem (Nat.lt_of_lt_of_le hi (Nat.min_le_left xs.size ys.size))
      have ey := Array.getElem?_eq_getElem (Nat.lt_of_lt_of_le hi (Nat.min_le_right xs.size ys.size))
      have lt : ∀ {c o}, s1.heap.get? c = some o → s1.heap.objs.size ≠ c := fun e => Nat.ne_of_gt (Heap.lt_size e)
      have n1 : s1.heap.objs.size ≠ i1 := let ⟨_, e, _⟩ := b4; lt e
      have n2 : s1.heap.objs.size ≠ i2 := let ⟨_, e, _⟩ := b5; lt e
      rcases st with ⟨b1, u, v, b3⟩ | ⟨T, f, oT, b1, bT, r1, r2, r3, r4⟩
      · refine RZ.pyNext_zipT_item D b1 b2 b3 b4 b5 b6 b7 ex ey fun h' c1 c2 c3 c4 c5 c6 k => ?_
        exact hQ s1.heap.objs.size _ _ h' s1.toks ⟨ex, ey⟩ (.inl ⟨_, c5, rfl, _, rfl⟩) ⟨k _ _ D.TIz D.TITO D.TIi1 D.TIi2 b2, c3, c4, b6.at fun o e => k _ o D.l1z D.l1TO D.l1i1 D.l1i2 e, b7.at fun o e => k _ o D.l2z D.l2TO D.l2i1 D.l2i2 e,
          .inr ⟨s1.heap.objs.size, false, _, c1, c5, lt b1, n1, n2, Nat.ne_of_gt hds⟩⟩ fun c o hc e => k c o (out hc).1 (out hc).2.1 (out hc).2.2.1 (out hc).2.2.2 e
      · refine zh_next D b1 bT b2 b4 b5 b6 b7 ex ey fun h' c1 c3 c4 c5 k => ?_
        exact hQ s1.heap.objs.size _ _ h' s1.toks ⟨ex, ey⟩ (.inl ⟨_, c5, rfl, _, rfl⟩) ⟨k _ _ D.TIz D.TIi1 D.TIi2 b2, c3, c4, b6.at fun o e => k _ o D.l1z D.l1i1 D.l1i2 e, b7.at fun o e => k _ o D.l2z D.l2i1 D.l2i2 e,
          .inr ⟨T, true, oT, c1, k _ _ r1 r2 r3 bT, r1, r2, r3, r4⟩⟩ fun c o hc e => k c o (out hc).1 (out hc).2.2.1 (out hc).2.2.2 e
    · rintro s1 Q1 E1 ⟨b2, b4, b5, b6, b7, st⟩ hQ
      have hend : xs[min xs.size ys.size]? = none ∨ ys[min xs.size ys.size]? = none := by
        rcases Nat.le_total xs.size ys.size with h | h
        · exact .inl (Array.getElem?_eq_none (by omega))
        · exact .inr (Array.getElem?_eq_none (by omega))
      rcases st with ⟨b1, u, v, b3⟩ | ⟨T, f, oT, b1, bT, r1, r2, r3, r4⟩
      · exact RZ.pyNext_zipT_end hA D b1 b2 b3 b4 b5 b6 b7 hend fun h' k => hQ h' s1.toks fun c o hc e => k c o (out hc).1 (out hc).2.1 (out hc).2.2.1 (out hc).2.2.2 e
      · exact zh_stop hA D b1 bT b2 b4 b5 b6 b7 hend fun h' k => hQ h' s1.toks fun c o hc e => k c o (out hc).1 (out hc).2.2.1 (out hc).2.2.2 e
end
end Fm
namespace Fm
open PySem PySem.Spec PyProof.Rows L2
def tDZ (K : PySem.W.Frag) (ta : TA) : TE := fun σ H Q => ta σ H fun vs H1 => ∃ (a b : Addr) (kvs : List (Key × V)), vs = [.ref a, .ref b] ∧ SqT K H1 a (kvs.map fun p => kV p.1) ∧ SqT K H1 b (kvs.map fun p => p.2) ∧ ∀ p, H1 p = none → Q (.ref p) (upd H1 p (.dK (mergeK [] kvs)))
theorem kv_zip : ∀ {kvs : List (Key × V)} {us : List Value}, Vals (kvs.map fun p => p.2) us → KV kvs ((kvs.map fun p => p.1).zip us)
  | [], _, .nil => .nil
  | _ :: _, _, .cons r t => .cons ⟨rfl, r⟩ (kv_zip t)
theorem pe_dictZip {X : Cx} {e e2 : Expr} {ta : TA} {p p2 pos pos2 : Pos} (hgD : Gl X "dict") (hmD : X.mg "dict" = none) (hgZ : Gl X "zip") (hmZ : X.mg "zip" = none) (hcalm : X.calm = true) (ha : PA X [e, e2] ta)
    (h1 : starEach [e, e2] X.env = (false, eval e X.env) :: starEach [e2] X.env := by rfl) (h2 : (backTo pos2 (starEach [e2] X.env)).any (·.1) = false := by rfl)
    (h3 : starEach [.Call (.Name "zip" p2) [e, e2] [] pos2] X.env = (false, eval (.Call (.Name "zip" p2) [e, e2] [] pos2) X.env) :: starEach [] X.env := by rfl) :
    PE X (.Call (.Name "dict" p) [.Call (.Name "zip" p2) [e, e2] [] pos2] [] pos) (tDZ X.K ta) := by
  constructor
  intro pins s σ H Q I h
  refine Call_ (ld_blt I hgD hmD (show bootBuiltins "dict" = some (.type "dict") by decide +kernel) (PyProof.Rows.callWith_type1 (args_cons ?_ h3) h3 rfl))
  refine Call_ (ld_blt I hgZ hmZ PyProof.Rows.boot_zip (PyProof.Rows.callWith_type1 (thn (ha.run pos2 pins s σ H _ I h) fun us s1 q => ?_) h1 h2))
  obtain ⟨vs, H1, I1, r1, a, b, kvs, rfl, hx, hy, q⟩ := q
  match us, r1 with
  | [_, _], .cons ra (.cons rb .nil) =>
    cases ra
    cases rb
    obtain ⟨us, rx, px, lx⟩ := I1.tuple hx
    obtain ⟨ws, ry, py, ly⟩ := I1.tuple hy
    have la : a < s1.heap.objs.size := by
      obtain ⟨o, e, _⟩ := px
      exact Heap.lt_size e
    have lb : b < s1.heap.objs.size := by
      obtain ⟨o, e, _⟩ := py
      exact Heap.lt_size e
    refine RZ.call_zipT px py fun h' k1 k2 k3 k4 k5 k6 k7 => args_nil ?_
    have eu : us.length = kvs.length := by rw [← rx.length, List.length_map]
    have ew : ws.length = kvs.length := by rw [← ry.length, List.length_map]
    rw [List.length_map] at lx
    have px' : s1.heap.IsTuple a us.toArray := px
    have py' : s1.heap.IsTuple b ws.toArray := py
    refine PySem.call_dict_pairs (knd := mixKind X.prog X.w) (kvs := (kvs.map fun p => p.1).zip ws) (s := { s1 with heap := h' }) (zipArg _ _ _ _ _ a b (PySem.W.ktu_apart s1.heap.objs.size a b la lb) us.toArray ws.toArray) (I1.ok.hd hcalm) ⟨k1, k2, ⟨_, _, k3⟩, k4, k5, px'.at fun o e => k7 _ o e, py'.at fun o e => k7 _ o e⟩ ⟨?_, fun i key v ⟨e1, e2⟩ => ?_⟩ ?_ fun h2 tk hd k => ?_
    · rw [List.length_zip, List.length_map, List.size_toArray, List.size_toArray, eu, ew]
    · have e1' : us[i]? = some key := by simpa using e1
      have e2' : ws[i]? = some v := by simpa using e2
      obtain ⟨x, ex, rxu⟩ := vals_at rx e1'
      rw [List.getElem?_map] at ex
      cases ek : kvs[i]? with
      | none =>
        rw [ek] at ex
        cases ex
      | some kv =>
        rw [ek] at ex
        cases ex
        refine ⟨kv.1, ?_, kV_is rxu⟩
        rw [List.getElem?_zip_eq_some]
        exact ⟨by rw [List.getElem?_map, ek]; rfl, e2'⟩
    · rw [List.size_toArray, List.size_toArray, eu, ew, Nat.min_self]
      exact lx
    · have hlen : (mergeK [] kvs).length ≤ sizeLine := by
        refine Nat.le_trans (length_mergeK kvs []) ?_
        rw [List.length_nil, Nat.zero_add]
        exact lx
      have big : (h'.objs.size == sysModules) = false := beq_eq_false_iff_ne.mpr (Nat.ne_of_gt (Nat.lt_of_lt_of_le I1.big (by rw [k6]; exact Nat.le_add_right _ _)))
      have kk : ∀ c o, s1.heap.get? c = some o → h2.get? c = some o := fun c o e => by
        have hc := Heap.lt_size e
        refine k c o (fun m => ?_) (k7 c o e)
        simp only [List.mem_cons, List.not_mem_nil, or_false] at m
        rcases m with m | m | m | m <;> (rw [m] at hc; first | exact absurd hc (Nat.lt_irrefl _) | exact absurd hc (Nat.not_lt.mpr (Nat.le_add_right _ _)))
      have J := I1.laid (t' := tk) (h' := h2) (a := h'.objs.size) (o := .dK (mergeK [] kvs)) kk (by rw [k6]; exact Nat.le_add_right _ _) ⟨hlen, big, _, KV.merge (kv_zip ry) .nil, hd⟩
      exact ⟨.ref h'.objs.size, _, J, rfl, q _ (I1.hok.fresh (by rw [k6]; exact Nat.le_add_right _ _))⟩
end Fm
/-! sorted of lists of tuples of any lengths, the empty one among them. -/
namespace FmSort
open PySem PySem.W PySem.SeqAt PyProof.Rows
def nonE : PyData → Bool
  | .tuple (_ :: _) => true
  | _ => false
section
variable {prog : Program} {w : World} {A : Around} {E : Value → Shared → Prop} {s : Shared} {vs : List Value} {ds : List PyData}
theorem call_tuple_lt {Q : Value → Shared → Prop} {l b : Addr} {items items2 : Array Value} {e r : Nat → Bool} (hl : s.heap.IsTuple l items) (hb : s.heap.IsTuple b items2)
    (he : ∀ j (h1 : j < items.size) (h2 : j < items2.size), EqAt A.in1 s items[j] items2[j] (e j)) (hr : ∀ j (h1 : j < items.size) (h2 : j < items2.size), e j = false → RcLt A.in1 s items[j] items2[j] (r j))
    (h : Q (.bool (firstLt e r (decide (items.size < items2.size)) (List.range (min items.size items2.size)))) s) : wpAny (model prog w) A (call (.builtin "tuple.__lt__") [.ref l, .ref b]) Q E s := by
  obtain ⟨⟨c1, u1, m1, p1⟩, g1, k1, n1, z1⟩ := id hl
  obtain ⟨⟨c2, u2, m2, p2⟩, g2, k2, n2, z2⟩ := id hb
  simp only at k1 z1 k2 z2
  subst k1 z1 k2 z2
  exact call_meets F.slot_tuple_lt ⟨_, g1, rfl⟩ F.entry_tuple_lt (F.args_tuple_lt_2 _ _) (tuple_ltAt l b items items2 n1 n2 u1 u2 p1 p2 e r) ⟨g1, g2, he, hr, h⟩
/-- two tuples, both of one type: by the slot itself -/
theorem oneLt_tup {xs ys : List PyData} {a b : Value} {as bs : List Addr} {Q : Bool → Shared → Prop} (ra : Reads s.heap a (.tuple xs) as) (rb : Reads s.heap b (.tuple ys) bs) (hal : alikeAll xs ys = true)
    (hu : A.units + min (PyData.tuple xs).depth (PyData.tuple ys).depth < cLine) (hq : Q (dataLt (.tuple xs) (.tuple ys)) s) : wpAny (model prog w) A (oneLt' true a b) Q E s := by
  cases ra with
  | @tuple l o us n _ as1 a1 a2 a3 a4 =>
    cases rb with
    | @tuple l2 o2 us2 n2 _ bs1 b1 b2 b3 b4 =>
      have z1 : us.size = xs.length := by simpa using ReadsAll.length _ _ _ a4
      have z2 : us2.size = ys.length := by simpa using ReadsAll.length _ _ _ b4
      rw [dataLt_tuple, ← firstLt_toks xs ys hal, ← z1, ← z2] at hq
      rw [oneLt'_eq]
      simp only [if_true]
      refine wpAny_bind (wpAny_cRoomFor (room_here hu) ?_)
      refine wpAny_bind (wpAny_callSpecialIfBound?_slot (T := "tuple") ⟨_, a1, a2⟩ F.slot_tuple_lt (call_tuple_lt (e := pairEq xs ys) (r := fun j => dataLt (xs.getD j .none) (ys.getD j .none)) ⟨_, a1, a2, _, a3⟩ ⟨_, b1, b2, _, b3⟩ (fun j j1 j2 => ?_) (fun j j1 j2 hj => ?_) ?_))
      · have t := eqAt_alikeAll xs ys A.in1 s us.toList us2.toList _ _ a4 b4 hal (room_in hu) j (by simpa using j1) (by simpa using j2)
        simpa using t
      · have t := rcLt_alikeAll xs ys A.in1 s us.toList us2.toList _ _ a4 b4 hal (room_in hu) j (by simpa using j1) (by simpa using j2) hj
        simpa using t
      · exact wpAny_truthy_bool hq
theorem firsts_each {M : Model} : ∀ {vs : List Value} {ds : List PyData} {Q : List (Option Value) → Shared → Prop}, EachIs (fun v d => ∃ as, Reads s.heap v d as) vs ds → (∀ d ∈ ds, ∃ xs, d = .tuple xs) →
    (∀ fs : List (Option Value), fs.map Option.isSome = ds.map nonE → Q fs s) → wpAny M A (vs.mapM firstOfTuple') Q E s
  | _, _, _, .nil, _, h => by
    rw [List.mapM_nil]
    exact wpAny_pure (h [] rfl)
  | _, _, Q, .cons (as := vs) ⟨as, r⟩ t, ht, h => by
    obtain ⟨xs, rfl⟩ := ht _ (List.mem_cons_self ..)
    rw [List.mapM_cons]
    refine wpAny_bind ?_
    rw [kas_first_eq]
    cases r with
    | @tuple l o us n _ as1 a1 a2 a3 a4 =>
      refine wpAny_bind (Looks.here (show Looks M s.heap (typeOf (.ref l)) o.cls from (Looks.ld a1).andThen .now) ?_)
      rw [a2, if_neg (by first | decide | simp)]
      refine wpAny_bind (listItems_at a1 a3 (wpAny_pure ?_))
      refine wpAny_bind (firsts_each (Q := fun bs s' => wpAny M A (pure (us[0]? :: bs)) Q E s') t (fun d hd => ht d (List.mem_cons_of_mem _ hd)) fun fs e => wpAny_pure (h _ ?_))
      rw [List.map_cons, List.map_cons, e]
      congr 1
      have z : us.toList.length = xs.length := by simpa using ReadsAll.length _ _ _ a4
      cases xs with
      | nil =>
        have e0 : us.size = 0 := by simpa using z
        rw [Array.getElem?_eq_none (by omega)]
        rfl
      | cons x r =>
        have e0 : us.size = r.length + 1 := by simpa using z
        rw [Array.getElem?_eq_getElem (by omega)]
        rfl
theorem sortsAt_tups (e : EachIs (fun v d => ∃ as, Reads s.heap v d as) vs ds) (hal : AllAlike ds) (ht : ∀ d ∈ ds, ∃ xs, d = .tuple xs) (hu : ∀ d ∈ ds, A.units + d.depth < cLine) : SortsAt prog w A s (dataKind s.heap ds) vs := by
  have room : ∀ {d d' : PyData}, d ∈ ds → A.units + min d.depth d'.depth < cLine := fun {d d'} hd => Nat.lt_of_le_of_lt (Nat.add_le_add_left (Nat.min_le_left _ _) _) (hu d hd)
  by_cases hne : ∀ d ∈ ds, nonE d = true
  · refine SortsAt.data e hal (.inl fun d hd => ?_) hu
    obtain ⟨xs, rfl⟩ := ht d hd
    cases xs with
    | nil => cases hne _ hd
    | cons x r => exact ⟨x, r, rfl⟩
  · have hall : (ds.map nonE).all id = false := by
      rw [List.all_map]
      cases q : ds.all (id ∘ nonE) with
      | false => rfl
      | true => exact absurd (fun d hd => List.all_eq_true.mp q d hd) hne
    have lt : ∀ f : Bool, H.LtAt prog w A s (dataKind s.heap ds) (if f = true then oneType' else general') := by
      intro f E x y a b Q ha hb hq
      obtain ⟨d, as, hd, ra, rfl⟩ := dataKind_inv ha
      obtain ⟨d', as', hd', rb, rfl⟩ := dataKind_inv hb
      obtain ⟨xs, rfl⟩ := ht d hd
      obtain ⟨ys, rfl⟩ := ht d' hd'
      have al := hal _ hd _ hd'
      cases f with
      | true => exact oneLt_tup ra rb (by simpa [alike] using al) (room hd) hq
      | false => exact oneLt_alike (f := false) (fun z => by cases z) ra rb al (fun z => by cases z) (room hd) hq
    refine ⟨fun v hv => ?_, (if (ds.map nonE).head? = some true then general' else oneType'), ?_, fun h2 E Q hq => ?_⟩
    · obtain ⟨d, hd, as, r⟩ := e.left v hv
      exact ⟨_, dataKind_some hal hd r⟩
    · by_cases q : (ds.map nonE).head? = some true
      · rw [if_pos q]
        exact lt false
      · rw [if_neg q]
        exact lt true
    · rw [keyKind'_eq, List.mapM_toArray, map_eq_pure_bind]
      refine wpAny_bind (wpAny_bind (firsts_each e ht fun fs hfs => wpAny_pure ?_))
      have e1 : (fs.toArray.all fun x => x.isSome) = false := by
        rw [List.all_toArray]
        have z : (fs.map Option.isSome).all id = false := by rw [hfs]; exact hall
        rw [List.all_map] at z
        exact z
      rw [if_neg (by rw [e1]; exact Bool.false_ne_true)]
      have e2 : ((fs.toArray)[0]?.bind id).isSome = decide ((ds.map nonE).head? = some true) := by
        rw [← hfs]
        cases fs with
        | nil => rfl
        | cons f r =>
          show (((f :: r).toArray)[0]?.bind id).isSome = _
          rw [List.getElem?_toArray]
          show f.isSome = decide (some f.isSome = some true)
          cases f <;> rfl
      rw [e2]
      by_cases q : (ds.map nonE).head? = some true
      · rw [if_pos (decide_eq_true q)]
        rw [if_pos q] at hq
        exact wpAny_pure hq
      · rw [if_neg (fun z => q (of_decide_eq_true z))]
        rw [if_neg q] at hq
        obtain ⟨v1, v2, r, rfl⟩ : ∃ v1 v2 r, vs = v1 :: v2 :: r := by
          match vs, h2 with
          | [], h2 => simp at h2
          | [_], h2 => simp at h2
          | v1 :: v2 :: r, _ => exact ⟨v1, v2, r, rfl⟩
        rw [oneTypeOnly'_eq, List.mapM_toArray, map_eq_pure_bind]
        refine wpAny_bind (wpAny_bind (wpAny_bind (kas_mapM (r := Value.type "tuple") _ (fun v hv Q' hq => ?_) (wpAny_pure ?_))))
        · obtain ⟨d, hd, as, rd⟩ := e.left v hv
          obtain ⟨xs, rfl⟩ := ht d hd
          exact (looks_reads rd).here hq
        · have a1 : ((List.map (fun _ => Value.type "tuple") (v1 :: v2 :: r)).toArray.all fun x => x == Value.type "tuple") = true := by
            simp only [List.all_toArray, List.all_map, List.all_eq_true]
            intro _ _
            rfl
          have a2 : (List.map (fun _ => Value.type "tuple") (v1 :: v2 :: r)).toArray[0]? = some (Value.type "tuple") := by simp
          rw [a2]
          simp only [a1, if_true]
          exact wpAny_pure (wpAny_pure hq)
end
end FmSort
namespace Fm
open PySem PySem.Spec PyProof.Rows L2 PySem.W
theorem each_vals : ∀ {bs : List (V × PyData)} {us : List Value}, Vals (bs.map (·.1)) us → EachIs (fun u b => RelV b.1 u) us bs
  | [], _, r => by
    cases r
    exact .nil
  | b :: bs, _, r => by
    cases r with
    | cons h t => exact .cons h (each_vals t)
theorem vals_each : ∀ {bs : List (V × PyData)} {us : List Value}, EachIs (fun u b => RelV b.1 u) us bs → Vals (bs.map (·.1)) us
  | _, _, .nil => .nil
  | _, _, .cons h t => .cons h (vals_each t)
theorem each_and {R S : Value → V × PyData → Prop} : ∀ {bs : List (V × PyData)} {us : List Value}, EachIs R us bs → (∀ u b, b ∈ bs → R u b → S u b) → EachIs S us bs
  | _, _, .nil, _ => .nil
  | _, _, .cons h t, k => .cons (k _ _ (List.mem_cons_self ..) h) (each_and t fun u b hb => k u b (List.mem_cons_of_mem _ hb))
/-- sorted of a list of tuples: each value goes with its data -/
def rSortTs (K : PySem.W.Frag) : List V → Hp → VK → Prop := fun vs H Q => ∃ (a : Addr) (bs : List (V × PyData)), vs = [.ref a] ∧ SqL K H a (bs.map (·.1)) ∧ (∀ b ∈ bs, Dp K H b.1 b.2 ∧ (∃ zs, b.2 = .tuple zs) ∧ b.2.depth ≤ 60) ∧ AllAlike (bs.map (·.2)) ∧
  ∀ p, H p = none → Q (.ref p) (upd H p (.lst ((bs.mergeSort (dataLe false (fun b : V × PyData => b.2))).map (·.1))))
theorem cr_sortTs {X : Cx} (hu : X.A.units + 64 < cLine) : CallR X (.builtin "sorted") (rSortTs X.K) := by
  intro pins s σ H vs us Q I r h
  obtain ⟨a, bs, rfl, hs, hb, hal, q⟩ := h
  obtain ⟨its, rv, hl, hz⟩ := I.list hs
  rw [Vals.ref1 r]
  have e0 := each_vals rv
  have er : EachIs (fun (v : Value) (b : V × PyData) => ∃ as, Reads (sortingHeap (copyHeap s.heap its) (s.heap.objs.size + 1) its) v b.2 as) its bs := each_and e0 fun u b hm hr => by
    obtain ⟨as, rd⟩ := Dp.reads I b.2 b.1 u (hb b hm).1 hr
    exact ⟨as, PyProof.Rows.Reads.keeps (fun _ _ => sorting_copy_old) rd⟩
  have hL : its.length ≤ sizeLine := by
    rw [← rv.length]
    exact hz
  refine sorted_vals hl.isList (FmSort.sortsAt_tups (s := { s with heap := sortingHeap (copyHeap s.heap its) (s.heap.objs.size + 1) its }) (each_map (R := fun v d => ∃ as, Reads (sortingHeap (copyHeap s.heap its) (s.heap.objs.size + 1) its) v d as) (fun b : V × PyData => b.2) er) hal (fun d hd => ?_) fun d hd => ?_) hL ?_
  · obtain ⟨b, hm, rfl⟩ := List.mem_map.mp hd
    exact (hb b hm).2.1
  · obtain ⟨b, hm, rfl⟩ := List.mem_map.mp hd
    have := (hb b hm).2.2
    show X.A.units + 1 + 1 + b.2.depth < cLine
    omega
  · have e1 := sortVals_data (R := fun u (b : V × PyData) => RelV b.1 u) false e0 er hal
    generalize sortVals (dataKind (sortingHeap (copyHeap s.heap its) (s.heap.objs.size + 1) its) (bs.map (·.2))) false its its = out at e1 ⊢
    have v1 := vals_each e1
    obtain ⟨ep, he'⟩ := PyProof.Rows.sortedAll_at s.heap its out.toArray
    have hlen : ((bs.mergeSort (dataLe false (fun b : V × PyData => b.2))).map (·.1)).length ≤ sizeLine := by
      rw [List.length_map, List.length_mergeSort]
      rw [List.length_map] at hz
      exact hz
    exact ⟨.ref _, upd H (s.heap.objs.size + 1) (.lst ((bs.mergeSort (dataLe false (fun b : V × PyData => b.2))).map (·.1))), I.laid (t' := s.toks) (fun _ _ => PyProof.Rows.sortedAll_old) (Nat.le_succ _) ⟨hlen, out, ep, v1, he'⟩, rfl, q _ (I.hok.fresh (Nat.le_succ _))⟩
end Fm
/-! Errors of one's own whose __init__ calls that of the own class above, over ValueError. -/
namespace Fm
open PySem PySem.Spec PyProof.Rows L2 PySem.W
/-- the class above at M, its __init__ being ValueError's -/
structure UpC (K : PySem.W.Frag) (M : Addr) (mc : Value) : Prop where
  rd : PySem.W.readsIn K M mc = true
  ga : PySem.W.specialIn K (.ref M) "__getattribute__" = some (some (.builtin "type.__getattribute__"))
  ini : PySem.W.findCls K (.ref M) mc "__init__" = some (.val (.builtin "ValueError.__init__"))
section
variable {X : Cx} {e : Expr} {es : List Expr} {ta : TA} {p1 p2 p pos : Pos} {x : Str} {M C fI : Addr} {mc : Value}
/-- Up.__init__(self, ..) -/
theorem pe_upinit {pl : Sem Bool} (U : UpC X.K M mc) (hg : Gl X x) (hm : X.mg x = some (.ref M)) (ha : PA X (e :: es) ta) (hdb : (x == ("__debug__" : Str)) = false := by decide)
    (hc : eval (.Call (.Attribute (.Name x p1) "__init__" p2) (e :: es) [] pos) X.env = (do
      let ov ← eval (.Name x p1) X.env
      standAt p2.atName
      let (f, first) ← holding [ov] (getMethod ov "__init__" pl)
      callWith pos f first (backTo pos (starEach (e :: es) X.env)) (backToKw pos (keywordEach [] X.env))) := by rfl)
    (he : starEach (e :: es) X.env = (false, eval e X.env) :: starEach es X.env := by rfl) (hpl : (backTo pos (starEach es X.env)).any (·.1) = false := by rfl) :
    PE X (.Call (.Attribute (.Name x p1) "__init__" p2) (e :: es) [] pos) (tVeI X.K ta) := by
  refine ⟨fun pins s σ H Q I h => ?_⟩
  refine PySem.W.methodCall_KW (ld_glob I hg hm ?_ hdb) hc
  refine PySem.W.method_cls I.kIn U.ga (PySem.W.cls_value I.kIn U.rd U.ini (by decide +kernel) ?_)
  show wpAny _ _ (callWith pos (Value.builtin "ValueError.__init__") [] (backTo pos (starEach (e :: es) X.env)) []) _ _ _
  refine PyProof.Rows.callWith_method1 (thn (ha.run pos pins _ σ H _ (I.tok _) h) fun us s1 ⟨vs, H1, I1, r1, a, C, ws, ev, hl, T, ea, q⟩ => ?_) he hpl
  subst ev
  cases r1 with
  | @cons _ u0 _ ur ra rw' =>
    obtain rfl : u0 = Value.ref a := ra
    have hn : ur.length ≤ sizeLine := by
      rw [← Paired.length rw', sizeLine_eq]
      omega
    exact oinit_ok T I1 ea hn fun s' J => ⟨.non, H1, J, rfl, q⟩
/-- the promise of such an __init__ without a field -/
def spIni0 (K : PySem.W.Frag) (C : Addr) : Sp := fun vs H Q _ => ∃ a : Addr, vs = [.ref a] ∧ H a = some (exo a C none) ∧ Q .non H
/-- C(), C's own __init__ keeping spIni0 -/
def tMkN (C : Addr) : L2.St → Hp → XK → Prop := fun _ H Q => Q (.ref C) none H
theorem del_upd {H : Hp} {a : Addr} {o : HO} (n : H a = none) : del (upd H a o) a = H := by
  funext b
  by_cases hb : b = a
  · rw [hb, del_same, n]
  · rw [del_ne hb, upd_ne hb]
theorem mk_endN {pins : List (Addr × Obj)} {σ : L2.St} {H1 : Hp} {Q : XK} {hp hp2 h2 : Heap} {g1 g2 : Array GenState} {d1 d2 : Drawn} {t1 t2 : Nat} {os1 os2 : OsState} {a : Addr} (T : Raises X (.ref C)) (I1 : Inv X pins σ H1 ⟨hp, g1, d1, t1, os1⟩)
    (ha : hp.objs.size ≤ a) (k : ∀ b o, hp.get? b = some o → hp2.get? b = some o) (un : Un (frs X.stack) [] (upd H1 a (exo a C none)) (upd H1 a (exo a C none)) hp2 h2) (hok : HOk X.prog X.w (upd H1 a (exo a C none)) h2) (ho : os2 = os1) (hb : AllBare g2)
    (q : Q (.ref C) none H1) : MkP X pins σ Q (.ref a) ⟨h2, g2, d2, t2, os2⟩ := by
  obtain ⟨t0, hoe⟩ := exo_at hok upd_same
  have hn : H1 a = none := I1.hok.fresh ha
  obtain ⟨G, ga, gb⟩ := restrict h2 fun b => decide (b ≠ a)
  have gk : ∀ b, b ≠ a → G.get? b = h2.get? b := fun b nb => ga b (decide_eq_true nb)
  have ge : G.get? a = none := gb a (by simp)
  have na : ∀ {b : Addr} {o : Obj}, hp.get? b = some o → b ≠ a := fun {b o} z => Nat.ne_of_lt (Nat.lt_of_lt_of_le (Heap.lt_size z) ha)
  have up : ∀ {b : Addr}, b ≠ a → H1 b = none → upd H1 a (exo a C none) b = none := fun {b} nb n => by
    rw [upd_ne nb]
    exact n
  have U : Un (frs X.stack) [] H1 H1 hp G := {
    keep := fun b o z n hf hx => by
      rw [gk b (na z)]
      exact un.keep b o (k b o z) (up (na z) n) hf hx
    slot := fun b o z n hf hx => by
      rw [gk b (na z)]
      exact un.slot b o (k b o z) (up (na z) n) hf hx
    free := fun b o z n hx => n
    there := fun b o z hx => by
      rw [gk b (na z)]
      exact un.there b o (k b o z) hx
    tups := fun b xs z => z
    frzs := fun b o v z => z
    tbls := fun b ps z => ⟨#[], by rw [Array.append_empty]; exact z⟩ }
  have hok3 : HOk X.prog X.w H1 G := fun b o z => by
    have nb : b ≠ a := ne_of_none z hn
    refine (hok b o (by rw [upd_ne nb]; exact z)).stay (fun c v hc y => ?_) (fun c hc => ?_) fun c xs hc => ?_
    · have nc : c ≠ a := by
        rcases hc with hc | hc
        · rw [hc]
          exact nb
        · exact at_ne (H := upd H1 a (exo a C none)) upd_same hc exo_own
      rw [gk c nc]
      exact y
    · rw [upd_ne (at_ne (H := upd H1 a (exo a C none)) upd_same hc exo_own)] at hc
      exact hc
    · rw [upd_ne (at_ne (H := upd H1 a (exo a C none)) upd_same hc exo_tup)] at hc
      exact hc
  have J : Inv X pins σ H1 ⟨G, g2, d2, t2, os2⟩ := I1.call' (ch := []) ho U hok3 hb (fun b z => absurd z (by simp))
  refine ⟨a, _, _, ⟨G, g2, d2, t2, os2⟩, _, .ref C, none, rfl, J, fun b o z => ?_, ge, hoe, ⟨rfl, rfl⟩, rfl, rfl, hn, rfl, hb, T, q⟩
  by_cases nb : b = a
  · rw [nb, ge] at z
    cases z
  · exact (gk b nb).symm.trans z
theorem pmk_oexN {CX : CXT} {k : Nat} {fd : FuncData} (T : OexC X.K C) (iC : PySem.W.findIn X.K (.ref C) "__init__" = some (some (.ref fI))) (tI : PySem.W.typeIn X.K (.ref fI) = some (.type "function"))
    (F1 : FnOk X.prog X.w X.K X.mg X.base CX k fI fd ["self"] (spIni0 X.K C)) (hr : Room (k + 1) X.A) (hb : Binds X.K fd ["self"] []) (hx : Passes CX X (fun _ _ _ => False)) (hg : Gl X x) (hm : X.mg x = some (.ref C)) (hdb : (x == ("__debug__" : Str)) = false := by decide) :
    PMk X (.Call (.Name x p) [] [] pos) (tMkN C) := by
  intro pins s σ H Q I h
  obtain ⟨nm, q, N, bs, bm, sn, sub, ab, col, dd, k0, k1, k2, k3, k5, hC, hbm⟩ := T.cls
  refine wpAny_Call_Name_kw (ld_glob I hg hm ?_ hdb)
  refine PySem.W.callWith_K0 I.kIn T.kC ?_
  obtain ⟨hp, g, dr, tk, os⟩ := s
  show wpAny _ _ (call (.ref C) []) _ _ _
  have hsz : hp.objs.size ≤ hp.objs.size + 1 := Nat.le_succ _
  have hn : H (hp.objs.size + 1) = none := I.hok.fresh hsz
  have kk : ∀ b o, hp.get? b = some o → ((hp.push (PySem.W.kdv_tup [])).push (PySem.HandSPX.excO C hp.objs.size)).get? b = some o := fun b o e => Heap.get?_push_of_some _ (Heap.get?_push_of_some _ e)
  have hget : ((hp.push (PySem.W.kdv_tup [])).push (PySem.HandSPX.excO C hp.objs.size)).get? (hp.objs.size + 1) = some (PySem.HandSPX.excO C hp.objs.size) := by heap_get
  have I2 : Inv X pins σ (upd H (hp.objs.size + 1) (exo (hp.objs.size + 1) C none)) ⟨(hp.push (PySem.W.kdv_tup [])).push (PySem.HandSPX.excO C hp.objs.size), g, dr, tk, os⟩ :=
    I.laid (t' := tk) (a := hp.objs.size + 1) (o := exo (hp.objs.size + 1) C none) (h' := (hp.push (PySem.W.kdv_tup [])).push (PySem.HandSPX.excO C hp.objs.size)) kk hsz (exo_ok hget)
  have r2 : Vals [V.ref (hp.objs.size + 1)] [Value.ref (hp.objs.size + 1)] := .cons rfl .nil
  refine wpAny_call (PySem.HandSPX.call_own F.excBase_ValueError (fun Y => PySem.HandSPX.refsVE_contains Y bm hbm) (I.kIn _ _ hC) (PySem.W.looks_findIn I.kIn iC) (fun self => PySem.W.bind_fn I.kIn self tI) (Nat.zero_le _)
    (codeAny_mono (F1.run _ X.stack _ _ ⟨[Value.ref (hp.objs.size + 1)], []⟩ [Value.ref (hp.objs.size + 1)] _ (fun v H2 => v = .non ∧ H2 = upd H (hp.objs.size + 1) (exo (hp.objs.size + 1) C none)) (fun _ _ _ => False) (hr.make C [] []) (I2.env0.make C [] []) (hb _ [Value.ref (hp.objs.size + 1)] I2.kIn rfl) r2
      ⟨_, rfl, upd_same, rfl, rfl⟩) fun r s' hq' => ?_))
  cases r with
  | error er => exact hx pins σ _ _ er s' I2 hq'
  | ok fl =>
    cases fl with
    | ret u =>
      obtain ⟨v, H2, os2, bare2, un2, hok2, rv, ev, eH⟩ := hq'
      subst ev eH
      obtain ⟨h2, g2, d2, t2, os'⟩ := s'
      exact ⟨rv, mk_endN (raises_own T.exC T.tyC) I hsz kk un2 hok2 os2 bare2 h⟩
    | next => exact False.elim hq'
    | brk => exact False.elim hq'
    | cont => exact False.elim hq'
end
end Fm
/-! More rules: in a tuple, count of data, a tuple turned round. -/
namespace Fm
open PySem PySem.Spec PyProof.Rows L2 PySem.W
section
variable {X : Cx} {K : PySem.W.Frag}
/-- x in t, t a tuple of data -/
def rInT (K : PySem.W.Frag) : R2 := fun x y H Q => ∃ d ds, Dp K H x d ∧ Dp K H y (.tuple ds) ∧ SeqAt.shaped d = true ∧ SeqAt.shaped (.tuple ds) = true ∧ Q (.bl (ds.any fun z => PyData.eqv z d)) H
theorem op_inT (hu : X.A.units + 65 < cLine) (e : X.K = K := by rfl) : OpR X (compareOp .In) (rInT K) := by
  subst e
  intro pins s σ H x y v u Q I rx ry h
  obtain ⟨d, ds, h1, h2, s1, s2, q⟩ := h
  obtain ⟨as, r1⟩ := Dp.reads I d x v h1 rx
  obtain ⟨bs, r2⟩ := Dp.reads I (.tuple ds) y u h2 ry
  exact SeqAt.in_tuple_reads r2 r1 (SeqAt.canLay_of_shaped s2) (SeqAt.canLay_of_shaped s1) (room_in_shaped s1 hu) ⟨.bl _, H, I, rfl, q⟩
theorem op_inLK (hu : X.A.units + 65 < cLine) (e : X.K = K := by rfl) : OpR X (compareOp .In) (rInD K) := e ▸ op_inD hu
theorem op_ltTK (hu : X.A.units < cLine) (e : X.K = K := by rfl) : OpR X (compareOp .Lt) (rLtT K) := e ▸ op_ltT hu
theorem mt_indexK (hu : X.A.units + 65 < cLine) (e : X.K = K := by rfl) : MtR X "list.index" (rIndexD K) := e ▸ mt_indexD hu
/-- l.count(x) -/
def rCntD (K : PySem.W.Frag) : V → List V → Hp → VK → Prop := fun x xs H Q => ∃ (a : Addr) (y : V) (d : PyData) (ds : List PyData), x = .ref a ∧ xs = [y] ∧ Dp K H (.ref a) (.list ds) ∧ Dp K H y d ∧ SeqAt.shaped (.list ds) = true ∧ SeqAt.shaped d = true ∧
  Q (.int ((ds.countP fun z => PyData.eqv z d : Nat) : Int)) H
theorem mt_countD (hu : X.A.units + 65 < cLine) (e : X.K = K := by rfl) : MtR X "list.count" (rCntD K) := by
  subst e
  intro pins s σ H x xs v us Q I rx rxs h
  obtain ⟨a, y, d, ds, rfl, rfl, hl, hy, s1, s2, q⟩ := h
  cases rx
  obtain ⟨u, rfl, ru⟩ := rxs.one
  obtain ⟨bs, r1⟩ := Dp.reads I d y u hy ru
  have c1 : PyData.canLayAll0 ds = true := SeqAt.canLay_of_shaped s1
  have room : X.A.units + 1 + min (PyData.depthAll ds) d.depth < cLine := room_in_shaped s2 hu
  cases hl with
  | lst hs ha =>
    obtain ⟨its, rv, ⟨⟨cl, di, da, sls⟩, n, ho, hc, hdn, hdt⟩, hlen⟩ := I.list hs
    simp only at hc hdt
    subst hc hdt
    obtain ⟨as, r4⟩ := Dp.readsAll I ds _ its ha rv
    have hm : its.map (SeqAt.readOf s.heap) = ds := SeqAt.readsAll_map ds its as c1 r4
    refine call_meets PySem.F.slot_list_count ⟨_, ho, rfl⟩ PySem.F.entry_list_count (PySem.F.args_list_count_2 _ _)
      (SeqAt.list_countAt a its.toArray n di sls u (fun z => PyData.eqv (SeqAt.readOf s.heap z) d)) ⟨ho, SeqAt.items_eqAt (vs := its.toArray) (show ReadsAll s.heap its.toArray.toList ds as from r4) r1 c1 (SeqAt.canLay_of_shaped s2) room, ?_⟩
    refine ⟨.int ((ds.countP fun z => PyData.eqv z d : Nat) : Int), H, I.tok _, ⟨s.toks, ?_⟩, q⟩
    show Value.int ((its.toArray.toList.countP (fun z => PyData.eqv (SeqAt.readOf s.heap z) d) : Nat) : Int) s.toks = _
    rw [← hm, List.countP_map]
    rfl
/-! ### t[::-1] -/
theorem fm_congr {α β : Type} {f g : α → Option β} : ∀ {l : List α}, (∀ x ∈ l, f x = g x) → l.filterMap f = l.filterMap g
  | [], _ => rfl
  | x :: l, h => by
    rw [List.filterMap_cons, List.filterMap_cons, h x (List.mem_cons_self ..), fm_congr fun y hy => h y (List.mem_cons_of_mem _ hy)]
theorem vals_rev : ∀ {xs : List V} {us : List Value}, Vals xs us → Vals xs.reverse us.reverse
  | [], _, r => by
    cases r
    exact .nil
  | x :: xs, _, r => by
    cases r with
    | cons h t =>
      rw [List.reverse_cons, List.reverse_cons]
      exact (vals_rev t).append (.cons h .nil)
theorem rev_pick (l : List Value) : ((List.range l.length).filterMap fun (m : Nat) => l.toArray[(((l.length : Int) - 1) + (m : Int) * (-1)).toNat]?) = l.reverse := by
  have e : ∀ m, m ∈ List.range l.length → (fun (m : Nat) => l.toArray[(((l.length : Int) - 1) + (m : Int) * (-1)).toNat]?) m = l.reverse[m]? := fun m hm => by
    have hl := List.mem_range.mp hm
    show l.toArray[_]? = _
    rw [List.getElem?_toArray, List.getElem?_reverse hl]
    congr 1
    omega
  rw [fm_congr e]
  have z := List.length_reverse (as := l)
  generalize l.reverse = r at z ⊢
  rw [← z]
  clear z e
  have key : ∀ (r : List Value) (n : Nat), n ≤ r.length → (List.range n).filterMap (fun m => r[m]?) = r.take n := by
    intro r n
    induction n with
    | zero => intro _; simp
    | succ n ih =>
      intro hn
      rw [List.range_succ, List.filterMap_append, ih (by omega), List.take_add_one, List.getElem?_eq_getElem (show n < r.length by omega)]
      simp [List.getElem?_eq_getElem (show n < r.length by omega)]
  rw [key r r.length (Nat.le_refl _), List.take_length]
section
variable {prog : Program} {w : World} {A : Around} {E : Value → Shared → Prop} {s : Shared}
theorem rev_applied {sl : Addr} {t : Tok} {n : Nat} {Q : Int × Int × Nat → Shared → Prop} (hs : s.heap.IsSliceOf sl .none .none (.int (-1) t)) (h : Q ((n : Int) - 1, -1, n) s) :
    wpAny (model prog w) A (Builtin.Slice.sliceApplied (.ref sl) (pure (n : Int))) Q E s := by
  obtain ⟨os, hos, hcs, hds⟩ := id hs
  unfold Builtin.Slice.sliceApplied Builtin.Slice.sliceFields
  refine wpAny_bind (wpAny_bind (wpAny_field hos hds (x := .none) rfl (wpAny_bind (wpAny_field hos hds (x := .none) rfl (wpAny_bind (wpAny_field hos hds (x := .int (-1) t) rfl (wpAny_pure ?_)))))))
  refine wpAny_bind (slicePart_int ?_)
  show wpAny _ _ (if ((-1 : Int) == 0) = true then _ else _) _ _ s
  rw [if_neg (by decide)]
  refine wpAny_bind (slicePart_none (wpAny_bind (slicePart_none (wpAny_bind (wpAny_pure ?_)))))
  show wpAny _ _ (pure ((n : Int) - 1, (-1 : Int), Builtin.Slice.slicePlaces ((n : Int) - 1) (-1) (-1))) _ _ s
  have e : Builtin.Slice.slicePlaces ((n : Int) - 1) (-1) (-1) = n := by
    unfold Builtin.Slice.slicePlaces
    rw [if_neg (by decide)]
    show (if (n : Int) - 1 > -1 then ((n : Int) - 1 - -1 - 1) / 1 + 1 else 0).toNat = n
    rw [Int.ediv_one]
    split <;> omega
  rw [e]
  exact wpAny_pure h
theorem getItem_rev {t sl : Addr} {l : List Value} {tk : Tok} {Q : Value → Shared → Prop} (ht : IsTup s.heap t l.toArray) (hs : s.heap.IsSliceOf sl .none .none (.int (-1) tk))
    (h : Q (.ref s.heap.objs.size) { s with heap := s.heap.push { cls := .type "tuple", data := .seq l.reverse.toArray } }) (hsz : l.length ≤ sizeLine) : wpAny (model prog w) A (getItem (.ref t) (.ref sl)) Q E s := by
  have hz : sizeOk (.seq l.reverse.toArray) := by
    show l.reverse.toArray.size ≤ sizeLine
    rw [List.size_toArray, List.length_reverse]
    exact hsz
  obtain ⟨os, hos, hcs, hds⟩ := id hs
  have hTs : s.TypeIs (.ref sl) "slice" := ⟨os, hos, hcs⟩
  unfold getItem
  try with_reducible refine wpAny_holding ?_
  first | refine wpAny_bind (wpAny_pure ?_) | skip
  refine wpAny_bind (wpAny_sequenceKey ht.typeIs (by decide) ?_)
  refine wpAny_bind (wpAny_callSpecial?_slot (name := Str.ofString "__getitem__") ht.typeIs PyProof.Rows.slot_tuple_getitem
    (wpAny_call_entry PyProof.Rows.slot_tuple_getitem ht.typeIs entry_tuple_getitem ?_ (args_tuple_getitem _ _)))
  show wpAny _ _ (Builtin.Tuple.tupleItemsOf (.ref t) >>= _) _ _ s
  refine wpAny_bind (tupleItemsOf_ ht ?_)
  refine wpAny_bind (wpAny_typeOf hTs ?_)
  rw [if_pos (by decide)]
  rw [List.size_toArray]
  refine wpAny_bind (rev_applied hs ?_)
  have hno : ¬ ((((l.length : Int) - 1) == 0 && (-1 : Int) == 1 && l.length == l.toArray.size) = true) := by
    intro q
    rw [Bool.and_eq_true, Bool.and_eq_true] at q
    exact absurd q.1.2 (by decide)
  show wpAny _ _ (if (((l.length : Int) - 1) == 0 && (-1 : Int) == 1 && l.length == l.toArray.size) = true then _ else _) _ _ s
  rw [if_neg hno, rev_pick]
  first
    | exact wpAny_bind (m := Builtin.Tuple.tupleExact _) (wpAny_newObj_type (wpAny_pure ⟨_, rfl, wpAny_pure h⟩) hz)
    | exact wpAny_bind (m := Builtin.Tuple.tupleExact _) (wpAny_newObj_type (wpAny_bind (wpAny_pure (wpAny_pure ⟨_, rfl, wpAny_pure h⟩))) hz)
    | exact wpAny_bind (wpAny_bind (m := Builtin.Tuple.tupleExact _) (wpAny_newObj_type (wpAny_pure (wpAny_pure ⟨_, rfl, wpAny_pure h⟩)) hz))
    | exact wpAny_bind (wpAny_bind (m := Builtin.Tuple.tupleExact _) (wpAny_newObj_type (wpAny_pure ⟨_, rfl, wpAny_pure h⟩) hz))
end
def tRevT (K : PySem.W.Frag) (te ts : TE) : TE := fun σ H Q => te σ H fun x H1 => ts σ H1 fun y H2 => y = .int (-1) ∧ ∃ a xs, x = .ref a ∧ SqT K H2 a xs ∧ ∀ p, H2 p = none → Q (.ref p) (upd H2 p (.tup xs.reverse))
theorem pe_revT {e st : Expr} {te ts : TE} {p2 pos : Pos} (he : PE X e te) (hst : PE X st ts) (eK : X.K = K := by rfl) : PE X (.Subscript e (.Slice none none (some st) p2) pos) (tRevT K te ts) := by
  subst eK
  refine ⟨fun pins s σ H Q I h => ?_⟩
  refine Subscript_ (thn (he.run pins s σ H _ I h) fun v s1 ⟨x, H1, I1, r1, q1⟩ => ?_)
  refine wpAny_Slice ?_
  rw [evalPart_none]
  refine wpAny_pure ?_
  refine wpAny_pure ?_
  rw [evalPart_some]
  refine thn (hst.run pins s1 σ H1 _ I1 q1) fun vy s2 ⟨y, H2, I2, r2, ey, a, xs, ex, hx, q2⟩ => ?_
  subst ey ex
  obtain ⟨t, rfl⟩ := r2
  cases r1
  have I4 : Inv X pins σ H2 { s2 with heap := s2.heap.push { cls := .type "slice", data := .fields #[.none, .none, .int (-1) t] } } := I2.kept (t' := s2.toks) fun b ob q => Heap.get?_push_of_some _ q
  obtain ⟨its, r, ht, hz⟩ := I4.tuple hx
  refine tail_any (T := "tuple") (ops := [.ref a, .ref s2.heap.objs.size]) ht.typeIs PyProof.Rows.slot_tuple_getitem.lookup ?_ (by with_unfolding_all rfl)
  have hlen := r.length
  refine getItem_rev (l := its) ht (Heap.IsSliceOf.new ..) ?_ (by omega)
  refine ⟨.ref _, _, I4.laid (t' := s2.toks) (o := .tup xs.reverse) (fun b ob q => Heap.get?_push_of_some _ q) (Nat.le_refl _) ?_, rfl, q2 _ (I4.hok.fresh (Nat.le_refl _))⟩
  exact ⟨by rw [List.length_reverse]; exact hz, its.reverse, vals_rev r, IsTup.new _ _⟩
end
end Fm
/-! enumerate of a tuple. -/
namespace Fm
open PySem PySem.Spec PyProof.Rows L2
theorem enum_new_tup (l : Addr) (items : Array Value) (n : Nat) (dct : Option Addr) (sl : Array (Option Value)) :
    Meets (Builtin.«enumerate.__new__» ⟨[.type "enumerate", .ref l], []⟩) (fun _ R s => s.heap.get? l = some { cls := .type "tuple", dict := dct, data := .seq items n, slots := sl } ∧
      R (.ok (.ret (.ref (s.heap.push { cls := .type "tuple_iterator", data := .fields #[.ref l, .int 0 0] }).objs.size)))
        { s with heap := (s.heap.push { cls := .type "tuple_iterator", data := .fields #[.ref l, .int 0 0] }).push { cls := .type "enumerate", data := .fields #[.none, .bool false, .ref s.heap.objs.size, rawInt 0, .none, .none] } }) :=
  .of_wp fun prog w A R s h => by
    obtain ⟨hp, g, d, tk, os⟩ := s
    obtain ⟨hl, h⟩ := h
    have hsub := sub_enumerate
    have hL : Heap.IsTuple (Shared.heap ⟨hp, g, d, tk, os⟩) l items := ⟨_, hl, rfl, n, rfl⟩
    wp_walk using wpAny_loadPart' hl
    refine wpAny_stack_any fun st => wpAny_pure ?_
    split
    · rename_i c _ _ _ _ _
      cases (c == Value.type "enumerate")
      · wp_walk using wpAny_loadPart' hl, wpAny_pyIter_tuple hL
        exact ⟨_, rfl, h⟩
      · wp_walk using wpAny_loadPart' hl, wpAny_pyIter_tuple hL
        exact ⟨_, rfl, h⟩
    · wp_walk using wpAny_loadPart' hl, wpAny_pyIter_tuple hL
      exact ⟨_, rfl, h⟩
section
variable {prog : Program} {w : World} {A : Around} {E : Value → Shared → Prop} {s : Shared}
theorem call_enum_tup {l : Addr} {items : Array Value} {Q : Value → Shared → Prop} (hL : s.heap.IsTuple l items)
    (h : ∀ h', IsEnum h' (s.heap.objs.size + 1) s.heap.objs.size 0 .none → h'.IsTupleIter s.heap.objs.size l 0 → (∀ b o, s.heap.get? b = some o → h'.get? b = some o) → Q (.ref (s.heap.objs.size + 1)) { s with heap := h' }) :
    wpAny (model prog w) A (call (.type "enumerate") [.ref l]) Q E s := by
  obtain ⟨⟨c, dct, dt, sl⟩, hl, hc, n, hd⟩ := hL
  replace hc : c = .type "tuple" := hc
  replace hd : dt = .seq items n := hd
  subst hc hd
  refine callType_new F.called_enumerate (by decide) (F.typeCall_enumerate_1 _) (F.newCall_enumerate_1 _) (fun obj => F.args_object_init_2 obj _) F.entry_enumerate_new (enum_new_tup l items n dct sl) ⟨hl, ?_⟩
  have hz : (s.heap.push { cls := .type "tuple_iterator", data := .fields #[.ref l, .int 0 0] }).objs.size = s.heap.objs.size + 1 := Heap.size_push ..
  show _ ∧ _
  rw [hz]
  have he : IsEnum ((s.heap.push { cls := .type "tuple_iterator", data := .fields #[.ref l, .int 0 0] }).push
      { cls := .type "enumerate", data := .fields #[.none, .bool false, .ref s.heap.objs.size, rawInt 0, .none, .none] }) (s.heap.objs.size + 1) s.heap.objs.size 0 .none := by
    have t := Heap.get?_push_size (s.heap.push { cls := .type "tuple_iterator", data := .fields #[.ref l, .int 0 0] })
      (o := { cls := .type "enumerate", data := .fields #[.none, .bool false, .ref s.heap.objs.size, rawInt 0, .none, .none] }) rfl
    rw [hz] at t
    exact t
  exact ⟨⟨_, he, rfl⟩, h _ he ⟨_, Heap.get?_push_of_some _ (Heap.get?_push_size _ rfl), rfl, rfl⟩ fun b o x => Heap.get?_push_of_some _ (Heap.get?_push_of_some _ x)⟩
end
/-- the numbered items of a tuple -/
def ItE (K : PySem.W.Frag) (a : Addr) (xs : List V) : It where
  go := fun i H => SqT K H a xs ∧ i < xs.length
  yld := fun i H v H' => ∃ T x, v = .ref T ∧ H T = none ∧ H' = upd H T (.tup [.int (i : Nat), x]) ∧ xs[i]? = some x
  stop := fun i H => SqT K H a xs ∧ i = xs.length
theorem turn_e {P : Program} {w : World} {K : PySem.W.Frag} {elts : List Expr} {kk : Nat} {tp : Pos} {a e it : Addr} {xs : List V} (n1 : a ≠ it) (n2 : e ≠ it) (n3 : e ≠ a) :
    Turn P w K (.Tuple elts kk tp) (ItE K a xs) [e, it] e (fun i h => (∃ old, IsEnum h e it ((i : Nat) : Int) old) ∧ h.IsTupleIter it a i) where
  mem := List.mem_cons_self ..
  obj := by
    rintro i h ⟨⟨old, q1⟩, ⟨o, q2, _, d2⟩⟩ c hc
    rcases (show c = e ∨ c = it by simpa using hc) with z | z <;> subst z
    · exact ⟨_, q1, fun _ y => nomatch y⟩
    · exact ⟨o, q2, fun _ y => by rw [d2] at y; cases y⟩
  keep := by
    rintro i h h' ⟨⟨old, q1⟩, q2⟩ k
    exact ⟨⟨old, k _ (by simp) _ q1⟩, q2.at fun o z => k _ (by simp) o z⟩
  item := by
    intro X hP hw hK hc i pins s σ H E I hf st hg
    subst hP hw hK
    obtain ⟨hx, lx⟩ := hg
    obtain ⟨us, rx, px, _⟩ := I.tuple hx
    obtain ⟨⟨old, q1⟩, q2⟩ := st
    have hd : X.A.in1.handled = none := I.ok.hd hc
    have hel : e < s.heap.objs.size := Heap.lt_size q1
    have hil : it < s.heap.objs.size := by
      obtain ⟨_, q, _⟩ := id q2
      exact Heap.lt_size q
    refine wpAny_pyNext_enum_itemD (Draws.tuple (prog := X.prog) (w := X.w) hd it a n1 us.toArray) q1 ⟨q2, px⟩ (by rw [List.size_toArray, ← rx.length]; exact lx) n2 (by simp [n2, n3]) fun u h' tk hu ho st' hT hsz hk => ?_
    obtain ⟨x, ex, rxu⟩ := vals_at rx (show us[i]? = some u by simpa using hu)
    refine ⟨_, rfl, wpAny_letOwnedTupleGo_enum (s := { s with heap := h', toks := tk + 1 }) ho fun h'' he' sb => ?_⟩
    have hT2 := (sb.2 _ (Nat.ne_of_gt hel)).trans hT
    have new : ObjOk X.prog X.w (upd H s.heap.objs.size (.tup [.int (i : Nat), x])) h'' s.heap.objs.size (.tup [.int (i : Nat), x]) :=
      ⟨by show 2 ≤ sizeLine; decide, [.int i tk, u], .cons ⟨_, rfl⟩ (.cons rxu .nil), ⟨_, hT2, rfl, _, rfl⟩⟩
    have I1 : Inv X pins σ (upd H s.heap.objs.size (.tup [.int (i : Nat), x])) { s with heap := h'', toks := tk + 1 } :=
      I.turnedNew (t' := tk + 1) (ch := [e, it]) (fun b ob hb q => (sb.2 b (fun z => hb (by simp [z]))).trans (hk b ob (fun z => hb (by simp [z])) (fun z => hb (by simp [z])) q)) hf (Nat.le_refl _) new
    refine ⟨.ref s.heap.objs.size, _, I1, rfl, ⟨_, x, rfl, I.hok.fresh (Nat.le_refl _), rfl, ex⟩, ⟨⟨u, ?_⟩, st'.1.at fun o q => (sb.2 it (Ne.symm n2)).trans q⟩, fun b hb => ?_⟩
    · have e1 : ((i + 1 : Nat) : Int) = (i : Int) + 1 := by omega
      rw [e1]
      exact he'
    · have hb' : b < s.heap.objs.size := by
        rcases (show b = e ∨ b = it by simpa using hb) with z | z <;> subst z
        · exact hel
        · exact hil
      rw [upd_ne (Nat.ne_of_lt hb')]
      exact (hf b hb).1
  done := by
    intro X hP hw hK hc i pins s σ H E I hf st hg
    subst hP hw hK
    obtain ⟨hx, hi⟩ := hg
    obtain ⟨us, rx, px, _⟩ := I.tuple hx
    obtain ⟨⟨old, q1⟩, q2⟩ := st
    have hd : X.A.in1.handled = none := I.ok.hd hc
    have hn : i = us.toArray.size := by
      rw [List.size_toArray, ← rx.length]
      exact hi
    subst hn
    obtain ⟨f0, f1, f2, f3, f4, f5⟩ := hf it (by simp)
    exact wpAny_pyNext_enum_endD (Draws.tuple (prog := X.prog) (w := X.w) hd it a n1 us.toArray) q1 ⟨q2, px⟩ fun h' eb => ⟨rfl, I.turned (t' := s.toks) (fun b o hb q => eb b o hb q) f0 f1 f3 f4 f5⟩
  self := fun A i s Q E st q => by
    obtain ⟨⟨_, he⟩, _⟩ := st
    exact wpAny_pyIter_enum he q
def iEnumT (K : PySem.W.Frag) (ta : TA) : TI := fun σ H R => ta σ H fun vs H1 => ∃ a xs, vs = [.ref a] ∧ SqT K H1 a xs ∧ R (ItE K a xs) H1
theorem pi_enumT {X : Cx} {K : PySem.W.Frag} {e : Expr} {ta : TA} {p pos tpos : Pos} {elts : List Expr} {kk : Nat} (hg : Gl X "enumerate") (hm : X.mg "enumerate" = none) (ha : PA X [e] ta) (eK : X.K = K := by rfl) (hs : starEach [e] X.env = [(false, eval e X.env)] := by rfl) :
    PI X (.Tuple elts kk tpos) (.Call (.Name "enumerate" p) [e] [] pos) (iEnumT K ta) := by
  subst eK
  refine ⟨fun pins s σ H R I h => ?_⟩
  refine Call_ (ld_blt I hg hm boot_enumerate (PyProof.Rows.callWith_type1 (thn (ha.run pos pins s σ H _ I h) fun us s1 ⟨vs, H1, I1, r1, q1⟩ => ?_) hs rfl))
  obtain ⟨a, xs, ex, hq, q⟩ := q1
  subst ex
  cases r1 with
  | cons r rr =>
    cases rr
    cases r
    obtain ⟨its, rv, p', hz⟩ := I1.tuple hq
    have hal : a < s1.heap.objs.size := by
      obtain ⟨_, z, _⟩ := id p'
      exact Heap.lt_size z
    refine call_enum_tup p' fun h' he hit hk => wpAny_pyIter_enum he ?_
    have I2 : Inv X pins σ H1 { s1 with heap := h' } := I1.kept (t' := s1.toks) hk
    refine ⟨s1.heap.objs.size + 1, [s1.heap.objs.size + 1, s1.heap.objs.size], _, _, H1, rfl, I2, turn_e (xs := xs) (Nat.ne_of_lt hal) (Nat.succ_ne_self _) (Nat.ne_of_gt (Nat.lt_succ_of_lt hal)), ⟨⟨.none, he⟩, hit⟩, fun b hb => ?_, q⟩
    have hle : s1.heap.objs.size ≤ b := by
      rcases (show b = s1.heap.objs.size + 1 ∨ b = s1.heap.objs.size by simpa using hb) with z | z
      · rw [z]
        exact Nat.le_add_right _ _
      · rw [z]
        exact Nat.le_refl _
    exact I1.fpOk hle (I1.hok.fresh hle)
/-! ### by K -/
section
variable {X : Cx} {K : PySem.W.Frag}
theorem call_allK (hc : X.calm = true) (e : X.K = K := by rfl) : CallR X (.builtin "all") (rAll K) := e ▸ cr_all hc
theorem op_repTK (e : X.K = K := by rfl) : OpR X (binaryOp .Mult) (rRepT K) := e ▸ op_repT
theorem call_sortTsK (hu : X.A.units + 64 < PySem.cLine) (e : X.K = K := by rfl) : CallR X (.builtin "sorted") (rSortTs K) := e ▸ cr_sortTs hu
def rListOf (K : PySem.W.Frag) : List V → Hp → VK → Prop := fun xs H Q => ∃ p ys, xs = [.ref p] ∧ (SqL K H p ys ∨ SqT K H p ys) ∧ ∀ l, H l = none → Q (.ref l) (upd H l (.lst ys))
theorem call_listK (e : X.K = K := by rfl) : CallR X (.type "list") (rListOf K) := by
  subst e
  exact call_list_of
/-- isinstance(e, c), e the error that the suite holds, of a class that the reading tells -/
def rIsE2 (K : PySem.W.Frag) (cls : Value) (d : Option Addr) (a : Addr) : List V → Hp → VK → Prop := fun xs H Q => ∃ D : Addr, cls = .ref D ∧ d = none ∧ ExcC K D ∧ rIsE K D a xs H Q
theorem call_isE2 {a : Addr} {oe : Obj} {cls : Value} {d : Option Addr} {pn : List (Addr × Obj)} (hz : Zc cls d oe) (hf : ∃ vs, oe.data = .fields vs) (e : X.K = K := by rfl) : CallR (X.suite a ((a, oe) :: pn)) (.builtin "isinstance") (rIsE2 K cls d a) := by
  subst e
  intro pins s σ H xs us Q I r h
  obtain ⟨D, rfl, rfl, C, h⟩ := h
  exact call_isE C hz hf pins s σ H xs us Q I r h
end
end Fm
/-! A def that answers here and raises there. -/
namespace Fm
open PySem PySem.Spec PyProof.Rows L2
theorem FnOk.orX {P : Program} {w : World} {K : PySem.W.Frag} {mg : Str → Option Value} {base : Heap} {k : Nat} {f : Addr} {fd : FuncData} {ps : List Str} {sp sp2 : Sp} (F : FnOk P w K mg base L2.CX0 k f fd ps sp) (G : FnOk P w K mg base (L2.CX P w) k f fd ps sp2) :
    FnOk P w K mg base (L2.CX P w) k f fd ps (fun vs H Q E => sp vs H Q L2.E0 ∨ sp2 vs H Q E) := by
  refine ⟨fun vs H Q E h => ?_, fun A outer s H args us vs Q E hr he hb hv h => ?_⟩
  · rcases h with h | h
    · exact F.len _ _ _ _ h
    · exact G.len _ _ _ _ h
  · rcases h with h | h
    · refine codeAny_mono (F.run A outer s H args us vs Q L2.E0 hr he hb hv h) fun r s' q => ?_
      cases r with
      | error e => exact False.elim q
      | ok fl => cases fl <;> exact q
    · exact G.run A outer s H args us vs Q E hr he hb hv h
end Fm
namespace Fm
open PySem L2
theorem room65 {k : Nat} {A : Around} (r : Room k A) : A.units + 65 < cLine := by
  have := r.un
  omega
end Fm
namespace Fm
open PySem PySem.Spec PyProof.Rows L2
theorem for_enumT {K : PySem.W.Frag} {a : Addr} {xs : List V} {g : TG} {tb : TS} {D : Ends} {σ : L2.St} {H : Hp} (Pv : Nat → L2.St → Hp → Prop) (h0 : Pv 0 σ H) (hq : ∀ i σ H, Pv i σ H → SqT K H a xs)
    (hs : ∀ (i : Nat) (x : V) (T : Addr) (σ : L2.St) (H : Hp), xs[i]? = some x → Pv i σ H → H T = none → g (.ref T) σ (upd H T (.tup [.int (i : Nat), x])) fun σ2 H2 => tb { D with nx := Pv (i + 1), ct := Pv (i + 1), bk := D.nx } σ2 H2)
    (hd : ∀ σ H, Pv xs.length σ H → D.nx σ H) :
    ∃ W : Nat → Nat → L2.St → Hp → Prop, (∃ m, W 0 m σ H) ∧ ∀ i m σ H, W i m σ H →
      ((ItE K a xs).stop i H ∧ D.nx σ H) ∨ ((ItE K a xs).go i H ∧ ∃ N : L2.St → Hp → Prop, (∀ σ' H', N σ' H' → ∃ m', m' < m ∧ W (i + 1) m' σ' H') ∧ ∀ v H', (ItE K a xs).yld i H v H' → g v σ H' fun σ2 H2 => tb { D with nx := N, ct := N, bk := D.nx } σ2 H2) := by
  refine ⟨fun i m σ H => i + m = xs.length ∧ Pv i σ H, ⟨_, Nat.zero_add _, h0⟩, ?_⟩
  rintro i m σ H ⟨em, p⟩
  have qx := hq i σ H p
  cases m with
  | zero =>
    have ei : i = xs.length := em
    refine .inl ⟨⟨qx, ei⟩, hd σ H ?_⟩
    rw [← ei]
    exact p
  | succ m =>
    refine .inr ⟨⟨qx, by omega⟩, Pv (i + 1), fun σ' H' p' => ⟨m, Nat.lt_succ_self m, by omega, p'⟩, fun v H' y => ?_⟩
    obtain ⟨T, x, rfl, hT, rfl, f1⟩ := y
    exact hs i x T σ H f1 p hT
end Fm
namespace Fm
open PySem PySem.Spec PyProof.Rows L2
theorem pe_bmK {X : Cx} {K : PySem.W.Frag} {T id : String} {name : Str} {r : V → List V → Hp → VK → Prop} {o e : Expr} {es : List Expr} {to : TE} {t : TA} {apos cpos : Pos} (pa : PlainAttrs T) (slot : Slot T name id) (hty : typeOf (.builtin id) = pure (.type "method_descriptor")) (hm : MtR X id r) (ho : PE X o to) (ha : PA X (e :: es) t)
    (eK : X.K = K := by rfl) (hbase : attributeBase o name X.env (eval o X.env) = eval o X.env := by rfl)
    (hfew : ((backTo cpos (starEach (e :: es) X.env)).all (fun x => !x.1) && (backToKw cpos (keywordEach [] X.env)).all (fun x => x.1.isSome)
      && decide ((e :: es).length + ([] : List Keyword).length + (if ([] : List Keyword).isEmpty then 0 else 1) < 30)) = true := by rfl)
    (hline : (apos.endLine == cpos.line) = true := by rfl) (hs : starEach (e :: es) X.env = (false, eval e X.env) :: starEach es X.env := by rfl) (hplain : (backTo cpos (starEach es X.env)).any (·.1) = false := by rfl) :
    PE X (.Call (.Attribute o name apos) (e :: es) [] cpos) (tBM K T r to t) := by
  subst eK
  exact pe_bm pa slot hty hm ho ha hbase hfew hline hs hplain
end Fm
namespace Fm
open PySem PySem.Spec PyProof.Rows L2
def topS (i : Nat) : Stmt := PySem.Challenge.pw_fairmasks_k02_boxes_and_lists_judged_and.main.body.getD i (.Pass ⟨0, 0, 0, 0⟩)
abbrev s_is_whole : Stmt := topS 4
abbrev N_is_whole : List Str := ["thing"]
theorem sc_is_whole : FnScope N_is_whole ["thing"] (defScope s_is_whole) := ⟨rfl, rfl, rfl, by decide +kernel, rfl, by decide +kernel, by decide +kernel⟩
abbrev s_is_pair : Stmt := topS 5
abbrev N_is_pair : List Str := ["thing"]
theorem sc_is_pair : FnScope N_is_pair ["thing"] (defScope s_is_pair) := ⟨rfl, rfl, rfl, by decide +kernel, rfl, by decide +kernel, by decide +kernel⟩
abbrev s_is_fraction : Stmt := topS 6
abbrev N_is_fraction : List Str := ["thing", "top", "bottom"]
theorem sc_is_fraction : FnScope N_is_fraction ["thing"] (defScope s_is_fraction) := ⟨rfl, rfl, rfl, by decide +kernel, rfl, by decide +kernel, by decide +kernel⟩
abbrev s_is_share : Stmt := topS 7
abbrev N_is_share : List Str := ["thing"]
theorem sc_is_share : FnScope N_is_share ["thing"] (defScope s_is_share) := ⟨rfl, rfl, rfl, by decide +kernel, rfl, by decide +kernel, by decide +kernel⟩
abbrev s_fraction : Stmt := topS 8
abbrev N_fraction : List Str := ["top", "bottom", "common"]
theorem sc_fraction : FnScope N_fraction ["top", "bottom"] (defScope s_fraction) := ⟨rfl, rfl, rfl, by decide +kernel, rfl, by decide +kernel, by decide +kernel⟩
abbrev s_plus : Stmt := topS 9
abbrev N_plus : List Str := ["one", "other"]
theorem sc_plus : FnScope N_plus ["one", "other"] (defScope s_plus) := ⟨rfl, rfl, rfl, by decide +kernel, rfl, by decide +kernel, by decide +kernel⟩
abbrev s_is_sizes : Stmt := topS 24
abbrev N_is_sizes : List Str := ["thing", "many", "size"]
theorem sc_is_sizes : FnScope N_is_sizes ["thing"] (defScope s_is_sizes) := ⟨rfl, rfl, rfl, by decide +kernel, rfl, by decide +kernel, by decide +kernel⟩
abbrev s_is_content : Stmt := topS 25
abbrev N_is_content : List Str := ["sizes", "thing", "size", "worth"]
theorem sc_is_content : FnScope N_is_content ["sizes", "thing"] (defScope s_is_content) := ⟨rfl, rfl, rfl, by decide +kernel, rfl, by decide +kernel, by decide +kernel⟩
abbrev s_is_pattern : Stmt := topS 26
abbrev N_is_pattern : List Str := ["columns", "thing", "last", "column"]
theorem sc_is_pattern : FnScope N_is_pattern ["columns", "thing"] (defScope s_is_pattern) := ⟨rfl, rfl, rfl, by decide +kernel, rfl, by decide +kernel, by decide +kernel⟩
abbrev s_is_box_of : Stmt := topS 27
abbrev N_is_box_of : List Str := ["sizes", "thing", "pattern", "worths", "column"]
theorem sc_is_box_of : FnScope N_is_box_of ["sizes", "thing"] (defScope s_is_box_of) := ⟨rfl, rfl, rfl, by decide +kernel, rfl, by decide +kernel, by decide +kernel⟩
abbrev s_all_columns : Stmt := topS 28
abbrev N_all_columns : List Str := ["columns"]
theorem sc_all_columns : FnScope N_all_columns ["columns"] (defScope s_all_columns) := ⟨rfl, rfl, rfl, by decide +kernel, rfl, by decide +kernel, by decide +kernel⟩
abbrev s_all_contents : Stmt := topS 29
abbrev N_all_contents : List Str := ["sizes", "found", "size", "content", "worth"]
theorem sc_all_contents : FnScope N_all_contents ["sizes"] (defScope s_all_contents) := ⟨rfl, rfl, rfl, by decide +kernel, rfl, by decide +kernel, by decide +kernel⟩
abbrev s_worths_at : Stmt := topS 30
abbrev N_worths_at : List Str := ["pattern", "content", "column"]
theorem sc_worths_at : FnScope N_worths_at ["pattern", "content"] (defScope s_worths_at) := ⟨rfl, rfl, rfl, by decide +kernel, rfl, by decide +kernel, by decide +kernel⟩
abbrev s_contents : Stmt := topS 31
abbrev N_contents : List Str := ["sizes"]
theorem sc_contents : FnScope N_contents ["sizes"] (defScope s_contents) := ⟨rfl, rfl, rfl, by decide +kernel, rfl, by decide +kernel, by decide +kernel⟩
abbrev s_is_box : Stmt := topS 32
abbrev N_is_box : List Str := ["sizes", "thing"]
theorem sc_is_box : FnScope N_is_box ["sizes", "thing"] (defScope s_is_box) := ⟨rfl, rfl, rfl, by decide +kernel, rfl, by decide +kernel, by decide +kernel⟩
abbrev s_box_at : Stmt := topS 33
abbrev N_box_at : List Str := ["sizes", "pattern", "content"]
theorem sc_box_at : FnScope N_box_at ["sizes", "pattern", "content"] (defScope s_box_at) := ⟨rfl, rfl, rfl, by decide +kernel, rfl, by decide +kernel, by decide +kernel⟩
abbrev s_in_box : Stmt := topS 34
abbrev N_in_box : List Str := ["sizes", "box", "pattern", "worths", "content"]
theorem sc_in_box : FnScope N_in_box ["sizes", "box"] (defScope s_in_box) := ⟨rfl, rfl, rfl, by decide +kernel, rfl, by decide +kernel, by decide +kernel⟩
abbrev s_both : Stmt := topS 35
abbrev N_both : List Str := ["sizes", "box", "other", "told", "pattern", "column", "worth"]
theorem sc_both : FnScope N_both ["sizes", "box", "other"] (defScope s_both) := ⟨rfl, rfl, rfl, by decide +kernel, rfl, by decide +kernel, by decide +kernel⟩
abbrev s_is_list : Stmt := topS 36
abbrev N_is_list : List Str := ["columns", "thing", "last", "pattern"]
theorem sc_is_list : FnScope N_is_list ["columns", "thing"] (defScope s_is_list) := ⟨rfl, rfl, rfl, by decide +kernel, rfl, by decide +kernel, by decide +kernel⟩
abbrev s_is_habit_row : Stmt := topS 39
abbrev N_is_habit_row : List Str := ["columns", "thing", "last", "total", "pair", "pattern", "part"]
theorem sc_is_habit_row : FnScope N_is_habit_row ["columns", "thing"] (defScope s_is_habit_row) := ⟨rfl, rfl, rfl, by decide +kernel, rfl, by decide +kernel, by decide +kernel⟩
abbrev s_law_hand : Stmt := topS 41
abbrev N_law_hand : List Str := ["script", "cells", "cell"]
theorem sc_law_hand : FnScope N_law_hand ["script"] (defScope s_law_hand) := ⟨rfl, rfl, rfl, by decide +kernel, rfl, by decide +kernel, by decide +kernel⟩
abbrev s_law_draw : Stmt := topS 42
abbrev N_law_draw : List Str := ["hand", "many", "number", "cell", "digit"]
theorem sc_law_draw : FnScope N_law_draw ["hand", "many"] (defScope s_law_draw) := ⟨rfl, rfl, rfl, by decide +kernel, rfl, by decide +kernel, by decide +kernel⟩
abbrev s_law_some : Stmt := topS 43
abbrev N_law_some : List Str := ["hand", "things"]
theorem sc_law_some : FnScope N_law_some ["hand", "things"] (defScope s_law_some) := ⟨rfl, rfl, rfl, by decide +kernel, rfl, by decide +kernel, by decide +kernel⟩
abbrev s_law_deep : Stmt := topS 44
abbrev N_law_deep : List Str := ["hand", "found", "turn"]
theorem sc_law_deep : FnScope N_law_deep ["hand"] (defScope s_law_deep) := ⟨rfl, rfl, rfl, by decide +kernel, rfl, by decide +kernel, by decide +kernel⟩
abbrev s_law_sizes : Stmt := topS 45
abbrev N_law_sizes : List Str := ["hand"]
theorem sc_law_sizes : FnScope N_law_sizes ["hand"] (defScope s_law_sizes) := ⟨rfl, rfl, rfl, by decide +kernel, rfl, by decide +kernel, by decide +kernel⟩
abbrev s_law_contents : Stmt := topS 46
abbrev N_law_contents : List Str := ["sizes", "found", "size", "longer", "content", "worth"]
theorem sc_law_contents : FnScope N_law_contents ["sizes"] (defScope s_law_contents) := ⟨rfl, rfl, rfl, by decide +kernel, rfl, by decide +kernel, by decide +kernel⟩
abbrev s_law_patterns : Stmt := topS 47
abbrev N_law_patterns : List Str := ["columns", "found", "c", "pattern"]
theorem sc_law_patterns : FnScope N_law_patterns ["columns"] (defScope s_law_patterns) := ⟨rfl, rfl, rfl, by decide +kernel, rfl, by decide +kernel, by decide +kernel⟩
abbrev s_law_pattern : Stmt := topS 48
abbrev N_law_pattern : List Str := ["hand", "columns", "c"]
theorem sc_law_pattern : FnScope N_law_pattern ["hand", "columns"] (defScope s_law_pattern) := ⟨rfl, rfl, rfl, by decide +kernel, rfl, by decide +kernel, by decide +kernel⟩
abbrev s_law_box : Stmt := topS 49
abbrev N_law_box : List Str := ["pattern", "content", "c"]
theorem sc_law_box : FnScope N_law_box ["pattern", "content"] (defScope s_law_box) := ⟨rfl, rfl, rfl, by decide +kernel, rfl, by decide +kernel, by decide +kernel⟩
abbrev s_law_is_int : Stmt := topS 50
abbrev N_law_is_int : List Str := ["thing", "least", "most"]
theorem sc_law_is_int : FnScope N_law_is_int ["thing", "least", "most"] (defScope s_law_is_int) := ⟨rfl, rfl, rfl, by decide +kernel, rfl, by decide +kernel, by decide +kernel⟩
abbrev s_law_is_pattern : Stmt := topS 51
abbrev N_law_is_pattern : List Str := ["columns", "thing", "k", "c"]
theorem sc_law_is_pattern : FnScope N_law_is_pattern ["columns", "thing"] (defScope s_law_is_pattern) := ⟨rfl, rfl, rfl, by decide +kernel, rfl, by decide +kernel, by decide +kernel⟩
abbrev s_law_is_content : Stmt := topS 52
abbrev N_law_is_content : List Str := ["sizes", "thing", "c"]
theorem sc_law_is_content : FnScope N_law_is_content ["sizes", "thing"] (defScope s_law_is_content) := ⟨rfl, rfl, rfl, by decide +kernel, rfl, by decide +kernel, by decide +kernel⟩
abbrev s_law_is_box : Stmt := topS 53
abbrev N_law_is_box : List Str := ["sizes", "thing", "c", "worth"]
theorem sc_law_is_box : FnScope N_law_is_box ["sizes", "thing"] (defScope s_law_is_box) := ⟨rfl, rfl, rfl, by decide +kernel, rfl, by decide +kernel, by decide +kernel⟩
abbrev s_law_are_sizes : Stmt := topS 54
abbrev N_law_are_sizes : List Str := ["thing", "product", "size"]
theorem sc_law_are_sizes : FnScope N_law_are_sizes ["thing"] (defScope s_law_are_sizes) := ⟨rfl, rfl, rfl, by decide +kernel, rfl, by decide +kernel, by decide +kernel⟩
abbrev s_law_is_list : Stmt := topS 55
abbrev N_law_is_list : List Str := ["columns", "thing", "pattern", "k"]
theorem sc_law_is_list : FnScope N_law_is_list ["columns", "thing"] (defScope s_law_is_list) := ⟨rfl, rfl, rfl, by decide +kernel, rfl, by decide +kernel, by decide +kernel⟩
abbrev s_law_odd : Stmt := topS 56
abbrev N_law_odd : List Str := ["hand", "habit", "odd"]
theorem sc_law_odd : FnScope N_law_odd ["hand"] (defScope s_law_odd) := ⟨rfl, rfl, rfl, by decide +kernel, rfl, by decide +kernel, by decide +kernel⟩
abbrev s_law_bent : Stmt := topS 57
abbrev N_law_bent : List Str := ["hand", "row", "most", "at", "odd", "things"]
theorem sc_law_bent : FnScope N_law_bent ["hand", "row", "most"] (defScope s_law_bent) := ⟨rfl, rfl, rfl, by decide +kernel, rfl, by decide +kernel, by decide +kernel⟩
abbrev s_law_word : Stmt := topS 58
abbrev N_law_word : List Str := ["which", "sizes", "first", "second", "word", "e", "flags"]
theorem sc_law_word : FnScope N_law_word ["which", "sizes", "first", "second"] (defScope s_law_word) := ⟨rfl, rfl, rfl, by decide +kernel, rfl, by decide +kernel, by decide +kernel⟩
abbrev s_law_due : Stmt := topS 59
abbrev N_law_due : List Str := ["which", "sizes", "first", "second"]
theorem sc_law_due : FnScope N_law_due ["which", "sizes", "first", "second"] (defScope s_law_due) := ⟨rfl, rfl, rfl, by decide +kernel, rfl, by decide +kernel, by decide +kernel⟩
abbrev s_law_drawn_list : Stmt := topS 60
abbrev N_law_drawn_list : List Str := ["hand", "columns", "every", "kept", "many", "pattern"]
theorem sc_law_drawn_list : FnScope N_law_drawn_list ["hand", "columns"] (defScope s_law_drawn_list) := ⟨rfl, rfl, rfl, by decide +kernel, rfl, by decide +kernel, by decide +kernel⟩
abbrev s_law_bent_list : Stmt := topS 61
abbrev N_law_bent_list : List Str := ["hand", "columns", "told", "at", "pattern", "things"]
theorem sc_law_bent_list : FnScope N_law_bent_list ["hand", "columns", "told"] (defScope s_law_bent_list) := ⟨rfl, rfl, rfl, by decide +kernel, rfl, by decide +kernel, by decide +kernel⟩
abbrev s_law_flag : Stmt := topS 62
abbrev N_law_flag : List Str := ["told", "due"]
theorem sc_law_flag : FnScope N_law_flag ["told", "due"] (defScope s_law_flag) := ⟨rfl, rfl, rfl, by decide +kernel, rfl, by decide +kernel, by decide +kernel⟩
abbrev s_law : Stmt := topS 63
abbrev N_law : List Str := ["script", "hand", "turn", "sizes", "every", "box", "other", "step", "columns", "told", "thing", "many", "worths", "first", "odd", "wrong", "pattern", "content", "second", "asked", "which", "one", "two"]
theorem sc_law : FnScope N_law ["script"] (defScope s_law) := ⟨rfl, rfl, rfl, by decide +kernel, rfl, by decide +kernel, by decide +kernel⟩
abbrev s_BadSizes_init : Stmt := inClass (topS 12) 0
abbrev N_BadSizes_init : List Str := ["self"]
theorem sc_BadSizes_init : FnScope N_BadSizes_init ["self"] (defScope s_BadSizes_init) := ⟨rfl, rfl, rfl, by decide +kernel, rfl, by decide +kernel, by decide +kernel⟩
abbrev s_NoPattern_init : Stmt := inClass (topS 13) 0
abbrev N_NoPattern_init : List Str := ["self"]
theorem sc_NoPattern_init : FnScope N_NoPattern_init ["self"] (defScope s_NoPattern_init) := ⟨rfl, rfl, rfl, by decide +kernel, rfl, by decide +kernel, by decide +kernel⟩
abbrev s_NoContent_init : Stmt := inClass (topS 14) 0
abbrev N_NoContent_init : List Str := ["self"]
theorem sc_NoContent_init : FnScope N_NoContent_init ["self"] (defScope s_NoContent_init) := ⟨rfl, rfl, rfl, by decide +kernel, rfl, by decide +kernel, by decide +kernel⟩
abbrev s_NoBox_init : Stmt := inClass (topS 15) 0
abbrev N_NoBox_init : List Str := ["self"]
theorem sc_NoBox_init : FnScope N_NoBox_init ["self"] (defScope s_NoBox_init) := ⟨rfl, rfl, rfl, by decide +kernel, rfl, by decide +kernel, by decide +kernel⟩
abbrev s_NoNumber_init : Stmt := inClass (topS 16) 0
abbrev N_NoNumber_init : List Str := ["self"]
theorem sc_NoNumber_init : FnScope N_NoNumber_init ["self"] (defScope s_NoNumber_init) := ⟨rfl, rfl, rfl, by decide +kernel, rfl, by decide +kernel, by decide +kernel⟩
abbrev s_Habit_init : Stmt := inClass (topS 38) 0
abbrev N_Habit_init : List Str := ["self", "sizes", "rows", "index", "row"]
theorem sc_Habit_init : FnScope N_Habit_init ["self", "sizes", "rows"] (defScope s_Habit_init) := ⟨rfl, rfl, rfl, by decide +kernel, rfl, by decide +kernel, by decide +kernel⟩
/-- what the top has left: each def, each constant, the built-ins that are not hidden -/
structure Txt (K : PySem.W.Frag) (mg : Str → Option Value) where
  f_is_whole : Addr
  d_is_whole : FuncData
  F_is_whole : Fun K "is_whole" "is_whole" s_is_whole f_is_whole d_is_whole
  b_is_whole : Binds K d_is_whole ["thing"] []
  g_is_whole : mg "is_whole" = some (.ref f_is_whole)
  f_is_pair : Addr
  d_is_pair : FuncData
  F_is_pair : Fun K "is_pair" "is_pair" s_is_pair f_is_pair d_is_pair
  b_is_pair : Binds K d_is_pair ["thing"] []
  g_is_pair : mg "is_pair" = some (.ref f_is_pair)
  f_is_fraction : Addr
  d_is_fraction : FuncData
  F_is_fraction : Fun K "is_fraction" "is_fraction" s_is_fraction f_is_fraction d_is_fraction
  b_is_fraction : Binds K d_is_fraction ["thing"] []
  g_is_fraction : mg "is_fraction" = some (.ref f_is_fraction)
  f_is_share : Addr
  d_is_share : FuncData
  F_is_share : Fun K "is_share" "is_share" s_is_share f_is_share d_is_share
  b_is_share : Binds K d_is_share ["thing"] []
  g_is_share : mg "is_share" = some (.ref f_is_share)
  f_fraction : Addr
  d_fraction : FuncData
  F_fraction : Fun K "fraction" "fraction" s_fraction f_fraction d_fraction
  b_fraction : Binds K d_fraction ["top", "bottom"] []
  g_fraction : mg "fraction" = some (.ref f_fraction)
  f_plus : Addr
  d_plus : FuncData
  F_plus : Fun K "plus" "plus" s_plus f_plus d_plus
  b_plus : Binds K d_plus ["one", "other"] []
  g_plus : mg "plus" = some (.ref f_plus)
  f_is_sizes : Addr
  d_is_sizes : FuncData
  F_is_sizes : Fun K "is_sizes" "is_sizes" s_is_sizes f_is_sizes d_is_sizes
  b_is_sizes : Binds K d_is_sizes ["thing"] []
  g_is_sizes : mg "is_sizes" = some (.ref f_is_sizes)
  f_is_content : Addr
  d_is_content : FuncData
  F_is_content : Fun K "is_content" "is_content" s_is_content f_is_content d_is_content
  b_is_content : Binds K d_is_content ["sizes", "thing"] []
  g_is_content : mg "is_content" = some (.ref f_is_content)
  f_is_pattern : Addr
  d_is_pattern : FuncData
  F_is_pattern : Fun K "is_pattern" "is_pattern" s_is_pattern f_is_pattern d_is_pattern
  b_is_pattern : Binds K d_is_pattern ["columns", "thing"] []
  g_is_pattern : mg "is_pattern" = some (.ref f_is_pattern)
  f_is_box_of : Addr
  d_is_box_of : FuncData
  F_is_box_of : Fun K "is_box_of" "is_box_of" s_is_box_of f_is_box_of d_is_box_of
  b_is_box_of : Binds K d_is_box_of ["sizes", "thing"] []
  g_is_box_of : mg "is_box_of" = some (.ref f_is_box_of)
  f_all_columns : Addr
  d_all_columns : FuncData
  F_all_columns : Fun K "all_columns" "all_columns" s_all_columns f_all_columns d_all_columns
  b_all_columns : Binds K d_all_columns ["columns"] []
  g_all_columns : mg "all_columns" = some (.ref f_all_columns)
  f_all_contents : Addr
  d_all_contents : FuncData
  F_all_contents : Fun K "all_contents" "all_contents" s_all_contents f_all_contents d_all_contents
  b_all_contents : Binds K d_all_contents ["sizes"] []
  g_all_contents : mg "all_contents" = some (.ref f_all_contents)
  f_worths_at : Addr
  d_worths_at : FuncData
  F_worths_at : Fun K "worths_at" "worths_at" s_worths_at f_worths_at d_worths_at
  b_worths_at : Binds K d_worths_at ["pattern", "content"] []
  g_worths_at : mg "worths_at" = some (.ref f_worths_at)
  f_contents : Addr
  d_contents : FuncData
  F_contents : Fun K "contents" "contents" s_contents f_contents d_contents
  b_contents : Binds K d_contents ["sizes"] []
  g_contents : mg "contents" = some (.ref f_contents)
  f_is_box : Addr
  d_is_box : FuncData
  F_is_box : Fun K "is_box" "is_box" s_is_box f_is_box d_is_box
  b_is_box : Binds K d_is_box ["sizes", "thing"] []
  g_is_box : mg "is_box" = some (.ref f_is_box)
  f_box_at : Addr
  d_box_at : FuncData
  F_box_at : Fun K "box_at" "box_at" s_box_at f_box_at d_box_at
  b_box_at : Binds K d_box_at ["sizes", "pattern", "content"] []
  g_box_at : mg "box_at" = some (.ref f_box_at)
  f_in_box : Addr
  d_in_box : FuncData
  F_in_box : Fun K "in_box" "in_box" s_in_box f_in_box d_in_box
  b_in_box : Binds K d_in_box ["sizes", "box"] []
  g_in_box : mg "in_box" = some (.ref f_in_box)
  f_both : Addr
  d_both : FuncData
  F_both : Fun K "both" "both" s_both f_both d_both
  b_both : Binds K d_both ["sizes", "box", "other"] []
  g_both : mg "both" = some (.ref f_both)
  f_is_list : Addr
  d_is_list : FuncData
  F_is_list : Fun K "is_list" "is_list" s_is_list f_is_list d_is_list
  b_is_list : Binds K d_is_list ["columns", "thing"] []
  g_is_list : mg "is_list" = some (.ref f_is_list)
  f_is_habit_row : Addr
  d_is_habit_row : FuncData
  F_is_habit_row : Fun K "is_habit_row" "is_habit_row" s_is_habit_row f_is_habit_row d_is_habit_row
  b_is_habit_row : Binds K d_is_habit_row ["columns", "thing"] []
  g_is_habit_row : mg "is_habit_row" = some (.ref f_is_habit_row)
  f_law_hand : Addr
  d_law_hand : FuncData
  F_law_hand : Fun K "_law_hand" "_law_hand" s_law_hand f_law_hand d_law_hand
  b_law_hand : Binds K d_law_hand ["script"] []
  g_law_hand : mg "_law_hand" = some (.ref f_law_hand)
  f_law_draw : Addr
  d_law_draw : FuncData
  F_law_draw : Fun K "_law_draw" "_law_draw" s_law_draw f_law_draw d_law_draw
  b_law_draw : Binds K d_law_draw ["hand", "many"] []
  g_law_draw : mg "_law_draw" = some (.ref f_law_draw)
  f_law_some : Addr
  d_law_some : FuncData
  F_law_some : Fun K "_law_some" "_law_some" s_law_some f_law_some d_law_some
  b_law_some : Binds K d_law_some ["hand", "things"] []
  g_law_some : mg "_law_some" = some (.ref f_law_some)
  f_law_deep : Addr
  d_law_deep : FuncData
  F_law_deep : Fun K "_law_deep" "_law_deep" s_law_deep f_law_deep d_law_deep
  b_law_deep : Binds K d_law_deep ["hand"] []
  g_law_deep : mg "_law_deep" = some (.ref f_law_deep)
  f_law_sizes : Addr
  d_law_sizes : FuncData
  F_law_sizes : Fun K "_law_sizes" "_law_sizes" s_law_sizes f_law_sizes d_law_sizes
  b_law_sizes : Binds K d_law_sizes ["hand"] []
  g_law_sizes : mg "_law_sizes" = some (.ref f_law_sizes)
  f_law_contents : Addr
  d_law_contents : FuncData
  F_law_contents : Fun K "_law_contents" "_law_contents" s_law_contents f_law_contents d_law_contents
  b_law_contents : Binds K d_law_contents ["sizes"] []
  g_law_contents : mg "_law_contents" = some (.ref f_law_contents)
  f_law_patterns : Addr
  d_law_patterns : FuncData
  F_law_patterns : Fun K "_law_patterns" "_law_patterns" s_law_patterns f_law_patterns d_law_patterns
  b_law_patterns : Binds K d_law_patterns ["columns"] []
  g_law_patterns : mg "_law_patterns" = some (.ref f_law_patterns)
  f_law_pattern : Addr
  d_law_pattern : FuncData
  F_law_pattern : Fun K "_law_pattern" "_law_pattern" s_law_pattern f_law_pattern d_law_pattern
  b_law_pattern : Binds K d_law_pattern ["hand", "columns"] []
  g_law_pattern : mg "_law_pattern" = some (.ref f_law_pattern)
  f_law_box : Addr
  d_law_box : FuncData
  F_law_box : Fun K "_law_box" "_law_box" s_law_box f_law_box d_law_box
  b_law_box : Binds K d_law_box ["pattern", "content"] []
  g_law_box : mg "_law_box" = some (.ref f_law_box)
  f_law_is_int : Addr
  d_law_is_int : FuncData
  F_law_is_int : Fun K "_law_is_int" "_law_is_int" s_law_is_int f_law_is_int d_law_is_int
  b_law_is_int : Binds K d_law_is_int ["thing", "least", "most"] []
  g_law_is_int : mg "_law_is_int" = some (.ref f_law_is_int)
  f_law_is_pattern : Addr
  d_law_is_pattern : FuncData
  F_law_is_pattern : Fun K "_law_is_pattern" "_law_is_pattern" s_law_is_pattern f_law_is_pattern d_law_is_pattern
  b_law_is_pattern : Binds K d_law_is_pattern ["columns", "thing"] []
  g_law_is_pattern : mg "_law_is_pattern" = some (.ref f_law_is_pattern)
  f_law_is_content : Addr
  d_law_is_content : FuncData
  F_law_is_content : Fun K "_law_is_content" "_law_is_content" s_law_is_content f_law_is_content d_law_is_content
  b_law_is_content : Binds K d_law_is_content ["sizes", "thing"] []
  g_law_is_content : mg "_law_is_content" = some (.ref f_law_is_content)
  f_law_is_box : Addr
  d_law_is_box : FuncData
  F_law_is_box : Fun K "_law_is_box" "_law_is_box" s_law_is_box f_law_is_box d_law_is_box
  b_law_is_box : Binds K d_law_is_box ["sizes", "thing"] []
  g_law_is_box : mg "_law_is_box" = some (.ref f_law_is_box)
  f_law_are_sizes : Addr
  d_law_are_sizes : FuncData
  F_law_are_sizes : Fun K "_law_are_sizes" "_law_are_sizes" s_law_are_sizes f_law_are_sizes d_law_are_sizes
  b_law_are_sizes : Binds K d_law_are_sizes ["thing"] []
  g_law_are_sizes : mg "_law_are_sizes" = some (.ref f_law_are_sizes)
  f_law_is_list : Addr
  d_law_is_list : FuncData
  F_law_is_list : Fun K "_law_is_list" "_law_is_list" s_law_is_list f_law_is_list d_law_is_list
  b_law_is_list : Binds K d_law_is_list ["columns", "thing"] []
  g_law_is_list : mg "_law_is_list" = some (.ref f_law_is_list)
  f_law_odd : Addr
  d_law_odd : FuncData
  F_law_odd : Fun K "_law_odd" "_law_odd" s_law_odd f_law_odd d_law_odd
  b_law_odd : Binds K d_law_odd ["hand"] []
  g_law_odd : mg "_law_odd" = some (.ref f_law_odd)
  f_law_bent : Addr
  d_law_bent : FuncData
  F_law_bent : Fun K "_law_bent" "_law_bent" s_law_bent f_law_bent d_law_bent
  b_law_bent : Binds K d_law_bent ["hand", "row", "most"] []
  g_law_bent : mg "_law_bent" = some (.ref f_law_bent)
  f_law_word : Addr
  d_law_word : FuncData
  F_law_word : Fun K "_law_word" "_law_word" s_law_word f_law_word d_law_word
  b_law_word : Binds K d_law_word ["which", "sizes", "first", "second"] []
  g_law_word : mg "_law_word" = some (.ref f_law_word)
  f_law_due : Addr
  d_law_due : FuncData
  F_law_due : Fun K "_law_due" "_law_due" s_law_due f_law_due d_law_due
  b_law_due : Binds K d_law_due ["which", "sizes", "first", "second"] []
  g_law_due : mg "_law_due" = some (.ref f_law_due)
  f_law_drawn_list : Addr
  d_law_drawn_list : FuncData
  F_law_drawn_list : Fun K "_law_drawn_list" "_law_drawn_list" s_law_drawn_list f_law_drawn_list d_law_drawn_list
  b_law_drawn_list : Binds K d_law_drawn_list ["hand", "columns"] []
  g_law_drawn_list : mg "_law_drawn_list" = some (.ref f_law_drawn_list)
  f_law_bent_list : Addr
  d_law_bent_list : FuncData
  F_law_bent_list : Fun K "_law_bent_list" "_law_bent_list" s_law_bent_list f_law_bent_list d_law_bent_list
  b_law_bent_list : Binds K d_law_bent_list ["hand", "columns", "told"] []
  g_law_bent_list : mg "_law_bent_list" = some (.ref f_law_bent_list)
  f_law_flag : Addr
  d_law_flag : FuncData
  F_law_flag : Fun K "_law_flag" "_law_flag" s_law_flag f_law_flag d_law_flag
  b_law_flag : Binds K d_law_flag ["told", "due"] []
  g_law_flag : mg "_law_flag" = some (.ref f_law_flag)
  f_BadSizes_init : Addr
  d_BadSizes_init : FuncData
  F_BadSizes_init : Fun K "__init__" "BadSizes.__init__" s_BadSizes_init f_BadSizes_init d_BadSizes_init
  b_BadSizes_init : Binds K d_BadSizes_init ["self"] []
  f_NoPattern_init : Addr
  d_NoPattern_init : FuncData
  F_NoPattern_init : Fun K "__init__" "NoPattern.__init__" s_NoPattern_init f_NoPattern_init d_NoPattern_init
  b_NoPattern_init : Binds K d_NoPattern_init ["self"] []
  f_NoContent_init : Addr
  d_NoContent_init : FuncData
  F_NoContent_init : Fun K "__init__" "NoContent.__init__" s_NoContent_init f_NoContent_init d_NoContent_init
  b_NoContent_init : Binds K d_NoContent_init ["self"] []
  f_NoBox_init : Addr
  d_NoBox_init : FuncData
  F_NoBox_init : Fun K "__init__" "NoBox.__init__" s_NoBox_init f_NoBox_init d_NoBox_init
  b_NoBox_init : Binds K d_NoBox_init ["self"] []
  f_NoNumber_init : Addr
  d_NoNumber_init : FuncData
  F_NoNumber_init : Fun K "__init__" "NoNumber.__init__" s_NoNumber_init f_NoNumber_init d_NoNumber_init
  b_NoNumber_init : Binds K d_NoNumber_init ["self"] []
  f_Habit_init : Addr
  d_Habit_init : FuncData
  F_Habit_init : Fun K "__init__" "Habit.__init__" s_Habit_init f_Habit_init d_Habit_init
  b_Habit_init : Binds K d_Habit_init ["self", "sizes", "rows"] []
  c_MaskError : Addr
  g_MaskError : mg "MaskError" = some (.ref c_MaskError)
  m_MaskError : Value
  U_MaskError : UpC K c_MaskError m_MaskError
  c_BadSizes : Addr
  g_BadSizes : mg "BadSizes" = some (.ref c_BadSizes)
  o_BadSizes : OexC K c_BadSizes
  i_BadSizes : PySem.W.findIn K (.ref c_BadSizes) "__init__" = some (some (.ref f_BadSizes_init))
  t_BadSizes : PySem.W.typeIn K (.ref f_BadSizes_init) = some (.type "function")
  e_BadSizes : ExcC K c_BadSizes
  x_BadSizes : PySem.W.exmOne K (.ref c_BadSizes) (.ref c_MaskError) = some true
  c_NoPattern : Addr
  g_NoPattern : mg "NoPattern" = some (.ref c_NoPattern)
  o_NoPattern : OexC K c_NoPattern
  i_NoPattern : PySem.W.findIn K (.ref c_NoPattern) "__init__" = some (some (.ref f_NoPattern_init))
  t_NoPattern : PySem.W.typeIn K (.ref f_NoPattern_init) = some (.type "function")
  e_NoPattern : ExcC K c_NoPattern
  x_NoPattern : PySem.W.exmOne K (.ref c_NoPattern) (.ref c_MaskError) = some true
  c_NoContent : Addr
  g_NoContent : mg "NoContent" = some (.ref c_NoContent)
  o_NoContent : OexC K c_NoContent
  i_NoContent : PySem.W.findIn K (.ref c_NoContent) "__init__" = some (some (.ref f_NoContent_init))
  t_NoContent : PySem.W.typeIn K (.ref f_NoContent_init) = some (.type "function")
  e_NoContent : ExcC K c_NoContent
  x_NoContent : PySem.W.exmOne K (.ref c_NoContent) (.ref c_MaskError) = some true
  c_NoBox : Addr
  g_NoBox : mg "NoBox" = some (.ref c_NoBox)
  o_NoBox : OexC K c_NoBox
  i_NoBox : PySem.W.findIn K (.ref c_NoBox) "__init__" = some (some (.ref f_NoBox_init))
  t_NoBox : PySem.W.typeIn K (.ref f_NoBox_init) = some (.type "function")
  e_NoBox : ExcC K c_NoBox
  x_NoBox : PySem.W.exmOne K (.ref c_NoBox) (.ref c_MaskError) = some true
  c_NoNumber : Addr
  g_NoNumber : mg "NoNumber" = some (.ref c_NoNumber)
  o_NoNumber : OexC K c_NoNumber
  i_NoNumber : PySem.W.findIn K (.ref c_NoNumber) "__init__" = some (some (.ref f_NoNumber_init))
  t_NoNumber : PySem.W.typeIn K (.ref f_NoNumber_init) = some (.type "function")
  e_NoNumber : ExcC K c_NoNumber
  x_NoNumber : PySem.W.exmOne K (.ref c_NoNumber) (.ref c_MaskError) = some true
  q_BadSizes_BadSizes : PySem.W.kitOne K (.ref c_BadSizes) (.ref c_BadSizes) = some true
  q_BadSizes_NoPattern : PySem.W.kitOne K (.ref c_BadSizes) (.ref c_NoPattern) = some false
  q_BadSizes_NoContent : PySem.W.kitOne K (.ref c_BadSizes) (.ref c_NoContent) = some false
  q_BadSizes_NoBox : PySem.W.kitOne K (.ref c_BadSizes) (.ref c_NoBox) = some false
  q_BadSizes_NoNumber : PySem.W.kitOne K (.ref c_BadSizes) (.ref c_NoNumber) = some false
  q_NoPattern_BadSizes : PySem.W.kitOne K (.ref c_NoPattern) (.ref c_BadSizes) = some false
  q_NoPattern_NoPattern : PySem.W.kitOne K (.ref c_NoPattern) (.ref c_NoPattern) = some true
  q_NoPattern_NoContent : PySem.W.kitOne K (.ref c_NoPattern) (.ref c_NoContent) = some false
  q_NoPattern_NoBox : PySem.W.kitOne K (.ref c_NoPattern) (.ref c_NoBox) = some false
  q_NoPattern_NoNumber : PySem.W.kitOne K (.ref c_NoPattern) (.ref c_NoNumber) = some false
  q_NoContent_BadSizes : PySem.W.kitOne K (.ref c_NoContent) (.ref c_BadSizes) = some false
  q_NoContent_NoPattern : PySem.W.kitOne K (.ref c_NoContent) (.ref c_NoPattern) = some false
  q_NoContent_NoContent : PySem.W.kitOne K (.ref c_NoContent) (.ref c_NoContent) = some true
  q_NoContent_NoBox : PySem.W.kitOne K (.ref c_NoContent) (.ref c_NoBox) = some false
  q_NoContent_NoNumber : PySem.W.kitOne K (.ref c_NoContent) (.ref c_NoNumber) = some false
  q_NoBox_BadSizes : PySem.W.kitOne K (.ref c_NoBox) (.ref c_BadSizes) = some false
  q_NoBox_NoPattern : PySem.W.kitOne K (.ref c_NoBox) (.ref c_NoPattern) = some false
  q_NoBox_NoContent : PySem.W.kitOne K (.ref c_NoBox) (.ref c_NoContent) = some false
  q_NoBox_NoBox : PySem.W.kitOne K (.ref c_NoBox) (.ref c_NoBox) = some true
  q_NoBox_NoNumber : PySem.W.kitOne K (.ref c_NoBox) (.ref c_NoNumber) = some false
  q_NoNumber_BadSizes : PySem.W.kitOne K (.ref c_NoNumber) (.ref c_BadSizes) = some false
  q_NoNumber_NoPattern : PySem.W.kitOne K (.ref c_NoNumber) (.ref c_NoPattern) = some false
  q_NoNumber_NoContent : PySem.W.kitOne K (.ref c_NoNumber) (.ref c_NoContent) = some false
  q_NoNumber_NoBox : PySem.W.kitOne K (.ref c_NoNumber) (.ref c_NoBox) = some false
  q_NoNumber_NoNumber : PySem.W.kitOne K (.ref c_NoNumber) (.ref c_NoNumber) = some true
  c_Habit : Addr
  g_Habit : mg "Habit" = some (.ref c_Habit)
  M_Habit : Mk K c_Habit f_Habit_init
  l_Habit : Cls K c_Habit
  a_sizes : NoAttr K c_Habit "sizes"
  a_rows : NoAttr K c_Habit "rows"
  h_Habit : PySem.W.findIn K (.ref c_Habit) "__class__" = some (some (.builtin "object.__class__"))
  h2_Habit : PySem.W.specialIn K (.builtin "object.__class__") "__get__" = some (some (.builtin "getset_descriptor.__get__"))
  h3_Habit : PySem.W.takesIn K (.builtin "object.__class__") = some true
  h4_Habit : PySem.W.mroIn K c_Habit (.type "object") = some true
  k_Habit_int : PySem.W.kitOne K (.ref c_Habit) (.type "int") = some false
  k_Habit_tuple : PySem.W.kitOne K (.ref c_Habit) (.type "tuple") = some false
  w_gcd : mg "gcd" = some (.builtin "math.gcd")
  v_ZERO : Addr
  g_ZERO : mg "ZERO" = some (.ref v_ZERO)
  k_ZERO : ∀ H, SqT K H v_ZERO [.int 0, .int 1]
  v_ONE : Addr
  g_ONE : mg "ONE" = some (.ref v_ONE)
  k_ONE : ∀ H, SqT K H v_ONE [.int 1, .int 1]
  u_MOST_COLUMNS : Value
  k_MOST_COLUMNS : mg "MOST_COLUMNS" = some u_MOST_COLUMNS ∧ RelV (.int 5) u_MOST_COLUMNS
  u_LEAST_SIZE : Value
  k_LEAST_SIZE : mg "LEAST_SIZE" = some u_LEAST_SIZE ∧ RelV (.int 2) u_LEAST_SIZE
  u_MOST_SIZE : Value
  k_MOST_SIZE : mg "MOST_SIZE" = some u_MOST_SIZE ∧ RelV (.int 4) u_MOST_SIZE
  u_MOST_CONTENTS : Value
  k_MOST_CONTENTS : mg "MOST_CONTENTS" = some u_MOST_CONTENTS ∧ RelV (.int 256) u_MOST_CONTENTS
  u_MOST_PATTERNS : Value
  k_MOST_PATTERNS : mg "MOST_PATTERNS" = some u_MOST_PATTERNS ∧ RelV (.int 12) u_MOST_PATTERNS
  z_len : mg "len" = none
  z_isinstance : mg "isinstance" = none
  z_range : mg "range" = none
  z_zip : mg "zip" = none
  z_tuple : mg "tuple" = none
  z_list : mg "list" = none
  z_int : mg "int" = none
  z_bool : mg "bool" = none
  z_abs : mg "abs" = none
  z_sorted : mg "sorted" = none
  z_enumerate : mg "enumerate" = none
  z_all : mg "all" = none
section
variable {P : Program} {w : World} {K : PySem.W.Frag} {mg : Str → Option Value} {base : Heap}

/-! ### judging things -/
def m_is_whole : List Dt → Option Dt
  | [d] => some (.bl d.isW)
  | _ => none
theorem ok_is_whole (T : Txt K mg) : FnOk P w K mg base CX0 1 T.f_is_whole T.d_is_whole ["thing"] (spD K m_is_whole) := by
  refine T.F_is_whole.ok sc_is_whole (fun vs H Q E h => ?_) (fun cdv A outer s H vs Q E hr h => ?_)
  · obtain ⟨ds, r, hd, e, _⟩ := h
    exact match ds, e, hd with | [_], _, hd => hd.length
  · obtain ⟨ds, r, hd, e, q⟩ := h
    match ds, e, hd, q with
    | [d], e, .cons h .nil, q =>
      cases e
      obtain ⟨t, ty, ki, kt, kb⟩ := h.kinds
      refine ⟨_, (pss_one (ps_ret (pe_and (pe_callB (call_isiK' K) (by rfl) T.z_isinstance (by decide +kernel) (pa_cons (pv 0) (pa_cons (pe_bltn (v := .ty "int") (by rfl) T.z_int (by decide +kernel) rfl) pa_nil))) (pe_one (pe_not (pe_callB (call_isiK' K) (by rfl) T.z_isinstance (by decide +kernel) (pa_cons (pv 0) (pa_cons (pe_bltn (v := .ty "bool") (by rfl) T.z_bool (by decide +kernel) rfl) pa_nil)))))))), ?_⟩
      refine ⟨_, rfl, _, _, _, _, _, rfl, .ty _, ty, ki, _, rfl, ?_⟩
      cases hi : d.isInt with
      | true =>
        refine iteT ?_
        refine ⟨_, rfl, _, _, _, _, _, rfl, .ty _, ty, kb hi, _, rfl, ?_⟩
        rw [Bool.not_not]
        exact q _ _ (Same.refl H) (.bl _)
      | false =>
        refine iteF ?_
        have e : d.isW = false := by cases d <;> first | rfl | cases hi
        have q' := q (.bl false) H (Same.refl H)
        rw [e] at q'
        exact q' (.bl _)
def Dt.isPair : Dt → Bool
  | .tup ds => ds.length == 2
  | _ => false
def m_is_pair : List Dt → Option Dt
  | [d] => some (.bl d.isPair)
  | _ => none
theorem ok_is_pair (T : Txt K mg) : FnOk P w K mg base CX0 1 T.f_is_pair T.d_is_pair ["thing"] (spD K m_is_pair) := by
  refine T.F_is_pair.ok sc_is_pair (fun vs H Q E h => ?_) (fun cdv A outer s H vs Q E hr h => ?_)
  · obtain ⟨ds, r, hd, e, _⟩ := h
    exact match ds, e, hd with | [_], _, hd => hd.length
  · obtain ⟨ds, r, hd, e, q⟩ := h
    match ds, e, hd, q with
    | [d], e, .cons h .nil, q =>
      cases e
      obtain ⟨t, ty, ki, kt, kb⟩ := h.kinds
      refine ⟨_, (pss_one (ps_ret (pe_and (pe_callB (call_isiK' K) (by rfl) T.z_isinstance (by decide +kernel) (pa_cons (pv 0) (pa_cons (pe_bltn (v := .ty "tuple") (by rfl) T.z_tuple (by decide +kernel) rfl) pa_nil))) (pe_one (pe_cmpR op_eq (pe_callB (call_lenK K) (by rfl) T.z_len PySem.boot_len (pa_cons (pv 0) pa_nil)) pe_int (nomark _)))))), ?_⟩
      refine ⟨_, rfl, _, _, _, _, _, rfl, .ty _, ty, kt, _, rfl, ?_⟩
      cases hi : d.isTup with
      | true =>
        refine iteT ?_
        cases d with
        | tup xs =>
          obtain ⟨a, vs, rfl, hs, ha⟩ := h.tup_inv
          refine ⟨_, rfl, a, vs, rfl, .inr hs, rfl, ?_⟩
          have e : decide (V.int (vs.length : Int) = V.int 2) = (xs.length == 2) := by
            rw [dec_int, ha.length, Bool.eq_iff_iff]
            simp
            omega
          rw [e]
          exact q _ _ (Same.refl H) (.bl _)
        | _ => cases hi
      | false =>
        refine iteF ?_
        have e : d.isPair = false := by cases d <;> first | rfl | cases hi
        have q' := q (.bl false) H (Same.refl H)
        rw [e] at q'
        exact q' (.bl _)
def patGo (n : Int) : Int → List Dt → Bool
  | _, [] => true
  | l, .int c :: r => if l < c ∧ c < n then patGo n c r else false
  | _, _ :: _ => false
def Dt.isPat (n : Int) : Dt → Bool
  | .tup ds => patGo n (-1) ds
  | _ => false
def m_is_pattern : List Dt → Option Dt
  | [.int n, d] => some (.bl (d.isPat n))
  | _ => none
theorem ok_is_pattern (T : Txt K mg) : FnOk P w K mg base CX0 2 T.f_is_pattern T.d_is_pattern ["columns", "thing"] (spD K m_is_pattern) := by
  refine T.F_is_pattern.ok sc_is_pattern (fun vs H Q E h => ?_) (fun cdv A outer s H vs Q E hr h => ?_)
  · obtain ⟨ds, r, hd, e, _⟩ := h
    exact match ds, e, hd with | [.int _, _], _, hd => hd.length
  · obtain ⟨ds, r, hd, e, q⟩ := h
    match ds, e, hd, q with
    | [.int n, d], e, .cons hn (.cons h .nil), q =>
      cases e
      cases hn
      obtain ⟨t, ty, ki, kt, kb⟩ := h.kinds
      refine ⟨_, (pss_cons (ps_if (pt_not (pt_val (pe_callB (call_isiK' K) (by rfl) T.z_isinstance (by decide +kernel) (pa_cons (pv 1) (pa_cons (pe_bltn (v := .ty "tuple") (by rfl) T.z_tuple (by decide +kernel) rfl) pa_nil))))) (pss_one (ps_ret pe_bl)) pss_nil)
      (pss_cons (ps_set (i := 2) sc_is_pattern.nd rfl (.inl rfl) (pe_un un_neg pe_int))
      (pss_cons (ps_for PassesOwn.never rfl (pi_tupK K (pv 1)) (pg_name (i := 3) sc_is_pattern.nd rfl (.inl rfl)) (pss_cons (ps_if (PW.pt (pw_or (pt_not (pt_val (pe_call (ok_is_whole T) hr (by rfl) T.g_is_whole T.F_is_whole.kp T.b_is_whole .nil pass0 (pa_cons (pv 3) pa_nil)))) (pw_or1 (pt_not (pt_chain op_lt op_lt (pv 2) (pv 3) (pv 0)))))) (pss_one (ps_ret pe_bl)) pss_nil)
      (pss_one (ps_set (i := 2) sc_is_pattern.nd rfl (.inl rfl) (pv 3)))))
      (pss_one (ps_ret pe_bl))))), ?_⟩
      refine ⟨_, rfl, _, _, _, _, _, rfl, .ty _, ty, kt, _, rfl, ?_⟩
      cases hi : d.isTup with
      | false =>
        refine iteT ?_
        have e : d.isPat n = false := by cases d <;> first | rfl | cases hi
        have q' := q (.bl false) H (Same.refl H)
        rw [e] at q'
        exact q' (.bl _)
      | true =>
        refine iteF ?_
        cases d with
        | tup xs =>
          obtain ⟨a, vs, rfl, hs, ha⟩ := h.tup_inv
          refine ⟨1, rfl, _, rfl, a, rfl, ⟨_, hs⟩, for_tup (xs := vs) (fun i σ H' => ∃ (l : Int) (c : Option V), σ = [some (.int n), some (.ref a), some (.int l), c] ∧ Same H H' ∧ patGo n (-1) xs = patGo n l (xs.drop i))
            ⟨-1, none, rfl, Same.refl H, rfl⟩ (fun i σ H' _ ⟨_, _, _, sm, _⟩ => (Ext.of sm).sqT hs) ?_ ?_⟩
          · rintro i x σ H' hx ⟨l, c, rfl, sm, e⟩
            obtain ⟨dx, hdx, hx2⟩ := ha.get hx
            have hdr : xs.drop i = dx :: xs.drop (i + 1) := by
              obtain ⟨hlt, e2⟩ := List.getElem?_eq_some_iff.mp hdx
              rw [List.drop_eq_getElem_cons hlt, e2]
            rw [hdr] at e
            -- not is_whole(column) or not last < column < columns
            refine ⟨_, rfl, spD_bl (.cons (hx2.ext (.of sm)) .nil) rfl fun H1 s1 => ⟨_, rfl, ?_⟩⟩
            have fin : patGo n l (dx :: xs.drop (i + 1)) = false → ∀ H2, Same H' H2 → Q (.bl false) H2 := fun z H2 s2 => by
              have q' := q (.bl false) H2 (sm.trans s2)
              rw [show (Dt.tup xs).isPat n = patGo n (-1) xs from rfl, e, z] at q'
              exact q' (.bl _)
            cases hw : dx.isW with
            | false =>
              refine iteT (iteT ?_)
              exact fin (by cases dx <;> first | rfl | cases hw) _ s1
            | true =>
              refine iteF ?_
              cases dx with
              | int c =>
                cases hx2
                refine ⟨_, rfl, _, rfl, _, _, rfl, rfl, _, rfl, ?_⟩
                refine ite2 (fun h1 => ?_) (fun h1 => ?_)
                · refine ⟨_, rfl, _, _, rfl, rfl, _, rfl, ?_⟩
                  refine ite2 (fun h2 => ?_) (fun h2 => ?_)
                  · have n2 : ¬ c < n := by simpa using h2
                    exact fin (by show (if l < c ∧ c < n then _ else false) = false; rw [if_neg fun z => n2 z.2]) _ s1
                  · have y2 : c < n := by simpa using h2
                    refine ⟨_, rfl, c, _, rfl, sm.trans s1, ?_⟩
                    rw [e]
                    show (if l < c ∧ c < n then _ else false) = _
                    rw [if_pos ⟨of_decide_eq_true h1, y2⟩]
                · refine ⟨_, rfl, iteT ?_⟩
                  exact fin (by show (if l < c ∧ c < n then _ else false) = false; rw [if_neg fun z => h1 (decide_eq_true z.1)]) _ s1
              | _ => cases hw
          · rintro σ H' ⟨l, c, rfl, sm, e⟩
            have ed : xs.drop vs.length = [] := List.drop_eq_nil_of_le (by rw [ha.length]; exact Nat.le_refl _)
            rw [ed] at e
            have q' := q (.bl true) H' sm
            rw [show (Dt.tup xs).isPat n = patGo n (-1) xs from rfl, e] at q'
            exact q' (.bl _)
        | _ => cases hi

/-! ### contents, sizes, boxes judged -/
theorem drop_at {α : Type} {xs : List α} {i : Nat} {x : α} (h : xs[i]? = some x) : xs.drop i = x :: xs.drop (i + 1) := by
  obtain ⟨hlt, e⟩ := List.getElem?_eq_some_iff.mp h
  rw [List.drop_eq_getElem_cons hlt, e]
def contGo : List Int → List Dt → Bool
  | s :: ss, .int c :: r => if 0 ≤ c ∧ c < s then contGo ss r else false
  | _ :: _, _ :: _ => false
  | [], _ => true
  | _, [] => true
def Dt.isCont (ss : List Int) : Dt → Bool
  | .tup ds => ds.length == ss.length && contGo ss ds
  | _ => false
theorem int_at {ss : List Int} {i : Nat} {x : V} (h : (ss.map V.int)[i]? = some x) : ∃ n, x = .int n ∧ ss[i]? = some n := by
  rw [List.getElem?_map] at h
  cases e : ss[i]? with
  | none =>
    rw [e] at h
    cases h
  | some n =>
    rw [e] at h
    exact ⟨n, (Option.some.inj h).symm, rfl⟩
/-- sizes as a tuple or a list of ints, and a thing -/
def spCont (K : PySem.W.Frag) : Sp := fun vs H Q _ => ∃ (L : Bool) (p : Addr) (ss : List Int) (v : V) (d : Dt), vs = [.ref p, v] ∧ SqA L K H p (ss.map V.int) ∧ Dh K H v d ∧ ∀ H', Same H H' → Q (.bl (d.isCont ss)) H'
theorem ok_is_content (T : Txt K mg) : FnOk P w K mg base CX0 2 T.f_is_content T.d_is_content ["sizes", "thing"] (spCont K) := by
  refine T.F_is_content.ok sc_is_content (fun vs H Q E h => ?_) (fun cdv A outer s H vs Q E hr h => ?_)
  · obtain ⟨_, _, _, _, _, rfl, _⟩ := h
    rfl
  · obtain ⟨L, p, ss, v, d, rfl, hp, h, q⟩ := h
    obtain ⟨t, ty, ki, kt, kb⟩ := h.kinds
    refine ⟨_, (pss_cons (ps_if (PW.pt (pw_or (pt_not (pt_val (pe_callB (call_isiK' K) (by rfl) T.z_isinstance (by decide +kernel) (pa_cons (pv 1) (pa_cons (pe_bltn (v := .ty "tuple") (by rfl) T.z_tuple (by decide +kernel) rfl) pa_nil))))) (pw_or1 (pt_cmpR op_ne (pe_callB (call_lenK K) (by rfl) T.z_len PySem.boot_len (pa_cons (pv 1) pa_nil)) (pe_callB (call_lenK K) (by rfl) T.z_len PySem.boot_len (pa_cons (pv 0) pa_nil)) (nomark _))))) (pss_one (ps_ret pe_bl)) pss_nil)
      (pss_cons (ps_for PassesOwn.never rfl (pi_zipM (by rfl) T.z_zip (pa_cons (pv 0) (pa_cons (pv 1) pa_nil))) (pg_tupK K (n := 2) rfl (pgs_cons (pg_name (i := 2) sc_is_content.nd rfl (.inl rfl)) (pgs_cons (pg_name (i := 3) sc_is_content.nd rfl (.inl rfl)) pgs_nil))) (pss_one (ps_if (PW.pt (pw_or (pt_not (pt_val (pe_call (ok_is_whole T) hr (by rfl) T.g_is_whole T.F_is_whole.kp T.b_is_whole .nil pass0 (pa_cons (pv 3) pa_nil)))) (pw_or1 (pt_not (pt_chain op_le op_lt pe_int (pv 3) (pv 2)))))) (pss_one (ps_ret pe_bl)) pss_nil)))
      (pss_one (ps_ret pe_bl)))), ?_⟩
    refine ⟨_, rfl, _, _, _, _, _, rfl, .ty _, ty, kt, _, rfl, ?_⟩
    cases hi : d.isTup with
    | false =>
      refine iteT (iteT ?_)
      have e : d.isCont ss = false := by cases d <;> first | rfl | cases hi
      have q' := q H (Same.refl H)
      rw [e] at q'
      exact q'
    | true =>
      refine iteF ?_
      cases d with
      | tup xs =>
        obtain ⟨a, vs, rfl, hs, ha⟩ := h.tup_inv
        refine ⟨_, rfl, a, vs, rfl, .inr hs, _, rfl, p, _, rfl, hp.any, rfl, _, rfl, ?_⟩
        have el : decide (V.int (vs.length : Int) = V.int ((ss.map V.int).length : Int)) = (xs.length == ss.length) := by
          rw [dec_int, ha.length, List.length_map, Bool.eq_iff_iff]
          simp
          omega
        have eq0 : (Dt.tup xs).isCont ss = (xs.length == ss.length && contGo ss xs) := rfl
        rw [eq0] at q
        rw [el]
        cases hl : xs.length == ss.length with
        | false =>
          refine iteT ?_
          rw [hl] at q
          exact q H (Same.refl H)
        | true =>
          refine iteF ?_
          rw [hl, Bool.true_and] at q
          have hlen : xs.length = ss.length := by simpa using hl
          refine ⟨_, rfl, _, rfl, L, p, a, ss.map V.int, vs, rfl, hp, hs, for_zipM (fun i σ H' => ∃ y2 y3, σ = [some (.ref p), some (.ref a), y2, y3] ∧ Same H H' ∧ contGo ss xs = contGo (ss.drop i) (xs.drop i))
            ⟨none, none, rfl, Same.refl H, rfl⟩ (fun i σ H' ⟨_, _, _, sm, _⟩ => ⟨Ext.sqTs sm hp, (Ext.of sm).sqT hs⟩) ?_ ?_⟩
          · rintro i x y Tp σ H' hx hy ⟨y2, y3, rfl, sm, e⟩ nT
            obtain ⟨n, rfl, hn⟩ := int_at hx
            obtain ⟨dx, hdx, hx2⟩ := ha.get hy
            rw [drop_at hn, drop_at hdx] at e
            refine ⟨Tp, [_, y], rfl, SqT.of upd_same, rfl, _, [y], rfl, y, [], rfl, rfl, ?_⟩
            have s1 : Same H (upd H' Tp (.tup [V.int n, y])) := sm.trans (same_new nT)
            refine ⟨_, rfl, spD_bl (.cons (hx2.ext (.of s1)) .nil) rfl fun H1 s2 => ⟨_, rfl, ?_⟩⟩
            cases hw : dx.isW with
            | false =>
              refine iteT (iteT ?_)
              have z : contGo ss xs = false := by
                rw [e]
                cases dx <;> first | rfl | cases hw
              rw [z] at q
              exact q H1 (s1.trans s2)
            | true =>
              refine iteF ?_
              cases dx with
              | int c =>
                cases hx2
                have e' : contGo ss xs = if 0 ≤ c ∧ c < n then contGo (ss.drop (i + 1)) (xs.drop (i + 1)) else false := e
                refine ⟨_, rfl, _, _, rfl, rfl, _, rfl, ?_⟩
                refine ite2 (fun h1 => ?_) (fun h1 => ?_)
                · refine ⟨_, rfl, _, _, rfl, rfl, _, rfl, ?_⟩
                  refine ite2 (fun h2 => ?_) (fun h2 => ?_)
                  · have n2 : ¬ c < n := by simpa using h2
                    rw [if_neg fun z => n2 z.2] at e'
                    rw [e'] at q
                    exact q H1 (s1.trans s2)
                  · have y2 : c < n := by simpa using h2
                    rw [if_pos ⟨of_decide_eq_true h1, y2⟩] at e'
                    exact ⟨_, _, rfl, s1.trans s2, e'⟩
                · refine ⟨_, rfl, iteT ?_⟩
                  rw [if_neg fun z => h1 (decide_eq_true z.1)] at e'
                  rw [e'] at q
                  exact q H1 (s1.trans s2)
              | _ => cases hw
          · rintro σ H' ⟨y2, y3, rfl, sm, e⟩
            have z : contGo ss xs = true := by
              rw [e, List.drop_eq_nil_of_le (as := ss) (by have := ha.length; rw [List.length_map]; omega)]
              rfl
            rw [z] at q
            exact q H' sm
      | _ => cases hi
def sizeGo : Int → List Dt → Option Int
  | m, [] => some m
  | m, .int c :: r => if 2 ≤ c ∧ c ≤ 4 then sizeGo (m * c) r else none
  | _, _ :: _ => none
def Dt.isSizes : Dt → Bool
  | .tup ds => if 1 ≤ ds.length ∧ ds.length ≤ 5 then (match sizeGo 1 ds with | some m => decide (m ≤ 256) | none => false) else false
  | _ => false
def m_is_sizes : List Dt → Option Dt
  | [d] => some (.bl d.isSizes)
  | _ => none
theorem ok_is_sizes (T : Txt K mg) : FnOk P w K mg base CX0 2 T.f_is_sizes T.d_is_sizes ["thing"] (spD K m_is_sizes) := by
  refine T.F_is_sizes.ok sc_is_sizes (fun vs H Q E h => ?_) (fun cdv A outer s H vs Q E hr h => ?_)
  · obtain ⟨ds, r, hd, e, _⟩ := h
    exact match ds, e, hd with | [_], _, hd => hd.length
  · obtain ⟨ds, r, hd, e, q⟩ := h
    match ds, e, hd, q with
    | [d], e, .cons h .nil, q =>
      cases e
      have q : ∀ H', Same H H' → Q (.bl d.isSizes) H' := fun H' s => q _ H' s (.bl _)
      obtain ⟨t, ty, ki, kt, kb⟩ := h.kinds
      refine ⟨_, (pss_cons (ps_if (PW.pt (pw_or (pt_not (pt_val (pe_callB (call_isiK' K) (by rfl) T.z_isinstance (by decide +kernel) (pa_cons (pv 0) (pa_cons (pe_bltn (v := .ty "tuple") (by rfl) T.z_tuple (by decide +kernel) rfl) pa_nil))))) (pw_or1 (pt_not (pt_chain op_le op_le pe_int (pe_callB (call_lenK K) (by rfl) T.z_len PySem.boot_len (pa_cons (pv 0) pa_nil)) (pe_glob (by rfl) T.k_MOST_COLUMNS.1 T.k_MOST_COLUMNS.2)))))) (pss_one (ps_ret pe_bl)) pss_nil)
      (pss_cons (ps_set (i := 1) sc_is_sizes.nd rfl (.inl rfl) pe_int)
      (pss_cons (ps_for PassesOwn.never rfl (pi_tupK K (pv 0)) (pg_name (i := 2) sc_is_sizes.nd rfl (.inl rfl)) (pss_cons (ps_if (PW.pt (pw_or (pt_not (pt_val (pe_call (ok_is_whole T) hr (by rfl) T.g_is_whole T.F_is_whole.kp T.b_is_whole .nil pass0 (pa_cons (pv 2) pa_nil)))) (pw_or1 (pt_not (pt_chain op_le op_le (pe_glob (by rfl) T.k_LEAST_SIZE.1 T.k_LEAST_SIZE.2) (pv 2) (pe_glob (by rfl) T.k_MOST_SIZE.1 T.k_MOST_SIZE.2)))))) (pss_one (ps_ret pe_bl)) pss_nil)
      (pss_one (ps_set (i := 1) sc_is_sizes.nd rfl (.inl rfl) (pe_op op_mul (pv 1) (pv 2))))))
      (pss_one (ps_ret (pe_cmpR op_le (pv 1) (pe_glob (by rfl) T.k_MOST_CONTENTS.1 T.k_MOST_CONTENTS.2) (nomark _))))))), ?_⟩
      refine ⟨_, rfl, _, _, _, _, _, rfl, .ty _, ty, kt, _, rfl, ?_⟩
      cases hi : d.isTup with
      | false =>
        refine iteT (iteT ?_)
        have e : d.isSizes = false := by cases d <;> first | rfl | cases hi
        rw [e] at q
        exact q H (Same.refl H)
      | true =>
        refine iteF ?_
        cases d with
        | tup xs =>
          obtain ⟨a, vs, rfl, hs, ha⟩ := h.tup_inv
          have eq0 : (Dt.tup xs).isSizes = if 1 ≤ xs.length ∧ xs.length ≤ 5 then (match sizeGo 1 xs with | some m => decide (m ≤ 256) | none => false) else false := rfl
          rw [eq0] at q
          have hl := ha.length
          refine ⟨_, rfl, a, vs, rfl, .inr hs, _, _, rfl, rfl, _, rfl, ?_⟩
          have out : ¬ (1 ≤ xs.length ∧ xs.length ≤ 5) → Q (.bl false) H := fun n => by
            rw [if_neg n] at q
            exact q H (Same.refl H)
          refine ite2 (fun h1 => ?_) (fun h1 => ?_)
          · have h1' : (1 : Int) ≤ vs.length := of_decide_eq_true h1
            refine ⟨_, _, rfl, rfl, _, rfl, ?_⟩
            refine ite2 (fun h2 => ?_) (fun h2 => ?_)
            · have n2 : ¬ (vs.length : Int) ≤ 5 := by simpa using h2
              exact out fun z => n2 (by omega)
            · have h2' : (vs.length : Int) ≤ 5 := by simpa using h2
              have hin : 1 ≤ xs.length ∧ xs.length ≤ 5 := ⟨by omega, by omega⟩
              rw [if_pos hin] at q
              refine ⟨_, rfl, a, rfl, ⟨_, hs⟩, for_tup (xs := vs) (fun i σ H' => ∃ (m : Int) (c : Option V), σ = [some (.ref a), some (.int m), c] ∧ Same H H' ∧ sizeGo 1 xs = sizeGo m (xs.drop i))
                ⟨1, none, rfl, Same.refl H, rfl⟩ (fun i σ H' _ ⟨_, _, _, sm, _⟩ => (Ext.of sm).sqT hs) ?_ ?_⟩
              · rintro i x σ H' hx ⟨m, c, rfl, sm, e⟩
                obtain ⟨dx, hdx, hx2⟩ := ha.get hx
                rw [drop_at hdx] at e
                refine ⟨_, rfl, spD_bl (.cons (hx2.ext (.of sm)) .nil) rfl fun H1 s1 => ⟨_, rfl, ?_⟩⟩
                have bad : sizeGo m (dx :: xs.drop (i + 1)) = none → Q (.bl false) H1 := fun z => by
                  rw [e, z] at q
                  exact q H1 (sm.trans s1)
                cases hw : dx.isW with
                | false =>
                  refine iteT (iteT ?_)
                  exact bad (by cases dx <;> first | rfl | cases hw)
                | true =>
                  refine iteF ?_
                  cases dx with
                  | int c =>
                    cases hx2
                    have e' : sizeGo m (Dt.int c :: xs.drop (i + 1)) = if 2 ≤ c ∧ c ≤ 4 then sizeGo (m * c) (xs.drop (i + 1)) else none := rfl
                    refine ⟨_, rfl, _, _, rfl, rfl, _, rfl, ?_⟩
                    refine ite2 (fun h1 => ?_) (fun h1 => ?_)
                    · refine ⟨_, _, rfl, rfl, _, rfl, ?_⟩
                      refine ite2 (fun h2 => ?_) (fun h2 => ?_)
                      · have n2 : ¬ c ≤ 4 := by simpa using h2
                        exact bad (by rw [e', if_neg fun z => n2 z.2])
                      · have y2 : c ≤ 4 := by simpa using h2
                        have y1 : 2 ≤ c := of_decide_eq_true h1
                        refine ⟨_, rfl, _, rfl, _, _, rfl, rfl, .inr ⟨by omega, by omega⟩, ?_⟩
                        refine ⟨_, _, rfl, sm.trans s1, ?_⟩
                        rw [e, e', if_pos ⟨y1, y2⟩]
                    · refine ⟨_, rfl, iteT ?_⟩
                      exact bad (by rw [e', if_neg fun z => h1 (decide_eq_true z.1)])
                  | _ => cases hw
              · rintro σ H' ⟨m, c, rfl, sm, e⟩
                rw [List.drop_eq_nil_of_le (as := xs) (by omega)] at e
                have e2 : sizeGo 1 xs = some m := e
                rw [e2] at q
                exact ⟨_, rfl, _, _, rfl, rfl, q H' sm⟩
          · refine ⟨_, rfl, iteT ?_⟩
            exact out fun z => h1 (decide_eq_true (by omega))
        | _ => cases hi

end
end Fm
namespace Fm
open PySem PySem.Spec PyProof.Rows L2
section
variable {P : Program} {w : World} {K : PySem.W.Frag} {mg : Str → Option Value} {base : Heap}

/-! ### contents -/
theorem ints_dh {K : PySem.W.Frag} {H : Hp} : ∀ c : List Int, DhAll K H (c.map V.int) (c.map Dt.int)
  | [] => .nil
  | i :: r => .cons (.int i) (ints_dh r)
theorem dh_ints {K : PySem.W.Frag} {H : Hp} : ∀ {vs : List V} (c : List Int), DhAll K H vs (c.map Dt.int) → vs = c.map V.int
  | [], [], _ => rfl
  | v :: vs, i :: r, .cons h t => by rw [h.int_inv, dh_ints r t]; rfl
def ctD (c : List Int) : Dt := .tup (c.map Dt.int)
theorem dh_ct {K : PySem.W.Frag} {H : Hp} {a : Addr} {c : List Int} (h : SqT K H a (c.map V.int)) : Dh K H (.ref a) (ctD c) := .tup h (ints_dh c)
theorem ct_inv {K : PySem.W.Frag} {H : Hp} {v : V} {c : List Int} (h : Dh K H v (ctD c)) : ∃ a, v = .ref a ∧ SqT K H a (c.map V.int) := by
  obtain ⟨a, xs, rfl, s, t⟩ := h.tup_inv
  rw [dh_ints c t] at s
  exact ⟨a, rfl, s⟩
def ext (n : Nat) (c : List Int) : List (List Int) := (List.range n).map fun (w : Nat) => c ++ [(w : Int)]
theorem ext_succ (n : Nat) (c : List Int) : ext (n + 1) c = ext n c ++ [c ++ [(n : Int)]] := by
  unfold ext
  rw [List.range_succ, List.map_append]
  rfl
theorem ext_len (n : Nat) (c : List Int) : (ext n c).length = n := by simp [ext]
theorem flat_len (n : Nat) : ∀ l : List (List Int), (l.flatMap (ext n)).length = l.length * n
  | [] => by simp
  | c :: r => by rw [List.flatMap_cons, List.length_append, ext_len, flat_len n r, List.length_cons, Nat.add_mul, Nat.one_mul, Nat.add_comm]
def stepC (found : List (List Int)) (s : Int) : List (List Int) := found.flatMap (ext s.toNat)
def allC (ss : List Int) : List (List Int) := ss.foldl stepC [[]]
theorem allC_snoc (ss : List Int) (s : Int) : allC (ss ++ [s]) = stepC (allC ss) s := by
  unfold allC
  rw [List.foldl_append]
  rfl
/-- how far a comprehension has come: i lists wholly, of the next one j items -/
def upTo (cs : List (List Int)) (n i j : Nat) : List (List Int) := (cs.take i).flatMap (ext n) ++ match cs[i]? with
  | some c => ext j c
  | none => []
theorem upTo_step {cs : List (List Int)} {n i j : Nat} {c : List Int} (h : cs[i]? = some c) : upTo cs n i (j + 1) = upTo cs n i j ++ [c ++ [(j : Int)]] := by
  unfold upTo
  rw [h]
  dsimp only
  rw [ext_succ, List.append_assoc]
theorem upTo_next {cs : List (List Int)} {n i : Nat} {c : List Int} (h : cs[i]? = some c) : upTo cs n i n = upTo cs n (i + 1) 0 := by
  have e0 : (match cs[i + 1]? with
      | some c => ext 0 c
      | none => []) = [] := by
    cases cs[i + 1]? <;> rfl
  unfold upTo
  rw [e0, h, List.take_add_one, h]
  simp
theorem upTo_end {cs : List (List Int)} {n : Nat} : upTo cs n cs.length 0 = cs.flatMap (ext n) := by
  unfold upTo
  rw [List.getElem?_eq_none (Nat.le_refl _), List.take_length]
  simp
theorem upTo_zero {cs : List (List Int)} {n : Nat} : upTo cs n 0 0 = [] := by
  unfold upTo
  cases cs[0]? <;> rfl
theorem upTo_len {cs : List (List Int)} {n i j : Nat} : (upTo cs n i j).length ≤ cs.length * n + j := by
  unfold upTo
  rw [List.length_append, flat_len, List.length_take]
  have h1 : min i cs.length * n ≤ cs.length * n := Nat.mul_le_mul_right _ (Nat.min_le_right _ _)
  cases cs[i]? with
  | none => simp; omega
  | some c =>
    dsimp only
    rw [ext_len]
    omega
def SizesOk (ss : List Int) : Prop := (Dt.tup (ss.map Dt.int)).isSizes = true
theorem sizeGo_mem : ∀ (m : Int) (ss : List Int) (r : Int), sizeGo m (ss.map Dt.int) = some r → ∀ s ∈ ss, 2 ≤ s ∧ s ≤ 4
  | _, [], _, _ => fun _ h => by simp at h
  | m, c :: ss, r, h => fun s hs => by
    have h' : (if 2 ≤ c ∧ c ≤ 4 then sizeGo (m * c) (ss.map Dt.int) else none) = some r := h
    by_cases hc : 2 ≤ c ∧ c ≤ 4
    · rw [if_pos hc] at h'
      rcases List.mem_cons.mp hs with e | e
      · rw [e]
        exact hc
      · exact sizeGo_mem _ ss r h' s e
    · rw [if_neg hc] at h'
      cases h'
theorem SizesOk.facts {ss : List Int} (h : SizesOk ss) : 1 ≤ ss.length ∧ ss.length ≤ 5 ∧ ∀ s ∈ ss, 2 ≤ s ∧ s ≤ 4 := by
  have h' : (if 1 ≤ (ss.map Dt.int).length ∧ (ss.map Dt.int).length ≤ 5 then (match sizeGo 1 (ss.map Dt.int) with
    | some m => decide (m ≤ 256)
    | none => false) else false) = true := h
  rw [List.length_map] at h'
  by_cases hl : 1 ≤ ss.length ∧ ss.length ≤ 5
  · rw [if_pos hl] at h'
    cases e : sizeGo 1 (ss.map Dt.int) with
    | none =>
      rw [e] at h'
      cases h'
    | some m => exact ⟨hl.1, hl.2, sizeGo_mem 1 ss m e⟩
  · rw [if_neg hl] at h'
    cases h'
theorem allC_len {ss : List Int} (h : ∀ s ∈ ss, s ≤ 4) : ∀ i, (allC (ss.take i)).length ≤ 4 ^ i ∧ ∀ c ∈ allC (ss.take i), c.length ≤ i
  | 0 => ⟨by simp [allC], by simp [allC]⟩
  | i + 1 => by
    obtain ⟨h1, h2⟩ := allC_len h i
    cases e : ss[i]? with
    | none =>
      have e' : ss.take (i + 1) = ss.take i := by rw [List.take_add_one, e]; simp
      rw [e']
      exact ⟨Nat.le_trans h1 (Nat.pow_le_pow_right (by decide) (Nat.le_succ i)), fun c hc => Nat.le_succ_of_le (h2 c hc)⟩
    | some s =>
      have e' : ss.take (i + 1) = ss.take i ++ [s] := by rw [List.take_add_one, e]; rfl
      have hs : s ≤ 4 := h s (List.mem_of_getElem? e)
      rw [e', allC_snoc]
      unfold stepC
      refine ⟨?_, fun c hc => ?_⟩
      · rw [flat_len, Nat.pow_succ]
        exact Nat.mul_le_mul h1 (by omega)
      · obtain ⟨b, hb, hc⟩ := List.mem_flatMap.mp hc
        obtain ⟨w, _, rfl⟩ := List.mem_map.mp hc
        rw [List.length_append]
        exact Nat.add_le_add_right (h2 b hb) 1
theorem allC_all {ss : List Int} (h : SizesOk ss) : (allC ss).length ≤ 1024 ∧ ∀ c ∈ allC ss, c.length ≤ 5 := by
  obtain ⟨_, h5, hm⟩ := h.facts
  have q := allC_len (fun s hs => (hm s hs).2) ss.length
  rw [List.take_length] at q
  refine ⟨Nat.le_trans q.1 (Nat.pow_le_pow_right (by decide) h5), fun c hc => Nat.le_trans (q.2 c hc) h5⟩
theorem map_at {α β : Type} {l : List α} {f : α → β} {i : Nat} {y : β} (h : (l.map f)[i]? = some y) : ∃ x, l[i]? = some x ∧ f x = y := by
  rw [List.getElem?_map] at h
  cases e : l[i]? with
  | none =>
    rw [e] at h
    cases h
  | some x =>
    rw [e] at h
    exact ⟨x, rfl, Option.some.inj h⟩
theorem sz_small {n : Nat} (h : n ≤ 100000) : n < sizeLine := Nat.lt_of_le_of_lt h (by decide)
theorem Same.put {H0 H : Hp} {D : Addr} {o : HO} (h : H0 D = none) (s : Same H0 H) : Same H0 (upd H D o) := fun b x e => by
  rw [upd_ne (ne_of_none e h)]
  exact s b x e
/-- the list that is made at D is no part of what stood before -/
theorem Ext.put {H : Hp} {D : Addr} {xs ys : List V} (h : H D = some (.lst xs)) : Ext H (upd H D (.lst ys)) := fun b o e => by
  by_cases hb : b = D
  · subst hb
    rw [h] at e
    cases e
    exact .inr ⟨⟨xs, rfl⟩, ys, upd_same⟩
  · rw [upd_ne hb]
    exact .inl e
/-- content + (worth,) -/
theorem cat_ct {K : PySem.W.Frag} {H : Hp} {Q : VK} {x : V} {c : List Int} {j : Int} (hc : Dh K H x (ctD c)) (hl : c.length ≤ 1000) {r : Addr} (hr : H r = some (.tup [.int j]))
    (q : ∀ v H', Same H H' → Dh K H' v (ctD (c ++ [j])) → Q v H') : rCatA K x (.ref r) H Q := by
  obtain ⟨a, rfl, s⟩ := ct_inv hc
  refine ⟨a, r, _, _, rfl, rfl, s, SqT.of hr, ?_, fun e => ?_, fun _ e => (nomatch e), fun _ _ p hp => ?_⟩
  · rw [List.length_map]
    exact Nat.le_of_lt (sz_small (by show c.length + 1 ≤ 100000; omega))
  · have e0 : c = [] := List.map_eq_nil_iff.mp e
    subst e0
    exact q _ _ (Same.refl H) (dh_ct (c := [j]) (SqT.of hr))
  · refine q _ _ (same_new hp) (dh_ct ?_)
    rw [List.map_append]
    exact SqT.of upd_same
def spAll (K : PySem.W.Frag) : Sp := fun vs H Q _ => ∃ (a : Addr) (ss : List Int), vs = [.ref a] ∧ SqT K H a (ss.map V.int) ∧ SizesOk ss ∧ ∀ p xs H', H p = none → Same H H' → H' p = some (.lst xs) → DhAll K H' xs ((allC ss).map ctD) → Q (.ref p) H'
theorem ok_all_contents (T : Txt K mg) : FnOk P w K mg base CX0 1 T.f_all_contents T.d_all_contents ["sizes"] (spAll K) := by
  refine T.F_all_contents.ok sc_all_contents (fun vs H Q E h => ?_) (fun cdv A outer s H vs Q E hr h => ?_)
  · obtain ⟨_, _, rfl, _⟩ := h
    rfl
  · obtain ⟨a, ss, rfl, hs, ok, q⟩ := h
    obtain ⟨_, h5, hm⟩ := ok.facts
    refine ⟨_, (pss_cons (ps_set (i := 1) sc_all_contents.nd rfl (.inl rfl) (pe_lst (pa_cons (pe_tup pa_nil) pa_nil)))
      (pss_cons (ps_for PassesOwn.never rfl (pi_tupK K (pv 0)) (pg_name (i := 2) sc_all_contents.nd rfl (.inr rfl)) (pss_one (ps_setLc2 (i := 1) (own := [("content", 3), ("worth", 4)]) (vs1 := [4]) rfl sc_all_contents.nd rfl rfl (sw_true rfl rfl rfl (by decide +kernel)) (pi_listK K (pv 1)) (blkOk_by (N := N_all_contents) (sc := defScope s_all_contents) (by decide +kernel)) (by decide) (fun _ _ _ _ _ => (pg_name (i := 3) sc_all_contents.nd rfl (.inl rfl))) (fun _ _ _ _ _ => pts_nil) (fun _ _ _ _ _ => (pi_range1 (by rfl) T.z_range (pa_cons (pv 2) pa_nil))) (fun _ _ _ _ _ => (pg_name (i := 4) sc_all_contents.nd rfl (.inl rfl))) (fun _ _ _ _ _ => pts_nil) (fun _ _ _ _ _ => (pe_op (op_catK K) (pv 3) (pe_tup (pa_cons (pv 4) pa_nil)))))))
      (pss_one (ps_ret (pv 1))))), ?_⟩
    refine ⟨Nat.zero_le _, fun t0 n0 => ⟨by show 1 ≤ sizeLine; decide, fun f0 nf0 => ?_⟩⟩
    have s1 : Same H (upd H t0 (.tup [])) := same_new n0
    have s2 : Same H (upd (upd H t0 (.tup [])) f0 (.lst [.ref t0])) := s1.trans (same_new nf0)
    refine ⟨_, rfl, a, rfl, ⟨_, (Ext.of s2).sqT hs⟩, for_tup (xs := ss.map V.int) (fun i σ H' => ∃ (f : Addr) (xs : List V) (y2 y3 y4 : Option V), σ = [some (.ref a), some (.ref f), y2, y3, y4] ∧ Same H H' ∧ H f = none ∧ H' f = some (.lst xs) ∧ DhAll K H' xs ((allC (ss.take i)).map ctD))
      ⟨f0, [.ref t0], none, none, none, rfl, s2, s1.free nf0, upd_same, .cons (dh_ct (c := []) (SqT.of ?_)) .nil⟩ (fun i σ H' _ ⟨_, _, _, _, _, _, sm, _⟩ => (Ext.of sm).sqT hs) ?_ ?_⟩
    · rw [upd_ne (fun e => by rw [e, upd_same] at nf0; cases nf0), upd_same]
      rfl
    · rintro i x σ H' hx ⟨f, xs, y2, y3, y4, rfl, sm, nf, hf, hall⟩
      obtain ⟨z, rfl, hz⟩ := int_at hx
      obtain ⟨z2, z4⟩ := hm z (List.mem_of_getElem? hz)
      obtain ⟨n, rfl⟩ : ∃ n : Nat, z = (n : Int) := ⟨z.toNat, by omega⟩
      have hi : i < ss.length := (List.getElem?_eq_some_iff.mp hz).1
      have etake : ss.take (i + 1) = ss.take i ++ [(n : Int)] := by rw [List.take_add_one, hz]; rfl
      generalize hcs : allC (ss.take i) = cs at hall
      have hlen := hall.length
      rw [List.length_map] at hlen
      have hb := allC_len (fun s hs => (hm s hs).2) i
      rw [hcs] at hb
      have hcl : cs.length ≤ 1024 := Nat.le_trans hb.1 (Nat.pow_le_pow_right (by decide) (by omega : i ≤ 5))
      refine ⟨.ref f, rfl, f, rfl, ⟨xs, SqL.of hf⟩, fun D hD => lc2_lr (K := K) (xs := xs) (n := n) (fun i j H2 => ∃ acc, Same H' H2 ∧ H2 D = some (.lst acc) ∧ DhAll K H2 acc ((upTo cs n i j).map ctD)) (by omega) (fun _ => rfl) (fun _ _ => rfl) ?_ ?_ ?_ ?_ ?_ ?_⟩
      · exact ⟨[], same_new hD, upd_same, by rw [upTo_zero]; exact .nil⟩
      · rintro i2 j2 H2 ⟨acc, s3, _⟩
        exact s3.seq (SqL.of hf)
      · intro i2 x H2 _ _ R hR
        exact ⟨_, rfl, hR⟩
      · rintro i2 j x H2 hx2 hj ⟨acc, s3, hD2, hacc⟩
        obtain ⟨d, hd, hxd⟩ := hall.get hx2
        obtain ⟨c, hc, rfl⟩ := map_at hd
        have hcm : c.length ≤ 1000 := Nat.le_trans (hb.2 c (List.mem_of_getElem? hc)) (by omega)
        refine ⟨x, rfl, .int (j : Int), rfl, by show 1 ≤ sizeLine; decide, fun r hr2 => cat_ct (K := K) (c := c) (j := (j : Int)) (hxd.ext (.of (s3.trans (same_new hr2)))) hcm upd_same fun v H3 s4 hv => ?_⟩
        have s5 : Same H2 H3 := (same_new hr2).trans s4
        have hal : acc.length ≤ 100000 := by
          have e1 := hacc.length
          have e2 := upTo_len (cs := cs) (n := n) (i := i2) (j := j)
          have e3 : cs.length * n ≤ 1024 * 4 := Nat.mul_le_mul hcl (by omega)
          rw [List.length_map] at e1
          omega
        refine ⟨acc, s5 _ _ hD2, sz_small hal, acc ++ [v], fun b o e => ?_, upd_same, ?_⟩
        · rw [upd_ne (ne_of_none e hD)]
          exact s5 _ _ (s3 _ _ e)
        · rw [upTo_step hc, List.map_append]
          exact ((hacc.ext (.of s5)).snoc hv).ext (Ext.put (s5 _ _ hD2))
      · rintro i2 H2 hi2 ⟨acc, s3, hD2, hacc⟩
        obtain ⟨c, hc⟩ : ∃ c, cs[i2]? = some c := ⟨cs[i2], List.getElem?_eq_getElem (by omega)⟩
        exact ⟨acc, s3, hD2, by rw [← upTo_next hc]; exact hacc⟩
      · rintro H2 ⟨acc, s3, hD2, hacc⟩
        refine ⟨D, acc, _, _, _, rfl, sm.trans s3, sm.free hD, hD2, ?_⟩
        rw [hlen, upTo_end] at hacc
        rw [etake, allC_snoc, hcs]
        exact hacc
    · rintro σ H' ⟨f, xs, y2, y3, y4, rfl, sm, nf, hf, hall⟩
      rw [List.length_map, List.take_length] at hall
      exact ⟨.ref f, rfl, q f xs H' nf sm hf hall⟩

/-! ### cells picked, boxes judged -/
def picks (ps c : List Int) : List Int := ps.map fun p => c.getD p.toNat 0
theorem picks_len (ps c : List Int) : (picks ps c).length = ps.length := List.length_map _
def InR (ps : List Int) (n : Int) : Prop := ∀ p ∈ ps, 0 ≤ p ∧ p < n
theorem pick_at {ps c : List Int} {i : Nat} {p : Int} (h : ps[i]? = some p) (hr : InR ps c.length) : atI (c.map V.int) p = some (.int (c.getD p.toNat 0)) ∧ (picks ps c).take (i + 1) = (picks ps c).take i ++ [c.getD p.toNat 0] := by
  obtain ⟨h0, h1⟩ := hr p (List.mem_of_getElem? h)
  have hl : p.toNat < c.length := by omega
  have e : c[p.toNat]? = some (c.getD p.toNat 0) := by
    rw [List.getD_eq_getElem?_getD, List.getElem?_eq_getElem hl]
    rfl
  refine ⟨at_of (j := p.toNat) (by omega) ?_, ?_⟩
  · rw [List.getElem?_map, e]
    rfl
  · have e2 : (picks ps c)[i]? = some (c.getD p.toNat 0) := by
      unfold picks
      rw [List.getElem?_map, h]
      rfl
    rw [List.take_add_one, e2]
    rfl
/-- [t[x] for x in ps] -/
theorem lc_pick {H : Hp} {σ : L2.St} {Q : VK} {a b : Addr} {ps cs : List Int} {kx kc : Nat} {tp : TE} (htp : ∀ R : VK, R (.ref a) H → tp σ H R) (ha : SqT K H a (ps.map V.int)) (hb : SqT K H b (cs.map V.int)) (hr : InR ps cs.length) (hl : ps.length ≤ 1000)
    (hw : ∀ x, wipe ((wipe σ [kx]).set kx (some x)) [kx] = wipe σ [kx]) (hc : ∀ x : V, ((wipe σ [kx]).set kx (some x))[kc]? = some (some (.ref b))) (hx : ∀ x : V, ((wipe σ [kx]).set kx (some x))[kx]? = some (some x))
    (q : ∀ D H', H D = none → Same H H' → H' D = some (.lst ((picks ps cs).map V.int)) → Q (.ref D) H') :
    tLc (iTup K tp) (gName kx) tYes (tOp (rIxT K) (tVar kc) (tVar kx)) [kx] σ H Q := by
  refine htp _ ⟨a, rfl, ⟨_, ha⟩, fun D hD => lc_tup (K := K) (xs := ps.map V.int) (fun i H' => Same H H' ∧ H' D = some (.lst (((picks ps cs).take i).map V.int))) ⟨same_new hD, upd_same⟩ (fun i H' _ p => (Ext.of p.1).sqT ha) ?_ ?_⟩
  · rintro i x H' hi ⟨sm, hDl⟩
    obtain ⟨p, rfl, hp⟩ := int_at hi
    obtain ⟨e1, e2⟩ := pick_at hp hr
    refine ⟨hw _, ?_⟩
    dsimp only [tYes]
    rw [if_pos rfl]
    refine ⟨_, hc _, _, hx _, b, _, p, _, rfl, rfl, (Ext.of sm).sqT hb, e1, _, hDl, ?_, fun c o e => ?_, ?_⟩
    · rw [List.length_map, List.length_take]
      exact sz_small (by have := picks_len ps cs; omega)
    · rw [upd_ne (ne_of_none e hD)]
      exact sm _ _ e
    · rw [upd_same, e2, List.map_append]
      rfl
  · rintro H' ⟨sm, hDl⟩
    rw [List.length_map, ← picks_len ps cs, List.take_length] at hDl
    exact q D H' hD sm hDl
def spPick (K : PySem.W.Frag) : Sp := fun vs H Q _ => ∃ (ps cs : List Int) (v1 v2 : V), vs = [v1, v2] ∧ Dh K H v1 (ctD ps) ∧ Dh K H v2 (ctD cs) ∧ InR ps cs.length ∧ ps.length ≤ 1000 ∧ ∀ v H', Same H H' → Dh K H' v (ctD (picks ps cs)) → Q v H'
theorem ok_worths_at (T : Txt K mg) : FnOk P w K mg base CX0 1 T.f_worths_at T.d_worths_at ["pattern", "content"] (spPick K) := by
  refine T.F_worths_at.ok sc_worths_at (fun vs H Q E h => ?_) (fun cdv A outer s H vs Q E hr h => ?_)
  · obtain ⟨_, _, _, _, rfl, _⟩ := h
    rfl
  · obtain ⟨ps, cs, v1, v2, rfl, h1, h2, hin, hl, q⟩ := h
    obtain ⟨a, rfl, ha⟩ := ct_inv h1
    obtain ⟨b, rfl, hb⟩ := ct_inv h2
    refine ⟨_, (pss_one (ps_ret (pe_callTy (call_tupleK K) (by rfl) T.z_tuple (by decide +kernel) (pa_cons (pe_lc (own := [("column", 2)]) rfl sc_worths_at.nd (pi_tupK K (pv 0)) (blkOk_by (N := N_worths_at) (sc := defScope s_worths_at) (by decide +kernel)) (fun _ _ _ _ _ => (pg_name (i := 2) sc_worths_at.nd rfl (.inl rfl))) (fun _ _ _ _ _ => pts_nil) (fun _ _ _ _ _ => (pe_ix (ix_tupK K) (pv 1) (pv 2) (fun _ _ => rfl)))) pa_nil)))), ?_⟩
    dsimp only [tRet, tCB, tCons]
    refine lc_pick (K := K) (kx := 2) (kc := 1) (tp := tVar 0) (σ := [some (.ref a), some (.ref b), none]) (fun R hR => ⟨_, rfl, hR⟩) ha hb hin hl (fun _ => rfl) (fun _ => rfl) (fun _ => rfl) fun D H' hD sm hDl => ?_
    exact ⟨D, _, rfl, .inl ⟨SqL.of hDl, fun l hl2 => q _ _ (sm.trans (same_new hl2)) (dh_ct (SqT.of upd_same))⟩⟩
/-- ascending columns above l, below n -/
def Asc (n : Int) : Int → List Int → Prop
  | _, [] => True
  | l, c :: r => l < c ∧ c < n ∧ Asc n c r
theorem patGo_asc {n : Int} : ∀ {l : Int} {ds : List Dt}, patGo n l ds = true → ∃ ps, ds = ps.map Dt.int ∧ Asc n l ps
  | _, [], _ => ⟨[], rfl, True.intro⟩
  | l, .int c :: r, h => by
    have h' : (if l < c ∧ c < n then patGo n c r else false) = true := h
    by_cases hc : l < c ∧ c < n
    · rw [if_pos hc] at h'
      obtain ⟨ps, rfl, ha⟩ := patGo_asc h'
      exact ⟨c :: ps, rfl, hc.1, hc.2, ha⟩
    · rw [if_neg hc] at h'
      cases h'
  | _, .non :: _, h => by cases h
  | _, .bl _ :: _, h => by cases h
  | _, .str _ :: _, h => by cases h
  | _, .tup _ :: _, h => by cases h
  | _, .oth _ :: _, h => by cases h
theorem asc_patGo {n : Int} : ∀ {l : Int} {ps : List Int}, Asc n l ps → patGo n l (ps.map Dt.int) = true
  | _, [], _ => rfl
  | l, c :: r, ⟨h1, h2, h3⟩ => by
    show (if l < c ∧ c < n then patGo n c (r.map Dt.int) else false) = true
    rw [if_pos ⟨h1, h2⟩]
    exact asc_patGo h3
theorem Asc.mem {n : Int} : ∀ {l : Int} {ps : List Int}, Asc n l ps → ∀ p ∈ ps, l < p ∧ p < n
  | l, c :: r, ⟨h1, h2, h3⟩, p, hp => by
    rcases List.mem_cons.mp hp with e | e
    · rw [e]
      exact ⟨h1, h2⟩
    · have := h3.mem p e
      omega
theorem Asc.inR {n : Int} {ps : List Int} (h : Asc n (-1) ps) : InR ps n := fun p hp => by
  have := h.mem p hp
  omega
theorem Asc.lenA {n : Int} : ∀ {l : Int} {ps : List Int}, Asc n l ps → l < n → (ps.length : Int) + l < n
  | l, [], _, h => by simpa using h
  | l, c :: r, ⟨h1, h2, h3⟩, _ => by
    have := h3.lenA h2
    rw [List.length_cons]
    omega
theorem Asc.len {n : Int} {ps : List Int} (h : Asc n (-1) ps) (hn : 0 ≤ n) : (ps.length : Int) ≤ n := by
  have := h.lenA (by omega)
  omega
def Dt.ints : Dt → List Int
  | .tup ds => ds.map fun d => match d with
    | .int i => i
    | _ => 0
  | _ => []
theorem ints_ct (c : List Int) : (ctD c).ints = c := by
  show (c.map Dt.int).map _ = c
  rw [List.map_map]
  conv => rhs; rw [← List.map_id c]
  rfl
theorem isPat_ct {n : Int} {d : Dt} (h : d.isPat n = true) : ∃ ps, d = ctD ps ∧ Asc n (-1) ps := by
  cases d with
  | tup ds =>
    obtain ⟨ps, rfl, a⟩ := patGo_asc (show patGo n (-1) ds = true from h)
    exact ⟨ps, rfl, a⟩
  | _ => cases h
def Dt.isBox (ss : List Int) : Dt → Bool
  | .tup [p, w] => p.isPat ss.length && w.isCont (picks p.ints ss)
  | _ => false
theorem dh_two {K : PySem.W.Frag} {H : Hp} {xs : List V} {d1 d2 : Dt} : DhAll K H xs [d1, d2] → ∃ v1 v2, xs = [v1, v2] ∧ Dh K H v1 d1 ∧ Dh K H v2 d2
  | .cons h1 (.cons h2 .nil) => ⟨_, _, rfl, h1, h2⟩
def spBox (K : PySem.W.Frag) : Sp := fun vs H Q _ => ∃ (a : Addr) (ss : List Int) (v : V) (d : Dt), vs = [.ref a, v] ∧ SqT K H a (ss.map V.int) ∧ ss.length ≤ 1000 ∧ Dh K H v d ∧ ∀ H', Same H H' → Q (.bl (d.isBox ss)) H'
theorem ok_is_box_of (T : Txt K mg) : FnOk P w K mg base CX0 3 T.f_is_box_of T.d_is_box_of ["sizes", "thing"] (spBox K) := by
  refine T.F_is_box_of.ok sc_is_box_of (fun vs H Q E h => ?_) (fun cdv A outer s H vs Q E hr h => ?_)
  · obtain ⟨_, _, _, _, rfl, _⟩ := h
    rfl
  · obtain ⟨a, ss, v, d, rfl, ha, hl, h, q⟩ := h
    refine ⟨_, (pss_cons (ps_if (pt_not (pt_val (pe_call (ok_is_pair T) (hr.mono (by decide)) (by rfl) T.g_is_pair T.F_is_pair.kp T.b_is_pair .nil pass0 (pa_cons (pv 1) pa_nil)))) (pss_one (ps_ret pe_bl)) pss_nil)
      (pss_cons (ps_asg (pv 1) (pg_tupK K (n := 2) rfl (pgs_cons (pg_name (i := 2) sc_is_box_of.nd rfl (.inl rfl)) (pgs_cons (pg_name (i := 3) sc_is_box_of.nd rfl (.inl rfl)) pgs_nil))))
      (pss_cons (ps_if (pt_not (pt_val (pe_call (ok_is_pattern T) hr (by rfl) T.g_is_pattern T.F_is_pattern.kp T.b_is_pattern .nil pass0 (pa_cons (pe_callB (call_lenK K) (by rfl) T.z_len PySem.boot_len (pa_cons (pv 0) pa_nil)) (pa_cons (pv 2) pa_nil))))) (pss_one (ps_ret pe_bl)) pss_nil)
      (pss_one (ps_ret (pe_call (ok_is_content T) hr (by rfl) T.g_is_content T.F_is_content.kp T.b_is_content .nil pass0 (pa_cons (pe_lc (own := [("column", 4)]) rfl sc_is_box_of.nd (pi_tupK K (pv 2)) (blkOk_by (N := N_is_box_of) (sc := defScope s_is_box_of) (by decide +kernel)) (fun _ _ _ _ _ => (pg_name (i := 4) sc_is_box_of.nd rfl (.inl rfl))) (fun _ _ _ _ _ => pts_nil) (fun _ _ _ _ _ => (pe_ix (ix_tupK K) (pv 0) (pv 4) (fun _ _ => rfl)))) (pa_cons (pv 3) pa_nil)))))))), ?_⟩
    refine ⟨_, rfl, spD_bl (.cons h .nil) rfl fun H1 s1 => ⟨_, rfl, ?_⟩⟩
    cases hp : d.isPair with
    | false =>
      refine iteT ?_
      have e : d.isBox ss = false := by
        cases d with
        | tup ds =>
          match ds, hp with
          | [], _ => rfl
          | [_], _ => rfl
          | [_, _], hp => cases hp
          | _ :: _ :: _ :: _, _ => rfl
        | _ => rfl
      rw [e] at q
      exact q H1 s1
    | true =>
      refine iteF ?_
      obtain ⟨d1, d2, rfl⟩ : ∃ d1 d2, d = .tup [d1, d2] := by
        cases d with
        | tup ds =>
          match ds, hp with
          | [d1, d2], _ => exact ⟨d1, d2, rfl⟩
          | [], hp => cases hp
          | [_], hp => cases hp
          | _ :: _ :: _ :: _, hp => exact absurd hp (by simp [Dt.isPair])
        | _ => cases hp
      obtain ⟨p, xs, rfl, hs, hall⟩ := (h.ext (.of s1)).tup_inv
      obtain ⟨v1, v2, rfl, h1, h2⟩ := dh_two hall
      · refine ⟨_, rfl, p, _, rfl, hs, rfl, v1, _, rfl, v2, _, rfl, rfl, ?_⟩
        refine ⟨_, rfl, a, _, rfl, .inr ((Ext.of s1).sqT ha), _, rfl, ?_⟩
        have eb : (Dt.tup [d1, d2]).isBox ss = (d1.isPat ss.length && d2.isCont (picks d1.ints ss)) := rfl
        rw [eb] at q
        refine spD_bl (.cons (.int _) (.cons h1 .nil)) rfl fun H2 s2 => ⟨_, rfl, ?_⟩
        rw [List.length_map]
        cases hpat : d1.isPat ss.length with
        | false =>
          refine iteT ?_
          rw [hpat] at q
          exact q H2 (s1.trans s2)
        | true =>
          refine iteF ?_
          rw [hpat, Bool.true_and] at q
          obtain ⟨ps, rfl, asc⟩ := isPat_ct hpat
          rw [ints_ct] at q
          obtain ⟨b, rfl, hb⟩ := ct_inv (h1.ext (.of s2))
          have hlen := asc.len (by omega)
          dsimp only [tNext, tRet, tCall, tCons]
          refine lc_pick (K := K) (kx := 4) (kc := 0) (tp := tVar 2) (σ := [some (.ref a), some (.ref p), some (.ref b), some v2, none]) (fun R hR => ⟨_, rfl, hR⟩) hb ((Ext.of (s1.trans s2)).sqT ha) asc.inR (by omega) (fun _ => rfl) (fun _ => rfl) (fun _ => rfl) fun D H3 hD s3 hDl => ?_
          exact ⟨_, rfl, true, D, _, _, d2, rfl, SqL.of hDl, h2.ext (.of (s2.trans s3)), fun H4 s4 => q H4 (((s1.trans s2).trans s3).trans s4)⟩

/-! ### data compared -/
abbrev ctP (c : List Int) : PyData := .tuple (c.map PyData.int)
def boxD (ps ws : List Int) : Dt := .tup [ctD ps, ctD ws]
abbrev boxP (ps ws : List Int) : PyData := .tuple [ctP ps, ctP ws]
abbrev ctsP (cs : List (List Int)) : PyData := .list (cs.map ctP)
theorem lay_all {α : Type} {f : α → PyData} {n : Nat} (h : ∀ x, (f x).canLay0 = true ∧ (f x).depth ≤ n) : ∀ l : List α, PyData.canLayAll0 (l.map f) = true ∧ PyData.depthAll (l.map f) ≤ n
  | [] => ⟨rfl, Nat.zero_le _⟩
  | x :: r => by
    obtain ⟨h1, h2⟩ := lay_all h r
    obtain ⟨h3, h4⟩ := h x
    refine ⟨?_, ?_⟩
    · show ((f x).canLay0 && PyData.canLayAll0 (r.map f)) = true
      rw [h1, h3]
      rfl
    · show max (f x).depth (PyData.depthAll (r.map f)) ≤ n
      exact Nat.max_le.mpr ⟨h4, h2⟩
theorem lay_ct (c : List Int) : (ctP c).canLay0 = true ∧ (ctP c).depth ≤ 1 := by
  obtain ⟨h1, h2⟩ := lay_all (f := PyData.int) (n := 0) (fun _ => ⟨rfl, Nat.le_refl _⟩) c
  exact ⟨h1, Nat.succ_le_succ h2⟩
theorem shaped_of {d : PyData} {n : Nat} (h : d.canLay0 = true ∧ d.depth ≤ n) (hn : n ≤ 64) : SeqAt.shaped d = true := by
  unfold SeqAt.shaped
  rw [h.1, decide_eq_true (Nat.le_trans h.2 hn)]
  rfl
theorem shaped_ct (c : List Int) : SeqAt.shaped (ctP c) = true := shaped_of (lay_ct c) (by decide)
theorem lay_box (ps ws : List Int) : (boxP ps ws).canLay0 = true ∧ (boxP ps ws).depth ≤ 2 := by
  obtain ⟨h1, h2⟩ := lay_all (f := fun c => ctP c) (n := 1) lay_ct [ps, ws]
  exact ⟨h1, Nat.succ_le_succ h2⟩
theorem shaped_box (ps ws : List Int) : SeqAt.shaped (boxP ps ws) = true := shaped_of (lay_box ps ws) (by decide)
theorem lay_cts (cs : List (List Int)) : (ctsP cs).canLay0 = true ∧ (ctsP cs).depth ≤ 2 := by
  obtain ⟨h1, h2⟩ := lay_all (f := fun c => ctP c) (n := 1) lay_ct cs
  exact ⟨h1, Nat.succ_le_succ h2⟩
theorem shaped_cts (cs : List (List Int)) : SeqAt.shaped (ctsP cs) = true := shaped_of (lay_cts cs) (by decide)
theorem eqv_all {α : Type} [DecidableEq α] {f : α → PyData} (h : ∀ x y, PyData.eqv (f x) (f y) = decide (x = y)) : ∀ l m : List α, PyData.eqvAll (l.map f) (m.map f) = decide (l = m)
  | [], [] => by simp [PyData.eqvAll]
  | [], _ :: _ => by simp [PyData.eqvAll]
  | _ :: _, [] => by simp [PyData.eqvAll]
  | x :: l, y :: m => by
    rw [List.map_cons, List.map_cons, PyData.eqvAll, h, eqv_all h l m]
    by_cases e1 : x = y <;> by_cases e2 : l = m <;> simp [e1, e2]
theorem eqv_ct (c d : List Int) : PyData.eqv (ctP c) (ctP d) = decide (c = d) := by
  rw [PyData.eqv]
  exact eqv_all (f := PyData.int) (fun x y => by rw [PyData.eqv]; by_cases e : x = y <;> simp [e]) c d
theorem eqv_cts (c d : List (List Int)) : PyData.eqv (ctsP c) (ctsP d) = decide (c = d) := by
  rw [PyData.eqv]
  exact eqv_all (f := fun c => ctP c) eqv_ct c d
theorem eqv_box (a b c d : List Int) : PyData.eqv (boxP a b) (boxP c d) = decide (a = c ∧ b = d) := by
  have q := eqv_all (f := fun c => ctP c) eqv_ct [a, b] [c, d]
  rw [PyData.eqv]
  refine Eq.trans q ?_
  by_cases e1 : a = c <;> by_cases e2 : b = d <;> simp [e1, e2]
theorem dp_ints {K : PySem.W.Frag} {H : Hp} : ∀ c : List Int, DpAll K H (c.map V.int) (c.map PyData.int)
  | [] => .nil
  | i :: r => .cons (.int i) (dp_ints r)
theorem dp_ct {K : PySem.W.Frag} {H : Hp} {v : V} {c : List Int} (h : Dh K H v (ctD c)) : Dp K H v (ctP c) := by
  obtain ⟨a, rfl, s⟩ := ct_inv h
  exact .tup s (dp_ints c)
theorem box_inv {K : PySem.W.Frag} {H : Hp} {v : V} {ps ws : List Int} (h : Dh K H v (boxD ps ws)) : ∃ a v1 v2, v = .ref a ∧ SqT K H a [v1, v2] ∧ Dh K H v1 (ctD ps) ∧ Dh K H v2 (ctD ws) := by
  obtain ⟨a, xs, rfl, s, t⟩ := h.tup_inv
  obtain ⟨v1, v2, rfl, h1, h2⟩ := dh_two t
  exact ⟨a, v1, v2, rfl, s, h1, h2⟩
theorem dp_box {K : PySem.W.Frag} {H : Hp} {v : V} {ps ws : List Int} (h : Dh K H v (boxD ps ws)) : Dp K H v (boxP ps ws) := by
  obtain ⟨a, v1, v2, rfl, s, h1, h2⟩ := box_inv h
  exact .tup s (.cons (dp_ct h1) (.cons (dp_ct h2) .nil))
theorem dp_ctAll {K : PySem.W.Frag} {H : Hp} : ∀ {xs : List V} (cs : List (List Int)), DhAll K H xs (cs.map ctD) → DpAll K H xs (cs.map ctP)
  | _, [], .nil => .nil
  | _, _ :: r, .cons h t => .cons (dp_ct h) (dp_ctAll r t)
theorem dp_cts {K : PySem.W.Frag} {H : Hp} {a : Addr} {xs : List V} {cs : List (List Int)} (s : SqL K H a xs) (h : DhAll K H xs (cs.map ctD)) : Dp K H (.ref a) (ctsP cs) := .lst s (dp_ctAll cs h)
/-! ### rows: right things alone -/
theorem ok_contents (T : Txt K mg) : FnOk P w K mg base CX0 3 T.f_contents T.d_contents ["sizes"] (spAll K) := by
  refine T.F_contents.ok sc_contents (fun vs H Q E h => ?_) (fun cdv A outer s H vs Q E hr h => ?_)
  · obtain ⟨_, _, rfl, _⟩ := h
    rfl
  · obtain ⟨a, ss, rfl, hs, ok, q⟩ := h
    have ok' : (Dt.tup (ss.map Dt.int)).isSizes = true := ok
    refine ⟨_, (pss_cons (ps_if (pt_not (pt_val (pe_call (ok_is_sizes T) hr (by rfl) T.g_is_sizes T.F_is_sizes.kp T.b_is_sizes .nil pass0 (pa_cons (pv 0) pa_nil)))) (pss_one ps_never) pss_nil)
      (pss_one (ps_ret (pe_call (ok_all_contents T) (hr.mono (by decide)) (by rfl) T.g_all_contents T.F_all_contents.kp T.b_all_contents .nil pass0 (pa_cons (pv 0) pa_nil))))), ?_⟩
    refine ⟨_, rfl, spD_bl (.cons (.tup hs (ints_dh ss)) .nil) rfl fun H1 s1 => ⟨_, rfl, ?_⟩⟩
    rw [ok']
    refine iteF ?_
    exact ⟨_, rfl, a, ss, rfl, (Ext.of s1).sqT hs, ok, fun p xs H' np s2 hp hx => q p xs H' (s1.free np) (s1.trans s2) hp hx⟩
def spIsBox (K : PySem.W.Frag) : Sp := fun vs H Q _ => ∃ (a : Addr) (ss : List Int) (v : V) (d : Dt), vs = [.ref a, v] ∧ SqT K H a (ss.map V.int) ∧ SizesOk ss ∧ Dh K H v d ∧ ∀ H', Same H H' → Q (.bl (d.isBox ss)) H'
theorem ok_is_box (T : Txt K mg) : FnOk P w K mg base CX0 4 T.f_is_box T.d_is_box ["sizes", "thing"] (spIsBox K) := by
  refine T.F_is_box.ok sc_is_box (fun vs H Q E h => ?_) (fun cdv A outer s H vs Q E hr h => ?_)
  · obtain ⟨_, _, _, _, rfl, _⟩ := h
    rfl
  · obtain ⟨a, ss, v, d, rfl, hs, ok, hd, q⟩ := h
    have ok' : (Dt.tup (ss.map Dt.int)).isSizes = true := ok
    have hl := ok.facts.2.1
    refine ⟨_, (pss_cons (ps_if (pt_not (pt_val (pe_call (ok_is_sizes T) (hr.mono (by decide)) (by rfl) T.g_is_sizes T.F_is_sizes.kp T.b_is_sizes .nil pass0 (pa_cons (pv 0) pa_nil)))) (pss_one ps_never) pss_nil)
      (pss_one (ps_ret (pe_call (ok_is_box_of T) hr (by rfl) T.g_is_box_of T.F_is_box_of.kp T.b_is_box_of .nil pass0 (pa_cons (pv 0) (pa_cons (pv 1) pa_nil)))))), ?_⟩
    refine ⟨_, rfl, spD_bl (.cons (.tup hs (ints_dh ss)) .nil) rfl fun H1 s1 => ⟨_, rfl, ?_⟩⟩
    rw [ok']
    refine iteF ?_
    exact ⟨_, rfl, _, rfl, a, ss, _, d, rfl, (Ext.of s1).sqT hs, by omega, hd.ext (.of s1), fun H' s2 => q H' (s1.trans s2)⟩
/-- a content of sizes -/
def IsCt (ss c : List Int) : Prop := (ctD c).isCont ss = true
theorem IsCt.len {ss c : List Int} (h : IsCt ss c) : c.length = ss.length := by
  have h' : ((c.map Dt.int).length == ss.length && contGo ss (c.map Dt.int)) = true := h
  rw [Bool.and_eq_true] at h'
  simpa using h'.1
def spBoxAt (K : PySem.W.Frag) : Sp := fun vs H Q _ => ∃ (a : Addr) (ss ps c : List Int) (v1 v2 : V), vs = [.ref a, v1, v2] ∧ SqT K H a (ss.map V.int) ∧ SizesOk ss ∧ Dh K H v1 (ctD ps) ∧ Asc ss.length (-1) ps ∧ Dh K H v2 (ctD c) ∧ IsCt ss c ∧
  ∀ v H', Same H H' → Dh K H' v (boxD ps (picks ps c)) → Q v H'
theorem Asc.isPat {n : Int} {ps : List Int} (h : Asc n (-1) ps) : (ctD ps).isPat n = true := asc_patGo h
theorem ok_box_at (T : Txt K mg) : FnOk P w K mg base CX0 3 T.f_box_at T.d_box_at ["sizes", "pattern", "content"] (spBoxAt K) := by
  refine T.F_box_at.ok sc_box_at (fun vs H Q E h => ?_) (fun cdv A outer s H vs Q E hr h => ?_)
  · obtain ⟨_, _, _, _, _, _, rfl, _⟩ := h
    rfl
  · obtain ⟨a, ss, ps, c, v1, v2, rfl, hs, ok, h1, asc, h2, hc, q⟩ := h
    have ok' : (Dt.tup (ss.map Dt.int)).isSizes = true := ok
    have hl := ok.facts.2.1
    have hpl := asc.len (by omega)
    have hc' : (ctD c).isCont ss = true := hc
    refine ⟨_, (pss_cons (ps_if (pt_not (pt_val (pe_call (ok_is_sizes T) hr (by rfl) T.g_is_sizes T.F_is_sizes.kp T.b_is_sizes .nil pass0 (pa_cons (pv 0) pa_nil)))) (pss_one ps_never) pss_nil)
      (pss_cons (ps_if (pt_not (pt_val (pe_call (ok_is_pattern T) hr (by rfl) T.g_is_pattern T.F_is_pattern.kp T.b_is_pattern .nil pass0 (pa_cons (pe_callB (call_lenK K) (by rfl) T.z_len PySem.boot_len (pa_cons (pv 0) pa_nil)) (pa_cons (pv 1) pa_nil))))) (pss_one ps_never) pss_nil)
      (pss_cons (ps_if (pt_not (pt_val (pe_call (ok_is_content T) hr (by rfl) T.g_is_content T.F_is_content.kp T.b_is_content .nil pass0 (pa_cons (pv 0) (pa_cons (pv 2) pa_nil))))) (pss_one ps_never) pss_nil)
      (pss_one (ps_ret (pe_tup (pa_cons (pv 1) (pa_cons (pe_call (ok_worths_at T) (hr.mono (by decide)) (by rfl) T.g_worths_at T.F_worths_at.kp T.b_worths_at .nil pass0 (pa_cons (pv 1) (pa_cons (pv 2) pa_nil))) pa_nil)))))))), ?_⟩
    refine ⟨_, rfl, spD_bl (.cons (.tup hs (ints_dh ss)) .nil) rfl fun H1 s1 => ⟨_, rfl, ?_⟩⟩
    rw [ok']
    refine iteF ?_
    refine ⟨_, rfl, a, _, rfl, .inr ((Ext.of s1).sqT hs), _, rfl, ?_⟩
    refine spD_bl (.cons (.int _) (.cons (h1.ext (.of s1)) .nil)) rfl fun H2 s2 => ⟨_, rfl, ?_⟩
    rw [List.length_map, asc.isPat]
    refine iteF ?_
    refine ⟨_, rfl, _, rfl, false, a, ss, _, _, rfl, (Ext.of (s1.trans s2)).sqT hs, h2.ext (.of (s1.trans s2)), fun H3 s3 => ⟨_, rfl, ?_⟩⟩
    rw [hc']
    refine iteF ?_
    have s123 := (s1.trans s2).trans s3
    refine ⟨_, rfl, _, rfl, _, rfl, ps, c, _, _, rfl, h1.ext (.of s123), h2.ext (.of s123), by rw [hc.len]; exact asc.inR, by omega, fun v H4 s4 hv => ⟨by show 2 ≤ sizeLine; decide, fun r nr => ?_⟩⟩
    have s5 : Same H (upd H4 r (.tup [v1, v])) := (s123.trans s4).trans (same_new nr)
    exact q _ _ s5 (.tup (SqT.of upd_same) (.cons (h1.ext (.of s5)) (.cons (hv.ext (Ext.new nr)) .nil)))
/-- a box of sizes -/
structure BoxOk (ss ps ws : List Int) : Prop where
  asc : Asc ss.length (-1) ps
  cont : (ctD ws).isCont (picks ps ss) = true
theorem BoxOk.isBox {ss ps ws : List Int} (h : BoxOk ss ps ws) : (boxD ps ws).isBox ss = true := by
  show ((ctD ps).isPat ss.length && (ctD ws).isCont (picks (ctD ps).ints ss)) = true
  rw [h.asc.isPat, ints_ct, h.cont]
  rfl
theorem BoxOk.len {ss ps ws : List Int} (h : BoxOk ss ps ws) : ws.length = ps.length := by
  rw [← picks_len ps ss]
  exact IsCt.len h.cont
/-- the contents in a box -/
def inBox (ss ps ws : List Int) : List (List Int) := (allC ss).filter fun c => decide (picks ps c = ws)
def spInBox (K : PySem.W.Frag) : Sp := fun vs H Q _ => ∃ (a : Addr) (ss ps ws : List Int) (v : V), vs = [.ref a, v] ∧ SqT K H a (ss.map V.int) ∧ SizesOk ss ∧ Dh K H v (boxD ps ws) ∧ BoxOk ss ps ws ∧
  ∀ p xs H', H p = none → Same H H' → H' p = some (.lst xs) → DhAll K H' xs ((inBox ss ps ws).map ctD) → Q (.ref p) H'
theorem allC_width {ss : List Int} : ∀ i, i ≤ ss.length → ∀ c ∈ allC (ss.take i), c.length = i
  | 0, _ => by simp [allC]
  | i + 1, h => fun c hc => by
    have hi : i < ss.length := h
    have e : ss[i]? = some ss[i] := List.getElem?_eq_getElem hi
    have e' : ss.take (i + 1) = ss.take i ++ [ss[i]] := by rw [List.take_add_one, e]; rfl
    rw [e', allC_snoc] at hc
    obtain ⟨b, hb, hc⟩ := List.mem_flatMap.mp hc
    obtain ⟨w, _, rfl⟩ := List.mem_map.mp hc
    rw [List.length_append, allC_width i (Nat.le_of_lt hi) b hb]
    rfl
theorem allC_wide {ss c : List Int} (h : c ∈ allC ss) : c.length = ss.length := allC_width ss.length (Nat.le_refl _) c (by rw [List.take_length]; exact h)
theorem take_filter {α : Type} {l : List α} {i : Nat} {x : α} (p : α → Bool) (h : l[i]? = some x) : (l.take (i + 1)).filter p = (l.take i).filter p ++ if p x then [x] else [] := by
  rw [List.take_add_one, h, List.filter_append]
  show _ ++ List.filter p [x] = _
  rw [List.filter_cons, List.filter_nil]
theorem ok_in_box (T : Txt K mg) : FnOk P w K mg base CX0 4 T.f_in_box T.d_in_box ["sizes", "box"] (spInBox K) := by
  refine T.F_in_box.ok sc_in_box (fun vs H Q E h => ?_) (fun cdv A outer s H vs Q E hr h => ?_)
  · obtain ⟨_, _, _, _, _, rfl, _⟩ := h
    rfl
  · obtain ⟨a, ss, ps, ws, v, rfl, hs, ok, hv, bx, q⟩ := h
    have ok' : (Dt.tup (ss.map Dt.int)).isSizes = true := ok
    have hl := ok.facts.2.1
    have hpl := bx.asc.len (by omega)
    refine ⟨_, (pss_cons (ps_if (pt_not (pt_val (pe_call (ok_is_sizes T) (hr.mono (by decide)) (by rfl) T.g_is_sizes T.F_is_sizes.kp T.b_is_sizes .nil pass0 (pa_cons (pv 0) pa_nil)))) (pss_one ps_never) pss_nil)
      (pss_cons (ps_if (pt_not (pt_val (pe_call (ok_is_box_of T) hr (by rfl) T.g_is_box_of T.F_is_box_of.kp T.b_is_box_of .nil pass0 (pa_cons (pv 0) (pa_cons (pv 1) pa_nil))))) (pss_one ps_never) pss_nil)
      (pss_cons (ps_asg (pv 1) (pg_tupK K (n := 2) rfl (pgs_cons (pg_name (i := 2) sc_in_box.nd rfl (.inr rfl)) (pgs_cons (pg_name (i := 3) sc_in_box.nd rfl (.inr rfl)) pgs_nil))))
      (pss_one (ps_ret (pe_lc (own := [("content", 4)]) rfl sc_in_box.nd (pi_listK K (pe_call (ok_all_contents T) (hr.mono (by decide)) (by rfl) T.g_all_contents T.F_all_contents.kp T.b_all_contents .nil pass0 (pa_cons (pv 0) pa_nil))) (blkOk_by (N := N_in_box) (sc := defScope s_in_box) (by decide +kernel)) (fun _ _ _ _ _ => (pg_name (i := 4) sc_in_box.nd rfl (.inl rfl))) (fun _ _ _ _ _ => (pts_one (pt_cmpR (op_eqK K hr.units) (pe_call (ok_worths_at T) (hr.mono (by decide)) (by rfl) T.g_worths_at T.F_worths_at.kp T.b_worths_at .nil pass0 (pa_cons (pv 2) (pa_cons (pv 4) pa_nil))) (pv 3) (nomark _)))) (fun _ _ _ _ _ => (pv 4)))))))), ?_⟩
    refine ⟨_, rfl, spD_bl (.cons (.tup hs (ints_dh ss)) .nil) rfl fun H1 s1 => ⟨_, rfl, ?_⟩⟩
    rw [ok']
    refine iteF ?_
    refine ⟨_, rfl, _, rfl, a, ss, _, _, rfl, (Ext.of s1).sqT hs, by omega, hv.ext (.of s1), fun H2 s2 => ⟨_, rfl, ?_⟩⟩
    rw [bx.isBox]
    refine iteF ?_
    have s12 := s1.trans s2
    obtain ⟨b, v1, v2, rfl, hb, h1, h2⟩ := box_inv (hv.ext (.of s12))
    refine ⟨_, rfl, b, _, rfl, hb, rfl, v1, _, rfl, v2, _, rfl, rfl, ?_⟩
    refine ⟨_, rfl, a, ss, rfl, (Ext.of s12).sqT hs, ok, fun p xs H3 np s3 hp hx => ⟨p, rfl, ⟨xs, SqL.of hp⟩, fun D hD => ?_⟩⟩
    have s13 := s12.trans s3
    refine lc_list (K := K) (xs := xs) (fun i H' => ∃ acc, Same H3 H' ∧ H' D = some (.lst acc) ∧ DhAll K H' acc ((((allC ss).take i).filter fun c => decide (picks ps c = ws)).map ctD)) ⟨[], same_new hD, upd_same, .nil⟩ (fun i H' _ ⟨_, sm, _⟩ => sm.seq (SqL.of hp)) ?_ ?_
    · rintro i x H' hi ⟨acc, sm, hDl, hacc⟩
      obtain ⟨d, hd, hxd⟩ := hx.get hi
      obtain ⟨c, hc, rfl⟩ := map_at hd
      have hw := allC_wide (List.mem_of_getElem? hc)
      have s3' := s3.trans sm
      refine ⟨rfl, _, rfl, _, rfl, ps, c, _, _, rfl, h1.ext (.of s3'), hxd.ext (.of sm), by rw [hw]; exact bx.asc.inR, by omega, fun u H4 s4 hu => ?_⟩
      refine ⟨_, rfl, _, _, dp_ct hu, dp_ct (h2.ext (.of (s3'.trans s4))), shaped_ct _, shaped_ct _, _, rfl, ?_⟩
      rw [eqv_ct]
      have sm4 := sm.trans s4
      have e := take_filter (fun c => decide (picks ps c = ws)) hc
      cases hq : decide (picks ps c = ws) with
      | true =>
        refine iteT ⟨_, rfl, acc, s4 _ _ hDl, ?_, acc ++ [x], fun b o e => ?_, upd_same, ?_⟩
        · have e1 := hacc.length
          rw [List.length_map] at e1
          have e2 : (((allC ss).take i).filter fun c => decide (picks ps c = ws)).length ≤ ((allC ss).take i).length := List.length_filter_le _ _
          rw [List.length_take] at e2
          have e3 := (allC_all ok).1
          exact sz_small (by omega)
        · rw [upd_ne (ne_of_none e hD)]
          exact sm4 _ _ e
        · rw [e, hq, List.map_append]
          exact ((hacc.ext (.of s4)).snoc (hxd.ext (.of sm4))).ext (Ext.put (s4 _ _ hDl))
      | false =>
        refine iteF ⟨acc, sm4, s4 _ _ hDl, ?_⟩
        rw [e, hq]
        simpa using hacc.ext (.of s4)
    · rintro H' ⟨acc, sm, hDl, hacc⟩
      have el := hx.length
      rw [List.length_map] at el
      rw [el, List.take_length] at hacc
      exact q D acc H' (s13.free hD) (s13.trans sm) hDl hacc

/-! ### two boxes at once: the mathematics -/
abbrev Prs := List (Int × Int)
def kvV (l : Prs) : List (Key × V) := l.map fun p => (Sum.inl p.1, V.int p.2)
theorem lookup_cons (p : Int × Int) (l : Prs) (k : Int) : List.lookup k (p :: l) = if p.1 = k then some p.2 else List.lookup k l := by
  obtain ⟨a, b⟩ := p
  by_cases h : a = k
  · subst h
    simp [List.lookup]
  · have e : (k == a) = false := by simpa using fun z => h z.symm
    rw [if_neg h]
    simp [List.lookup, e]
theorem lookup_app (k : Int) : ∀ l m : Prs, (l ++ m).lookup k = match l.lookup k with
    | some v => some v
    | none => m.lookup k
  | [], m => rfl
  | p :: l, m => by
    rw [List.cons_append, lookup_cons, lookup_cons]
    by_cases h : p.1 = k
    · rw [if_pos h, if_pos h]
    · rw [if_neg h, if_neg h, lookup_app k l m]
theorem lookup_none {k : Int} : ∀ {l : Prs}, l.lookup k = none ↔ k ∉ l.map (·.1)
  | [] => by simp [List.lookup]
  | p :: l => by
    rw [lookup_cons, List.map_cons, List.mem_cons]
    by_cases h : p.1 = k
    · rw [if_pos h]
      simp [h]
    · rw [if_neg h, lookup_none (l := l)]
      constructor
      · rintro z (q | q)
        · exact h q.symm
        · exact z q
      · exact fun z q => z (.inr q)
theorem lookup_mem {k v : Int} : ∀ {l : Prs}, l.lookup k = some v → (k, v) ∈ l
  | [], h => by simp [List.lookup] at h
  | p :: l, h => by
    rw [lookup_cons] at h
    by_cases e : p.1 = k
    · rw [if_pos e] at h
      cases h
      subst e
      exact List.mem_cons_self ..
    · rw [if_neg e] at h
      exact List.mem_cons_of_mem _ (lookup_mem h)
theorem mem_lookup {k v : Int} : ∀ {l : Prs}, (l.map (·.1)).Nodup → (k, v) ∈ l → l.lookup k = some v
  | [], _, h => by simp at h
  | p :: l, hn, h => by
    rw [List.map_cons] at hn
    obtain ⟨h1, h2⟩ := List.nodup_cons.mp hn
    rw [lookup_cons]
    rcases List.mem_cons.mp h with e | e
    · subst e
      exact if_pos rfl
    · rw [if_neg fun z => h1 (List.mem_map.mpr ⟨_, e, z.symm⟩)]
      exact mem_lookup h2 e
theorem valV_kv (k : Int) : ∀ l : Prs, valV (kvV l) (Sum.inl k : Key) = (l.lookup k).map V.int
  | [] => rfl
  | p :: l => by
    rw [lookup_cons]
    by_cases h : p.1 = k
    · rw [if_pos h]
      exact valV_pos (show (Sum.inl p.1 : Key) = Sum.inl k by rw [h])
    · rw [if_neg h]
      exact (valV_neg (fun z => h (Sum.inl.inj z))).trans (valV_kv k l)
theorem any_kv (k : Int) (l : Prs) : ((kvV l).any fun kv => decide (kv.1 = (Sum.inl k : Key))) = (l.lookup k).isSome := by
  rw [valV_any, valV_kv]
  cases l.lookup k <;> rfl
theorem put_new {l : Prs} {k v : Int} (h : l.lookup k = none) : putK (kvV l) (Sum.inl k : Key) (V.int v) = kvV (l ++ [(k, v)]) := by
  unfold putK
  rw [any_kv, h]
  show kvV l ++ _ = _
  unfold kvV
  rw [List.map_append]
  rfl
theorem put_same {l : Prs} {k v : Int} (hn : (l.map (·.1)).Nodup) (h : l.lookup k = some v) : putK (kvV l) (Sum.inl k : Key) (V.int v) = kvV l := by
  unfold putK
  rw [any_kv, h]
  show (kvV l).map _ = _
  conv => rhs; rw [← List.map_id (kvV l)]
  refine List.map_congr_left fun p hp => ?_
  obtain ⟨q, hq, rfl⟩ := List.mem_map.mp hp
  by_cases e : q.1 = k
  · have e2 : q.2 = v := by
      have z := mem_lookup hn (show (k, q.2) ∈ l by rw [← e]; exact hq)
      rw [h] at z
      exact (Option.some.inj z).symm
    show (if (Sum.inl q.1 : Key) = Sum.inl k then _ else _) = _
    rw [if_pos (by rw [e]), e2]
    rfl
  · show (if (Sum.inl q.1 : Key) = Sum.inl k then _ else _) = _
    rw [if_neg fun z => e (Sum.inl.inj z)]
    rfl
theorem kv_len (l : Prs) : (kvV l).length = l.length := List.length_map _
theorem kv_keys (l : Prs) : (kvV l).map (·.1) = (l.map (·.1)).map Sum.inl := by
  unfold kvV
  rw [List.map_map, List.map_map]
  rfl
/-- the pairs of the first, and those of the second (the first i) whose keys are new -/
def merged2 (A B : Prs) (i : Nat) : Prs := A ++ (B.take i).filter fun p => (A.lookup p.1).isNone
theorem merged2_zero (A B : Prs) : merged2 A B 0 = A := by simp [merged2]
theorem merged2_old {A B : Prs} {i : Nat} {c w a : Int} (h : B[i]? = some (c, w)) (ha : A.lookup c = some a) : merged2 A B (i + 1) = merged2 A B i := by
  unfold merged2
  rw [List.take_add_one, h, List.filter_append]
  show A ++ (_ ++ List.filter _ [(c, w)]) = _
  rw [List.filter_cons, List.filter_nil, ha]
  simp
theorem merged2_new {A B : Prs} {i : Nat} {c w : Int} (h : B[i]? = some (c, w)) (ha : A.lookup c = none) : merged2 A B (i + 1) = merged2 A B i ++ [(c, w)] := by
  unfold merged2
  rw [List.take_add_one, h, List.filter_append]
  show A ++ (_ ++ List.filter _ [(c, w)]) = _
  rw [List.filter_cons, List.filter_nil, ha]
  simp
theorem filter_lookup {A : Prs} {k : Int} (h : A.lookup k = none) : ∀ B : Prs, (B.filter fun p => (A.lookup p.1).isNone).lookup k = B.lookup k
  | [] => rfl
  | p :: B => by
    rw [List.filter_cons]
    by_cases e : p.1 = k
    · rw [e, h]
      show List.lookup k (p :: _) = _
      rw [lookup_cons, lookup_cons, if_pos e, if_pos e]
    · by_cases q : (A.lookup p.1).isNone = true
      · rw [if_pos q, lookup_cons, lookup_cons, if_neg e, if_neg e, filter_lookup h B]
      · rw [if_neg q, lookup_cons, if_neg e, filter_lookup h B]
theorem merged2_look (A B : Prs) (i : Nat) (k : Int) : (merged2 A B i).lookup k = match A.lookup k with
    | some v => some v
    | none => (B.take i).lookup k := by
  unfold merged2
  rw [lookup_app]
  cases h : A.lookup k with
  | some v => rfl
  | none => exact filter_lookup h _
theorem nodup_app {l m : List Int} (hl : l.Nodup) (hm : m.Nodup) (h : ∀ x ∈ m, x ∉ l) : (l ++ m).Nodup := by
  rw [List.nodup_append]
  exact ⟨hl, hm, fun a ha b hb e => h b hb (e ▸ ha)⟩
theorem merged2_nodup {A B : Prs} {i : Nat} (hA : (A.map (·.1)).Nodup) (hB : (B.map (·.1)).Nodup) : ((merged2 A B i).map (·.1)).Nodup := by
  unfold merged2
  rw [List.map_append]
  have sub : ((B.take i).filter fun p => (A.lookup p.1).isNone).Sublist B := List.filter_sublist.trans (List.take_sublist _ _)
  refine nodup_app hA ((sub.map _).nodup hB) fun x hx => ?_
  obtain ⟨p, hp, rfl⟩ := List.mem_map.mp hx
  have q := (List.mem_filter.mp hp).2
  exact lookup_none.mp (by simpa using q)
theorem take_look {B : Prs} (hB : (B.map (·.1)).Nodup) {i : Nat} {c w : Int} (h : B[i]? = some (c, w)) : (B.take i).lookup c = none := by
  rw [lookup_none]
  intro m
  obtain ⟨p, hp, e⟩ := List.mem_map.mp m
  obtain ⟨j, hj, ej⟩ := List.mem_iff_getElem.mp hp
  rw [List.length_take] at hj
  rw [List.getElem_take] at ej
  have h1 : (B.map (·.1))[j]? = some c := by
    rw [List.getElem?_map, List.getElem?_eq_getElem (by omega), ej]
    show some p.1 = _
    rw [e]
  have h2 : (B.map (·.1))[i]? = some c := by
    rw [List.getElem?_map, h]
    rfl
  have := nd_ix hB h1 h2
  omega
/-- lists that rise strictly -/
theorem rise_eq : ∀ {l m : List Int}, l.Pairwise (· < ·) → m.Pairwise (· < ·) → (∀ x, x ∈ l ↔ x ∈ m) → l = m
  | [], [], _, _, _ => rfl
  | [], y :: m, _, _, h => by
    have := (h y).mpr (List.mem_cons_self ..)
    simp at this
  | x :: l, [], _, _, h => by
    have := (h x).mp (List.mem_cons_self ..)
    simp at this
  | x :: l, y :: m, hl, hm, h => by
    obtain ⟨l1, l2⟩ := List.pairwise_cons.mp hl
    obtain ⟨m1, m2⟩ := List.pairwise_cons.mp hm
    have e : x = y := by
      rcases List.mem_cons.mp ((h x).mp (List.mem_cons_self ..)) with q | q
      · exact q
      · rcases List.mem_cons.mp ((h y).mpr (List.mem_cons_self ..)) with r | r
        · exact r.symm
        · have a := m1 x q
          have b := l1 y r
          omega
    subst e
    rw [rise_eq l2 m2 fun z => ?_]
    constructor
    · intro hz
      rcases List.mem_cons.mp ((h z).mp (List.mem_cons_of_mem _ hz)) with q | q
      · have a := l1 z hz
        omega
      · exact q
    · intro hz
      rcases List.mem_cons.mp ((h z).mpr (List.mem_cons_of_mem _ hz)) with q | q
      · have a := m1 z hz
        omega
      · exact q
theorem rise_of : ∀ {l : List Int}, l.Pairwise (· ≤ ·) → l.Nodup → l.Pairwise (· < ·)
  | [], _, _ => .nil
  | x :: l, h, hn => by
    obtain ⟨h1, h2⟩ := List.pairwise_cons.mp h
    obtain ⟨n1, n2⟩ := List.nodup_cons.mp hn
    refine List.pairwise_cons.mpr ⟨fun y hy => ?_, rise_of h2 n2⟩
    have a := h1 y hy
    have b : x ≠ y := fun e => n1 (e ▸ hy)
    omega
theorem Asc.rise {n : Int} : ∀ {l : Int} {ps : List Int}, Asc n l ps → ps.Pairwise (· < ·)
  | _, [], _ => .nil
  | l, c :: r, ⟨h1, h2, h3⟩ => List.pairwise_cons.mpr ⟨fun y hy => (h3.mem y hy).1, h3.rise⟩
theorem rise_nodup {l : List Int} (h : l.Pairwise (· < ·)) : l.Nodup := h.imp fun a => by omega
abbrev cols5 : List Int := [0, 1, 2, 3, 4]
def unionC (ps qs : List Int) : List Int := cols5.filter fun k => decide (k ∈ ps) || decide (k ∈ qs)
theorem unionC_rise (ps qs : List Int) : (unionC ps qs).Pairwise (· < ·) := List.Pairwise.filter _ (by decide)
theorem mem_cols5 {k : Int} (h0 : 0 ≤ k) (h1 : k < 5) : k ∈ cols5 := by
  have : k = 0 ∨ k = 1 ∨ k = 2 ∨ k = 3 ∨ k = 4 := by omega
  rcases this with e | e | e | e | e <;> simp [e]
def In5 (ps : List Int) : Prop := ∀ p ∈ ps, 0 ≤ p ∧ p < 5
theorem mem_union {ps qs : List Int} (h1 : In5 ps) (h2 : In5 qs) (k : Int) : k ∈ unionC ps qs ↔ k ∈ ps ∨ k ∈ qs := by
  unfold unionC
  rw [List.mem_filter, Bool.or_eq_true, decide_eq_true_eq, decide_eq_true_eq]
  refine ⟨fun h => h.2, fun h => ⟨?_, h⟩⟩
  rcases h with h | h
  · exact mem_cols5 (h1 k h).1 (h1 k h).2
  · exact mem_cols5 (h2 k h).1 (h2 k h).2
def clash (A B : Prs) : Bool := cols5.any fun k => match A.lookup k, B.lookup k with
  | some a, some b => !decide (a = b)
  | _, _ => false
def val2 (A B : Prs) (k : Int) : Int := match A.lookup k with
  | some a => a
  | none => (B.lookup k).getD 0
/-- the box of what is in both -/
def bothR (ps ws qs us : List Int) : Option (List Int × List Int) :=
  if clash (ps.zip ws) (qs.zip us) = true then none else some (unionC ps qs, (unionC ps qs).map (val2 (ps.zip ws) (qs.zip us)))

end
end Fm
namespace Fm
open PySem PySem.Spec PyProof.Rows L2
section
variable {P : Program} {w : World} {K : PySem.W.Frag} {mg : Str → Option Value} {base : Heap}

/-! ### two boxes at once: the program -/
theorem dc_zipM {L : Bool} {a b : Addr} {xs ys : List V} {g : TG} {tt : TT} {tk tv : TE} {vs : List Nat} {σ : L2.St} {H1 : Hp} {D : Addr} {Qd : Hp → Prop} (Pv : Nat → Hp → Prop) (h0 : Pv 0 (upd H1 D (.dK []))) (hq : ∀ i H, Pv i H → SqA L K H a xs ∧ SqT K H b ys)
    (hs : ∀ (i : Nat) (x y : V) (T : Addr) (H : Hp), xs[i]? = some x → ys[i]? = some y → Pv i H → H T = none → g (.ref T) (wipe σ vs) (upd H T (.tup [x, y])) fun σ2 H2 => wipe σ2 vs = wipe σ vs ∧ tt σ2 H2 fun b H3 =>
      if b = true then tk σ2 H3 fun y H4 => tv σ2 H4 fun z H5 => ∃ kvs k, y = kV k ∧ H5 D = some (.dK kvs) ∧ kvs.length < sizeLine ∧ Pv (i + 1) (upd H5 D (.dK (putK kvs k z))) else Pv (i + 1) H3) (hd : ∀ H, Pv (min xs.length ys.length) H → Qd H) :
    ∃ W : Nat → Nat → Hp → Prop, (∃ m, W 0 m (upd H1 D (.dK []))) ∧ ∀ i m H, W i m H →
      ((ItM L K a b xs ys).stop i H ∧ Qd H) ∨ ((ItM L K a b xs ys).go i H ∧ ∃ Nx : Hp → Prop, (∀ H', Nx H' → ∃ m', m' < m ∧ W (i + 1) m' H') ∧ ∀ x H', (ItM L K a b xs ys).yld i H x H' → g x (wipe σ vs) H' fun σ2 H2 => wipe σ2 vs = wipe σ vs ∧ tt σ2 H2 fun b H3 =>
        if b = true then tk σ2 H3 fun y H4 => tv σ2 H4 fun z H5 => ∃ kvs k, y = kV k ∧ H5 D = some (.dK kvs) ∧ kvs.length < sizeLine ∧ Nx (upd H5 D (.dK (putK kvs k z))) else Nx H3) := by
  refine ⟨fun i m H => i + m = min xs.length ys.length ∧ Pv i H, ⟨_, Nat.zero_add _, h0⟩, fun i m H h => ?_⟩
  obtain ⟨em, p⟩ := h
  obtain ⟨qx, qy⟩ := hq i H p
  cases m with
  | zero =>
    have ei : i = min xs.length ys.length := em
    refine .inl ⟨⟨qx, qy, ei⟩, hd H ?_⟩
    rw [← ei]
    exact p
  | succ m =>
    refine .inr ⟨⟨qx, qy, by omega, by omega⟩, Pv (i + 1), fun H' p' => ⟨m, Nat.lt_succ_self m, by omega, p'⟩, fun v H' y => ?_⟩
    obtain ⟨T, x, y', rfl, hT, rfl, f1, f2⟩ := y
    exact hs i x y' T H f1 f2 p hT
theorem zip_at {ps ws : List Int} {i : Nat} {p w : Int} (h1 : ps[i]? = some p) (h2 : ws[i]? = some w) : (ps.zip ws)[i]? = some (p, w) := by
  rw [List.getElem?_zip_eq_some]
  exact ⟨h1, h2⟩
theorem zip_keys {ps ws : List Int} (h : ws.length = ps.length) : (ps.zip ws).map (·.1) = ps := List.map_fst_zip (by omega)
def optD : Option (List Int × List Int) → Dt
  | none => .non
  | some (a, b) => boxD a b
theorem BoxOk.nodup {ss ps ws : List Int} (h : BoxOk ss ps ws) : ((ps.zip ws).map (·.1)).Nodup := by
  rw [zip_keys h.len]
  exact rise_nodup h.asc.rise
theorem BoxOk.in5 {ss ps ws : List Int} (h : BoxOk ss ps ws) (hl : ss.length ≤ 5) : In5 ps := fun p hp => by
  have := h.asc.inR p hp
  omega
/-- a clash at some place -/
theorem clash_of {A B : Prs} {i : Nat} {c w a : Int} (hB : (B.map (·.1)).Nodup) (h : B[i]? = some (c, w)) (ha : A.lookup c = some a) (n : a ≠ w) (hc : 0 ≤ c ∧ c < 5) : clash A B = true := by
  unfold clash
  rw [List.any_eq_true]
  refine ⟨c, mem_cols5 hc.1 hc.2, ?_⟩
  rw [ha, mem_lookup hB (List.mem_of_getElem? h)]
  simpa using n
theorem clash_no {A B : Prs} (h : ∀ (j : Nat) (c w a : Int), B[j]? = some (c, w) → A.lookup c = some a → a = w) : clash A B = false := by
  unfold clash
  rw [List.any_eq_false]
  intro k _
  cases ha : A.lookup k with
  | none => simp
  | some a =>
    cases hb : B.lookup k with
    | none => simp
    | some b =>
      obtain ⟨j, hj, e⟩ := List.mem_iff_getElem.mp (lookup_mem hb)
      have := h j k b a (by rw [List.getElem?_eq_getElem hj, e]) ha
      simp [this]
theorem keys_union {ps ws qs us : List Int} (h1 : ws.length = ps.length) (h2 : us.length = qs.length) (n1 : ps.Nodup) (n2 : qs.Nodup) (i1 : In5 ps) (i2 : In5 qs) {ys : List Int} (hp : ys.Perm ((merged2 (ps.zip ws) (qs.zip us) (qs.zip us).length).map (·.1))) (hs : ys.Pairwise (· ≤ ·)) :
    ys = unionC ps qs := by
  have nA : ((ps.zip ws).map (·.1)).Nodup := by rw [zip_keys h1]; exact n1
  have nB : ((qs.zip us).map (·.1)).Nodup := by rw [zip_keys h2]; exact n2
  refine rise_eq (rise_of hs (hp.nodup_iff.mpr (merged2_nodup nA nB))) (unionC_rise _ _) fun x => ?_
  rw [hp.mem_iff, mem_union i1 i2]
  have q := merged2_look (ps.zip ws) (qs.zip us) (qs.zip us).length x
  rw [List.take_length] at q
  have e1 : x ∈ ps ↔ (ps.zip ws).lookup x ≠ none := by
    have := lookup_none (k := x) (l := ps.zip ws)
    rw [zip_keys h1] at this
    rw [Ne, this, Classical.not_not]
  have e2 : x ∈ qs ↔ (qs.zip us).lookup x ≠ none := by
    have := lookup_none (k := x) (l := qs.zip us)
    rw [zip_keys h2] at this
    rw [Ne, this, Classical.not_not]
  have e3 : x ∈ (merged2 (ps.zip ws) (qs.zip us) (qs.zip us).length).map (·.1) ↔ (merged2 (ps.zip ws) (qs.zip us) (qs.zip us).length).lookup x ≠ none := by
    rw [Ne, lookup_none, Classical.not_not]
  rw [e1, e2, e3, q]
  cases (ps.zip ws).lookup x <;> simp
theorem merged2_val {A B : Prs} {k : Int} (h : (merged2 A B B.length).lookup k ≠ none) : (merged2 A B B.length).lookup k = some (val2 A B k) := by
  have q := merged2_look A B B.length k
  rw [List.take_length] at q
  rw [q] at h ⊢
  unfold val2
  cases ha : A.lookup k with
  | some a => rfl
  | none =>
    rw [ha] at h
    cases hb : B.lookup k with
    | none => exact absurd hb h
    | some b => rfl
def spBoth (K : PySem.W.Frag) : Sp := fun vs H Q _ => ∃ (a : Addr) (ss ps ws qs us : List Int) (v1 v2 : V), vs = [.ref a, v1, v2] ∧ SqT K H a (ss.map V.int) ∧ SizesOk ss ∧ Dh K H v1 (boxD ps ws) ∧ BoxOk ss ps ws ∧ Dh K H v2 (boxD qs us) ∧ BoxOk ss qs us ∧
  ∀ v H', Same H H' → Dh K H' v (optD (bothR ps ws qs us)) → Q v H'
theorem merged2_len {A B : Prs} {i : Nat} : (merged2 A B i).length ≤ A.length + B.length := by
  unfold merged2
  have h : ((B.take i).filter fun p => (A.lookup p.1).isNone).length ≤ B.length := (List.filter_sublist.trans (List.take_sublist _ _)).length_le
  rw [List.length_append]
  omega
/-- the values of a dict's keys, one by one: [d[k] for k in ys] -/
theorem lc_vals {H : Hp} {σ : L2.St} {Q : VK} {a d : Addr} {ys : List Int} {M : Prs} {f : Int → Int} {kx kd : Nat} {tp : TE} (htp : ∀ R : VK, R (.ref a) H → tp σ H R) (ha : SqT K H a (ys.map V.int)) (hd : H d = some (.dK (kvV M))) (hv : ∀ y ∈ ys, M.lookup y = some (f y)) (hl : ys.length ≤ 1000)
    (hw : ∀ x, wipe ((wipe σ [kx]).set kx (some x)) [kx] = wipe σ [kx]) (hc : ∀ x : V, ((wipe σ [kx]).set kx (some x))[kd]? = some (some (.ref d))) (hx : ∀ x : V, ((wipe σ [kx]).set kx (some x))[kx]? = some (some x))
    (q : ∀ D H', H D = none → Same H H' → H' D = some (.lst ((ys.map f).map V.int)) → Q (.ref D) H') :
    tLc (iTup K tp) (gName kx) tYes (tDGet (tVar kd) (tVar kx)) [kx] σ H Q := by
  refine htp _ ⟨a, rfl, ⟨_, ha⟩, fun D hD => lc_tup (K := K) (xs := ys.map V.int) (fun i H' => Same H H' ∧ H' D = some (.lst (((ys.map f).take i).map V.int))) ⟨same_new hD, upd_same⟩ (fun i H' _ p => (Ext.of p.1).sqT ha) ?_ ?_⟩
  · rintro i x H' hi ⟨sm, hDl⟩
    obtain ⟨y, rfl, hy⟩ := int_at hi
    have e1 := hv y (List.mem_of_getElem? hy)
    have e2 : (ys.map f).take (i + 1) = (ys.map f).take i ++ [f y] := by
      rw [List.take_add_one, List.getElem?_map, hy]
      rfl
    refine ⟨hw _, ?_⟩
    dsimp only [tYes]
    rw [if_pos rfl]
    refine ⟨_, hc _, _, hx _, d, .int (f y), rfl, .inl ⟨_, Sum.inl y, .inl (sm _ _ hd), rfl, by rw [valV_kv, e1]; rfl⟩, _, hDl, ?_, fun c o e => ?_, ?_⟩
    · rw [List.length_map, List.length_take]
      exact sz_small (by have : (ys.map f).length = ys.length := List.length_map _; omega)
    · rw [upd_ne (ne_of_none e hD)]
      exact sm _ _ e
    · rw [upd_same, e2, List.map_append]
      rfl
  · rintro H' ⟨sm, hDl⟩
    rw [List.length_map] at hDl
    have e : (ys.map f).take ys.length = ys.map f := by
      rw [List.take_of_length_le (by rw [List.length_map]; exact Nat.le_refl _)]
    rw [e] at hDl
    exact q D H' hD sm hDl
theorem ok_both (T : Txt K mg) : FnOk P w K mg base CX0 4 T.f_both T.d_both ["sizes", "box", "other"] (spBoth K) := by
  refine T.F_both.ok sc_both (fun vs H Q E h => ?_) (fun cdv A outer s H vs Q E hr h => ?_)
  · obtain ⟨_, _, _, _, _, _, _, _, rfl, _⟩ := h
    rfl
  · obtain ⟨a, ss, ps, ws, qs, us, v1, v2, rfl, hs, ok, hv1, bx1, hv2, bx2, q⟩ := h
    have ok' : (Dt.tup (ss.map Dt.int)).isSizes = true := ok
    have hl := ok.facts.2.1
    have hpl := bx1.asc.len (by omega)
    have hql := bx2.asc.len (by omega)
    have hu := hu_of hr
    have nA := bx1.nodup
    have nB := bx2.nodup
    refine ⟨_, (pss_cons (ps_if (pt_not (pt_val (pe_call (ok_is_sizes T) (hr.mono (by decide)) (by rfl) T.g_is_sizes T.F_is_sizes.kp T.b_is_sizes .nil pass0 (pa_cons (pv 0) pa_nil)))) (pss_one ps_never) pss_nil)
      (pss_cons (ps_if (PW.pt (pw_or (pt_not (pt_val (pe_call (ok_is_box_of T) hr (by rfl) T.g_is_box_of T.F_is_box_of.kp T.b_is_box_of .nil pass0 (pa_cons (pv 0) (pa_cons (pv 1) pa_nil))))) (pw_or1 (pt_not (pt_val (pe_call (ok_is_box_of T) hr (by rfl) T.g_is_box_of T.F_is_box_of.kp T.b_is_box_of .nil pass0 (pa_cons (pv 0) (pa_cons (pv 2) pa_nil)))))))) (pss_one ps_never) pss_nil)
      (pss_cons (ps_set (i := 3) sc_both.nd rfl (.inr rfl) (pe_dc (own := [("column", 5), ("worth", 6)]) rfl sc_both.nd (pi_zipM (by rfl) T.z_zip (pa_cons (pe_ix (ix_tupK K) (pv 1) pe_int (fun _ _ => rfl)) (pa_cons (pe_ix (ix_tupK K) (pv 1) pe_int (fun _ _ => rfl)) pa_nil))) (blkOk_by (N := N_both) (sc := defScope s_both) (by decide +kernel)) (fun _ _ _ _ _ => (pg_tupK K (n := 2) rfl (pgs_cons (pg_name (i := 5) sc_both.nd rfl (.inl rfl)) (pgs_cons (pg_name (i := 6) sc_both.nd rfl (.inl rfl)) pgs_nil)))) (fun _ _ _ _ _ => pts_nil) (fun _ _ _ _ _ => (pv 5)) (fun _ _ _ _ _ => (pv 6))))
      (pss_cons (ps_for PassesOwn.never rfl (pi_zipM (by rfl) T.z_zip (pa_cons (pe_ix (ix_tupK K) (pv 2) pe_int (fun _ _ => rfl)) (pa_cons (pe_ix (ix_tupK K) (pv 2) pe_int (fun _ _ => rfl)) pa_nil))) (pg_tupK K (n := 2) rfl (pgs_cons (pg_name (i := 5) sc_both.nd rfl (.inl rfl)) (pgs_cons (pg_name (i := 6) sc_both.nd rfl (.inl rfl)) pgs_nil))) (pss_one (ps_if (pt_cmpR op_ne (pe_dsetd (pv 3) (pv 5) (pv 6) ⟨rfl, by rfl, by rfl, by rfl⟩) (pv 6) (nomark _)) (pss_one (ps_ret pe_non)) pss_nil)))
      (pss_cons (ps_set (i := 4) sc_both.nd rfl (.inl rfl) (pe_callTy (call_tupleK K) (by rfl) T.z_tuple (by decide +kernel) (pa_cons (pe_callB (call_sortedDI rfl) (by rfl) T.z_sorted (by decide +kernel) (pa_cons (pv 3) pa_nil)) pa_nil)))
      (pss_one (ps_ret (pe_tup (pa_cons (pv 4) (pa_cons (pe_callTy (call_tupleK K) (by rfl) T.z_tuple (by decide +kernel) (pa_cons (pe_lc (own := [("column", 5)]) rfl sc_both.nd (pi_tupK K (pv 4)) (blkOk_by (N := N_both) (sc := defScope s_both) (by decide +kernel)) (fun _ _ _ _ _ => (pg_name (i := 5) sc_both.nd rfl (.inl rfl))) (fun _ _ _ _ _ => pts_nil) (fun _ _ _ _ _ => (pe_dget hu (pv 3) (pv 5) (fun _ _ => rfl)))) pa_nil)) pa_nil)))))))))), ?_⟩
    refine ⟨_, rfl, spD_bl (.cons (.tup hs (ints_dh ss)) .nil) rfl fun H1 s1 => ⟨_, rfl, ?_⟩⟩
    rw [ok']
    refine iteF ?_
    refine ⟨_, rfl, _, rfl, a, ss, _, _, rfl, (Ext.of s1).sqT hs, by omega, hv1.ext (.of s1), fun H2 s2 => ⟨_, rfl, ?_⟩⟩
    rw [bx1.isBox]
    refine iteF ?_
    have s12 := s1.trans s2
    refine ⟨_, rfl, _, rfl, a, ss, _, _, rfl, (Ext.of s12).sqT hs, by omega, hv2.ext (.of s12), fun H3 s3 => ⟨_, rfl, ?_⟩⟩
    rw [bx2.isBox]
    refine iteF ?_
    have s13 := s12.trans s3
    obtain ⟨b, w1, w2, rfl, hb, h1, h2⟩ := box_inv (hv1.ext (.of s13))
    obtain ⟨c, w3, w4, rfl, hc, h3, h4⟩ := box_inv (hv2.ext (.of s13))
    obtain ⟨b1, rfl, hb1⟩ := ct_inv h1
    obtain ⟨b2, rfl, hb2⟩ := ct_inv h2
    obtain ⟨c1, rfl, hc1⟩ := ct_inv h3
    obtain ⟨c2, rfl, hc2⟩ := ct_inv h4
    -- the dict
    refine ⟨_, rfl, b, _, 0, _, rfl, rfl, hb, atI_nat (j := 0) rfl, _, rfl, b, _, 1, _, rfl, rfl, hb, atI_nat (j := 1) rfl, false, b1, b2, _, _, rfl, hb1, hb2, fun D hD => dc_zipM (K := K) (L := false) (fun i H' => Same H3 H' ∧ H' D = some (.dK (kvV ((ps.zip ws).take i)))) ⟨same_new hD, upd_same⟩
      (fun i H' p => ⟨(Ext.of p.1).sqT hb1, (Ext.of p.1).sqT hb2⟩) ?_ ?_⟩
    · rintro i x y Tp H' hx hy ⟨sm, hDl⟩ nT
      obtain ⟨p, rfl, hp⟩ := int_at hx
      obtain ⟨w', rfl, hw⟩ := int_at hy
      have hz := zip_at hp hw
      have nTD : D ≠ Tp := ne_of_none hDl nT
      refine ⟨Tp, _, rfl, SqT.of upd_same, rfl, _, _, rfl, _, _, rfl, rfl, rfl, ?_⟩
      dsimp only [tYes]
      rw [if_pos rfl]
      refine ⟨_, rfl, _, rfl, _, Sum.inl p, rfl, (by rw [upd_ne nTD]; exact hDl), ?_, fun z o e => ?_, ?_⟩
      · rw [kv_len, List.length_take, List.length_zip]
        exact sz_small (by omega)
      · rw [upd_ne (ne_of_none e hD)]
        exact (same_new nT) _ _ (sm _ _ e)
      · rw [upd_same, put_new (take_look nA hz), List.take_add_one, hz]
        rfl
    · rintro H4 ⟨sm4, hDl⟩
      have e0 : (ps.zip ws).take (min (ps.map V.int).length (ws.map V.int).length) = ps.zip ws := by
        rw [List.take_of_length_le]
        rw [List.length_map, List.length_map, List.length_zip]
        exact Nat.le_refl _
      rw [e0] at hDl
      -- the second box
      refine ⟨_, rfl, c, _, 0, _, rfl, rfl, (Ext.of sm4).sqT hc, atI_nat (j := 0) rfl, _, rfl, c, _, 1, _, rfl, rfl, (Ext.of sm4).sqT hc, atI_nat (j := 1) rfl, false, c1, c2, qs.map V.int, us.map V.int, rfl, (Ext.of sm4).sqT hc1, (Ext.of sm4).sqT hc2, for_zipM (K := K) (L := false)
        (fun i σ H' => ∃ y4 y5 y6, σ = [some (.ref a), some (.ref b), some (.ref c), some (.ref D), y4, y5, y6] ∧ Same H3 H' ∧ H' D = some (.dK (kvV (merged2 (ps.zip ws) (qs.zip us) i))) ∧ ∀ (j : Nat) (k w a : Int), j < i → (qs.zip us)[j]? = some (k, w) → (ps.zip ws).lookup k = some a → a = w)
        ⟨none, none, none, rfl, sm4, by rw [merged2_zero]; exact hDl, fun j k w a hj => absurd hj (Nat.not_lt_zero j)⟩ (fun i σ H' ⟨_, _, _, _, sm, _⟩ => ⟨(Ext.of sm).sqT hc1, (Ext.of sm).sqT hc2⟩) ?_ ?_⟩
      · rintro i x y Tp σ H' hx hy ⟨y4, y5, y6, rfl, sm, hDm, hno⟩ nT
        obtain ⟨k, rfl, hk⟩ := int_at hx
        obtain ⟨w', rfl, hw⟩ := int_at hy
        have hz := zip_at hk hw
        have nTD : D ≠ Tp := ne_of_none hDm nT
        have smT : Same H3 (upd H' Tp (.tup [V.int k, V.int w'])) := sm.trans (same_new nT)
        have hDT : (upd H' Tp (.tup [V.int k, V.int w'])) D = some (.dK (kvV (merged2 (ps.zip ws) (qs.zip us) i))) := by
          rw [upd_ne nTD]
          exact hDm
        have elk := merged2_look (ps.zip ws) (qs.zip us) i k
        rw [take_look nB hz] at elk
        refine ⟨Tp, _, rfl, SqT.of upd_same, rfl, _, _, rfl, _, _, rfl, rfl, ?_⟩
        refine ⟨_, rfl, D, rfl, .inl ⟨_, .inl hDT⟩, _, rfl, _, rfl, _, Sum.inl k, hDT, rfl, ?_, fun v hv => ?_, fun hn => ?_⟩
        · have := merged2_len (A := ps.zip ws) (B := qs.zip us) (i := i)
          rw [List.length_zip, List.length_zip] at this
          rw [kv_len]
          exact sz_small (by omega)
        · rw [valV_kv] at hv
          cases ha : (ps.zip ws).lookup k with
          | none =>
            rw [elk, ha] at hv
            cases hv
          | some av =>
            rw [elk, ha] at hv
            obtain rfl : V.int av = v := Option.some.inj hv
            refine ⟨_, rfl, rfl, _, rfl, ?_⟩
            rw [dec_int]
            by_cases hne : av = w'
            · subst hne
              rw [beq_self_eq_true]
              refine iteF ⟨_, _, _, rfl, smT, ?_, fun j k2 w2 a2 hj h5 h6 => ?_⟩
              · rw [merged2_old hz ha]
                exact hDT
              · rcases Nat.lt_succ_iff_lt_or_eq.mp hj with hlt | heq
                · exact hno j k2 w2 a2 hlt h5 h6
                · subst heq
                  rw [hz] at h5
                  cases h5
                  rw [ha] at h6
                  exact (Option.some.inj h6).symm
            · have hc5 := clash_of (A := ps.zip ws) nB hz ha hne (bx2.in5 hl k (List.mem_of_getElem? hk))
              have eR : bothR ps ws qs us = none := if_pos hc5
              have eb : (av == w') = false := by simpa using hne
              rw [eb]
              refine iteT ?_
              rw [eR] at q
              exact q .non _ (s13.trans smT) .non
        · rw [valV_kv] at hn
          cases ha : (ps.zip ws).lookup k with
          | some av =>
            rw [elk, ha] at hn
            cases hn
          | none =>
            rw [ha] at elk
            refine ⟨_, rfl, rfl, _, rfl, ?_⟩
            rw [dec_int, beq_self_eq_true]
            refine iteF ⟨_, _, _, rfl, Same.put hD smT, ?_, fun j k2 w2 a2 hj h5 h6 => ?_⟩
            · rw [upd_same, put_new elk, merged2_new hz ha]
            · rcases Nat.lt_succ_iff_lt_or_eq.mp hj with hlt | heq
              · exact hno j k2 w2 a2 hlt h5 h6
              · subst heq
                rw [hz] at h5
                cases h5
                rw [ha] at h6
                cases h6
      · rintro σ H5 ⟨y4, y5, y6, rfl, sm5, hDm, hno⟩
        have em : min (qs.map V.int).length (us.map V.int).length = (qs.zip us).length := by
          rw [List.length_map, List.length_map, List.length_zip]
        rw [em] at hDm hno
        have hcl : clash (ps.zip ws) (qs.zip us) = false := clash_no fun j k w a h5 h6 => hno j k w a (List.getElem?_eq_some_iff.mp h5).1 h5 h6
        have eR : bothR ps ws qs us = some (unionC ps qs, (unionC ps qs).map (val2 (ps.zip ws) (qs.zip us))) := if_neg (by rw [hcl]; exact Bool.false_ne_true)
        rw [eR] at q
        refine ⟨_, rfl, D, _, _, rfl, .inl hDm, kv_keys _, ?_, fun ys p hperm hsort hp => ?_⟩
        · rw [List.length_map]
          have z0 := merged2_len (A := ps.zip ws) (B := qs.zip us) (i := (qs.zip us).length)
          have z1 : (ps.zip ws).length ≤ ps.length := by
            rw [List.length_zip]
            omega
          have z2 : (qs.zip us).length ≤ qs.length := by
            rw [List.length_zip]
            omega
          omega
        have ey := keys_union bx1.len bx2.len (rise_nodup bx1.asc.rise) (rise_nodup bx2.asc.rise) (bx1.in5 hl) (bx2.in5 hl) hperm hsort
        subst ey
        refine ⟨p, _, rfl, .inl ⟨SqL.of upd_same, fun l hl2 => ?_⟩⟩
        have s6 : Same H5 (upd (upd H5 p (.lst ((unionC ps qs).map V.int))) l (.tup ((unionC ps qs).map V.int))) := (same_new hp).trans (same_new hl2)
        have hlen5 : (unionC ps qs).length ≤ 5 := List.length_filter_le _ _
        refine ⟨_, rfl, ?_⟩
        dsimp only [tCB, tCons]
        refine lc_vals (K := K) (σ := [some (.ref a), some (.ref b), some (.ref c), some (.ref D), some (.ref l), y5, y6]) (kx := 5) (kd := 3) (M := merged2 (ps.zip ws) (qs.zip us) (qs.zip us).length) (f := val2 (ps.zip ws) (qs.zip us)) (tp := tVar 4) (fun R hR => ⟨_, rfl, hR⟩) (SqT.of upd_same) (s6 _ _ hDm) (fun y hy => merged2_val fun z => ?_) (by omega) (fun _ => rfl) (fun _ => rfl) (fun _ => rfl) fun D2 H7 hD2 s7 hD2l => ?_
        · exact lookup_none.mp z (hperm.mem_iff.mp hy)
        · refine ⟨D2, _, rfl, .inl ⟨SqL.of hD2l, fun l2 hl3 => ⟨by show 2 ≤ sizeLine; decide, fun r nr => ?_⟩⟩⟩
          have s8 : Same H7 _ := (same_new (o := .tup (((unionC ps qs).map (val2 (ps.zip ws) (qs.zip us))).map V.int)) hl3).trans (same_new (o := .tup [.ref l, .ref l2]) nr)
          refine q _ _ ((s13.trans sm5).trans ((s6.trans s7).trans s8)) (.tup (SqT.of upd_same) (.cons (dh_ct (c := unionC ps qs) (SqT.of (s8 _ _ (s7 _ _ upd_same)))) (.cons (dh_ct (c := (unionC ps qs).map (val2 (ps.zip ws) (qs.zip us))) (SqT.of ((same_new nr) _ _ upd_same))) .nil)))

/-! ### the drawing hand -/
abbrev hv (c : Addr) (i big acc cnt : Int) : List V := [.ref c, .int i, .int big, .int acc, .int cnt]
/-- at h a hand: its cells at c -/
structure HandOk (H : Hp) (h c : Addr) : Prop where
  ex : ∃ (i big acc cnt : Int) (cells : List Int), H h = some (.lst (hv c i big acc cnt)) ∧ H c = some (.lst (cells.map V.int)) ∧ 0 ≤ i
/-- all but the hand is as it was -/
structure Keep (h c : Addr) (H H' : Hp) : Prop where
  rest : ∀ b o, b ≠ h → H b = some o → H' b = some o
  hand : HandOk H' h c
theorem HandOk.same {H H' : Hp} {h c : Addr} (x : HandOk H h c) (s : Same H H') : HandOk H' h c := by
  obtain ⟨i, big, acc, cnt, cells, e1, e2, e3⟩ := x.ex
  exact ⟨i, big, acc, cnt, cells, s _ _ e1, s _ _ e2, e3⟩
theorem Keep.of {H H' : Hp} {h c : Addr} (x : HandOk H h c) (s : Same H H') : Keep h c H H' := ⟨fun b o _ e => s b o e, x.same s⟩
theorem Keep.trans {H H1 H2 : Hp} {h c : Addr} (a : Keep h c H H1) (b : Keep h c H1 H2) : Keep h c H H2 := ⟨fun z o n e => b.rest z o n (a.rest z o n e), b.hand⟩
theorem Keep.same {H H1 H2 : Hp} {h c : Addr} (a : Keep h c H H1) (s : Same H1 H2) : Keep h c H H2 := a.trans (.of a.hand s)
theorem Keep.ext {H H' : Hp} {h c : Addr} (x : HandOk H h c) (k : Keep h c H H') : Ext H H' := fun b o e => by
  by_cases hb : b = h
  · subst hb
    obtain ⟨i, big, acc, cnt, cells, e1, _⟩ := x.ex
    obtain ⟨i', big', acc', cnt', cells', e1', _⟩ := k.hand.ex
    rw [e1] at e
    cases e
    exact .inr ⟨⟨_, rfl⟩, _, e1'⟩
  · exact .inl (k.rest b o hb e)
theorem Keep.free {H H' : Hp} {h c p : Addr} (x : HandOk H h c) (k : Keep h c H H') (n : H' p = none) : H p = none := by
  cases e : H p with
  | none => rfl
  | some o =>
    rcases Keep.ext x k p o e with q | ⟨_, ys, q⟩
    · rw [n] at q
      cases q
    · rw [n] at q
      cases q
theorem HandOk.ne {H : Hp} {h c p : Addr} (x : HandOk H h c) (n : H p = none) : p ≠ h ∧ p ≠ c := by
  obtain ⟨_, _, _, _, _, e1, e2, _⟩ := x.ex
  exact ⟨(ne_of_none e1 n).symm, (ne_of_none e2 n).symm⟩
/-- a new object that the hand has nothing to do with is changed -/
theorem Keep.put {H H' : Hp} {h c D : Addr} {o : HO} (x : HandOk H h c) (k : Keep h c H H') (n : H D = none) : Keep h c H (upd H' D o) := by
  obtain ⟨n1, n2⟩ := x.ne n
  refine ⟨fun b u nb e => ?_, ?_⟩
  · rw [upd_ne (ne_of_none e n)]
    exact k.rest b u nb e
  · obtain ⟨i, big, acc, cnt, cells, e1, e2, e3⟩ := k.hand.ex
    refine ⟨i, big, acc, cnt, cells, ?_, ?_, e3⟩
    · rw [upd_ne n1.symm]
      exact e1
    · rw [upd_ne n2.symm]
      exact e2
def spDraw (_K : PySem.W.Frag) : Sp := fun vs H Q _ => ∃ (h c : Addr) (many : Int), vs = [.ref h, .int many] ∧ HandOk H h c ∧ 0 < many ∧ many < 1073741824 ∧ ∀ d H', 0 ≤ d → d < many → Keep h c H H' → Q (.int d) H'
theorem upd_keep {H H' : Hp} {h : Addr} {o : HO} (k : ∀ b u, b ≠ h → H b = some u → H' b = some u) : ∀ b u, b ≠ h → H b = some u → (upd H' h o) b = some u := fun b u n e => by
  rw [upd_ne n]
  exact k b u n e
theorem ok_law_draw (T : Txt K mg) : FnOk P w K mg base CX0 1 T.f_law_draw T.d_law_draw ["hand", "many"] (spDraw K) := by
  refine T.F_law_draw.ok sc_law_draw (fun vs H Q E h => ?_) (fun cdv A outer s H vs Q E hr h => ?_)
  · obtain ⟨_, _, _, rfl, _⟩ := h
    rfl
  · obtain ⟨h, c, many, rfl, hx, m0, m1, q⟩ := h
    obtain ⟨i, big, acc, cnt, cells, hh, hc, hi⟩ := hx.ex
    have nch : c ≠ h := fun e => by
      rw [e, hh] at hc
      have z := HO.lst.inj (Option.some.inj hc)
      cases cells with
      | nil => cases z
      | cons y r =>
        have z' := (List.cons.inj z).1
        cases z'
    refine ⟨_, (C8.pss_cut (ps_if (PW.pt (pw_and (pt_cmpR op_eq (pe_ix (ix_listK K) (pv 0) pe_int (fun _ _ => rfl)) pe_int (nomark _)) (pw_and1 (pt_cmpR op_lt (pe_ix (ix_listK K) (pv 0) pe_int (fun _ _ => rfl)) (pe_callB (call_lenK K) (by rfl) T.z_len PySem.boot_len (pa_cons (pe_ix (ix_listK K) (pv 0) pe_int (fun _ _ => rfl)) pa_nil)) (nomark _))))) (pss_cons (ps_set (i := 3) sc_law_draw.nd rfl (.inl rfl) (pe_ix (ix_listK K) (pe_ix (ix_listK K) (pv 0) pe_int (fun _ _ => rfl)) (pe_ix (ix_listK K) (pv 0) pe_int (fun _ _ => rfl)) (fun _ _ => rfl)))
      (pss_cons (ps_asg (pe_op op_add (pe_ix (ix_listK K) (pv 0) pe_int (fun _ _ => rfl)) pe_int) (pg_sub (pv 0) pe_int set_list))
      (pss_cons (ps_asg (pe_op op_mod (pe_callTy call_int1 (by rfl) T.z_int (by decide +kernel) (pa_cons (pe_op op_add (pe_op op_add (pe_op op_mul (pe_ix (ix_listK K) (pv 0) pe_int (fun _ _ => rfl)) pe_int) (pv 3)) pe_int) pa_nil)) pe_int) (pg_sub (pv 0) pe_int set_list))
      (pss_one (ps_if (pt_cmpR op_ge (pv 3) (pe_op op_pow pe_int pe_int) (nomark _)) (pss_one (ps_asg (pv 3) (pg_sub (pv 0) pe_int set_list))) pss_nil))))) pss_nil)
      (pss_cons (ps_if (pt_cmpR op_gt (pe_ix (ix_listK K) (pv 0) pe_int (fun _ _ => rfl)) pe_int (nomark _)) (pss_cons (ps_set (i := 4) sc_law_draw.nd rfl (.inl rfl) (pe_op op_mod (pe_callTy call_int1 (by rfl) T.z_int (by decide +kernel) (pa_cons (pe_ix (ix_listK K) (pv 0) pe_int (fun _ _ => rfl)) pa_nil)) (pv 1)))
      (pss_cons (ps_asg (pe_op op_fdiv (pe_ix (ix_listK K) (pv 0) pe_int (fun _ _ => rfl)) (pv 1)) (pg_sub (pv 0) pe_int set_list))
      (pss_one (ps_ret (pv 4))))) pss_nil)
      (pss_cons (ps_asg (pe_op op_add (pe_ix (ix_listK K) (pv 0) pe_int (fun _ _ => rfl)) pe_int) (pg_sub (pv 0) pe_int set_list))
      (pss_cons (ps_set (i := 2) sc_law_draw.nd rfl (.inl rfl) (pe_op op_mod (pe_callTy call_int1 (by rfl) T.z_int (by decide +kernel) (pa_cons (pe_op op_mul (pe_callTy call_int1 (by rfl) T.z_int (by decide +kernel) (pa_cons (pe_op op_add (pe_ix (ix_listK K) (pv 0) pe_int (fun _ _ => rfl)) (pe_op op_mul pe_int (pe_ix (ix_listK K) (pv 0) pe_int (fun _ _ => rfl)))) pa_nil)) pe_int) pa_nil)) pe_int))
      (pss_cons (ps_set (i := 2) sc_law_draw.nd rfl (.inl rfl) (pe_op op_mod (pe_callTy call_int1 (by rfl) T.z_int (by decide +kernel) (pa_cons (pe_op op_mul (pv 2) (pe_op op_add (pe_op op_fdiv (pv 2) pe_int) pe_int)) pa_nil)) pe_int))
      (pss_cons (ps_set (i := 2) sc_law_draw.nd rfl (.inl rfl) (pe_op op_mod (pe_callTy call_int1 (by rfl) T.z_int (by decide +kernel) (pa_cons (pe_op op_mul (pv 2) (pe_op op_add (pe_op op_fdiv (pv 2) pe_int) pe_int)) pa_nil)) pe_int))
      (pss_one (ps_ret (pe_op op_mod (pe_callTy call_int1 (by rfl) T.z_int (by decide +kernel) (pa_cons (pe_op op_fdiv (pv 2) pe_int) pa_nil)) (pv 1)))))))))), ?_⟩
    refine ⟨fun σ H' => ∃ (i big acc : Int) (y2 y3 y4 : Option V), σ = [some (.ref h), some (.int many), y2, y3, y4] ∧ (∀ b o, b ≠ h → H b = some o → H' b = some o) ∧ 0 ≤ i ∧ H' h = some (.lst (hv c i big acc cnt)), ?_, ?_⟩
    · have skip : ∃ (i big acc : Int) (y2 y3 y4 : Option V), ([some (.ref h), some (.int many), none, none, none] : L2.St) = [some (.ref h), some (.int many), y2, y3, y4] ∧ (∀ b o, b ≠ h → H b = some o → H b = some o) ∧ 0 ≤ i ∧ H h = some (.lst (hv c i big acc cnt)) := ⟨i, big, acc, none, none, none, rfl, fun _ _ _ e => e, hi, hh⟩
      refine ⟨_, rfl, h, _, 2, _, rfl, rfl, SqL.of hh, atI_nat (j := 2) rfl, rfl, _, rfl, ?_⟩
      refine ite2 (fun _ => ?_) (fun _ => ?_)
      · refine ⟨_, rfl, h, _, 1, _, rfl, rfl, SqL.of hh, atI_nat (j := 1) rfl, _, rfl, h, _, 0, _, rfl, rfl, SqL.of hh, atI_nat (j := 0) rfl, c, _, rfl, .inl (SqL.of hc), _, _, rfl, rfl, _, rfl, ?_⟩
        refine ite2 (fun hlt => ?_) (fun _ => skip)
        have hlt' : i < cells.length := by
          have := of_decide_eq_true hlt
          rw [List.length_map] at this
          exact this
        have hcell : atI (cells.map V.int) i = some (.int (cells[i.toNat]'(by omega))) := by
          refine at_of (j := i.toNat) (by omega) ?_
          rw [List.getElem?_map, List.getElem?_eq_getElem (by omega)]
          rfl
        generalize cells[i.toNat]'(by omega) = cell at hcell
        refine ⟨_, rfl, h, _, 0, _, rfl, rfl, SqL.of hh, atI_nat (j := 0) rfl, _, rfl, h, _, 1, _, rfl, rfl, SqL.of hh, atI_nat (j := 1) rfl, c, _, _, _, rfl, rfl, SqL.of hc, hcell, ?_⟩
        -- hand[1] = hand[1] + 1
        refine ⟨_, rfl, h, _, 1, _, rfl, rfl, SqL.of hh, atI_nat (j := 1) rfl, _, _, rfl, rfl, _, rfl, h, _, 1, 1, rfl, rfl, hh, rfl, ?_⟩
        -- hand[3] = ..
        refine ⟨_, rfl, h, _, 3, _, rfl, rfl, SqL.of upd_same, atI_nat (j := 3) rfl, _, _, rfl, rfl, .inr ⟨by decide, by decide⟩, _, rfl, _, _, rfl, rfl, _, _, rfl, rfl, .inl ⟨_, rfl, _, _, rfl, rfl, show (0 : Int) < 2147483629 by decide, _, rfl, h, _, 3, 3, rfl, rfl, upd_same, rfl, ?_⟩⟩
        refine ⟨_, rfl, _, _, rfl, rfl, ⟨by decide, by decide, by decide⟩, _, _, rfl, rfl, _, rfl, ?_⟩
        have kp : ∀ b u, b ≠ h → H b = some u → (upd (upd H h (.lst ((hv c i big acc cnt).set 1 (V.int (i + 1))))) h (.lst (((hv c i big acc cnt).set 1 (V.int (i + 1))).set 3 (V.int ((acc * 69621 + cell + 11) % 2147483629))))) b = some u := upd_keep (upd_keep fun _ _ _ e => e)
        refine ite2 (fun _ => ?_) (fun _ => ?_)
        · refine ⟨_, rfl, _, rfl, h, _, 2, 2, rfl, rfl, upd_same, rfl, ?_⟩
          exact ⟨i + 1, cell, _, none, some (.int cell), none, rfl, upd_keep kp, by omega, upd_same⟩
        · exact ⟨i + 1, big, _, none, some (.int cell), none, rfl, kp, by omega, upd_same⟩
      · exact skip
    · rintro σ H' ⟨i, big, acc, y2, y3, y4, rfl, kp, hi, hh⟩
      have hc' : H' c = some (.lst (cells.map V.int)) := kp c _ nch hc
      refine ⟨_, rfl, h, _, 2, _, rfl, rfl, SqL.of hh, atI_nat (j := 2) rfl, _, _, rfl, rfl, _, rfl, ?_⟩
      refine ite2 (fun _ => ?_) (fun _ => ?_)
      · -- digit = int(hand[2]) % many; hand[2] = hand[2] // many
        refine ⟨_, rfl, h, _, 2, _, rfl, rfl, SqL.of hh, atI_nat (j := 2) rfl, .inl ⟨_, rfl, _, rfl, _, _, rfl, rfl, m0, ?_⟩⟩
        refine ⟨_, rfl, h, _, 2, _, rfl, rfl, SqL.of hh, atI_nat (j := 2) rfl, _, rfl, _, _, rfl, rfl, ⟨m0, m1⟩, _, rfl, h, _, 2, 2, rfl, rfl, hh, rfl, ?_⟩
        refine ⟨_, rfl, ?_⟩
        refine q (big % many) _ (Int.emod_nonneg _ (by omega)) (Int.emod_lt_of_pos _ m0) ⟨upd_keep kp, ⟨i, big / many, acc, cnt, cells, upd_same, ?_, hi⟩⟩
        rw [upd_ne nch]
        exact hc'
      · -- hand[4] = hand[4] + 1
        refine ⟨_, rfl, h, _, 4, _, rfl, rfl, SqL.of hh, atI_nat (j := 4) rfl, _, _, rfl, rfl, _, rfl, h, _, 4, 4, rfl, rfl, hh, rfl, ?_⟩
        generalize hG : upd H' h (.lst ((hv c i big acc cnt).set 4 (V.int (cnt + 1)))) = G
        have eh : G h = some (.lst (hv c i big acc (cnt + 1))) := by
          rw [← hG]
          exact upd_same
        have kG : Keep h c H G := by
          rw [← hG]
          refine ⟨upd_keep kp, ⟨i, big, acc, cnt + 1, cells, upd_same, ?_, hi⟩⟩
          rw [upd_ne nch]
          exact hc'
        refine ⟨_, rfl, h, _, 3, _, rfl, rfl, SqL.of eh, atI_nat (j := 3) rfl, _, rfl, h, _, 4, _, rfl, rfl, SqL.of eh, atI_nat (j := 4) rfl, _, _, rfl, rfl, .inl ⟨by decide, by decide⟩, _, _, rfl, rfl, .inl ⟨_, rfl, _, _, rfl, rfl, .inr ⟨by decide, by decide⟩, .inl ⟨_, rfl, _, _, rfl, rfl, show (0 : Int) < 2147483647 by decide, ?_⟩⟩⟩
        have b1 : ∀ x : Int, 0 ≤ x % 2147483647 ∧ x % 2147483647 < 2147483647 := fun x => ⟨Int.emod_nonneg _ (by decide), Int.emod_lt_of_pos _ (by decide)⟩
        generalize hn : ((acc + 7919 * (cnt + 1)) * 48271) % 2147483647 = n1
        have q1 := b1 ((acc + 7919 * (cnt + 1)) * 48271)
        rw [hn] at q1
        refine ⟨_, rfl, _, rfl, _, _, rfl, rfl, ⟨by decide, by decide⟩, _, _, rfl, rfl, _, _, rfl, rfl, .inl ⟨by omega, by omega⟩, .inl ⟨_, rfl, _, _, rfl, rfl, show (0 : Int) < 2147483647 by decide, ?_⟩⟩
        generalize hn2 : (n1 * (n1 / 1009 + 69621)) % 2147483647 = n2
        have q2 := b1 (n1 * (n1 / 1009 + 69621))
        rw [hn2] at q2
        refine ⟨_, rfl, _, rfl, _, _, rfl, rfl, ⟨by decide, by decide⟩, _, _, rfl, rfl, _, _, rfl, rfl, .inl ⟨by omega, by omega⟩, .inl ⟨_, rfl, _, _, rfl, rfl, show (0 : Int) < 2147483399 by decide, ?_⟩⟩
        refine ⟨_, rfl, _, _, rfl, rfl, ⟨by decide, by decide⟩, .inl ⟨_, rfl, _, rfl, _, _, rfl, rfl, m0, ?_⟩⟩
        exact q _ _ (Int.emod_nonneg _ (by omega)) (Int.emod_lt_of_pos _ m0) kG

end
end Fm
namespace Fm
open PySem PySem.Spec PyProof.Rows L2
section
variable {P : Program} {w : World} {K : PySem.W.Frag} {mg : Str → Option Value} {base : Heap}

/-! ### the law's own helpers -/
theorem cut_map (ns : List Int) (lo hi : Option Int) : ∃ ms : List Int, cutV (ns.map V.int) lo hi = ms.map V.int ∧ ms.length ≤ ns.length := by
  refine ⟨(ns.drop (HT.sIx (ns.map V.int).length 0 lo)).take (HT.sIx (ns.map V.int).length (ns.map V.int).length hi - HT.sIx (ns.map V.int).length 0 lo), ?_, ?_⟩
  · unfold cutV
    rw [List.map_take, List.map_drop]
  · rw [List.length_take, List.length_drop]
    omega
def spHand (K : PySem.W.Frag) : Sp := fun vs H Q _ => ∃ (a : Addr) (ns : List Int), vs = [.ref a] ∧ SqL K H a (ns.map V.int) ∧ ns.length ≤ 1000 ∧ ∀ h c H', H h = none → Same H H' → HandOk H' h c → Q (.ref h) H'
theorem ok_law_hand (T : Txt K mg) : FnOk P w K mg base CX0 1 T.f_law_hand T.d_law_hand ["script"] (spHand K) := by
  refine T.F_law_hand.ok sc_law_hand (fun vs H Q E h => ?_) (fun cdv A outer s H vs Q E hr h => ?_)
  · obtain ⟨_, _, rfl, _⟩ := h
    rfl
  · obtain ⟨a, ns, rfl, ha, hl, q⟩ := h
    obtain ⟨ms, em, hm⟩ := cut_map ns none (some 63)
    refine ⟨_, (pss_cons (ps_setLc (i := 1) (own := [("cell", 2)]) rfl sc_law_hand.nd rfl rfl (sw_true rfl rfl rfl (by decide +kernel)) (pi_listK K (pe_slice (sl_listK K) (pv 0) po_none (po_some pe_int))) (blkOk_by (N := N_law_hand) (sc := defScope s_law_hand) (by decide +kernel)) (fun _ _ _ _ _ => (pg_name (i := 2) sc_law_hand.nd rfl (.inl rfl))) (fun _ _ _ _ _ => pts_nil) (fun _ _ _ _ _ => (pe_callB call_abs (by rfl) T.z_abs (by decide +kernel) (pa_cons (pe_callTy call_int1 (by rfl) T.z_int (by decide +kernel) (pa_cons (pv 2) pa_nil)) pa_nil))))
      (pss_one (ps_ret (pe_lst (pa_cons (pv 1) (pa_cons pe_int (pa_cons pe_int (pa_cons (pe_op op_add pe_int (pe_callB (call_lenK K) (by rfl) T.z_len PySem.boot_len (pa_cons (pv 1) pa_nil))) (pa_cons pe_int pa_nil))))))))), ?_⟩
    refine ⟨_, rfl, 63, rfl, a, _, rfl, ha, fun p np => ⟨p, rfl, ⟨_, SqL.of upd_same⟩, fun D hD => lc_list (K := K) (xs := cutV (ns.map V.int) none (some 63)) (fun i H' => ∃ cs : List Int, cs.length = i ∧ Same (upd H p (.lst (cutV (ns.map V.int) none (some 63)))) H' ∧ H' D = some (.lst (cs.map V.int)))
      ⟨[], rfl, same_new hD, upd_same⟩ (fun i H' _ ⟨_, _, sm, _⟩ => sm.seq (SqL.of upd_same)) ?_ ?_⟩⟩
    · rintro i x H' hx ⟨cs, hcs, sm, hDl⟩
      rw [em] at hx
      obtain ⟨z, rfl, hz⟩ := int_at hx
      have hi := (List.getElem?_eq_some_iff.mp hz).1
      refine ⟨rfl, ?_⟩
      dsimp only [tYes]
      rw [if_pos rfl]
      refine ⟨_, rfl, .inl ⟨_, rfl, _, rfl, _, hDl, ?_, cs ++ [if z < 0 then -z else z], ?_, fun b o e => ?_, ?_⟩⟩
      · rw [List.length_map]
        exact sz_small (by omega)
      · rw [List.length_append, hcs]
        rfl
      · rw [upd_ne (ne_of_none e hD)]
        exact sm _ _ e
      · rw [upd_same, List.map_append]
        rfl
    · rintro H' ⟨cs, hcs, sm, hDl⟩
      have s1 : Same H H' := (same_new np).trans sm
      refine ⟨_, rfl, _, rfl, D, _, rfl, .inl (SqL.of hDl), _, _, rfl, rfl, by show 5 ≤ sizeLine; decide, fun h nh => ?_⟩
      have s2 : Same H' (upd H' h (.lst (hv D 0 0 (1 + ((cs.map V.int).length : Int)) 0))) := same_new nh
      exact q h D _ (s1.free nh) (s1.trans s2) ⟨0, 0, _, 0, cs, upd_same, s2 _ _ hDl, Int.le_refl 0⟩
def spSome (_K : PySem.W.Frag) : Sp := fun vs H Q _ => ∃ (h c p : Addr) (xs : List V), vs = [.ref h, .ref p] ∧ HandOk H h c ∧ p ≠ h ∧ H p = some (.lst xs) ∧ 0 < xs.length ∧ xs.length < 1000000 ∧ ∀ x H', x ∈ xs → Keep h c H H' → Q x H'
theorem ok_law_some (T : Txt K mg) : FnOk P w K mg base CX0 2 T.f_law_some T.d_law_some ["hand", "things"] (spSome K) := by
  refine T.F_law_some.ok sc_law_some (fun vs H Q E h => ?_) (fun cdv A outer s H vs Q E hr h => ?_)
  · obtain ⟨_, _, _, _, rfl, _⟩ := h
    rfl
  · obtain ⟨h, c, p, xs, rfl, hx, ne, hp, l0, l1, q⟩ := h
    refine ⟨_, (pss_one (ps_ret (pe_ix (ix_listK K) (pv 1) (pe_call (ok_law_draw T) hr (by rfl) T.g_law_draw T.F_law_draw.kp T.b_law_draw .nil pass0 (pa_cons (pv 0) (pa_cons (pe_callB (call_lenK K) (by rfl) T.z_len PySem.boot_len (pa_cons (pv 1) pa_nil)) pa_nil))) (fun _ _ => rfl)))), ?_⟩
    refine ⟨_, rfl, _, rfl, _, rfl, p, _, rfl, .inl (SqL.of hp), h, c, _, rfl, hx, by omega, by omega, fun d H' d0 d1 k => ?_⟩
    have hd : d.toNat < xs.length := by omega
    exact ⟨p, xs, d, xs[d.toNat], rfl, rfl, SqL.of (k.rest _ _ ne hp), at_of (j := d.toNat) (by omega) (List.getElem?_eq_getElem hd), q _ H' (List.getElem_mem hd) k⟩
/-! ### displays of tuples of ints -/
def taInts : List Int → TA
  | [] => tNil
  | i :: r => tCons (tC (.int i)) (taInts r)
def taTups : List (List Int) → TA
  | [] => tNil
  | c :: r => tCons (tTup (taInts c)) (taTups r)
theorem taInts_ok {σ : L2.St} {H : Hp} : ∀ (c : List Int) (Q : List V → Hp → Prop), Q (c.map V.int) H → taInts c σ H Q
  | [], Q, q => q
  | i :: r, Q, q => taInts_ok r (fun vs H1 => Q (V.int i :: vs) H1) q
theorem taTups_ok {σ : L2.St} : ∀ (css : List (List Int)) {H : Hp} (Q : List V → Hp → Prop), (∀ c ∈ css, c.length ≤ 1000) → (∀ vs H', Same H H' → DhAll K H' vs (css.map ctD) → Q vs H') → taTups css σ H Q
  | [], H, Q, _, q => q [] H (Same.refl H) .nil
  | c :: r, H, Q, hl, q => by
    refine taInts_ok c _ ⟨?_, fun p np => taTups_ok r (fun vs H1 => Q (V.ref p :: vs) H1) (fun d hd => hl d (List.mem_cons_of_mem _ hd)) fun vs H' s hv => ?_⟩
    · rw [List.length_map]
      exact Nat.le_of_lt (sz_small (by have := hl c (List.mem_cons_self ..); omega))
    · have s2 := (same_new (o := .tup (c.map V.int)) np).trans s
      exact q _ H' s2 (.cons (dh_ct (SqT.of (s _ _ upd_same))) hv)
theorem DhAll.mem {H : Hp} {vs : List V} {ds : List Dt} (h : DhAll K H vs ds) {v : V} (hv : v ∈ vs) : ∃ d, d ∈ ds ∧ Dh K H v d := by
  obtain ⟨i, hi, rfl⟩ := List.mem_iff_getElem.mp hv
  obtain ⟨d, e, hd⟩ := h.get (List.getElem?_eq_getElem hi)
  exact ⟨d, List.mem_of_getElem? e, hd⟩
/-- a written list of tuples of ints handed to _law_some, behind the hand -/
theorem some_tups {H : Hp} {σ : L2.St} {Q : VK} {h ca : Addr} {css : List (List Int)} (hx : HandOk H h ca) (hl : ∀ c ∈ css, c.length ≤ 1000) (h0 : 0 < css.length) (h1 : css.length ≤ 1000) (q : ∀ x c H', c ∈ css → Keep h ca H H' → Dh K H' x (ctD c) → Q x H') :
    tLst (taTups css) σ H fun x H1 => spSome K [.ref h, x] H1 Q E0 := by
  refine taTups_ok (K := K) css _ hl fun vs H1 s1 hv => ?_
  have e := hv.length
  rw [List.length_map] at e
  refine ⟨Nat.le_of_lt (sz_small (by omega)), fun p np => ?_⟩
  have s2 : Same H (upd H1 p (.lst vs)) := s1.trans (same_new np)
  have nph : p ≠ h := ((hx.same s1).ne np).1
  refine ⟨h, ca, p, vs, rfl, hx.same s2, nph, upd_same, by omega, by omega, fun x H' hm k => ?_⟩
  obtain ⟨d, hd, hxd⟩ := hv.mem hm
  obtain ⟨c, hc, rfl⟩ := List.mem_map.mp hd
  exact q x c H' hc ((Keep.of hx s2).trans k) ((hxd.ext (Ext.new np)).ext (Keep.ext (hx.same s2) k))
def spSizes (K : PySem.W.Frag) : Sp := fun vs H Q _ => ∃ h c : Addr, vs = [.ref h] ∧ HandOk H h c ∧ ∀ v ss H', Keep h c H H' → SizesOk ss → Dh K H' v (ctD ss) → Q v H'
abbrev szA : List (List Int) := [[2, 2, 2, 2, 2], [4, 4], [3, 3, 2], [2, 4, 2, 2], [4, 4, 4]]
abbrev szB : List (List Int) := [[2, 2, 2], [2, 3, 2], [3, 2, 2], [2, 2], [3, 2], [2, 2, 3], [4], [2, 2, 2, 2], [2]]
theorem szA_ok : ∀ c ∈ szA, SizesOk c := fun c hc => by
  have q : szA.all (fun c => (Dt.tup (c.map Dt.int)).isSizes) = true := by decide
  exact List.all_eq_true.mp q c hc
theorem szB_ok : ∀ c ∈ szB, SizesOk c := fun c hc => by
  have q : szB.all (fun c => (Dt.tup (c.map Dt.int)).isSizes) = true := by decide
  exact List.all_eq_true.mp q c hc
theorem ok_law_sizes (T : Txt K mg) : FnOk P w K mg base CX0 3 T.f_law_sizes T.d_law_sizes ["hand"] (spSizes K) := by
  refine T.F_law_sizes.ok sc_law_sizes (fun vs H Q E h => ?_) (fun cdv A outer s H vs Q E hr h => ?_)
  · obtain ⟨_, _, rfl, _⟩ := h
    rfl
  · obtain ⟨h, ca, rfl, hx, q⟩ := h
    refine ⟨_, (pss_cons (ps_if (pt_cmpR op_eq (pe_call (ok_law_draw T) (hr.mono (by decide)) (by rfl) T.g_law_draw T.F_law_draw.kp T.b_law_draw .nil pass0 (pa_cons (pv 0) (pa_cons pe_int pa_nil))) pe_int (nomark _)) (pss_one (ps_ret (pe_call (ok_law_some T) hr (by rfl) T.g_law_some T.F_law_some.kp T.b_law_some .nil pass0 (pa_cons (pv 0) (pa_cons (pe_lst (pa_cons (pe_tup (pa_cons pe_int (pa_cons pe_int (pa_cons pe_int (pa_cons pe_int (pa_cons pe_int pa_nil)))))) (pa_cons (pe_tup (pa_cons pe_int (pa_cons pe_int pa_nil))) (pa_cons (pe_tup (pa_cons pe_int (pa_cons pe_int (pa_cons pe_int pa_nil)))) (pa_cons (pe_tup (pa_cons pe_int (pa_cons pe_int (pa_cons pe_int (pa_cons pe_int pa_nil))))) (pa_cons (pe_tup (pa_cons pe_int (pa_cons pe_int (pa_cons pe_int pa_nil)))) pa_nil)))))) pa_nil))))) pss_nil)
      (pss_one (ps_ret (pe_call (ok_law_some T) hr (by rfl) T.g_law_some T.F_law_some.kp T.b_law_some .nil pass0 (pa_cons (pv 0) (pa_cons (pe_lst (pa_cons (pe_tup (pa_cons pe_int (pa_cons pe_int (pa_cons pe_int pa_nil)))) (pa_cons (pe_tup (pa_cons pe_int (pa_cons pe_int (pa_cons pe_int pa_nil)))) (pa_cons (pe_tup (pa_cons pe_int (pa_cons pe_int (pa_cons pe_int pa_nil)))) (pa_cons (pe_tup (pa_cons pe_int (pa_cons pe_int pa_nil))) (pa_cons (pe_tup (pa_cons pe_int (pa_cons pe_int pa_nil))) (pa_cons (pe_tup (pa_cons pe_int (pa_cons pe_int (pa_cons pe_int pa_nil)))) (pa_cons (pe_tup (pa_cons pe_int pa_nil)) (pa_cons (pe_tup (pa_cons pe_int (pa_cons pe_int (pa_cons pe_int (pa_cons pe_int pa_nil))))) (pa_cons (pe_tup (pa_cons pe_int pa_nil)) pa_nil)))))))))) pa_nil)))))), ?_⟩
    refine ⟨_, rfl, h, ca, 12, rfl, hx, by decide, by decide, fun d H1 _ _ k => ⟨rfl, _, rfl, ?_⟩⟩
    have go : ∀ css : List (List Int), (∀ c ∈ css, SizesOk c) → css.length ≤ 1000 → 0 < css.length → tLst (taTups css) [some (.ref h)] H1 fun x H2 => spSome K [.ref h, x] H2 Q E0 := fun css ok l1 l0 =>
      some_tups (K := K) k.hand (fun c hc => by have := (ok c hc).facts; omega) l0 l1 fun x c H2 hc k2 hd => q x c H2 (k.trans k2) (ok c hc) hd
    refine ite2 (fun _ => ?_) (fun _ => ?_)
    · exact ⟨_, rfl, go szA szA_ok (by decide) (by decide)⟩
    · exact ⟨_, rfl, go szB szB_ok (by decide) (by decide)⟩
def spPat (K : PySem.W.Frag) : Sp := fun vs H Q _ => ∃ (h c : Addr) (n : Nat), vs = [.ref h, .int n] ∧ HandOk H h c ∧ n ≤ 5 ∧ ∀ v ps H', Keep h c H H' → Asc n (-1) ps → Dh K H' v (ctD ps) → Q v H'
theorem Asc.snoc {n : Int} : ∀ {l : Int} {ps : List Int}, Asc n l ps → l < n → Asc (n + 1) l (ps ++ [n])
  | _, [], _, h => ⟨h, by omega, True.intro⟩
  | _, c :: r, ⟨h1, h2, h3⟩, _ => ⟨h1, by omega, h3.snoc h2⟩
theorem Asc.wide {n : Int} : ∀ {l : Int} {ps : List Int}, Asc n l ps → Asc (n + 1) l ps
  | _, [], _ => True.intro
  | _, c :: r, ⟨h1, h2, h3⟩ => ⟨h1, by omega, h3.wide⟩
theorem ok_law_pattern (T : Txt K mg) : FnOk P w K mg base CX0 2 T.f_law_pattern T.d_law_pattern ["hand", "columns"] (spPat K) := by
  refine T.F_law_pattern.ok sc_law_pattern (fun vs H Q E h => ?_) (fun cdv A outer s H vs Q E hr h => ?_)
  · obtain ⟨_, _, _, rfl, _⟩ := h
    rfl
  · obtain ⟨h, ca, n, rfl, hx, hn, q⟩ := h
    refine ⟨_, (pss_one (ps_ret (pe_callTy (call_tupleK K) (by rfl) T.z_tuple (by decide +kernel) (pa_cons (pe_lc (own := [("c", 2)]) rfl sc_law_pattern.nd (pi_range1 (by rfl) T.z_range (pa_cons (pv 1) pa_nil)) (blkOk_by (N := N_law_pattern) (sc := defScope s_law_pattern) (by decide +kernel)) (fun _ _ _ _ _ => (pg_name (i := 2) sc_law_pattern.nd rfl (.inl rfl))) (fun _ _ _ _ _ => (pts_one (pt_cmpR op_eq (pe_call (ok_law_draw T) hr (by rfl) T.g_law_draw T.F_law_draw.kp T.b_law_draw .nil pass0 (pa_cons (pv 0) (pa_cons pe_int pa_nil))) pe_int (nomark _)))) (fun _ _ _ _ _ => (pv 2))) pa_nil)))), ?_⟩
    refine ⟨_, rfl, (n : Int), rfl, by omega, by omega, fun D hD => lc_range (lo := 0) (n := ((n : Nat) : Int).toNat) (fun i H' => ∃ ps, Keep h ca H H' ∧ H' D = some (.lst (ps.map V.int)) ∧ Asc i (-1) ps ∧ ps.length ≤ i)
      ⟨[], Keep.of hx (same_new hD), upd_same, True.intro, Nat.le_refl _⟩ ?_ ?_⟩
    · rintro i H' hi ⟨ps, k, hDl, ha, hpl⟩
      have ndh : D ≠ h := (hx.ne hD).1
      refine ⟨rfl, _, rfl, h, ca, 2, rfl, k.hand, by decide, by decide, fun d H2 _ _ k2 => ⟨rfl, _, rfl, ?_⟩⟩
      have hD2 := k2.rest _ _ ndh hDl
      refine ite2 (fun _ => ?_) (fun _ => ?_)
      · refine ⟨_, rfl, _, hD2, ?_, ps ++ [(i : Int)], Keep.put hx (k.trans k2) hD, ?_, ?_, ?_⟩
        · rw [List.length_map]
          exact sz_small (by omega)
        · rw [upd_same, List.map_append, Int.zero_add]
          rfl
        · have e : ((i + 1 : Nat) : Int) = (i : Int) + 1 := by omega
          rw [e]
          exact ha.snoc (by omega)
        · rw [List.length_append]
          simp
          omega
      · refine ⟨ps, k.trans k2, hD2, ?_, by omega⟩
        have e : ((i + 1 : Nat) : Int) = (i : Int) + 1 := by omega
        rw [e]
        exact ha.wide
    · rintro H' ⟨ps, k, hDl, ha, hpl⟩
      rw [Int.toNat_natCast] at ha
      refine ⟨D, _, rfl, .inl ⟨SqL.of hDl, fun l nl => ?_⟩⟩
      exact q _ ps _ (k.same (same_new nl)) ha (dh_ct (SqT.of upd_same))

/-! ### contents and boxes as the law has them -/
theorem ext_take {n j : Nat} (c : List Int) (h : j < n) : (ext n c).take (j + 1) = (ext n c).take j ++ [c ++ [(j : Int)]] := by
  have e : (ext n c)[j]? = some (c ++ [(j : Int)]) := by
    unfold ext
    rw [List.getElem?_map, List.getElem?_range h]
    rfl
  rw [List.take_add_one, e]
  rfl
/-- [c + (w,) for w in range(n)] -/
theorem lc_ext {H : Hp} {σ : L2.St} {Q : VK} {x : V} {c : List Int} {n : Nat} {kx kc : Nat} {ta : TA} (hta : ∀ R : List V → Hp → Prop, R [.int n] H → ta σ H R) (hx : Dh K H x (ctD c)) (hl : c.length ≤ 1000) (hn : n ≤ 1000)
    (hw : ∀ y, wipe ((wipe σ [kx]).set kx (some y)) [kx] = wipe σ [kx]) (hc : ∀ y : V, ((wipe σ [kx]).set kx (some y))[kc]? = some (some x)) (hk : ∀ y : V, ((wipe σ [kx]).set kx (some y))[kx]? = some (some y))
    (q : ∀ D xs H', H D = none → Same H H' → H' D = some (.lst xs) → DhAll K H' xs ((ext n c).map ctD) → Q (.ref D) H') :
    tLc (iRng1 ta) (gName kx) tYes (tOp (rCatA K) (tVar kc) (tTup (tCons (tVar kx) tNil))) [kx] σ H Q := by
  refine hta _ ⟨_, rfl, by omega, by omega, fun D hD => lc_range (lo := 0) (n := ((n : Nat) : Int).toNat) (fun i H' => ∃ acc, Same H H' ∧ H' D = some (.lst acc) ∧ DhAll K H' acc (((ext n c).take i).map ctD)) ⟨[], same_new hD, upd_same, .nil⟩ ?_ ?_⟩
  · rintro i H' hi ⟨acc, sm, hDl, hacc⟩
    rw [Int.toNat_natCast] at hi
    refine ⟨hw _, ?_⟩
    dsimp only [tYes]
    rw [if_pos rfl, Int.zero_add]
    refine ⟨x, hc _, _, hk _, by show 1 ≤ sizeLine; decide, fun r hr2 => cat_ct (K := K) (c := c) (j := (i : Int)) (hx.ext (.of (sm.trans (same_new hr2)))) hl upd_same fun v H3 s4 hv => ?_⟩
    have s5 : Same H' H3 := (same_new hr2).trans s4
    refine ⟨acc, s5 _ _ hDl, ?_, acc ++ [v], Same.put hD (sm.trans s5), upd_same, ?_⟩
    · have e1 := hacc.length
      rw [List.length_map, List.length_take, ext_len] at e1
      exact sz_small (by omega)
    · rw [ext_take c hi, List.map_append]
      exact ((hacc.ext (.of s5)).snoc hv).ext (Ext.put (s5 _ _ hDl))
  · rintro H' ⟨acc, sm, hDl, hacc⟩
    rw [Int.toNat_natCast, List.take_of_length_le (by rw [ext_len]; exact Nat.le_refl _)] at hacc
    exact q D acc H' hD sm hDl hacc
theorem ok_law_contents (T : Txt K mg) : FnOk P w K mg base CX0 1 T.f_law_contents T.d_law_contents ["sizes"] (spAll K) := by
  refine T.F_law_contents.ok sc_law_contents (fun vs H Q E h => ?_) (fun cdv A outer s H vs Q E hr h => ?_)
  · obtain ⟨_, _, rfl, _⟩ := h
    rfl
  · obtain ⟨a, ss, rfl, hs, ok, q⟩ := h
    obtain ⟨_, h5, hm⟩ := ok.facts
    refine ⟨_, (pss_cons (ps_set (i := 1) sc_law_contents.nd rfl (.inl rfl) (pe_lst (pa_cons (pe_tup pa_nil) pa_nil)))
      (pss_cons (ps_for PassesOwn.never rfl (pi_tupK K (pv 0)) (pg_name (i := 2) sc_law_contents.nd rfl (.inl rfl)) (pss_cons (ps_set (i := 3) sc_law_contents.nd rfl (.inl rfl) (pe_lst pa_nil))
      (pss_cons (ps_for PassesOwn.never rfl (pi_listK K (pv 1)) (pg_name (i := 4) sc_law_contents.nd rfl (.inr rfl)) (pss_one (ps_expr (pe_bm PySem.F.plainAttrs_list PySem.F.slot_list_extend PySem.F.type_list_extend mt_extend (pv 3) (pa_cons (pe_lc (own := [("worth", 5)]) rfl sc_law_contents.nd (pi_range1 (by rfl) T.z_range (pa_cons (pv 2) pa_nil)) (blkOk_by (N := N_law_contents) (sc := defScope s_law_contents) (by decide +kernel)) (fun _ _ _ _ _ => (pg_name (i := 5) sc_law_contents.nd rfl (.inl rfl))) (fun _ _ _ _ _ => pts_nil) (fun _ _ _ _ _ => (pe_op (op_catK K) (pv 4) (pe_tup (pa_cons (pv 5) pa_nil))))) pa_nil)))))
      (pss_one (ps_set (i := 1) sc_law_contents.nd rfl (.inl rfl) (pv 3))))))
      (pss_one (ps_ret (pv 1))))), ?_⟩
    refine ⟨Nat.zero_le _, fun t0 n0 => ⟨by show 1 ≤ sizeLine; decide, fun f0 nf0 => ?_⟩⟩
    have s1 : Same H (upd H t0 (.tup [])) := same_new n0
    have s2 : Same H (upd (upd H t0 (.tup [])) f0 (.lst [.ref t0])) := s1.trans (same_new nf0)
    refine ⟨_, rfl, a, rfl, ⟨_, (Ext.of s2).sqT hs⟩, for_tup (xs := ss.map V.int) (fun i σ H' => ∃ (f : Addr) (xs : List V) (y2 y3 y4 y5 : Option V), σ = [some (.ref a), some (.ref f), y2, y3, y4, y5] ∧ Same H H' ∧ H f = none ∧ H' f = some (.lst xs) ∧ DhAll K H' xs ((allC (ss.take i)).map ctD))
      ⟨f0, [.ref t0], none, none, none, none, rfl, s2, s1.free nf0, upd_same, .cons (dh_ct (c := []) (SqT.of ?_)) .nil⟩ (fun i σ H' _ ⟨_, _, _, _, _, _, _, sm, _⟩ => (Ext.of sm).sqT hs) ?_ ?_⟩
    · rw [upd_ne (fun e => by rw [e, upd_same] at nf0; cases nf0), upd_same]
      rfl
    · rintro i x σ H' hx ⟨f, xs, y2, y3, y4, y5, rfl, sm, nf, hf, hall⟩
      obtain ⟨z, rfl, hz⟩ := int_at hx
      obtain ⟨z2, z4⟩ := hm z (List.mem_of_getElem? hz)
      obtain ⟨n, rfl⟩ : ∃ n : Nat, z = (n : Int) := ⟨z.toNat, by omega⟩
      have hi : i < ss.length := (List.getElem?_eq_some_iff.mp hz).1
      have etake : ss.take (i + 1) = ss.take i ++ [(n : Int)] := by rw [List.take_add_one, hz]; rfl
      generalize hcs : allC (ss.take i) = cs at hall
      have hlen := hall.length
      rw [List.length_map] at hlen
      have hb := allC_len (fun s hs => (hm s hs).2) i
      rw [hcs] at hb
      have hcl : cs.length ≤ 1024 := Nat.le_trans hb.1 (Nat.pow_le_pow_right (by decide) (by omega : i ≤ 5))
      refine ⟨Nat.zero_le _, fun D hD => ?_⟩
      have sD : Same H' (upd H' D (.lst [])) := same_new hD
      refine ⟨.ref f, rfl, f, rfl, ⟨xs, SqL.of (sD _ _ hf)⟩, for_list (K := K) (xs := xs) (fun j σ H2 => ∃ (acc : List V) (y4 y5 : Option V), σ = [some (.ref a), some (.ref f), some (.int n), some (.ref D), y4, y5] ∧ Same H' H2 ∧ H2 D = some (.lst acc) ∧ DhAll K H2 acc (((cs.take j).flatMap (ext n)).map ctD))
        ⟨[], _, _, rfl, sD, upd_same, .nil⟩ (fun j σ H2 _ ⟨_, _, _, _, s3, _⟩ => s3.seq (SqL.of hf)) ?_ ?_⟩
      · rintro j x σ H2 hx2 ⟨acc, y4, y5, rfl, s3, hD2, hacc⟩
        obtain ⟨d, hd, hxd⟩ := hall.get hx2
        obtain ⟨c, hc, rfl⟩ := map_at hd
        have hcm : c.length ≤ 1000 := Nat.le_trans (hb.2 c (List.mem_of_getElem? hc)) (by omega)
        refine ⟨.ref D, rfl, .inl ⟨rfl, _, SqL.of hD2⟩, ?_⟩
        dsimp only [tCons]
        refine lc_ext (K := K) (σ := [some (.ref a), some (.ref f), some (.int n), some (.ref D), some x, y5]) (kx := 5) (kc := 4) (n := n) (c := c) (fun R hR => ⟨_, rfl, hR⟩) (hxd.ext (.of s3)) hcm (by omega) (fun _ => rfl) (fun _ => rfl) (fun _ => rfl) fun b zs H3 nb s4 hb3 hzs => ?_
        have e1 := hacc.length
        rw [List.length_map, flat_len, List.length_take] at e1
        have e2 := hzs.length
        rw [List.length_map, ext_len] at e2
        have e3 : min j cs.length * n ≤ 1024 * 4 := Nat.mul_le_mul (by omega) (by omega)
        refine ⟨D, b, acc, zs, rfl, rfl, s4 _ _ hD2, hb3, Nat.le_of_lt (sz_small (by omega)), acc ++ zs, _, _, rfl, Same.put hD (s3.trans s4), upd_same, ?_⟩
        rw [List.take_add_one, hc]
        show DhAll K _ _ (List.map ctD (List.flatMap (ext n) (List.take j cs ++ [c])))
        rw [List.flatMap_append, List.map_append]
        refine ((hacc.ext (.of s4)).append ?_).ext (Ext.put (s4 _ _ hD2))
        simpa using hzs
      · rintro σ H2 ⟨acc, y4, y5, rfl, s3, hD2, hacc⟩
        rw [hlen, List.take_length] at hacc
        refine ⟨_, rfl, D, acc, _, _, _, _, rfl, sm.trans s3, sm.free hD, hD2, ?_⟩
        rw [etake, allC_snoc, hcs]
        exact hacc
    · rintro σ H' ⟨f, xs, y2, y3, y4, y5, rfl, sm, nf, hf, hall⟩
      rw [List.length_map, List.take_length] at hall
      exact ⟨.ref f, rfl, q f xs H' nf sm hf hall⟩
def spLBox (K : PySem.W.Frag) : Sp := fun vs H Q _ => ∃ (ps c : List Int) (v1 v2 : V), vs = [v1, v2] ∧ Dh K H v1 (ctD ps) ∧ Dh K H v2 (ctD c) ∧ InR ps c.length ∧ ps.length ≤ 1000 ∧ ∀ v H', Same H H' → Dh K H' v (boxD ps (picks ps c)) → Q v H'
theorem ok_law_box (T : Txt K mg) : FnOk P w K mg base CX0 1 T.f_law_box T.d_law_box ["pattern", "content"] (spLBox K) := by
  refine T.F_law_box.ok sc_law_box (fun vs H Q E h => ?_) (fun cdv A outer s H vs Q E hr h => ?_)
  · obtain ⟨_, _, _, _, rfl, _⟩ := h
    rfl
  · obtain ⟨ps, c, v1, v2, rfl, h1, h2, hin, hl, q⟩ := h
    obtain ⟨a, rfl, ha⟩ := ct_inv h1
    obtain ⟨b, rfl, hb⟩ := ct_inv h2
    refine ⟨_, (pss_one (ps_ret (pe_tup (pa_cons (pv 0) (pa_cons (pe_callTy (call_tupleK K) (by rfl) T.z_tuple (by decide +kernel) (pa_cons (pe_lc (own := [("c", 2)]) rfl sc_law_box.nd (pi_tupK K (pv 0)) (blkOk_by (N := N_law_box) (sc := defScope s_law_box) (by decide +kernel)) (fun _ _ _ _ _ => (pg_name (i := 2) sc_law_box.nd rfl (.inl rfl))) (fun _ _ _ _ _ => pts_nil) (fun _ _ _ _ _ => (pe_ix (ix_tupK K) (pv 1) (pv 2) (fun _ _ => rfl)))) pa_nil)) pa_nil))))), ?_⟩
    refine ⟨_, rfl, ?_⟩
    dsimp only [tCB, tCons]
    refine lc_pick (K := K) (kx := 2) (kc := 1) (tp := tVar 0) (σ := [some (.ref a), some (.ref b), none]) (fun R hR => ⟨_, rfl, hR⟩) ha hb hin hl (fun _ => rfl) (fun _ => rfl) (fun _ => rfl) fun D H' hD sm hDl => ?_
    refine ⟨D, _, rfl, .inl ⟨SqL.of hDl, fun l nl => ⟨by show 2 ≤ sizeLine; decide, fun r nr => ?_⟩⟩⟩
    have s1 : Same H' (upd H' l (.tup ((picks ps c).map V.int))) := same_new nl
    have s2 : Same (upd H' l (.tup ((picks ps c).map V.int))) (upd (upd H' l (.tup ((picks ps c).map V.int))) r (.tup [.ref a, .ref l])) := same_new nr
    exact q _ _ (sm.trans (s1.trans s2)) (.tup (SqT.of upd_same) (.cons (h1.ext (.of (sm.trans (s1.trans s2)))) (.cons (dh_ct (SqT.of (s2 _ _ upd_same))) .nil)))

end
end Fm
namespace Fm
open PySem PySem.Spec PyProof.Rows L2
section
variable {P : Program} {w : World} {K : PySem.W.Frag} {mg : Str → Option Value} {base : Heap}

/-! ### the errors, and the defs that raise them -/
theorem ok_BadSizes_init (T : Txt K mg) : FnOk P w K mg base CX0 1 T.f_BadSizes_init T.d_BadSizes_init ["self"] (spIni0 K T.c_BadSizes) := by
  refine T.F_BadSizes_init.ok sc_BadSizes_init (fun vs H Q E h => ?_) (fun cdv A outer s H vs Q E hr h => ?_)
  · obtain ⟨_, rfl, _⟩ := h
    rfl
  · obtain ⟨a, rfl, ha, q⟩ := h
    exact ⟨_, (pss_one (ps_expr (pe_upinit T.U_MaskError (by rfl) T.g_MaskError (pa_cons (pv 0) (pa_cons pe_str pa_nil))))), ⟨_, rfl, a, T.c_BadSizes, _, rfl, by decide, T.o_BadSizes, ha, q⟩⟩
theorem ok_NoPattern_init (T : Txt K mg) : FnOk P w K mg base CX0 1 T.f_NoPattern_init T.d_NoPattern_init ["self"] (spIni0 K T.c_NoPattern) := by
  refine T.F_NoPattern_init.ok sc_NoPattern_init (fun vs H Q E h => ?_) (fun cdv A outer s H vs Q E hr h => ?_)
  · obtain ⟨_, rfl, _⟩ := h
    rfl
  · obtain ⟨a, rfl, ha, q⟩ := h
    exact ⟨_, (pss_one (ps_expr (pe_upinit T.U_MaskError (by rfl) T.g_MaskError (pa_cons (pv 0) (pa_cons pe_str pa_nil))))), ⟨_, rfl, a, T.c_NoPattern, _, rfl, by decide, T.o_NoPattern, ha, q⟩⟩
theorem ok_NoContent_init (T : Txt K mg) : FnOk P w K mg base CX0 1 T.f_NoContent_init T.d_NoContent_init ["self"] (spIni0 K T.c_NoContent) := by
  refine T.F_NoContent_init.ok sc_NoContent_init (fun vs H Q E h => ?_) (fun cdv A outer s H vs Q E hr h => ?_)
  · obtain ⟨_, rfl, _⟩ := h
    rfl
  · obtain ⟨a, rfl, ha, q⟩ := h
    exact ⟨_, (pss_one (ps_expr (pe_upinit T.U_MaskError (by rfl) T.g_MaskError (pa_cons (pv 0) (pa_cons pe_str pa_nil))))), ⟨_, rfl, a, T.c_NoContent, _, rfl, by decide, T.o_NoContent, ha, q⟩⟩
theorem ok_NoBox_init (T : Txt K mg) : FnOk P w K mg base CX0 1 T.f_NoBox_init T.d_NoBox_init ["self"] (spIni0 K T.c_NoBox) := by
  refine T.F_NoBox_init.ok sc_NoBox_init (fun vs H Q E h => ?_) (fun cdv A outer s H vs Q E hr h => ?_)
  · obtain ⟨_, rfl, _⟩ := h
    rfl
  · obtain ⟨a, rfl, ha, q⟩ := h
    exact ⟨_, (pss_one (ps_expr (pe_upinit T.U_MaskError (by rfl) T.g_MaskError (pa_cons (pv 0) (pa_cons pe_str pa_nil))))), ⟨_, rfl, a, T.c_NoBox, _, rfl, by decide, T.o_NoBox, ha, q⟩⟩
theorem ok_NoNumber_init (T : Txt K mg) : FnOk P w K mg base CX0 1 T.f_NoNumber_init T.d_NoNumber_init ["self"] (spIni0 K T.c_NoNumber) := by
  refine T.F_NoNumber_init.ok sc_NoNumber_init (fun vs H Q E h => ?_) (fun cdv A outer s H vs Q E hr h => ?_)
  · obtain ⟨_, rfl, _⟩ := h
    rfl
  · obtain ⟨a, rfl, ha, q⟩ := h
    exact ⟨_, (pss_one (ps_expr (pe_upinit T.U_MaskError (by rfl) T.g_MaskError (pa_cons (pv 0) (pa_cons pe_str pa_nil))))), ⟨_, rfl, a, T.c_NoNumber, _, rfl, by decide, T.o_NoNumber, ha, q⟩⟩
/-- sizes that are none -/
def spW1 (K : PySem.W.Frag) (C : Addr) : Sp := fun vs H _ E => ∃ v d, vs = [v] ∧ Dh K H v d ∧ d.isSizes = false ∧ ∀ H', Same H H' → E (.ref C) none H'
theorem okw_contents (T : Txt K mg) : FnOk P w K mg base (L2.CX P w) 3 T.f_contents T.d_contents ["sizes"] (spW1 K T.c_BadSizes) := by
  refine T.F_contents.okX sc_contents (fun vs H Q E h => ?_) (fun cdv A outer s H vs Q E hr h => ?_)
  · obtain ⟨_, _, rfl, _⟩ := h
    rfl
  · obtain ⟨v, d, rfl, hv, hd, q⟩ := h
    refine ⟨_, (pss_cons (ps_if (pt_not (pt_val (pe_call (ok_is_sizes T) hr (by rfl) T.g_is_sizes T.F_is_sizes.kp T.b_is_sizes .nil pass0 (pa_cons (pv 0) pa_nil)))) (pss_one (ps_raise rfl (takes_of rfl rfl rfl rfl) (pmk_oexN T.o_BadSizes T.i_BadSizes T.t_BadSizes (ok_BadSizes_init T) (hr.mono (by decide)) T.b_BadSizes_init pass0 (by rfl) T.g_BadSizes))) pss_nil)
      (pss_one (ps_ret (pe_call (ok_all_contents T) (hr.mono (by decide)) (by rfl) T.g_all_contents T.F_all_contents.kp T.b_all_contents .nil pass0 (pa_cons (pv 0) pa_nil))))), ?_⟩
    refine ⟨_, rfl, spD_bl (.cons hv .nil) rfl fun H1 s1 => ⟨_, rfl, ?_⟩⟩
    rw [hd]
    exact iteT (q H1 s1)


end
end Fm
namespace Fm
open PySem PySem.Spec PyProof.Rows L2
section
variable {P : Program} {w : World} {K : PySem.W.Frag} {mg : Str → Option Value} {base : Heap}

theorem okw_is_box (T : Txt K mg) : FnOk P w K mg base (L2.CX P w) 4 T.f_is_box T.d_is_box ["sizes", "thing"] (fun vs H _ E => ∃ v u d, vs = [v, u] ∧ Dh K H v d ∧ d.isSizes = false ∧ ∀ H', Same H H' → E (.ref T.c_BadSizes) none H') := by
  refine T.F_is_box.okX sc_is_box (fun vs H Q E h => ?_) (fun cdv A outer s H vs Q E hr h => ?_)
  · obtain ⟨_, _, _, rfl, _⟩ := h
    rfl
  · obtain ⟨v, u, d, rfl, hv, hd, q⟩ := h
    refine ⟨_, (pss_cons (ps_if (pt_not (pt_val (pe_call (ok_is_sizes T) (hr.mono (by decide)) (by rfl) T.g_is_sizes T.F_is_sizes.kp T.b_is_sizes .nil pass0 (pa_cons (pv 0) pa_nil)))) (pss_one (ps_raise rfl (takes_of rfl rfl rfl rfl) (pmk_oexN T.o_BadSizes T.i_BadSizes T.t_BadSizes (ok_BadSizes_init T) (hr.mono (by decide)) T.b_BadSizes_init pass0 (by rfl) T.g_BadSizes))) pss_nil)
      (pss_one (ps_ret (pe_call (ok_is_box_of T) hr (by rfl) T.g_is_box_of T.F_is_box_of.kp T.b_is_box_of .nil pass0 (pa_cons (pv 0) (pa_cons (pv 1) pa_nil)))))), ?_⟩
    refine ⟨_, rfl, spD_bl (.cons hv .nil) rfl fun H1 s1 => ⟨_, rfl, ?_⟩⟩
    rw [hd]
    exact iteT (q H1 s1)
def wBoxAt (T : Txt K mg) (d d1 d2 : Dt) (C : Addr) : Prop := (d.isSizes = false ∧ C = T.c_BadSizes) ∨ ∃ ss : List Int, d = .tup (ss.map Dt.int) ∧ SizesOk ss ∧ ((d1.isPat ss.length = false ∧ C = T.c_NoPattern) ∨ (d1.isPat ss.length = true ∧ d2.isCont ss = false ∧ C = T.c_NoContent))
theorem okw_box_at (T : Txt K mg) : FnOk P w K mg base (L2.CX P w) 3 T.f_box_at T.d_box_at ["sizes", "pattern", "content"] (fun vs H _ E => ∃ v v1 v2 d d1 d2 C, vs = [v, v1, v2] ∧ Dh K H v d ∧ Dh K H v1 d1 ∧ Dh K H v2 d2 ∧ wBoxAt T d d1 d2 C ∧ ∀ H', Same H H' → E (.ref C) none H') := by
  refine T.F_box_at.okX sc_box_at (fun vs H Q E h => ?_) (fun cdv A outer s H vs Q E hr h => ?_)
  · obtain ⟨_, _, _, _, _, _, _, rfl, _⟩ := h
    rfl
  · obtain ⟨v, v1, v2, d, d1, d2, C, rfl, hv, h1, h2, hw, q⟩ := h
    refine ⟨_, (pss_cons (ps_if (pt_not (pt_val (pe_call (ok_is_sizes T) hr (by rfl) T.g_is_sizes T.F_is_sizes.kp T.b_is_sizes .nil pass0 (pa_cons (pv 0) pa_nil)))) (pss_one (ps_raise rfl (takes_of rfl rfl rfl rfl) (pmk_oexN T.o_BadSizes T.i_BadSizes T.t_BadSizes (ok_BadSizes_init T) (hr.mono (by decide)) T.b_BadSizes_init pass0 (by rfl) T.g_BadSizes))) pss_nil)
      (pss_cons (ps_if (pt_not (pt_val (pe_call (ok_is_pattern T) hr (by rfl) T.g_is_pattern T.F_is_pattern.kp T.b_is_pattern .nil pass0 (pa_cons (pe_callB (call_lenK K) (by rfl) T.z_len PySem.boot_len (pa_cons (pv 0) pa_nil)) (pa_cons (pv 1) pa_nil))))) (pss_one (ps_raise rfl (takes_of rfl rfl rfl rfl) (pmk_oexN T.o_NoPattern T.i_NoPattern T.t_NoPattern (ok_NoPattern_init T) (hr.mono (by decide)) T.b_NoPattern_init pass0 (by rfl) T.g_NoPattern))) pss_nil)
      (pss_cons (ps_if (pt_not (pt_val (pe_call (ok_is_content T) hr (by rfl) T.g_is_content T.F_is_content.kp T.b_is_content .nil pass0 (pa_cons (pv 0) (pa_cons (pv 2) pa_nil))))) (pss_one (ps_raise rfl (takes_of rfl rfl rfl rfl) (pmk_oexN T.o_NoContent T.i_NoContent T.t_NoContent (ok_NoContent_init T) (hr.mono (by decide)) T.b_NoContent_init pass0 (by rfl) T.g_NoContent))) pss_nil)
      (pss_one (ps_ret (pe_tup (pa_cons (pv 1) (pa_cons (pe_call (ok_worths_at T) (hr.mono (by decide)) (by rfl) T.g_worths_at T.F_worths_at.kp T.b_worths_at .nil pass0 (pa_cons (pv 1) (pa_cons (pv 2) pa_nil))) pa_nil)))))))), ?_⟩
    refine ⟨_, rfl, spD_bl (.cons hv .nil) rfl fun H1 s1 => ⟨_, rfl, ?_⟩⟩
    rcases hw with ⟨hd, rfl⟩ | ⟨ss, rfl, ok, hw⟩
    · rw [hd]
      exact iteT (q H1 s1)
    · have ok' : (Dt.tup (ss.map Dt.int)).isSizes = true := ok
      rw [ok']
      refine iteF ?_
      obtain ⟨a, xs, rfl, hs, hx⟩ := (hv.ext (.of s1)).tup_inv
      have ex := dh_ints ss hx
      subst ex
      refine ⟨_, rfl, a, _, rfl, .inr hs, _, rfl, ?_⟩
      refine spD_bl (.cons (.int _) (.cons (h1.ext (.of s1)) .nil)) rfl fun H2 s2 => ⟨_, rfl, ?_⟩
      rw [List.length_map]
      rcases hw with ⟨hp, rfl⟩ | ⟨hp, hc, rfl⟩
      · rw [hp]
        exact iteT (q H2 (s1.trans s2))
      · rw [hp]
        refine iteF ?_
        refine ⟨_, rfl, _, rfl, false, a, ss, _, _, rfl, (Ext.of s2).sqT hs, h2.ext (.of (s1.trans s2)), fun H3 s3 => ⟨_, rfl, ?_⟩⟩
        rw [hc]
        exact iteT (q H3 ((s1.trans s2).trans s3))
def wBox (T : Txt K mg) (d : Dt) (ds : List Dt) (C : Addr) : Prop := (d.isSizes = false ∧ C = T.c_BadSizes) ∨ ∃ ss : List Int, d = .tup (ss.map Dt.int) ∧ SizesOk ss ∧ (ds.all fun e => e.isBox ss) = false ∧ C = T.c_NoBox
theorem okw_in_box (T : Txt K mg) : FnOk P w K mg base (L2.CX P w) 4 T.f_in_box T.d_in_box ["sizes", "box"] (fun vs H _ E => ∃ v v1 d d1 C, vs = [v, v1] ∧ Dh K H v d ∧ Dh K H v1 d1 ∧ wBox T d [d1] C ∧ ∀ H', Same H H' → E (.ref C) none H') := by
  refine T.F_in_box.okX sc_in_box (fun vs H Q E h => ?_) (fun cdv A outer s H vs Q E hr h => ?_)
  · obtain ⟨_, _, _, _, _, rfl, _⟩ := h
    rfl
  · obtain ⟨v, v1, d, d1, C, rfl, hv, h1, hw, q⟩ := h
    refine ⟨_, (pss_cons (ps_if (pt_not (pt_val (pe_call (ok_is_sizes T) (hr.mono (by decide)) (by rfl) T.g_is_sizes T.F_is_sizes.kp T.b_is_sizes .nil pass0 (pa_cons (pv 0) pa_nil)))) (pss_one (ps_raise rfl (takes_of rfl rfl rfl rfl) (pmk_oexN T.o_BadSizes T.i_BadSizes T.t_BadSizes (ok_BadSizes_init T) (hr.mono (by decide)) T.b_BadSizes_init pass0 (by rfl) T.g_BadSizes))) pss_nil)
      (pss_cons (ps_if (pt_not (pt_val (pe_call (ok_is_box_of T) hr (by rfl) T.g_is_box_of T.F_is_box_of.kp T.b_is_box_of .nil pass0 (pa_cons (pv 0) (pa_cons (pv 1) pa_nil))))) (pss_one (ps_raise rfl (takes_of rfl rfl rfl rfl) (pmk_oexN T.o_NoBox T.i_NoBox T.t_NoBox (ok_NoBox_init T) (hr.mono (by decide)) T.b_NoBox_init pass0 (by rfl) T.g_NoBox))) pss_nil)
      (pss_cons (ps_asg (pv 1) (pg_tupK K (n := 2) rfl (pgs_cons (pg_name (i := 2) sc_in_box.nd rfl (.inr rfl)) (pgs_cons (pg_name (i := 3) sc_in_box.nd rfl (.inr rfl)) pgs_nil))))
      (pss_one (ps_ret (pe_lc (own := [("content", 4)]) rfl sc_in_box.nd (pi_listK K (pe_call (ok_all_contents T) (hr.mono (by decide)) (by rfl) T.g_all_contents T.F_all_contents.kp T.b_all_contents .nil pass0 (pa_cons (pv 0) pa_nil))) (blkOk_by (N := N_in_box) (sc := defScope s_in_box) (by decide +kernel)) (fun _ _ _ _ _ => (pg_name (i := 4) sc_in_box.nd rfl (.inl rfl))) (fun _ _ _ _ _ => (pts_one (pt_cmpR (op_eqK K hr.units) (pe_call (ok_worths_at T) (hr.mono (by decide)) (by rfl) T.g_worths_at T.F_worths_at.kp T.b_worths_at .nil pass0 (pa_cons (pv 2) (pa_cons (pv 4) pa_nil))) (pv 3) (nomark _)))) (fun _ _ _ _ _ => (pv 4)))))))), ?_⟩
    refine ⟨_, rfl, spD_bl (.cons hv .nil) rfl fun H1 s1 => ⟨_, rfl, ?_⟩⟩
    rcases hw with ⟨hd, rfl⟩ | ⟨ss, rfl, ok, hw, rfl⟩
    · rw [hd]
      exact iteT (q H1 s1)
    · have ok' : (Dt.tup (ss.map Dt.int)).isSizes = true := ok
      have hl := ok.facts.2.1
      rw [ok']
      refine iteF ?_
      obtain ⟨a, xs, rfl, hs, hx⟩ := (hv.ext (.of s1)).tup_inv
      have ex := dh_ints ss hx
      subst ex
      refine ⟨_, rfl, _, rfl, a, ss, _, _, rfl, hs, by omega, h1.ext (.of s1), fun H2 s2 => ⟨_, rfl, ?_⟩⟩
      have e : d1.isBox ss = false := by simpa using hw
      rw [e]
      exact iteT (q H2 (s1.trans s2))
theorem okw_both (T : Txt K mg) : FnOk P w K mg base (L2.CX P w) 4 T.f_both T.d_both ["sizes", "box", "other"] (fun vs H _ E => ∃ v v1 v2 d d1 d2 C, vs = [v, v1, v2] ∧ Dh K H v d ∧ Dh K H v1 d1 ∧ Dh K H v2 d2 ∧ wBox T d [d1, d2] C ∧ ∀ H', Same H H' → E (.ref C) none H') := by
  refine T.F_both.okX sc_both (fun vs H Q E h => ?_) (fun cdv A outer s H vs Q E hr h => ?_)
  · obtain ⟨_, _, _, _, _, _, _, rfl, _⟩ := h
    rfl
  · obtain ⟨v, v1, v2, d, d1, d2, C, rfl, hv, h1, h2, hw, q⟩ := h
    have hu := hu_of hr
    refine ⟨_, (pss_cons (ps_if (pt_not (pt_val (pe_call (ok_is_sizes T) (hr.mono (by decide)) (by rfl) T.g_is_sizes T.F_is_sizes.kp T.b_is_sizes .nil pass0 (pa_cons (pv 0) pa_nil)))) (pss_one (ps_raise rfl (takes_of rfl rfl rfl rfl) (pmk_oexN T.o_BadSizes T.i_BadSizes T.t_BadSizes (ok_BadSizes_init T) (hr.mono (by decide)) T.b_BadSizes_init pass0 (by rfl) T.g_BadSizes))) pss_nil)
      (pss_cons (ps_if (PW.pt (pw_or (pt_not (pt_val (pe_call (ok_is_box_of T) hr (by rfl) T.g_is_box_of T.F_is_box_of.kp T.b_is_box_of .nil pass0 (pa_cons (pv 0) (pa_cons (pv 1) pa_nil))))) (pw_or1 (pt_not (pt_val (pe_call (ok_is_box_of T) hr (by rfl) T.g_is_box_of T.F_is_box_of.kp T.b_is_box_of .nil pass0 (pa_cons (pv 0) (pa_cons (pv 2) pa_nil)))))))) (pss_one (ps_raise rfl (takes_of rfl rfl rfl rfl) (pmk_oexN T.o_NoBox T.i_NoBox T.t_NoBox (ok_NoBox_init T) (hr.mono (by decide)) T.b_NoBox_init pass0 (by rfl) T.g_NoBox))) pss_nil)
      (pss_cons (ps_set (i := 3) sc_both.nd rfl (.inr rfl) (pe_dc (own := [("column", 5), ("worth", 6)]) rfl sc_both.nd (pi_zipM (by rfl) T.z_zip (pa_cons (pe_ix (ix_tupK K) (pv 1) pe_int (fun _ _ => rfl)) (pa_cons (pe_ix (ix_tupK K) (pv 1) pe_int (fun _ _ => rfl)) pa_nil))) (blkOk_by (N := N_both) (sc := defScope s_both) (by decide +kernel)) (fun _ _ _ _ _ => (pg_tupK K (n := 2) rfl (pgs_cons (pg_name (i := 5) sc_both.nd rfl (.inl rfl)) (pgs_cons (pg_name (i := 6) sc_both.nd rfl (.inl rfl)) pgs_nil)))) (fun _ _ _ _ _ => pts_nil) (fun _ _ _ _ _ => (pv 5)) (fun _ _ _ _ _ => (pv 6))))
      (pss_cons (ps_for (passes_of rfl) rfl (pi_zipM (by rfl) T.z_zip (pa_cons (pe_ix (ix_tupK K) (pv 2) pe_int (fun _ _ => rfl)) (pa_cons (pe_ix (ix_tupK K) (pv 2) pe_int (fun _ _ => rfl)) pa_nil))) (pg_tupK K (n := 2) rfl (pgs_cons (pg_name (i := 5) sc_both.nd rfl (.inl rfl)) (pgs_cons (pg_name (i := 6) sc_both.nd rfl (.inl rfl)) pgs_nil))) (pss_one (ps_if (pt_cmpR op_ne (pe_dsetd (pv 3) (pv 5) (pv 6) ⟨rfl, by rfl, by rfl, by rfl⟩) (pv 6) (nomark _)) (pss_one (ps_ret pe_non)) pss_nil)))
      (pss_cons (ps_set (i := 4) sc_both.nd rfl (.inl rfl) (pe_callTy (call_tupleK K) (by rfl) T.z_tuple (by decide +kernel) (pa_cons (pe_callB (call_sortedDI rfl) (by rfl) T.z_sorted (by decide +kernel) (pa_cons (pv 3) pa_nil)) pa_nil)))
      (pss_one (ps_ret (pe_tup (pa_cons (pv 4) (pa_cons (pe_callTy (call_tupleK K) (by rfl) T.z_tuple (by decide +kernel) (pa_cons (pe_lc (own := [("column", 5)]) rfl sc_both.nd (pi_tupK K (pv 4)) (blkOk_by (N := N_both) (sc := defScope s_both) (by decide +kernel)) (fun _ _ _ _ _ => (pg_name (i := 5) sc_both.nd rfl (.inl rfl))) (fun _ _ _ _ _ => pts_nil) (fun _ _ _ _ _ => (pe_dget hu (pv 3) (pv 5) (fun _ _ => rfl)))) pa_nil)) pa_nil)))))))))), ?_⟩
    refine ⟨_, rfl, spD_bl (.cons hv .nil) rfl fun H1 s1 => ⟨_, rfl, ?_⟩⟩
    rcases hw with ⟨hd, rfl⟩ | ⟨ss, rfl, ok, hw, rfl⟩
    · rw [hd]
      exact iteT (q H1 s1)
    · have ok' : (Dt.tup (ss.map Dt.int)).isSizes = true := ok
      have hl := ok.facts.2.1
      rw [ok']
      refine iteF ?_
      obtain ⟨a, xs, rfl, hs, hx⟩ := (hv.ext (.of s1)).tup_inv
      have ex := dh_ints ss hx
      subst ex
      refine ⟨_, rfl, _, rfl, a, ss, _, _, rfl, hs, by omega, h1.ext (.of s1), fun H2 s2 => ⟨_, rfl, ?_⟩⟩
      cases e1 : d1.isBox ss with
      | false => exact iteT (iteT (q H2 (s1.trans s2)))
      | true =>
        refine iteF ?_
        refine ⟨_, rfl, _, rfl, a, ss, _, _, rfl, (Ext.of s2).sqT hs, by omega, h2.ext (.of (s1.trans s2)), fun H3 s3 => ⟨_, rfl, ?_⟩⟩
        have e2 : d2.isBox ss = false := by
          rw [List.all_cons, List.all_cons, List.all_nil, e1] at hw
          simpa using hw
        rw [e2]
        exact iteT (q H3 ((s1.trans s2).trans s3))

end
end Fm
namespace Fm
open PySem PySem.Spec PyProof.Rows L2
section
variable {P : Program} {w : World} {K : PySem.W.Frag} {mg : Str → Option Value} {base : Heap}

/-! ### lists of patterns -/
def rgI (n : Nat) : List Int := (List.range n).map fun (i : Nat) => (i : Int)
theorem rgV_I (n : Nat) : rgV 0 (n : Int) = (rgI n).map V.int := by
  unfold rgV rgI
  rw [List.map_map]
  have e : ((n : Int) - 0).toNat = n := by omega
  rw [e]
  refine List.map_congr_left fun i _ => ?_
  show V.int (0 + (i : Int)) = V.int (i : Int)
  rw [Int.zero_add]
def spCols (K : PySem.W.Frag) : Sp := fun vs H Q _ => ∃ n : Nat, vs = [.int n] ∧ n ≤ 1000 ∧ ∀ v H', Same H H' → Dh K H' v (ctD (rgI n)) → Q v H'
theorem ok_all_columns (T : Txt K mg) : FnOk P w K mg base CX0 1 T.f_all_columns T.d_all_columns ["columns"] (spCols K) := by
  refine T.F_all_columns.ok sc_all_columns (fun vs H Q E h => ?_) (fun cdv A outer s H vs Q E hr h => ?_)
  · obtain ⟨_, rfl, _⟩ := h
    rfl
  · obtain ⟨n, rfl, hn, q⟩ := h
    refine ⟨_, (pss_one (ps_ret (pe_tupRg rfl (by rfl) T.z_tuple (prg_1 (by rfl) T.z_range (pv 0))))), ?_⟩
    refine ⟨_, rfl, _, rfl, RgOk.of_le (by omega) (by omega) (by omega) (by omega), fun p np => ?_⟩
    rw [rgV_I]
    exact q _ _ (same_new np) (dh_ct (SqT.of upd_same))
def lGo (n : Int) : Option (List Int) → List Dt → Bool
  | _, [] => true
  | last, d :: r => if d.isPat n = true then (match last with
    | none => lGo n (some d.ints) r
    | some l => if HT.lexLt l d.ints = true then lGo n (some d.ints) r else false) else false
def Dt.isList (n : Nat) : Dt → Bool
  | .tup ds => decide (1 ≤ ds.length ∧ ds.length ≤ 12) && (lGo n none ds && ds.any fun d => decide (d.ints = rgI n))
  | _ => false
def LastOk (K : PySem.W.Frag) (H : Hp) (v : V) : Option (List Int) → Prop
  | none => v = .non
  | some l => Dh K H v (ctD l)
theorem dp_pats {K : PySem.W.Frag} {H : Hp} {n : Int} : ∀ {xs : List V} {ds : List Dt}, DhAll K H xs ds → (∀ d ∈ ds, d.isPat n = true) → DpAll K H xs (ds.map fun d => ctP d.ints)
  | _, _, .nil, _ => .nil
  | _, _, .cons (d := d) h t, hp => by
    obtain ⟨ps, rfl, _⟩ := isPat_ct (hp d (List.mem_cons_self ..))
    rw [List.map_cons, ints_ct]
    exact .cons (dp_ct h) (dp_pats t fun e he => hp e (List.mem_cons_of_mem _ he))
theorem any_ct (ds : List Dt) (c : List Int) : ((ds.map fun d => ctP d.ints).any fun z => PyData.eqv z (ctP c)) = ds.any fun d => decide (d.ints = c) := by
  rw [List.any_map]
  congr 1
  funext d
  exact eqv_ct d.ints c
theorem shaped_pats (ds : List Dt) : SeqAt.shaped (.tuple (ds.map fun d => ctP d.ints)) = true := by
  obtain ⟨h1, h2⟩ := lay_all (f := fun c => ctP c) (n := 1) lay_ct (ds.map fun d => d.ints)
  rw [List.map_map] at h1 h2
  exact shaped_of (n := 2) ⟨h1, Nat.succ_le_succ h2⟩ (by decide)
def spList (K : PySem.W.Frag) : Sp := fun vs H Q _ => ∃ (n : Nat) (v : V) (d : Dt), vs = [.int n, v] ∧ 1 ≤ n ∧ n ≤ 5 ∧ Dh K H v d ∧ ∀ H', Same H H' → Q (.bl (d.isList n)) H'
theorem ok_is_list (T : Txt K mg) : FnOk P w K mg base CX0 3 T.f_is_list T.d_is_list ["columns", "thing"] (spList K) := by
  refine T.F_is_list.ok sc_is_list (fun vs H Q E h => ?_) (fun cdv A outer s H vs Q E hr h => ?_)
  · obtain ⟨_, _, _, rfl, _⟩ := h
    rfl
  · obtain ⟨n, v, d, rfl, n1, n5, h, q⟩ := h
    refine ⟨_, (pss_cons (ps_if (PW.pt (pw_or (pt_not (pt_val (pe_call (ok_is_whole T) (hr.mono (by decide)) (by rfl) T.g_is_whole T.F_is_whole.kp T.b_is_whole .nil pass0 (pa_cons (pv 0) pa_nil)))) (pw_or1 (pt_not (pt_chain op_le op_le pe_int (pv 0) (pe_glob (by rfl) T.k_MOST_COLUMNS.1 T.k_MOST_COLUMNS.2)))))) (pss_one ps_never) pss_nil)
      (pss_cons (ps_if (PW.pt (pw_or (pt_not (pt_val (pe_callB (call_isiK' K) (by rfl) T.z_isinstance (by decide +kernel) (pa_cons (pv 1) (pa_cons (pe_bltn (v := .ty "tuple") (by rfl) T.z_tuple (by decide +kernel) rfl) pa_nil))))) (pw_or1 (pt_not (pt_chain op_le op_le pe_int (pe_callB (call_lenK K) (by rfl) T.z_len PySem.boot_len (pa_cons (pv 1) pa_nil)) (pe_glob (by rfl) T.k_MOST_PATTERNS.1 T.k_MOST_PATTERNS.2)))))) (pss_one (ps_ret pe_bl)) pss_nil)
      (pss_cons (ps_set (i := 2) sc_is_list.nd rfl (.inl rfl) pe_non)
      (pss_cons (ps_for PassesOwn.never rfl (pi_tupK K (pv 1)) (pg_name (i := 3) sc_is_list.nd rfl (.inl rfl)) (pss_cons (ps_if (pt_not (pt_val (pe_call (ok_is_pattern T) hr (by rfl) T.g_is_pattern T.F_is_pattern.kp T.b_is_pattern .nil pass0 (pa_cons (pv 0) (pa_cons (pv 3) pa_nil))))) (pss_one (ps_ret pe_bl)) pss_nil)
      (pss_cons (ps_if (PW.pt (pw_and (pt_cmpR op_notN (pv 2) pe_non (nomark _)) (pw_and1 (pt_not (pt_cmpR (op_ltTK (K := K) hr.units0) (pv 2) (pv 3) (nomark _)))))) (pss_one (ps_ret pe_bl)) pss_nil)
      (pss_one (ps_set (i := 2) sc_is_list.nd rfl (.inl rfl) (pv 3))))))
      (pss_one (ps_ret (pe_cmpR (op_inT (K := K) (room65 hr)) (pe_call (ok_all_columns T) (hr.mono (by decide)) (by rfl) T.g_all_columns T.F_all_columns.kp T.b_all_columns .nil pass0 (pa_cons (pv 0) pa_nil)) (pv 1) (by rfl)))))))), ?_⟩
    refine ⟨_, rfl, spD_bl (.cons (.int _) .nil) rfl fun H1 s1 => ⟨_, rfl, ?_⟩⟩
    refine iteF ?_
    refine ⟨_, rfl, _, _, rfl, rfl, _, rfl, ?_⟩
    rw [decide_eq_true (show (1 : Int) ≤ n by omega)]
    refine iteT ?_
    refine ⟨_, _, rfl, rfl, _, rfl, ?_⟩
    rw [decide_eq_true (show (n : Int) ≤ 5 by omega)]
    refine iteF ?_
    have h := h.ext (.of s1)
    obtain ⟨t, ty, ki, kt, kb⟩ := h.kinds
    refine ⟨_, rfl, _, _, _, _, _, rfl, .ty _, ty, kt, _, rfl, ?_⟩
    cases hi : d.isTup with
    | false =>
      refine iteT (iteT ?_)
      have e : d.isList n = false := by cases d <;> first | rfl | cases hi
      rw [e] at q
      exact q H1 s1
    | true =>
      refine iteF ?_
      cases d with
      | tup ds =>
        obtain ⟨a, xs, rfl, hs, ha⟩ := h.tup_inv
        have hl := ha.length
        have eq0 : (Dt.tup ds).isList n = (decide (1 ≤ ds.length ∧ ds.length ≤ 12) && (lGo n none ds && ds.any fun d => decide (d.ints = rgI n))) := rfl
        rw [eq0] at q
        refine ⟨_, rfl, a, xs, rfl, .inr hs, _, _, rfl, rfl, _, rfl, ?_⟩
        have out : ¬ (1 ≤ ds.length ∧ ds.length ≤ 12) → Q (.bl false) H1 := fun z => by
          rw [decide_eq_false z] at q
          exact q H1 s1
        refine ite2 (fun h1 => ?_) (fun h1 => ?_)
        · have h1' : (1 : Int) ≤ xs.length := of_decide_eq_true h1
          refine ⟨_, _, rfl, rfl, _, rfl, ?_⟩
          refine ite2 (fun h2 => ?_) (fun h2 => ?_)
          · have h2' : ¬ (xs.length : Int) ≤ 12 := by simpa using h2
            exact out fun z => h2' (by omega)
          · have h2' : (xs.length : Int) ≤ 12 := by simpa using h2
            rw [decide_eq_true (show 1 ≤ ds.length ∧ ds.length ≤ 12 by omega), Bool.true_and] at q
            refine ⟨_, rfl, a, rfl, ⟨_, hs⟩, for_tup (xs := xs) (fun i σ H' => ∃ (last : Option (List Int)) (v2 : V) (y3 : Option V), σ = [some (.int n), some (.ref a), some v2, y3] ∧ Same H1 H' ∧ LastOk K H' v2 last ∧ lGo n none ds = lGo n last (ds.drop i) ∧ ∀ d ∈ ds.take i, d.isPat n = true)
              ⟨none, _, none, rfl, Same.refl _, rfl, rfl, fun d hd => by simp at hd⟩ (fun i σ H' _ ⟨_, _, _, _, sm, _⟩ => (Ext.of sm).sqT hs) ?_ ?_⟩
            · rintro i x σ H' hx ⟨last, v2, y3, rfl, sm, hlast, e, hpat⟩
              obtain ⟨dx, hdx, hx2⟩ := ha.get hx
              rw [drop_at hdx] at e
              refine ⟨_, rfl, _, rfl, spD_bl (.cons (.int _) (.cons (hx2.ext (.of sm)) .nil)) rfl fun H2 s2 => ⟨_, rfl, ?_⟩⟩
              have sm2 := (s1.trans sm).trans s2
              cases hp : dx.isPat n with
              | false =>
                refine iteT ?_
                have z : lGo n none ds = false := by
                  rw [e]
                  show (if dx.isPat n = true then _ else false) = false
                  rw [if_neg (by rw [hp]; exact Bool.false_ne_true)]
                rw [z] at q
                exact q H2 sm2
              | true =>
                refine iteF ?_
                obtain ⟨ps, rfl, _⟩ := isPat_ct hp
                have hx3 := hx2.ext (.of (sm.trans s2))
                have hpat' : ∀ d ∈ ds.take (i + 1), d.isPat n = true := fun d hd => by
                  rw [List.take_add_one, hdx] at hd
                  rcases List.mem_append.mp hd with hd | hd
                  · exact hpat d hd
                  · rw [List.mem_singleton.mp hd]
                    exact hp
                cases last with
                | none =>
                  have hl2 : v2 = .non := hlast
                  subst hl2
                  refine ⟨_, rfl, rfl, _, rfl, iteF ?_⟩
                  refine ⟨_, rfl, some ps, x, _, rfl, sm.trans s2, hx3, ?_, hpat'⟩
                  rw [e]
                  show (if (ctD ps).isPat n = true then lGo n (some (ctD ps).ints) _ else false) = _
                  rw [if_pos hp, ints_ct]
                | some l =>
                  have hl2 : Dh K H2 v2 (ctD l) := (show Dh K H' v2 (ctD l) from hlast).ext (.of s2)
                  obtain ⟨la, rfl, hla⟩ := ct_inv hl2
                  obtain ⟨xa, rfl, hxa⟩ := ct_inv hx3
                  refine ⟨_, rfl, rfl, _, rfl, ?_⟩
                  rw [decide_eq_false (show ¬ V.ref la = V.non from fun z => by cases z)]
                  refine iteT ?_
                  refine ⟨_, rfl, _, rfl, la, xa, l, ps, rfl, rfl, hla, hxa, _, rfl, ?_⟩
                  have e' : lGo n none ds = if HT.lexLt l ps = true then lGo n (some ps) (ds.drop (i + 1)) else false := by
                    rw [e]
                    show (if (ctD ps).isPat n = true then (if HT.lexLt l (ctD ps).ints = true then lGo n (some (ctD ps).ints) _ else false) else false) = _
                    rw [if_pos hp, ints_ct]
                  cases hlt : HT.lexLt l ps with
                  | true =>
                    refine iteF ?_
                    rw [if_pos hlt] at e'
                    exact ⟨_, rfl, some ps, _, _, rfl, sm.trans s2, hx3, e', hpat'⟩
                  | false =>
                    refine iteT ?_
                    rw [if_neg (by rw [hlt]; exact Bool.false_ne_true)] at e'
                    rw [e'] at q
                    exact q H2 sm2
            · rintro σ H' ⟨last, v2, y3, rfl, sm, hlast, e, hpat⟩
              rw [List.drop_eq_nil_of_le (by omega)] at e
              have e' : lGo n none ds = true := e
              rw [e', Bool.true_and] at q
              have hall : ∀ d ∈ ds, d.isPat n = true := fun d hd => hpat d (by rw [hl, List.take_length]; exact hd)
              refine ⟨_, rfl, n, rfl, by omega, fun v H3 s3 hv => ?_⟩
              have sm3 := sm.trans s3
              refine ⟨_, rfl, ctP (rgI n), (ds.map fun d => ctP d.ints), dp_ct hv, .tup ((Ext.of sm3).sqT hs) (dp_pats (ha.ext (.of sm3)) hall), shaped_ct _, shaped_pats _, ?_⟩
              rw [any_ct]
              exact q H3 (s1.trans sm3)
        · refine ⟨_, rfl, iteT ?_⟩
          exact out fun z => h1 (decide_eq_true (by omega))
      | _ => cases hi

end
end Fm
namespace Fm
open PySem PySem.Spec PyProof.Rows L2
section
variable {P : Program} {w : World} {K : PySem.W.Frag} {mg : Str → Option Value} {base : Heap}

/-! ### the one habit that the law makes -/
abbrev oneD : Dt := ctD [1, 1]
abbrev pairD : Dt := .tup [.tup [], oneD]
abbrev rowD : Dt := .tup [pairD]
abbrev rowsD : Dt := .tup [rowD, rowD]
def spOne (K : PySem.W.Frag) : Sp := fun vs H Q _ => ∃ v, vs = [v] ∧ Dh K H v oneD ∧ ∀ H', Same H H' → Q (.bl true) H'
theorem one_inv {K : PySem.W.Frag} {H : Hp} {v : V} (h : Dh K H v oneD) : ∃ a, v = .ref a ∧ SqT K H a [.int 1, .int 1] := ct_inv h
theorem ok_is_fraction (T : Txt K mg) : FnOk P w K mg base CX0 2 T.f_is_fraction T.d_is_fraction ["thing"] (spOne K) := by
  refine T.F_is_fraction.ok sc_is_fraction (fun vs H Q E h => ?_) (fun cdv A outer s H vs Q E hr h => ?_)
  · obtain ⟨_, rfl, _⟩ := h
    rfl
  · obtain ⟨v, rfl, hv, q⟩ := h
    obtain ⟨a, rfl, ha⟩ := one_inv hv
    refine ⟨_, (pss_cons (ps_if (pt_not (pt_val (pe_call (ok_is_pair T) hr (by rfl) T.g_is_pair T.F_is_pair.kp T.b_is_pair .nil pass0 (pa_cons (pv 0) pa_nil)))) (pss_one (ps_ret pe_bl)) pss_nil)
      (pss_cons (ps_asg (pv 0) (pg_tupK K (n := 2) rfl (pgs_cons (pg_name (i := 1) sc_is_fraction.nd rfl (.inl rfl)) (pgs_cons (pg_name (i := 2) sc_is_fraction.nd rfl (.inl rfl)) pgs_nil))))
      (pss_one (ps_ret (pe_and (pe_call (ok_is_whole T) hr (by rfl) T.g_is_whole T.F_is_whole.kp T.b_is_whole .nil pass0 (pa_cons (pv 1) pa_nil)) (pe_and (pe_call (ok_is_whole T) hr (by rfl) T.g_is_whole T.F_is_whole.kp T.b_is_whole .nil pass0 (pa_cons (pv 2) pa_nil)) (pe_and (pe_cmpR op_ge (pv 2) pe_int (nomark _)) (pe_one (pe_cmpR op_eq (pe_callBfun cr_gcd (by rfl) T.w_gcd (pa_cons (pv 1) (pa_cons (pv 2) pa_nil))) pe_int (nomark _)))))))))), ?_⟩
    refine ⟨_, rfl, spD_bl (.cons hv .nil) rfl fun H1 s1 => ⟨_, rfl, iteF ?_⟩⟩
    refine ⟨_, rfl, a, _, rfl, (Ext.of s1).sqT ha, rfl, _, _, rfl, _, _, rfl, rfl, ?_⟩
    refine ⟨_, rfl, spD_bl (.cons (.int 1) .nil) rfl fun H2 s2 => ⟨_, rfl, iteT ?_⟩⟩
    refine ⟨_, rfl, spD_bl (.cons (.int 1) .nil) rfl fun H3 s3 => ⟨_, rfl, iteT ?_⟩⟩
    refine ⟨_, rfl, _, _, rfl, rfl, _, rfl, iteT ?_⟩
    exact ⟨_, rfl, _, rfl, 1, 1, rfl, rfl, q H3 ((s1.trans s2).trans s3)⟩
theorem ok_is_share (T : Txt K mg) : FnOk P w K mg base CX0 3 T.f_is_share T.d_is_share ["thing"] (spOne K) := by
  refine T.F_is_share.ok sc_is_share (fun vs H Q E h => ?_) (fun cdv A outer s H vs Q E hr h => ?_)
  · obtain ⟨_, rfl, _⟩ := h
    rfl
  · obtain ⟨v, rfl, hv, q⟩ := h
    obtain ⟨a, rfl, ha⟩ := one_inv hv
    refine ⟨_, (pss_one (ps_ret (pe_and (pe_call (ok_is_fraction T) hr (by rfl) T.g_is_fraction T.F_is_fraction.kp T.b_is_fraction .nil pass0 (pa_cons (pv 0) pa_nil)) (pe_one (pe_chain op_le op_le pe_int (pe_ix (ix_tupK K) (pv 0) pe_int (fun _ _ => rfl)) (pe_ix (ix_tupK K) (pv 0) pe_int (fun _ _ => rfl))))))), ?_⟩
    refine ⟨_, rfl, _, rfl, hv, fun H1 s1 => ⟨_, rfl, iteT ?_⟩⟩
    have ha1 := (Ext.of s1).sqT ha
    refine ⟨_, rfl, a, _, 0, _, rfl, rfl, ha1, atI_nat (j := 0) rfl, _, _, rfl, rfl, _, rfl, iteT ?_⟩
    exact ⟨_, rfl, a, _, 1, _, rfl, rfl, ha1, atI_nat (j := 1) rfl, _, _, rfl, rfl, q H1 s1⟩
theorem ok_fraction (T : Txt K mg) : FnOk P w K mg base CX0 1 T.f_fraction T.d_fraction ["top", "bottom"] (fun vs H Q _ => vs = [.int 1, .int 1] ∧ ∀ v H', Same H H' → Dh K H' v oneD → Q v H') := by
  refine T.F_fraction.ok sc_fraction (fun vs H Q E h => ?_) (fun cdv A outer s H vs Q E hr h => ?_)
  · obtain ⟨rfl, _⟩ := h
    rfl
  · obtain ⟨rfl, q⟩ := h
    refine ⟨_, (pss_cons (ps_set (i := 2) sc_fraction.nd rfl (.inl rfl) (pe_callBfun cr_gcd (by rfl) T.w_gcd (pa_cons (pv 0) (pa_cons (pv 1) pa_nil))))
      (pss_one (ps_ret (pe_tup (pa_cons (pe_op op_fdiv (pv 0) (pv 2)) (pa_cons (pe_op op_fdiv (pv 1) (pv 2)) pa_nil)))))), ?_⟩
    refine ⟨_, rfl, _, rfl, 1, 1, rfl, ?_⟩
    refine ⟨_, rfl, _, rfl, _, _, rfl, rfl, ⟨by decide, by decide⟩, _, rfl, _, rfl, _, _, rfl, rfl, ⟨by decide, by decide⟩, by show 2 ≤ sizeLine; decide, fun p np => ?_⟩
    exact q _ _ (same_new np) (dh_ct (c := [1, 1]) (SqT.of upd_same))
theorem ok_plus (T : Txt K mg) : FnOk P w K mg base CX0 2 T.f_plus T.d_plus ["one", "other"] (fun vs H Q _ => ∃ a b, vs = [.ref a, .ref b] ∧ SqT K H a [.int 0, .int 1] ∧ SqT K H b [.int 1, .int 1] ∧ ∀ v H', Same H H' → Dh K H' v oneD → Q v H') := by
  refine T.F_plus.ok sc_plus (fun vs H Q E h => ?_) (fun cdv A outer s H vs Q E hr h => ?_)
  · obtain ⟨_, _, rfl, _⟩ := h
    rfl
  · obtain ⟨a, b, rfl, ha, hb, q⟩ := h
    refine ⟨_, (pss_one (ps_ret (pe_call (ok_fraction T) hr (by rfl) T.g_fraction T.F_fraction.kp T.b_fraction .nil pass0 (pa_cons (pe_op op_add (pe_op op_mul (pe_ix (ix_tupK K) (pv 0) pe_int (fun _ _ => rfl)) (pe_ix (ix_tupK K) (pv 1) pe_int (fun _ _ => rfl))) (pe_op op_mul (pe_ix (ix_tupK K) (pv 1) pe_int (fun _ _ => rfl)) (pe_ix (ix_tupK K) (pv 0) pe_int (fun _ _ => rfl)))) (pa_cons (pe_op op_mul (pe_ix (ix_tupK K) (pv 0) pe_int (fun _ _ => rfl)) (pe_ix (ix_tupK K) (pv 1) pe_int (fun _ _ => rfl))) pa_nil))))), ?_⟩
    refine ⟨_, rfl, a, _, 0, _, rfl, rfl, ha, atI_nat (j := 0) rfl, _, rfl, b, _, 1, _, rfl, rfl, hb, atI_nat (j := 1) rfl, _, _, rfl, rfl, .inr ⟨by decide, by decide⟩, ?_⟩
    refine ⟨_, rfl, b, _, 0, _, rfl, rfl, hb, atI_nat (j := 0) rfl, _, rfl, a, _, 1, _, rfl, rfl, ha, atI_nat (j := 1) rfl, _, _, rfl, rfl, .inr ⟨by decide, by decide⟩, _, _, rfl, rfl, ?_⟩
    refine ⟨_, rfl, a, _, 1, _, rfl, rfl, ha, atI_nat (j := 1) rfl, _, rfl, b, _, 1, _, rfl, rfl, hb, atI_nat (j := 1) rfl, _, _, rfl, rfl, .inr ⟨by decide, by decide⟩, ?_⟩
    exact ⟨rfl, q⟩
theorem ok_is_habit_row (T : Txt K mg) : FnOk P w K mg base CX0 4 T.f_is_habit_row T.d_is_habit_row ["columns", "thing"] (fun vs H Q _ => ∃ v, vs = [.int 1, v] ∧ Dh K H v rowD ∧ ∀ H', Same H H' → Q (.bl true) H') := by
  refine T.F_is_habit_row.ok sc_is_habit_row (fun vs H Q E h => ?_) (fun cdv A outer s H vs Q E hr h => ?_)
  · obtain ⟨_, rfl, _⟩ := h
    rfl
  · obtain ⟨v, rfl, hv, q⟩ := h
    obtain ⟨a, xs, rfl, ha, hx⟩ := hv.tup_inv
    cases hx with
    | @cons p _ _ _ hp hn =>
      cases hn
      obtain ⟨b, ys, rfl, hb, hy⟩ := hp.tup_inv
      obtain ⟨v1, v2, rfl, h1, h2⟩ := dh_two hy
      refine ⟨_, (pss_cons (ps_if (pt_not (pt_val (pe_callB (call_isiK' K) (by rfl) T.z_isinstance (by decide +kernel) (pa_cons (pv 1) (pa_cons (pe_bltn (v := .ty "tuple") (by rfl) T.z_tuple (by decide +kernel) rfl) pa_nil))))) (pss_one (ps_ret pe_bl)) pss_nil)
      (pss_cons (ps_set (i := 2) sc_is_habit_row.nd rfl (.inl rfl) pe_non)
      (pss_cons (ps_set (i := 3) sc_is_habit_row.nd rfl (.inl rfl) (pe_glob (by rfl) T.g_ZERO (show L2.RelV (.ref T.v_ZERO) _ from rfl)))
      (pss_cons (ps_for PassesOwn.never rfl (pi_tupK K (pv 1)) (pg_name (i := 4) sc_is_habit_row.nd rfl (.inl rfl)) (pss_cons (ps_if (pt_not (pt_val (pe_call (ok_is_pair T) (hr.mono (by decide)) (by rfl) T.g_is_pair T.F_is_pair.kp T.b_is_pair .nil pass0 (pa_cons (pv 4) pa_nil)))) (pss_one (ps_ret pe_bl)) pss_nil)
      (pss_cons (ps_asg (pv 4) (pg_tupK K (n := 2) rfl (pgs_cons (pg_name (i := 5) sc_is_habit_row.nd rfl (.inl rfl)) (pgs_cons (pg_name (i := 6) sc_is_habit_row.nd rfl (.inl rfl)) pgs_nil))))
      (pss_cons (ps_if (PW.pt (pw_or (pt_not (pt_val (pe_call (ok_is_pattern T) (hr.mono (by decide)) (by rfl) T.g_is_pattern T.F_is_pattern.kp T.b_is_pattern .nil pass0 (pa_cons (pv 0) (pa_cons (pv 5) pa_nil))))) (pw_or (pt_not (pt_val (pe_call (ok_is_share T) hr (by rfl) T.g_is_share T.F_is_share.kp T.b_is_share .nil pass0 (pa_cons (pv 6) pa_nil)))) (pw_or1 (pt_cmpR (op_eqK K hr.units) (pv 6) (pe_glob (by rfl) T.g_ZERO (show L2.RelV (.ref T.v_ZERO) _ from rfl)) (nomark _)))))) (pss_one (ps_ret pe_bl)) pss_nil)
      (pss_cons (ps_if (PW.pt (pw_and (pt_cmpR op_notN (pv 2) pe_non (nomark _)) (pw_and1 (pt_not (pt_cmpR (op_ltTK (K := K) hr.units0) (pv 2) (pv 5) (nomark _)))))) (pss_one (ps_ret pe_bl)) pss_nil)
      (pss_cons (ps_set (i := 2) sc_is_habit_row.nd rfl (.inl rfl) (pv 5))
      (pss_one (ps_set (i := 3) sc_is_habit_row.nd rfl (.inl rfl) (pe_call (ok_plus T) (hr.mono (by decide)) (by rfl) T.g_plus T.F_plus.kp T.b_plus .nil pass0 (pa_cons (pv 3) (pa_cons (pv 6) pa_nil)))))))))))
      (pss_one (ps_ret (pe_cmpR (op_eqK K hr.units) (pv 3) (pe_glob (by rfl) T.g_ONE (show L2.RelV (.ref T.v_ONE) _ from rfl)) (nomark _)))))))), ?_⟩
      refine ⟨_, rfl, _, _, _, _, _, rfl, .ty _, tyx_tup ha, kit_ty (show kitB "tuple" "tuple" = some true by decide +kernel), _, rfl, iteF ?_⟩
      refine ⟨_, rfl, a, rfl, ⟨_, ha⟩, for_tup (xs := [V.ref b]) (fun i σ H' => ∃ (t2 : V) (z : Addr) (y4 y5 y6 : Option V), σ = [some (.int 1), some (.ref a), some t2, some (.ref z), y4, y5, y6] ∧ Same H H' ∧ ((i = 0 ∧ t2 = .non ∧ z = T.v_ZERO) ∨ (i = 1 ∧ SqT K H' z [.int 1, .int 1])))
        ⟨_, _, none, none, none, rfl, Same.refl H, .inl ⟨rfl, rfl, rfl⟩⟩ (fun i σ H' _ ⟨_, _, _, _, _, _, sm, _⟩ => (Ext.of sm).sqT ha) ?_ ?_⟩
      · rintro i x σ H' hx ⟨t2, z, y4, y5, y6, rfl, sm, hz⟩
        have hi : i = 0 := by
          have := (List.getElem?_eq_some_iff.mp hx).1
          simpa using this
        subst hi
        have ex : x = V.ref b := by simpa using hx.symm
        subst ex
        rcases hz with ⟨_, rfl, rfl⟩ | ⟨h0, _⟩
        · refine ⟨_, rfl, spD_bl (.cons (hp.ext (.of sm)) .nil) rfl fun H1 s1 => ⟨_, rfl, iteF ?_⟩⟩
          have e1 := sm.trans s1
          refine ⟨_, rfl, b, _, rfl, (Ext.of e1).sqT hb, rfl, v1, _, rfl, v2, _, rfl, rfl, ?_⟩
          refine ⟨_, rfl, _, rfl, spD_bl (.cons (.int 1) (.cons (h1.ext (.of e1)) .nil)) rfl fun H2 s2 => ⟨_, rfl, iteF ?_⟩⟩
          have e2 := e1.trans s2
          refine ⟨_, rfl, _, rfl, h2.ext (.of e2), fun H3 s3 => ⟨_, rfl, iteF ?_⟩⟩
          have e3 := e2.trans s3
          have ho := h2.ext (.of e3)
          refine ⟨_, rfl, ctP [1, 1], ctP [0, 1], dp_ct ho, .tup (T.k_ZERO H3) (dp_ints [0, 1]), shaped_ct _, shaped_ct _, _, rfl, ?_⟩
          rw [eqv_ct]
          refine iteF ?_
          refine ⟨_, rfl, rfl, _, rfl, iteF (iteF ?_)⟩
          obtain ⟨oa, rfl, hoa⟩ := one_inv ho
          refine ⟨_, rfl, _, rfl, _, rfl, T.v_ZERO, oa, rfl, T.k_ZERO H3, hoa, fun v H4 s4 hv4 => ?_⟩
          obtain ⟨za, rfl, hza⟩ := one_inv hv4
          exact ⟨_, za, _, _, _, rfl, e3.trans s4, .inr ⟨rfl, hza⟩⟩
        · omega
      · rintro σ H' ⟨t2, z, y4, y5, y6, rfl, sm, hz⟩
        rcases hz with ⟨h0, _⟩ | ⟨_, hz⟩
        · cases h0
        · refine ⟨_, rfl, ctP [1, 1], ctP [1, 1], .tup hz (dp_ints [1, 1]), .tup (T.k_ONE H') (dp_ints [1, 1]), shaped_ct _, shaped_ct _, ?_⟩
          exact q H' sm

def spHab1 (K : PySem.W.Frag) (C : Addr) : Sp := fun vs H Q _ => ∃ (x dx : Addr) (v1 v2 : V), vs = [.ref x, v1, v2] ∧ H x = some (.ins C dx []) ∧ Dh K H v1 (ctD [2]) ∧ Dh K H v2 rowsD ∧
  ∀ H', (∃ fs, H' x = some (.ins C dx fs)) → (∀ b o, b ≠ x → H b = some o → H' b = some o) → Q .non H'
theorem ok_Habit_init (T : Txt K mg) : FnOk P w K mg base CX0 5 T.f_Habit_init T.d_Habit_init ["self", "sizes", "rows"] (spHab1 K T.c_Habit) := by
  refine T.F_Habit_init.ok sc_Habit_init (fun vs H Q E h => ?_) (fun cdv A outer s H vs Q E hr h => ?_)
  · obtain ⟨_, _, _, _, rfl, _⟩ := h
    rfl
  · obtain ⟨x, dx, v1, v2, rfl, hx, h1, h2, q⟩ := h
    have ok : SizesOk [2] := (show (Dt.tup ([2].map Dt.int)).isSizes = true by decide)
    obtain ⟨sa, rfl, hsa⟩ := ct_inv h1
    obtain ⟨ra, rs, rfl, hra, hrs⟩ := h2.tup_inv
    obtain ⟨r1, r2, rfl, hr1, hr2⟩ := dh_two hrs
    refine ⟨_, (pss_cons (ps_if (pt_not (pt_val (pe_call (ok_is_sizes T) (hr.mono (by decide)) (by rfl) T.g_is_sizes T.F_is_sizes.kp T.b_is_sizes .nil pass0 (pa_cons (pv 1) pa_nil)))) (pss_one ps_never) pss_nil)
      (pss_cons (ps_if (PW.pt (pw_or (pt_not (pt_val (pe_callB (call_isiK' K) (by rfl) T.z_isinstance (by decide +kernel) (pa_cons (pv 2) (pa_cons (pe_bltn (v := .ty "tuple") (by rfl) T.z_tuple (by decide +kernel) rfl) pa_nil))))) (pw_or1 (pt_cmpR op_ne (pe_callB (call_lenK K) (by rfl) T.z_len PySem.boot_len (pa_cons (pv 2) pa_nil)) (pe_callB (call_lenK K) (by rfl) T.z_len PySem.boot_len (pa_cons (pe_call (ok_all_contents T) (hr.mono (by decide)) (by rfl) T.g_all_contents T.F_all_contents.kp T.b_all_contents .nil pass0 (pa_cons (pv 1) pa_nil)) pa_nil)) (nomark _))))) (pss_one ps_never) pss_nil)
      (pss_cons (ps_for PassesOwn.never rfl (pi_enumT (K := K) (by rfl) T.z_enumerate (pa_cons (pv 2) pa_nil)) (pg_tupK K (n := 2) rfl (pgs_cons (pg_name (i := 3) sc_Habit_init.nd rfl (.inl rfl)) (pgs_cons (pg_name (i := 4) sc_Habit_init.nd rfl (.inl rfl)) pgs_nil))) (pss_one (ps_if (pt_not (pt_val (pe_call (ok_is_habit_row T) hr (by rfl) T.g_is_habit_row T.F_is_habit_row.kp T.b_is_habit_row .nil pass0 (pa_cons (pe_callB (call_lenK K) (by rfl) T.z_len PySem.boot_len (pa_cons (pv 1) pa_nil)) (pa_cons (pv 4) pa_nil))))) (pss_one ps_never) pss_nil)))
      (pss_cons (ps_fld (pv 0) (pv 1) rfl)
      (pss_one (ps_fld (pv 0) (pv 2) rfl)))))), ?_⟩
    refine ⟨_, rfl, spD_bl (.cons h1 .nil) rfl fun H1 s1 => ⟨_, rfl, iteF ?_⟩⟩
    refine ⟨_, rfl, _, _, _, _, _, rfl, .ty _, tyx_tup ((Ext.of s1).sqT hra), kit_ty (show kitB "tuple" "tuple" = some true by decide +kernel), _, rfl, iteF ?_⟩
    refine ⟨_, rfl, ra, _, rfl, .inr ((Ext.of s1).sqT hra), ?_⟩
    refine ⟨_, rfl, sa, [2], rfl, (Ext.of s1).sqT hsa, ok, fun p xs H2 np s2 hp hxs => ?_⟩
    have s12 := s1.trans s2
    have hl2 : xs.length = 2 := by
      rw [hxs.length]
      decide
    refine ⟨p, xs, rfl, .inl (SqL.of hp), rfl, _, rfl, ?_⟩
    rw [hl2]
    refine iteF ?_
    refine ⟨_, rfl, ra, [r1, r2], rfl, (Ext.of s12).sqT hra, for_enumT (fun i σ H' => ∃ y3 y4 : Option V, σ = [some (.ref x), some (.ref sa), some (.ref ra), y3, y4] ∧ Same H H')
      ⟨none, none, rfl, s12⟩ (fun i σ H' ⟨_, _, _, sm⟩ => (Ext.of sm).sqT hra) ?_ ?_⟩
    · rintro i r Tp σ H' hr' ⟨y3, y4, rfl, sm⟩ nT
      have smT : Same H (upd H' Tp (.tup [.int (i : Nat), r])) := sm.trans (same_new nT)
      have hrow : Dh K H r rowD := by
        obtain ⟨d, hd, hdr⟩ := hrs.get hr'
        have : d = rowD := by
          have z : d ∈ ([rowD, rowD] : List Dt) := List.mem_of_getElem? hd
          simpa using z
        rw [← this]
        exact hdr
      refine ⟨Tp, _, rfl, SqT.of upd_same, rfl, _, _, rfl, _, _, rfl, rfl, ?_⟩
      refine ⟨_, rfl, sa, _, rfl, .inr ((Ext.of smT).sqT hsa), _, rfl, r, rfl, hrow.ext (.of smT), fun H3 s3 => ⟨_, rfl, iteF ?_⟩⟩
      exact ⟨_, _, rfl, smT.trans s3⟩
    · rintro σ H' ⟨y3, y4, rfl, sm⟩
      refine ⟨_, rfl, _, rfl, x, T.c_Habit, dx, [], rfl, sm _ _ hx, T.l_Habit, T.a_sizes, by show 0 < 1000; decide, _, rfl, _, rfl, x, T.c_Habit, dx, _, rfl, upd_same, T.l_Habit, T.a_rows, by show 1 < 1000; decide, ?_⟩
      refine q _ ⟨_, upd_same⟩ fun b o nb e => ?_
      rw [upd_ne nb, upd_ne nb]
      exact sm _ _ e

end
end Fm
namespace Fm
open PySem PySem.Spec PyProof.Rows L2
section
variable {P : Program} {w : World} {K : PySem.W.Frag} {mg : Str → Option Value} {base : Heap}

/-! ### lists of flags -/
theorem flags_step {f : Nat → Bool} {i : Nat} : ((List.range (i + 1)).map f).map V.bl = ((List.range i).map f).map V.bl ++ [V.bl (f i)] := by
  rw [List.range_succ, List.map_append, List.map_append]
  rfl
theorem flags_len {f : Nat → Bool} {i : Nat} : (((List.range i).map f).map V.bl).length = i := by
  rw [List.length_map, List.length_map, List.length_range]
theorem lc_bT {H : Hp} {σ : L2.St} {Q : VK} {a : Addr} {xs : List V} {kx : Nat} {tp te : TE} (f : Nat → Bool) (htp : ∀ R : VK, R (.ref a) H → tp σ H R) (ha : SqT K H a xs) (hl : xs.length ≤ 1000) (hw : ∀ x, wipe ((wipe σ [kx]).set kx (some x)) [kx] = wipe σ [kx])
    (hte : ∀ i x H', xs[i]? = some x → Same H H' → ∀ R : VK, (∀ H2, Same H' H2 → R (.bl (f i)) H2) → te ((wipe σ [kx]).set kx (some x)) H' R)
    (q : ∀ D H', H D = none → Same H H' → H' D = some (.lst (((List.range xs.length).map f).map V.bl)) → Q (.ref D) H') : tLc (iTup K tp) (gName kx) tYes te [kx] σ H Q := by
  refine htp _ ⟨a, rfl, ⟨_, ha⟩, fun D hD => lc_tup (K := K) (xs := xs) (fun i H' => Same H H' ∧ H' D = some (.lst (((List.range i).map f).map V.bl))) ⟨same_new hD, upd_same⟩ (fun i H' _ p => (Ext.of p.1).sqT ha) ?_ ?_⟩
  · rintro i x H' hi ⟨sm, hDl⟩
    have hlt := (List.getElem?_eq_some_iff.mp hi).1
    refine ⟨hw _, ?_⟩
    dsimp only [tYes]
    rw [if_pos rfl]
    refine hte i x H' hi sm _ fun H2 s2 => ⟨_, s2 _ _ hDl, ?_, Same.put hD (sm.trans s2), ?_⟩
    · rw [flags_len]
      exact sz_small (by omega)
    · rw [upd_same, flags_step]
  · rintro H' ⟨sm, hDl⟩
    exact q D H' hD sm hDl
theorem lc_bR {H : Hp} {σ : L2.St} {Q : VK} {lo : Int} {n : Nat} {kx : Nat} {ti : TI} {te : TE} (f : Nat → Bool) (hti : ∀ R : It → Hp → Prop, R (Itr lo n) H → ti σ H R) (hl : n ≤ 1000) (hw : ∀ x, wipe ((wipe σ [kx]).set kx (some x)) [kx] = wipe σ [kx])
    (hte : ∀ i H', i < n → Same H H' → ∀ R : VK, (∀ H2, Same H' H2 → R (.bl (f i)) H2) → te ((wipe σ [kx]).set kx (some (.int (lo + i)))) H' R)
    (q : ∀ D H', H D = none → Same H H' → H' D = some (.lst (((List.range n).map f).map V.bl)) → Q (.ref D) H') : tLc ti (gName kx) tYes te [kx] σ H Q := by
  refine hti _ fun D hD => lc_range (fun i H' => Same H H' ∧ H' D = some (.lst (((List.range i).map f).map V.bl))) ⟨same_new hD, upd_same⟩ ?_ ?_
  · rintro i H' hi ⟨sm, hDl⟩
    refine ⟨hw _, ?_⟩
    dsimp only [tYes]
    rw [if_pos rfl]
    refine hte i H' hi sm _ fun H2 s2 => ⟨_, s2 _ _ hDl, ?_, Same.put hD (sm.trans s2), ?_⟩
    · rw [flags_len]
      exact sz_small (by omega)
    · rw [upd_same, flags_step]
  · rintro H' ⟨sm, hDl⟩
    exact q D H' hD sm hDl
theorem lc_zipM {L : Bool} {a b : Addr} {xs ys : List V} {g : TG} {tt : TT} {te : TE} {vs : List Nat} {σ : L2.St} {H1 : Hp} {D : Addr} {Qd : Hp → Prop} (Pv : Nat → Hp → Prop) (h0 : Pv 0 (upd H1 D (.lst []))) (hq : ∀ i H, Pv i H → SqA L K H a xs ∧ SqT K H b ys)
    (hs : ∀ (i : Nat) (x y : V) (T : Addr) (H : Hp), xs[i]? = some x → ys[i]? = some y → Pv i H → H T = none → g (.ref T) (wipe σ vs) (upd H T (.tup [x, y])) fun σ2 H2 => wipe σ2 vs = wipe σ vs ∧ tt σ2 H2 fun b H3 =>
      if b = true then te σ2 H3 fun y H4 => ∃ acc, H4 D = some (.lst acc) ∧ acc.length < sizeLine ∧ Pv (i + 1) (upd H4 D (.lst (acc ++ [y]))) else Pv (i + 1) H3) (hd : ∀ H, Pv (min xs.length ys.length) H → Qd H) :
    ∃ W : Nat → Nat → Hp → Prop, (∃ m, W 0 m (upd H1 D (.lst []))) ∧ ∀ i m H, W i m H →
      ((ItM L K a b xs ys).stop i H ∧ Qd H) ∨ ((ItM L K a b xs ys).go i H ∧ ∃ Nx : Hp → Prop, (∀ H', Nx H' → ∃ m', m' < m ∧ W (i + 1) m' H') ∧ ∀ x H', (ItM L K a b xs ys).yld i H x H' → g x (wipe σ vs) H' fun σ2 H2 => wipe σ2 vs = wipe σ vs ∧ tt σ2 H2 fun b H3 =>
        if b = true then te σ2 H3 fun y H4 => ∃ acc, H4 D = some (.lst acc) ∧ acc.length < sizeLine ∧ Nx (upd H4 D (.lst (acc ++ [y]))) else Nx H3) := by
  refine ⟨fun i m H => i + m = min xs.length ys.length ∧ Pv i H, ⟨_, Nat.zero_add _, h0⟩, ?_⟩
  rintro i m H ⟨em, p⟩
  obtain ⟨qx, qy⟩ := hq i H p
  cases m with
  | zero =>
    have ei : i = min xs.length ys.length := em
    refine .inl ⟨⟨qx, qy, ei⟩, hd H ?_⟩
    rw [← ei]
    exact p
  | succ m =>
    refine .inr ⟨⟨qx, qy, by omega, by omega⟩, Pv (i + 1), fun H' p' => ⟨m, Nat.lt_succ_self m, by omega, p'⟩, fun v H' y => ?_⟩
    obtain ⟨T, x, y', rfl, hT, rfl, f1, f2⟩ := y
    exact hs i x y' T H f1 f2 p hT
/-- neighbours -/
def adj {α : Type} (r : α → α → Bool) : List α → Bool
  | x :: y :: l => r x y && adj r (y :: l)
  | _ => true
theorem all_range_succ (n : Nat) (f : Nat → Bool) : ((List.range (n + 1)).map f).all id = (f 0 && ((List.range n).map fun i => f (i + 1)).all id) := by
  rw [List.range_succ_eq_map, List.map_cons, List.all_cons, List.map_map]
  rfl
theorem adj_all {α : Type} [Inhabited α] (r : α → α → Bool) : ∀ l : List α, ((List.range (l.length - 1)).map fun k => r (l.getD k default) (l.getD (k + 1) default)).all id = adj r l
  | [] => rfl
  | [_] => rfl
  | x :: y :: l => by
    have ih := adj_all r (y :: l)
    show ((List.range (l.length + 1)).map _).all id = (r x y && adj r (y :: l))
    rw [all_range_succ, ← ih]
    rfl
theorem all_map_range {α : Type} (l : List α) (f : Nat → Bool) (g : α → Bool) (h : ∀ i x, l[i]? = some x → f i = g x) : ((List.range l.length).map f).all id = l.all g := by
  induction l generalizing f with
  | nil => rfl
  | cons x l ih =>
    rw [List.length_cons, all_range_succ, List.all_cons, ih (fun i => f (i + 1)) (fun i y hy => h (i + 1) y (by simpa using hy)), h 0 x rfl]

end
end Fm
namespace Fm
open PySem PySem.Spec PyProof.Rows L2
section
variable {P : Program} {w : World} {K : PySem.W.Frag} {mg : Str → Option Value} {base : Heap}

/-! ### the law's own judges -/
def Dt.inI (l m : Int) : Dt → Bool
  | .int i => decide (l ≤ i) && decide (i ≤ m)
  | _ => false
def spInt (K : PySem.W.Frag) : Sp := fun vs H Q _ => ∃ (v : V) (d : Dt) (l m : Int), vs = [v, .int l, .int m] ∧ Dh K H v d ∧ ∀ H', Same H H' → Q (.bl (d.inI l m)) H'
theorem ok_law_is_int (T : Txt K mg) : FnOk P w K mg base CX0 1 T.f_law_is_int T.d_law_is_int ["thing", "least", "most"] (spInt K) := by
  refine T.F_law_is_int.ok sc_law_is_int (fun vs H Q E h => ?_) (fun cdv A outer s H vs Q E hr h => ?_)
  · obtain ⟨_, _, _, _, rfl, _⟩ := h
    rfl
  · obtain ⟨v, d, l, m, rfl, hv, q⟩ := h
    have q := q H (Same.refl H)
    obtain ⟨t, ty, ki, kt, kb⟩ := hv.kinds
    refine ⟨_, (pss_one (ps_ret (pe_and (pe_callB (call_isiK' K) (by rfl) T.z_isinstance (by decide +kernel) (pa_cons (pv 0) (pa_cons (pe_bltn (v := .ty "int") (by rfl) T.z_int (by decide +kernel) rfl) pa_nil))) (pe_and (pe_not (pe_callB (call_isiK' K) (by rfl) T.z_isinstance (by decide +kernel) (pa_cons (pv 0) (pa_cons (pe_bltn (v := .ty "bool") (by rfl) T.z_bool (by decide +kernel) rfl) pa_nil)))) (pe_one (pe_chain op_le op_le (pv 1) (pv 0) (pv 2))))))), ?_⟩
    refine ⟨_, rfl, _, _, _, _, _, rfl, .ty _, ty, ki, _, rfl, ?_⟩
    cases hi : d.isInt with
    | false =>
      refine iteF ?_
      have e : d.inI l m = false := by cases d <;> first | rfl | cases hi
      rw [e] at q
      exact q
    | true =>
      refine iteT ?_
      refine ⟨_, rfl, _, _, _, _, _, rfl, .ty _, ty, kb hi, _, rfl, ?_⟩
      cases hw : d.isW with
      | false =>
        refine ⟨_, rfl, iteF ?_⟩
        have e : d.inI l m = false := by cases d <;> first | rfl | cases hw
        rw [e] at q
        exact q
      | true =>
        refine ⟨_, rfl, iteT ?_⟩
        cases d with
        | int i =>
          cases hv
          refine ⟨_, rfl, _, rfl, _, _, rfl, rfl, _, rfl, ?_⟩
          have eq0 : (Dt.int i).inI l m = (decide (l ≤ i) && decide (i ≤ m)) := rfl
          rw [eq0] at q
          refine ite2 (fun h1 => ?_) (fun h1 => ?_)
          · rw [h1, Bool.true_and] at q
            exact ⟨_, rfl, _, _, rfl, rfl, q⟩
          · have h1' : decide (l ≤ i) = false := by simpa using h1
            rw [h1', Bool.false_and] at q
            exact q
        | _ => cases hw
def Dt.short : Dt → Prop
  | .tup ds => ds.length ≤ 1000
  | _ => True
theorem inI_all {l m : Int} : ∀ {ds : List Dt}, (ds.all fun d => d.inI l m) = true → ∃ ps : List Int, ds = ps.map Dt.int ∧ ∀ p ∈ ps, l ≤ p ∧ p ≤ m
  | [], _ => ⟨[], rfl, fun p hp => by cases hp⟩
  | d :: ds, h => by
    rw [List.all_cons, Bool.and_eq_true] at h
    obtain ⟨ps, rfl, hp⟩ := inI_all h.2
    cases d with
    | int i =>
      have z : (decide (l ≤ i) && decide (i ≤ m)) = true := h.1
      rw [Bool.and_eq_true, decide_eq_true_eq, decide_eq_true_eq] at z
      refine ⟨i :: ps, rfl, fun p hm => ?_⟩
      rcases List.mem_cons.mp hm with e | e
      · rw [e]
        exact z
      · exact hp p e
    | _ => cases h.1
theorem pat_inI {n : Int} : ∀ {l : Int} {ds : List Dt}, -1 ≤ l → patGo n l ds = true → (ds.all fun d => d.inI 0 (n - 1)) = true
  | _, [], _, _ => rfl
  | l, d :: ds, hl, h => by
    cases d with
    | int c =>
      have z : (if l < c ∧ c < n then patGo n c ds else false) = true := h
      by_cases hc : l < c ∧ c < n
      · rw [if_pos hc] at z
        rw [List.all_cons, pat_inI (by omega) z, Bool.and_true]
        show (decide (0 ≤ c) && decide (c ≤ n - 1)) = true
        rw [decide_eq_true (by omega), decide_eq_true (by omega)]
        rfl
      · rw [if_neg hc] at z
        cases z
    | _ => cases h
def hdLt (l : Int) : List Int → Bool
  | [] => true
  | x :: _ => decide (l < x)
theorem pat_adj {n : Int} : ∀ {l : Int} {ps : List Int}, (∀ p ∈ ps, 0 ≤ p ∧ p ≤ n - 1) → patGo n l (ps.map Dt.int) = (hdLt l ps && adj (fun x y => decide (x < y)) ps)
  | _, [], _ => rfl
  | l, [x], h => by
    have hx := h x (List.mem_cons_self ..)
    show (if l < x ∧ x < n then true else false) = (decide (l < x) && true)
    rw [Bool.and_true]
    by_cases c : l < x
    · rw [if_pos ⟨c, by omega⟩, decide_eq_true c]
    · rw [if_neg fun z => c z.1, decide_eq_false c]
  | l, x :: y :: r, h => by
    have hx := h x (List.mem_cons_self ..)
    have ih := pat_adj (n := n) (l := x) (ps := y :: r) fun p hp => h p (List.mem_cons_of_mem _ hp)
    show (if l < x ∧ x < n then patGo n x ((y :: r).map Dt.int) else false) = (decide (l < x) && (decide (x < y) && adj (fun x y => decide (x < y)) (y :: r)))
    rw [ih]
    by_cases c : l < x
    · rw [if_pos ⟨c, by omega⟩, decide_eq_true c]
      rfl
    · rw [if_neg fun z => c z.1, decide_eq_false c]
      rfl
theorem getD_int {ps : List Int} {i : Nat} (h : i < ps.length) : (ps.map V.int)[i]? = some (.int (ps.getD i default)) := by
  rw [List.getElem?_map, List.getD_eq_getElem?_getD, List.getElem?_eq_getElem h]
  rfl
def spLPat (K : PySem.W.Frag) : Sp := fun vs H Q _ => ∃ (n : Int) (v : V) (d : Dt), vs = [.int n, v] ∧ Dh K H v d ∧ d.short ∧ ∀ H', Same H H' → Q (.bl (d.isPat n)) H'
theorem ok_law_is_pattern (T : Txt K mg) : FnOk P w K mg base CX0 2 T.f_law_is_pattern T.d_law_is_pattern ["columns", "thing"] (spLPat K) := by
  refine T.F_law_is_pattern.ok sc_law_is_pattern (fun vs H Q E h => ?_) (fun cdv A outer s H vs Q E hr h => ?_)
  · obtain ⟨_, _, _, rfl, _⟩ := h
    rfl
  · obtain ⟨n, v, d, rfl, hv, hsh, q⟩ := h
    obtain ⟨t, ty, ki, kt, kb⟩ := hv.kinds
    refine ⟨_, (pss_cons (ps_if (PW.pt (pw_or (pt_not (pt_val (pe_callB (call_isiK' K) (by rfl) T.z_isinstance (by decide +kernel) (pa_cons (pv 1) (pa_cons (pe_bltn (v := .ty "tuple") (by rfl) T.z_tuple (by decide +kernel) rfl) pa_nil))))) (pw_or1 (pt_not (pt_val (pe_callB (call_allK (K := K) rfl) (by rfl) T.z_all (by decide +kernel) (pa_cons (pe_lc (own := [("c", 3)]) rfl sc_law_is_pattern.nd (pi_tupK K (pv 1)) (blkOk_by (N := N_law_is_pattern) (sc := defScope s_law_is_pattern) (by decide +kernel)) (fun _ _ _ _ _ => (pg_name (i := 3) sc_law_is_pattern.nd rfl (.inl rfl))) (fun _ _ _ _ _ => pts_nil) (fun _ _ _ _ _ => (pe_call (ok_law_is_int T) hr (by rfl) T.g_law_is_int T.F_law_is_int.kp T.b_law_is_int .nil pass0 (pa_cons (pv 3) (pa_cons pe_int (pa_cons (pe_op op_sub (pv 0) pe_int) pa_nil)))))) pa_nil))))))) (pss_one (ps_ret pe_bl)) pss_nil)
      (pss_one (ps_ret (pe_callB (call_allK (K := K) rfl) (by rfl) T.z_all (by decide +kernel) (pa_cons (pe_lc (own := [("k", 2)]) rfl sc_law_is_pattern.nd (pi_range2 (by rfl) T.z_range (pa_cons pe_int (pa_cons (pe_callB (call_lenK K) (by rfl) T.z_len PySem.boot_len (pa_cons (pv 1) pa_nil)) pa_nil))) (blkOk_by (N := N_law_is_pattern) (sc := defScope s_law_is_pattern) (by decide +kernel)) (fun _ _ _ _ _ => (pg_name (i := 2) sc_law_is_pattern.nd rfl (.inl rfl))) (fun _ _ _ _ _ => pts_nil) (fun _ _ _ _ _ => (pe_cmpR op_lt (pe_ix (ix_tupK K) (pv 1) (pe_op op_sub (pv 2) pe_int) (fun _ _ => rfl)) (pe_ix (ix_tupK K) (pv 1) (pv 2) (fun _ _ => rfl)) (nomark _)))) pa_nil))))), ?_⟩
    refine ⟨_, rfl, _, _, _, _, _, rfl, .ty _, ty, kt, _, rfl, ?_⟩
    cases hi : d.isTup with
    | false =>
      refine iteT (iteT ?_)
      have e : d.isPat n = false := by cases d <;> first | rfl | cases hi
      rw [e] at q
      exact q H (Same.refl H)
    | true =>
      refine iteF ?_
      cases d with
      | tup ds =>
        obtain ⟨a, xs, rfl, ha, hx⟩ := hv.tup_inv
        have hl := hx.length
        have hl1 : ds.length ≤ 1000 := hsh
        have eq0 : (Dt.tup ds).isPat n = patGo n (-1) ds := rfl
        rw [eq0] at q
        dsimp only [tNot, tB, tCB, tCons]
        refine lc_bT (K := K) (kx := 3) (tp := tVar 1) (xs := xs) (fun i => (ds.getD i .non).inI 0 (n - 1)) (fun R hR => ⟨_, rfl, hR⟩) ha (by omega) (fun _ => rfl) (fun i x H' hxi sm R hR => ?_) fun D H1 nD s1 hD => ?_
        · obtain ⟨dx, hdx, hxd⟩ := hx.get hxi
          refine ⟨_, rfl, _, rfl, _, _, rfl, rfl, x, dx, 0, n - 1, rfl, hxd.ext (.of sm), fun H2 s2 => ?_⟩
          have e : ds.getD i .non = dx := by rw [List.getD_eq_getElem?_getD, hdx]; rfl
          have z := hR H2 s2
          rw [e] at z
          exact z
        · refine ⟨D, _, rfl, SqL.of hD, _, rfl, ?_⟩
          rw [hl, all_map_range ds _ (fun d => d.inI 0 (n - 1)) (fun i x hx => by rw [List.getD_eq_getElem?_getD, hx]; rfl)]
          cases hall : ds.all fun d => d.inI 0 (n - 1) with
          | false =>
            refine iteT ?_
            have z : patGo n (-1) ds = false := by
              cases e : patGo n (-1) ds with
              | false => rfl
              | true =>
                rw [pat_inI (by omega) e] at hall
                cases hall
            rw [z] at q
            exact q H1 s1
          | true =>
            refine iteF ?_
            obtain ⟨ps, rfl, hps⟩ := inI_all hall
            have ex := dh_ints ps hx
            subst ex
            rw [pat_adj hps] at q
            have hd0 : hdLt (-1) ps = true := by
              cases ps with
              | nil => rfl
              | cons x r => exact decide_eq_true (by have := hps x (List.mem_cons_self ..); omega)
            rw [hd0, Bool.true_and] at q
            rw [List.length_map] at hl1
            have ha1 := (Ext.of s1).sqT ha
            dsimp only [tNext, tRet, tCB, tCons]
            refine lc_bR (kx := 2) (lo := 1) (n := ps.length - 1) (fun k => decide (ps.getD k default < ps.getD (k + 1) default)) (fun R hR => ⟨_, rfl, a, _, rfl, .inr ha1, 1, (ps.map V.int).length, rfl, by rw [List.length_map]; omega, ?_⟩) (by omega) (fun _ => rfl) (fun i H' hi sm R hR => ?_) fun D2 H2 nD2 s2 hD2 => ?_
            · have e : (((ps.map V.int).length : Int) - 1).toNat = ps.length - 1 := by
                rw [List.length_map]
                omega
              rw [e]
              exact hR
            · have ha2 := (Ext.of sm).sqT ha1
              exact ⟨_, rfl, _, rfl, _, _, rfl, rfl, a, _, _, _, rfl, rfl, ha2, at_of (j := i) (by omega) (getD_int (by omega)), _, rfl, _, rfl, a, _, _, _, rfl, rfl, ha2, at_of (j := i + 1) (by omega) (getD_int (by omega)), _, _, rfl, rfl, hR H' (Same.refl H')⟩
            · refine ⟨D2, _, rfl, SqL.of hD2, ?_⟩
              rw [adj_all (fun x y => decide (x < y)) ps]
              exact q H2 (s1.trans s2)
      | _ => cases hi

end
end Fm
namespace Fm
open PySem PySem.Spec PyProof.Rows L2
section
variable {P : Program} {w : World} {K : PySem.W.Frag} {mg : Str → Option Value} {base : Heap}

theorem cont_all : ∀ (ss : List Int) (ds : List Dt), ss.length = ds.length → contGo ss ds = ((List.range ss.length).map fun i => (ds.getD i .non).inI 0 (ss.getD i default - 1)).all id
  | [], [], _ => rfl
  | s :: ss, d :: ds, h => by
    have ih := cont_all ss ds (by simpa using h)
    rw [List.length_cons, all_range_succ]
    show contGo (s :: ss) (d :: ds) = (d.inI 0 (s - 1) && ((List.range ss.length).map fun i => (ds.getD i .non).inI 0 (ss.getD i default - 1)).all id)
    rw [← ih]
    cases d with
    | int c =>
      show (if 0 ≤ c ∧ c < s then contGo ss ds else false) = ((decide (0 ≤ c) && decide (c ≤ s - 1)) && contGo ss ds)
      by_cases h1 : 0 ≤ c
      · by_cases h2 : c < s
        · rw [if_pos ⟨h1, h2⟩, decide_eq_true h1, decide_eq_true (show c ≤ s - 1 by omega)]
          rfl
        · rw [if_neg fun z => h2 z.2, decide_eq_false (show ¬ c ≤ s - 1 by omega), Bool.and_false]
          rfl
      · rw [if_neg fun z => h1 z.1, decide_eq_false h1]
        rfl
    | _ => rfl
def spLCont (K : PySem.W.Frag) : Sp := fun vs H Q _ => ∃ (a : Addr) (ss : List Int) (v : V) (d : Dt), vs = [.ref a, v] ∧ SqT K H a (ss.map V.int) ∧ ss.length ≤ 1000 ∧ Dh K H v d ∧ ∀ H', Same H H' → Q (.bl (d.isCont ss)) H'
theorem ok_law_is_content (T : Txt K mg) : FnOk P w K mg base CX0 2 T.f_law_is_content T.d_law_is_content ["sizes", "thing"] (spLCont K) := by
  refine T.F_law_is_content.ok sc_law_is_content (fun vs H Q E h => ?_) (fun cdv A outer s H vs Q E hr h => ?_)
  · obtain ⟨_, _, _, _, rfl, _⟩ := h
    rfl
  · obtain ⟨a, ss, v, d, rfl, hs, hls, hv, q⟩ := h
    obtain ⟨t, ty, ki, kt, kb⟩ := hv.kinds
    refine ⟨_, (pss_cons (ps_if (PW.pt (pw_or (pt_not (pt_val (pe_callB (call_isiK' K) (by rfl) T.z_isinstance (by decide +kernel) (pa_cons (pv 1) (pa_cons (pe_bltn (v := .ty "tuple") (by rfl) T.z_tuple (by decide +kernel) rfl) pa_nil))))) (pw_or1 (pt_cmpR op_ne (pe_callB (call_lenK K) (by rfl) T.z_len PySem.boot_len (pa_cons (pv 1) pa_nil)) (pe_callB (call_lenK K) (by rfl) T.z_len PySem.boot_len (pa_cons (pv 0) pa_nil)) (nomark _))))) (pss_one (ps_ret pe_bl)) pss_nil)
      (pss_one (ps_ret (pe_callB (call_allK (K := K) rfl) (by rfl) T.z_all (by decide +kernel) (pa_cons (pe_lc (own := [("c", 2)]) rfl sc_law_is_content.nd (pi_range1 (by rfl) T.z_range (pa_cons (pe_callB (call_lenK K) (by rfl) T.z_len PySem.boot_len (pa_cons (pv 0) pa_nil)) pa_nil)) (blkOk_by (N := N_law_is_content) (sc := defScope s_law_is_content) (by decide +kernel)) (fun _ _ _ _ _ => (pg_name (i := 2) sc_law_is_content.nd rfl (.inl rfl))) (fun _ _ _ _ _ => pts_nil) (fun _ _ _ _ _ => (pe_call (ok_law_is_int T) hr (by rfl) T.g_law_is_int T.F_law_is_int.kp T.b_law_is_int .nil pass0 (pa_cons (pe_ix (ix_tupK K) (pv 1) (pv 2) (fun _ _ => rfl)) (pa_cons pe_int (pa_cons (pe_op op_sub (pe_ix (ix_tupK K) (pv 0) (pv 2) (fun _ _ => rfl)) pe_int) pa_nil)))))) pa_nil))))), ?_⟩
    refine ⟨_, rfl, _, _, _, _, _, rfl, .ty _, ty, kt, _, rfl, ?_⟩
    cases hi : d.isTup with
    | false =>
      refine iteT (iteT ?_)
      have e : d.isCont ss = false := by cases d <;> first | rfl | cases hi
      rw [e] at q
      exact q H (Same.refl H)
    | true =>
      refine iteF ?_
      cases d with
      | tup ds =>
        obtain ⟨b, xs, rfl, hb, hx⟩ := hv.tup_inv
        have hl := hx.length
        have eq0 : (Dt.tup ds).isCont ss = (ds.length == ss.length && contGo ss ds) := rfl
        rw [eq0] at q
        refine ⟨_, rfl, b, _, rfl, .inr hb, _, rfl, a, _, rfl, .inr hs, rfl, _, rfl, ?_⟩
        rw [dec_int, List.length_map]
        cases hle : ds.length == ss.length with
        | false =>
          have e : (((xs.length : Nat) : Int) == ((ss.length : Nat) : Int)) = false := by
            rw [beq_eq_false_iff_ne] at hle ⊢
            omega
          rw [e]
          refine iteT ?_
          rw [hle] at q
          exact q H (Same.refl H)
        | true =>
          have hle' : ds.length = ss.length := by simpa using hle
          have e : (((xs.length : Nat) : Int) == ((ss.length : Nat) : Int)) = true := by
            rw [beq_iff_eq]
            omega
          rw [e]
          refine iteF ?_
          rw [hle, Bool.true_and, cont_all ss ds hle'.symm] at q
          dsimp only [tNext, tRet, tCB, tCons]
          refine lc_bR (kx := 2) (lo := 0) (n := ss.length) (fun i => (ds.getD i .non).inI 0 (ss.getD i default - 1)) (fun R hR => ⟨_, rfl, a, _, rfl, .inr hs, ss.length, by rw [List.length_map], by omega, by omega, by rw [Int.toNat_natCast]; exact hR⟩) hls (fun _ => rfl) (fun i H' hi sm R hR => ?_) fun D H1 nD s1 hD => ?_
          · obtain ⟨dx, hdx⟩ : ∃ dx, ds[i]? = some dx := ⟨_, List.getElem?_eq_getElem (by omega)⟩
            obtain ⟨x, hxi, hxd⟩ := hx.at hdx
            have e2 : ds.getD i .non = dx := by rw [List.getD_eq_getElem?_getD, hdx]; rfl
            rw [e2] at hR
            have hb2 := (Ext.of sm).sqT hb
            have hs2 := (Ext.of sm).sqT hs
            refine ⟨_, rfl, _, rfl, b, _, _, _, rfl, rfl, hb2, at_of (j := i) (by omega) hxi, _, rfl, _, rfl, a, _, _, _, rfl, rfl, hs2, at_of (j := i) (by omega) (getD_int hi), _, _, rfl, rfl, x, dx, 0, _, rfl, hxd.ext (.of sm), fun H2 s2 => hR H2 s2⟩
          · exact ⟨D, _, rfl, SqL.of hD, q H1 s1⟩
      | _ => cases hi
def Dt.short2 : Dt → Prop
  | .tup ds => ds.length ≤ 1000 ∧ ∀ d ∈ ds, d.short
  | _ => True
def spLIsBox (K : PySem.W.Frag) : Sp := fun vs H Q _ => ∃ (a : Addr) (ss : List Int) (v : V) (d : Dt), vs = [.ref a, v] ∧ SqT K H a (ss.map V.int) ∧ ss.length ≤ 1000 ∧ Dh K H v d ∧ d.short2 ∧ ∀ H', Same H H' → Q (.bl (d.isBox ss)) H'
theorem ok_law_is_box (T : Txt K mg) : FnOk P w K mg base CX0 3 T.f_law_is_box T.d_law_is_box ["sizes", "thing"] (spLIsBox K) := by
  refine T.F_law_is_box.ok sc_law_is_box (fun vs H Q E h => ?_) (fun cdv A outer s H vs Q E hr h => ?_)
  · obtain ⟨_, _, _, _, rfl, _⟩ := h
    rfl
  · obtain ⟨a, ss, v, d, rfl, hs, hls, hv, hsh, q⟩ := h
    obtain ⟨t, ty, ki, kt, kb⟩ := hv.kinds
    refine ⟨_, (pss_cons (ps_if (PW.pt (pw_or (pt_not (pt_val (pe_callB (call_isiK' K) (by rfl) T.z_isinstance (by decide +kernel) (pa_cons (pv 1) (pa_cons (pe_bltn (v := .ty "tuple") (by rfl) T.z_tuple (by decide +kernel) rfl) pa_nil))))) (pw_or (pt_cmpR op_ne (pe_callB (call_lenK K) (by rfl) T.z_len PySem.boot_len (pa_cons (pv 1) pa_nil)) pe_int (nomark _)) (pw_or1 (pt_not (pt_val (pe_call (ok_law_is_pattern T) hr (by rfl) T.g_law_is_pattern T.F_law_is_pattern.kp T.b_law_is_pattern .nil pass0 (pa_cons (pe_callB (call_lenK K) (by rfl) T.z_len PySem.boot_len (pa_cons (pv 0) pa_nil)) (pa_cons (pe_ix (ix_tupK K) (pv 1) pe_int (fun _ _ => rfl)) pa_nil))))))))) (pss_one (ps_ret pe_bl)) pss_nil)
      (pss_cons (ps_if (PW.pt (pw_or (pt_not (pt_val (pe_callB (call_isiK' K) (by rfl) T.z_isinstance (by decide +kernel) (pa_cons (pe_ix (ix_tupK K) (pv 1) pe_int (fun _ _ => rfl)) (pa_cons (pe_bltn (v := .ty "tuple") (by rfl) T.z_tuple (by decide +kernel) rfl) pa_nil))))) (pw_or1 (pt_cmpR op_ne (pe_callB (call_lenK K) (by rfl) T.z_len PySem.boot_len (pa_cons (pe_ix (ix_tupK K) (pv 1) pe_int (fun _ _ => rfl)) pa_nil)) (pe_callB (call_lenK K) (by rfl) T.z_len PySem.boot_len (pa_cons (pe_ix (ix_tupK K) (pv 1) pe_int (fun _ _ => rfl)) pa_nil)) (nomark _))))) (pss_one (ps_ret pe_bl)) pss_nil)
      (pss_one (ps_ret (pe_callB (call_allK (K := K) rfl) (by rfl) T.z_all (by decide +kernel) (pa_cons (pe_lc (own := [("c", 2), ("worth", 3)]) rfl sc_law_is_box.nd (pi_zipM (by rfl) T.z_zip (pa_cons (pe_ix (ix_tupK K) (pv 1) pe_int (fun _ _ => rfl)) (pa_cons (pe_ix (ix_tupK K) (pv 1) pe_int (fun _ _ => rfl)) pa_nil))) (blkOk_by (N := N_law_is_box) (sc := defScope s_law_is_box) (by decide +kernel)) (fun _ _ _ _ _ => (pg_tupK K (n := 2) rfl (pgs_cons (pg_name (i := 2) sc_law_is_box.nd rfl (.inl rfl)) (pgs_cons (pg_name (i := 3) sc_law_is_box.nd rfl (.inl rfl)) pgs_nil)))) (fun _ _ _ _ _ => pts_nil) (fun _ _ _ _ _ => (pe_call (ok_law_is_int T) (hr.mono (by decide)) (by rfl) T.g_law_is_int T.F_law_is_int.kp T.b_law_is_int .nil pass0 (pa_cons (pv 3) (pa_cons pe_int (pa_cons (pe_op op_sub (pe_ix (ix_tupK K) (pv 0) (pv 2) (fun _ _ => rfl)) pe_int) pa_nil)))))) pa_nil)))))), ?_⟩
    refine ⟨_, rfl, _, _, _, _, _, rfl, .ty _, ty, kt, _, rfl, ?_⟩
    cases hi : d.isTup with
    | false =>
      refine iteT (iteT ?_)
      have e : d.isBox ss = false := by cases d <;> first | rfl | cases hi
      rw [e] at q
      exact q H (Same.refl H)
    | true =>
      refine iteF ?_
      cases d with
      | tup ds =>
        obtain ⟨b, xs, rfl, hb, hx⟩ := hv.tup_inv
        have hl := hx.length
        refine ⟨_, rfl, b, _, rfl, .inr hb, rfl, _, rfl, ?_⟩
        rw [dec_int]
        by_cases h2 : ds.length = 2
        · have e : (((xs.length : Nat) : Int) == 2) = true := by
            rw [beq_iff_eq]
            omega
          rw [e]
          refine iteF ?_
          match ds, h2, hx, hsh, q with
          | [p, w], _, hx, hsh, q =>
            have eq0 : (Dt.tup [p, w]).isBox ss = (p.isPat ss.length && w.isCont (picks p.ints ss)) := rfl
            rw [eq0] at q
            obtain ⟨v1, v2, rfl, h1, h2⟩ := dh_two hx
            refine ⟨_, rfl, a, _, rfl, .inr hs, _, rfl, b, _, 0, _, rfl, rfl, hb, atI_nat (j := 0) rfl, _, v1, p, rfl, h1, hsh.2 p (by simp), fun H1 s1 => ⟨_, rfl, ?_⟩⟩
            rw [List.length_map]
            cases hp : p.isPat ss.length with
            | false =>
              refine iteT ?_
              rw [hp] at q
              exact q H1 s1
            | true =>
              refine iteF ?_
              rw [hp, Bool.true_and] at q
              obtain ⟨ps, rfl, asc⟩ := isPat_ct hp
              rw [ints_ct] at q
              have hinR := asc.inR
              obtain ⟨pa, rfl, hpa⟩ := ct_inv h1
              have hb1 := (Ext.of s1).sqT hb
              have hs1 := (Ext.of s1).sqT hs
              have hpa1 := (Ext.of s1).sqT hpa
              have h21 := h2.ext (.of s1)
              have hpl : ps.length ≤ 1000 := by
                have z : (ps.map Dt.int).length ≤ 1000 := hsh.2 (ctD ps) (by simp)
                rw [List.length_map] at z
                exact z
              obtain ⟨t2, ty2, ki2, kt2, kb2⟩ := h21.kinds
              refine ⟨_, rfl, b, _, 1, _, rfl, rfl, hb1, atI_nat (j := 1) rfl, _, _, _, _, _, rfl, .ty _, ty2, kt2, _, rfl, ?_⟩
              cases hi2 : w.isTup with
              | false =>
                refine iteT (iteT ?_)
                have e : w.isCont (picks ps ss) = false := by cases w <;> first | rfl | cases hi2
                rw [e] at q
                exact q H1 s1
              | true =>
                refine iteF ?_
                cases w with
                | tup ws =>
                  obtain ⟨wa, ys, rfl, hwa, hy⟩ := h21.tup_inv
                  have hyl := hy.length
                  have eq1 : (Dt.tup ws).isCont (picks ps ss) = (ws.length == (picks ps ss).length && contGo (picks ps ss) ws) := rfl
                  rw [eq1, picks_len] at q
                  refine ⟨_, rfl, b, _, 1, _, rfl, rfl, hb1, atI_nat (j := 1) rfl, wa, _, rfl, .inr hwa, _, rfl, b, _, 0, _, rfl, rfl, hb1, atI_nat (j := 0) rfl, pa, _, rfl, .inr hpa1, rfl, _, rfl, ?_⟩
                  rw [dec_int, List.length_map]
                  cases hle : ws.length == ps.length with
                  | false =>
                    have e : (((ys.length : Nat) : Int) == ((ps.length : Nat) : Int)) = false := by
                      rw [beq_eq_false_iff_ne] at hle ⊢
                      omega
                    rw [e]
                    refine iteT ?_
                    rw [hle] at q
                    exact q H1 s1
                  | true =>
                    have hle' : ws.length = ps.length := by simpa using hle
                    have e : (((ys.length : Nat) : Int) == ((ps.length : Nat) : Int)) = true := by
                      rw [beq_iff_eq]
                      omega
                    rw [e]
                    refine iteF ?_
                    rw [hle, Bool.true_and, cont_all (picks ps ss) ws (by rw [picks_len]; exact hle'.symm), picks_len] at q
                    dsimp only [tNext, tRet, tCB, tCons]
                    refine ⟨_, rfl, b, _, 0, _, rfl, rfl, hb1, atI_nat (j := 0) rfl, _, rfl, b, _, 1, _, rfl, rfl, hb1, atI_nat (j := 1) rfl, false, pa, wa, ps.map V.int, ys, rfl, hpa1, hwa, fun D nD => lc_zipM (fun i H' => Same H1 H' ∧ H' D = some (.lst (((List.range i).map fun i => (ws.getD i .non).inI 0 ((picks ps ss).getD i default - 1)).map V.bl))) ⟨same_new nD, upd_same⟩ (fun i H' p => ⟨(Ext.of p.1).sqT hpa1, (Ext.of p.1).sqT hwa⟩) ?_ ?_⟩
                    · rintro i x y Tp H' hx' hy' ⟨sm, hDl⟩ nT
                      obtain ⟨k, rfl, hk⟩ := int_at hx'
                      obtain ⟨dy, hdy, hyd⟩ := hy.get hy'
                      have hil := (List.getElem?_eq_some_iff.mp hk).1
                      have e3 : ws.getD i .non = dy := by rw [List.getD_eq_getElem?_getD, hdy]; rfl
                      have e4 : (picks ps ss).getD i default = ss.getD k.toNat 0 := by
                        rw [List.getD_eq_getElem?_getD]
                        unfold picks
                        rw [List.getElem?_map, hk]
                        rfl
                      obtain ⟨e5, _⟩ := pick_at hk hinR
                      have smT : Same H1 (upd H' Tp (.tup [V.int k, y])) := sm.trans (same_new nT)
                      have hDT : (upd H' Tp (.tup [V.int k, y])) D = some (.lst (((List.range i).map fun i => (ws.getD i .non).inI 0 ((picks ps ss).getD i default - 1)).map V.bl)) := by
                        rw [upd_ne (ne_of_none hDl nT)]
                        exact hDl
                      refine ⟨Tp, [_, y], rfl, SqT.of upd_same, rfl, _, [y], rfl, y, [], rfl, rfl, rfl, ?_⟩
                      dsimp only [tYes]
                      rw [if_pos rfl]
                      refine ⟨_, rfl, _, rfl, _, rfl, a, _, _, _, rfl, rfl, (Ext.of smT).sqT hs1, e5, _, _, rfl, rfl, y, dy, 0, _, rfl, hyd.ext (.of smT), fun H2 s2 => ?_⟩
                      refine ⟨_, s2 _ _ hDT, ?_, Same.put nD (smT.trans s2), ?_⟩
                      · rw [flags_len]
                        exact sz_small (by omega)
                      · rw [upd_same, flags_step, e3, e4]
                    · rintro H' ⟨sm, hDl⟩
                      have em : min (ps.map V.int).length ys.length = ps.length := by
                        rw [List.length_map]
                        omega
                      rw [em] at hDl
                      exact ⟨D, _, rfl, SqL.of hDl, q H' (s1.trans sm)⟩
                | _ => cases hi2
        · have e : (((xs.length : Nat) : Int) == 2) = false := by
            rw [beq_eq_false_iff_ne]
            omega
          rw [e]
          refine iteT (iteT ?_)
          have z : (Dt.tup ds).isBox ss = false := by
            match ds, h2 with
            | [], _ => rfl
            | [_], _ => rfl
            | [_, _], h => exact absurd rfl h
            | _ :: _ :: _ :: _, _ => rfl
          rw [z] at q
          exact q H (Same.refl H)
      | _ => cases hi

end
end Fm
namespace Fm
open PySem PySem.Spec PyProof.Rows L2
section
variable {P : Program} {w : World} {K : PySem.W.Frag} {mg : Str → Option Value} {base : Heap}

theorem sizes_prod : ∀ {ps : List Int} {m : Int}, (∀ p ∈ ps, 2 ≤ p ∧ p ≤ 4) → sizeGo m (ps.map Dt.int) = some (ps.foldl (· * ·) m)
  | [], _, _ => rfl
  | p :: ps, m, h => by
    show (if 2 ≤ p ∧ p ≤ 4 then sizeGo (m * p) (ps.map Dt.int) else none) = _
    rw [if_pos (h p (List.mem_cons_self ..)), sizes_prod fun x hx => h x (List.mem_cons_of_mem _ hx)]
    rfl
theorem sizes_all : ∀ {ds : List Dt} {m r : Int}, sizeGo m ds = some r → (ds.all fun d => d.inI 2 4) = true
  | [], _, _, _ => rfl
  | d :: ds, m, r, h => by
    cases d with
    | int c =>
      have z : (if 2 ≤ c ∧ c ≤ 4 then sizeGo (m * c) ds else none) = some r := h
      by_cases hc : 2 ≤ c ∧ c ≤ 4
      · rw [if_pos hc] at z
        rw [List.all_cons, sizes_all z, Bool.and_true]
        show (decide (2 ≤ c) && decide (c ≤ 4)) = true
        rw [decide_eq_true hc.1, decide_eq_true hc.2]
        rfl
      · rw [if_neg hc] at z
        cases z
    | _ => cases h
def spLSizes (K : PySem.W.Frag) : Sp := fun vs H Q _ => ∃ (v : V) (d : Dt), vs = [v] ∧ Dh K H v d ∧ ∀ H', Same H H' → Q (.bl d.isSizes) H'
theorem ok_law_are_sizes (T : Txt K mg) : FnOk P w K mg base CX0 2 T.f_law_are_sizes T.d_law_are_sizes ["thing"] (spLSizes K) := by
  refine T.F_law_are_sizes.ok sc_law_are_sizes (fun vs H Q E h => ?_) (fun cdv A outer s H vs Q E hr h => ?_)
  · obtain ⟨_, _, rfl, _⟩ := h
    rfl
  · obtain ⟨v, d, rfl, hv, q⟩ := h
    obtain ⟨t, ty, ki, kt, kb⟩ := hv.kinds
    refine ⟨_, (pss_cons (ps_if (PW.pt (pw_or (pt_not (pt_val (pe_callB (call_isiK' K) (by rfl) T.z_isinstance (by decide +kernel) (pa_cons (pv 0) (pa_cons (pe_bltn (v := .ty "tuple") (by rfl) T.z_tuple (by decide +kernel) rfl) pa_nil))))) (pw_or1 (pt_not (pt_chain op_le op_le pe_int (pe_callB (call_lenK K) (by rfl) T.z_len PySem.boot_len (pa_cons (pv 0) pa_nil)) pe_int))))) (pss_one (ps_ret pe_bl)) pss_nil)
      (pss_cons (ps_if (pt_not (pt_val (pe_callB (call_allK (K := K) rfl) (by rfl) T.z_all (by decide +kernel) (pa_cons (pe_lc (own := [("size", 2)]) rfl sc_law_are_sizes.nd (pi_tupK K (pv 0)) (blkOk_by (N := N_law_are_sizes) (sc := defScope s_law_are_sizes) (by decide +kernel)) (fun _ _ _ _ _ => (pg_name (i := 2) sc_law_are_sizes.nd rfl (.inl rfl))) (fun _ _ _ _ _ => pts_nil) (fun _ _ _ _ _ => (pe_call (ok_law_is_int T) hr (by rfl) T.g_law_is_int T.F_law_is_int.kp T.b_law_is_int .nil pass0 (pa_cons (pv 2) (pa_cons pe_int (pa_cons pe_int pa_nil)))))) pa_nil)))) (pss_one (ps_ret pe_bl)) pss_nil)
      (pss_cons (ps_set (i := 1) sc_law_are_sizes.nd rfl (.inl rfl) pe_int)
      (pss_cons (ps_for PassesOwn.never rfl (pi_tupK K (pv 0)) (pg_name (i := 2) sc_law_are_sizes.nd rfl (.inl rfl)) (pss_one (ps_set (i := 1) sc_law_are_sizes.nd rfl (.inl rfl) (pe_op op_mul (pv 1) (pv 2)))))
      (pss_one (ps_ret (pe_cmpR op_le (pv 1) pe_int (nomark _)))))))), ?_⟩
    refine ⟨_, rfl, _, _, _, _, _, rfl, .ty _, ty, kt, _, rfl, ?_⟩
    cases hi : d.isTup with
    | false =>
      refine iteT (iteT ?_)
      have e : d.isSizes = false := by cases d <;> first | rfl | cases hi
      rw [e] at q
      exact q H (Same.refl H)
    | true =>
      refine iteF ?_
      cases d with
      | tup ds =>
        obtain ⟨a, xs, rfl, hs, hx⟩ := hv.tup_inv
        have eq0 : (Dt.tup ds).isSizes = if 1 ≤ ds.length ∧ ds.length ≤ 5 then (match sizeGo 1 ds with | some m => decide (m ≤ 256) | none => false) else false := rfl
        rw [eq0] at q
        have hl := hx.length
        refine ⟨_, rfl, a, xs, rfl, .inr hs, _, _, rfl, rfl, _, rfl, ?_⟩
        have out : ¬ (1 ≤ ds.length ∧ ds.length ≤ 5) → Q (.bl false) H := fun n => by
          rw [if_neg n] at q
          exact q H (Same.refl H)
        refine ite2 (fun h1 => ?_) (fun h1 => ?_)
        · have h1' : (1 : Int) ≤ xs.length := of_decide_eq_true h1
          refine ⟨_, _, rfl, rfl, _, rfl, ?_⟩
          refine ite2 (fun h2 => ?_) (fun h2 => ?_)
          · have n2 : ¬ (xs.length : Int) ≤ 5 := by simpa using h2
            exact out fun z => n2 (by omega)
          · have h2' : (xs.length : Int) ≤ 5 := by simpa using h2
            rw [if_pos (show 1 ≤ ds.length ∧ ds.length ≤ 5 by omega)] at q
            dsimp only [tNext, tIfS, tNot, tB, tCB, tCons, tSeq]
            refine lc_bT (K := K) (kx := 2) (tp := tVar 0) (xs := xs) (fun i => (ds.getD i .non).inI 2 4) (fun R hR => ⟨_, rfl, hR⟩) hs (by omega) (fun _ => rfl) (fun i x H' hxi sm R hR => ?_) fun D H1 nD s1 hD => ?_
            · obtain ⟨dx, hdx, hxd⟩ := hx.get hxi
              refine ⟨_, rfl, x, dx, 2, 4, rfl, hxd.ext (.of sm), fun H2 s2 => ?_⟩
              have e : ds.getD i .non = dx := by rw [List.getD_eq_getElem?_getD, hdx]; rfl
              have z := hR H2 s2
              rw [e] at z
              exact z
            · refine ⟨D, _, rfl, SqL.of hD, _, rfl, ?_⟩
              rw [hl, all_map_range ds _ (fun d => d.inI 2 4) (fun i x hx => by rw [List.getD_eq_getElem?_getD, hx]; rfl)]
              cases hall : ds.all fun d => d.inI 2 4 with
              | false =>
                refine iteT ?_
                cases e : sizeGo 1 ds with
                | none =>
                  rw [e] at q
                  exact q H1 s1
                | some r =>
                  rw [sizes_all e] at hall
                  cases hall
              | true =>
                refine iteF ?_
                obtain ⟨ps, rfl, hps⟩ := inI_all hall
                have ex := dh_ints ps hx
                subst ex
                rw [sizes_prod hps] at q
                rw [List.length_map] at hl
                refine ⟨_, rfl, a, rfl, ⟨_, (Ext.of s1).sqT hs⟩, for_tup (xs := ps.map V.int) (fun i σ H' => ∃ (m : Int) (c : Option V), σ = [some (.ref a), some (.int m), c] ∧ Same H1 H' ∧ ps.foldl (· * ·) 1 = (ps.drop i).foldl (· * ·) m)
                  ⟨1, _, rfl, Same.refl _, rfl⟩ (fun i σ H' _ ⟨_, _, _, sm, _⟩ => (Ext.of (s1.trans sm)).sqT hs) ?_ ?_⟩
                · rintro i x σ H' hxi ⟨m, c, rfl, sm, e⟩
                  obtain ⟨p, rfl, hp⟩ := int_at hxi
                  have hpm := hps p (List.mem_of_getElem? hp)
                  rw [drop_at hp] at e
                  refine ⟨_, rfl, _, rfl, _, _, rfl, rfl, .inr ⟨by omega, by omega⟩, ?_⟩
                  exact ⟨_, _, rfl, sm, e⟩
                · rintro σ H' ⟨m, c, rfl, sm, e⟩
                  rw [List.length_map, List.drop_length] at e
                  have e' : ps.foldl (· * ·) 1 = m := e
                  rw [e'] at q
                  exact ⟨_, rfl, _, _, rfl, rfl, q H' (s1.trans sm)⟩
        · refine ⟨_, rfl, iteT ?_⟩
          exact out fun z => h1 (decide_eq_true (by omega))
      | _ => cases hi
instance : Inhabited Dt := ⟨.non⟩
def hdL : Option (List Int) → List Dt → Bool
  | some l, d :: _ => HT.lexLt l d.ints
  | _, _ => true
def ltD (x y : Dt) : Bool := HT.lexLt x.ints y.ints
theorem lGo_eq {n : Int} : ∀ {last : Option (List Int)} {ds : List Dt}, lGo n last ds = ((ds.all fun d => d.isPat n) && (hdL last ds && adj ltD ds))
  | none, [] => rfl
  | some _, [] => rfl
  | last, d :: ds => by
    have ih := lGo_eq (n := n) (last := some d.ints) (ds := ds)
    have e1 : adj ltD (d :: ds) = (hdL (some d.ints) ds && adj ltD ds) := by
      cases ds <;> rfl
    rw [e1, List.all_cons]
    cases hp : d.isPat n with
    | false =>
      show (if d.isPat n = true then _ else false) = _
      rw [if_neg (by rw [hp]; exact Bool.false_ne_true)]
      rfl
    | true =>
      cases last with
      | none =>
        have e2 : lGo n none (d :: ds) = lGo n (some d.ints) ds := by
          show (if d.isPat n = true then lGo n (some d.ints) ds else false) = _
          rw [if_pos hp]
        rw [e2, ih, show hdL none (d :: ds) = true from rfl, Bool.true_and, Bool.true_and]
      | some l =>
        have e2 : lGo n (some l) (d :: ds) = if HT.lexLt l d.ints = true then lGo n (some d.ints) ds else false := by
          show (if d.isPat n = true then (if HT.lexLt l d.ints = true then lGo n (some d.ints) ds else false) else false) = _
          rw [if_pos hp]
        rw [e2, ih, show hdL (some l) (d :: ds) = HT.lexLt l d.ints from rfl]
        cases HT.lexLt l d.ints with
        | true => rw [if_pos rfl, Bool.true_and, Bool.true_and]
        | false => rw [if_neg Bool.false_ne_true, Bool.false_and, Bool.and_false]
def spLList (K : PySem.W.Frag) : Sp := fun vs H Q _ => ∃ (n : Nat) (v : V) (d : Dt), vs = [.int n, v] ∧ n ≤ 1000 ∧ Dh K H v d ∧ d.short2 ∧ ∀ H', Same H H' → Q (.bl (d.isList n)) H'
theorem ok_law_is_list (T : Txt K mg) : FnOk P w K mg base CX0 3 T.f_law_is_list T.d_law_is_list ["columns", "thing"] (spLList K) := by
  refine T.F_law_is_list.ok sc_law_is_list (fun vs H Q E h => ?_) (fun cdv A outer s H vs Q E hr h => ?_)
  · obtain ⟨_, _, _, rfl, _⟩ := h
    rfl
  · obtain ⟨n, v, d, rfl, hn, hv, hsh, q⟩ := h
    obtain ⟨t, ty, ki, kt, kb⟩ := hv.kinds
    refine ⟨_, (pss_cons (ps_if (PW.pt (pw_or (pt_not (pt_val (pe_callB (call_isiK' K) (by rfl) T.z_isinstance (by decide +kernel) (pa_cons (pv 1) (pa_cons (pe_bltn (v := .ty "tuple") (by rfl) T.z_tuple (by decide +kernel) rfl) pa_nil))))) (pw_or1 (pt_not (pt_chain op_le op_le pe_int (pe_callB (call_lenK K) (by rfl) T.z_len PySem.boot_len (pa_cons (pv 1) pa_nil)) pe_int))))) (pss_one (ps_ret pe_bl)) pss_nil)
      (pss_cons (ps_if (pt_not (pt_val (pe_callB (call_allK (K := K) rfl) (by rfl) T.z_all (by decide +kernel) (pa_cons (pe_lc (own := [("pattern", 2)]) rfl sc_law_is_list.nd (pi_tupK K (pv 1)) (blkOk_by (N := N_law_is_list) (sc := defScope s_law_is_list) (by decide +kernel)) (fun _ _ _ _ _ => (pg_name (i := 2) sc_law_is_list.nd rfl (.inl rfl))) (fun _ _ _ _ _ => pts_nil) (fun _ _ _ _ _ => (pe_call (ok_law_is_pattern T) hr (by rfl) T.g_law_is_pattern T.F_law_is_pattern.kp T.b_law_is_pattern .nil pass0 (pa_cons (pv 0) (pa_cons (pv 2) pa_nil))))) pa_nil)))) (pss_one (ps_ret pe_bl)) pss_nil)
      (pss_cons (ps_if (pt_not (pt_val (pe_callB (call_allK (K := K) rfl) (by rfl) T.z_all (by decide +kernel) (pa_cons (pe_lc (own := [("k", 3)]) rfl sc_law_is_list.nd (pi_range2 (by rfl) T.z_range (pa_cons pe_int (pa_cons (pe_callB (call_lenK K) (by rfl) T.z_len PySem.boot_len (pa_cons (pv 1) pa_nil)) pa_nil))) (blkOk_by (N := N_law_is_list) (sc := defScope s_law_is_list) (by decide +kernel)) (fun _ _ _ _ _ => (pg_name (i := 3) sc_law_is_list.nd rfl (.inl rfl))) (fun _ _ _ _ _ => pts_nil) (fun _ _ _ _ _ => (pe_cmpR (op_ltTK (K := K) hr.units0) (pe_ix (ix_tupK K) (pv 1) (pe_op op_sub (pv 3) pe_int) (fun _ _ => rfl)) (pe_ix (ix_tupK K) (pv 1) (pv 3) (fun _ _ => rfl)) (nomark _)))) pa_nil)))) (pss_one (ps_ret pe_bl)) pss_nil)
      (pss_one (ps_ret (pe_cmpR (op_inT (K := K) (room65 hr)) (pe_tupRg rfl (by rfl) T.z_tuple (prg_1 (by rfl) T.z_range (pv 0))) (pv 1) (by rfl))))))), ?_⟩
    refine ⟨_, rfl, _, _, _, _, _, rfl, .ty _, ty, kt, _, rfl, ?_⟩
    cases hi : d.isTup with
    | false =>
      refine iteT (iteT ?_)
      have e : d.isList n = false := by cases d <;> first | rfl | cases hi
      rw [e] at q
      exact q H (Same.refl H)
    | true =>
      refine iteF ?_
      cases d with
      | tup ds =>
        obtain ⟨a, xs, rfl, hs, hx⟩ := hv.tup_inv
        have eq0 : (Dt.tup ds).isList n = (decide (1 ≤ ds.length ∧ ds.length ≤ 12) && (lGo n none ds && ds.any fun d => decide (d.ints = rgI n))) := rfl
        rw [eq0, lGo_eq] at q
        have hl := hx.length
        refine ⟨_, rfl, a, xs, rfl, .inr hs, _, _, rfl, rfl, _, rfl, ?_⟩
        have out : ¬ (1 ≤ ds.length ∧ ds.length ≤ 12) → Q (.bl false) H := fun z => by
          rw [decide_eq_false z] at q
          exact q H (Same.refl H)
        refine ite2 (fun h1 => ?_) (fun h1 => ?_)
        · have h1' : (1 : Int) ≤ xs.length := of_decide_eq_true h1
          refine ⟨_, _, rfl, rfl, _, rfl, ?_⟩
          refine ite2 (fun h2 => ?_) (fun h2 => ?_)
          · have n2 : ¬ (xs.length : Int) ≤ 12 := by simpa using h2
            exact out fun z => n2 (by omega)
          · have h2' : (xs.length : Int) ≤ 12 := by simpa using h2
            rw [decide_eq_true (show 1 ≤ ds.length ∧ ds.length ≤ 12 by omega), Bool.true_and] at q
            dsimp only [tNext, tIfS, tNot, tB, tCB, tCons, tSeq]
            refine lc_bT (K := K) (kx := 2) (tp := tVar 1) (xs := xs) (fun i => (ds.getD i .non).isPat n) (fun R hR => ⟨_, rfl, hR⟩) hs (by omega) (fun _ => rfl) (fun i x H' hxi sm R hR => ?_) fun D H1 nD s1 hD => ?_
            · obtain ⟨dx, hdx, hxd⟩ := hx.get hxi
              refine ⟨_, rfl, _, rfl, n, x, dx, rfl, hxd.ext (.of sm), hsh.2 dx (List.mem_of_getElem? hdx), fun H2 s2 => ?_⟩
              have e : ds.getD i .non = dx := by rw [List.getD_eq_getElem?_getD, hdx]; rfl
              have z := hR H2 s2
              rw [e] at z
              exact z
            · refine ⟨D, _, rfl, SqL.of hD, _, rfl, ?_⟩
              rw [hl, all_map_range ds _ (fun d => d.isPat n) (fun i x hx => by rw [List.getD_eq_getElem?_getD, hx]; rfl)]
              cases hall : ds.all fun d => d.isPat n with
              | false =>
                refine iteT ?_
                rw [hall] at q
                exact q H1 s1
              | true =>
                refine iteF ?_
                rw [hall, Bool.true_and, show hdL none ds = true by cases ds <;> rfl, Bool.true_and] at q
                have hpats : ∀ d ∈ ds, d.isPat n = true := fun d hd => List.all_eq_true.mp hall d hd
                have hx1 := hx.ext (.of s1)
                have ha1 := (Ext.of s1).sqT hs
                refine lc_bR (kx := 3) (lo := 1) (n := ds.length - 1) (fun k => ltD (ds.getD k default) (ds.getD (k + 1) default)) (fun R hR => ⟨_, rfl, a, _, rfl, .inr ha1, 1, xs.length, rfl, by omega, ?_⟩) (by omega) (fun _ => rfl) (fun i H' hi2 sm R hR => ?_) fun D2 H2 nD2 s2 hD2 => ?_
                · have e : ((xs.length : Int) - 1).toNat = ds.length - 1 := by omega
                  rw [e]
                  exact hR
                · have at_ : ∀ j, j < ds.length → ∃ (p : Addr) (ps : List Int), xs[j]? = some (.ref p) ∧ SqT K H' p (ps.map V.int) ∧ (ds.getD j default).ints = ps := fun j hj => by
                    obtain ⟨x, hxj, hxd⟩ := hx1.at (List.getElem?_eq_getElem hj)
                    obtain ⟨ps, eps, _⟩ := isPat_ct (hpats _ (List.getElem_mem hj))
                    rw [eps] at hxd
                    obtain ⟨p, rfl, hp⟩ := ct_inv hxd
                    refine ⟨p, ps, hxj, (Ext.of sm).sqT hp, ?_⟩
                    rw [List.getD_eq_getElem?_getD, List.getElem?_eq_getElem hj]
                    show (ds[j]).ints = ps
                    rw [eps, ints_ct]
                  obtain ⟨p1, c1, g1, t1, i1⟩ := at_ i (by omega)
                  obtain ⟨p2, c2, g2, t2, i2⟩ := at_ (i + 1) (by omega)
                  have ha2 := (Ext.of sm).sqT ha1
                  have z := hR H' (Same.refl H')
                  rw [show ltD (ds.getD i default) (ds.getD (i + 1) default) = HT.lexLt c1 c2 by unfold ltD; rw [i1, i2]] at z
                  exact ⟨_, rfl, _, rfl, _, _, rfl, rfl, a, _, _, _, rfl, rfl, ha2, at_of (j := i) (by omega) g1, _, rfl, _, rfl, a, _, _, _, rfl, rfl, ha2, at_of (j := i + 1) (by omega) g2, p1, p2, c1, c2, rfl, rfl, t1, t2, z⟩
                · refine ⟨D2, _, rfl, SqL.of hD2, _, rfl, ?_⟩
                  rw [adj_all ltD ds]
                  cases hadj : adj ltD ds with
                  | false =>
                    refine iteT ?_
                    rw [hadj] at q
                    exact q H2 (s1.trans s2)
                  | true =>
                    refine iteF ?_
                    rw [hadj, Bool.true_and] at q
                    refine ⟨_, rfl, _, rfl, RgOk.of_le (by omega) (by omega) (by omega) (by omega), fun r nr => ?_⟩
                    rw [rgV_I]
                    have s3 : Same H2 (upd H2 r (.tup ((rgI n).map V.int))) := same_new nr
                    refine ⟨_, rfl, ctP (rgI n), (ds.map fun d => ctP d.ints), dp_ct (dh_ct (SqT.of upd_same)), .tup ((Ext.of (s2.trans s3)).sqT ha1) (dp_pats (hx1.ext (.of (s2.trans s3))) hpats), shaped_ct _, shaped_pats _, ?_⟩
                    rw [any_ct]
                    exact q _ ((s1.trans s2).trans s3)
        · refine ⟨_, rfl, iteT ?_⟩
          exact out fun z => h1 (decide_eq_true (by omega))
      | _ => cases hi

end
end Fm
namespace Fm
open PySem PySem.Spec PyProof.Rows L2
section
variable {P : Program} {w : World} {K : PySem.W.Frag} {mg : Str → Option Value} {base : Heap}

theorem sizeGo_ints : ∀ {ds : List Dt} {m r : Int}, sizeGo m ds = some r → ∃ ps : List Int, ds = ps.map Dt.int
  | [], _, _, _ => ⟨[], rfl⟩
  | d :: ds, m, r, h => by
    cases d with
    | int c =>
      have z : (if 2 ≤ c ∧ c ≤ 4 then sizeGo (m * c) ds else none) = some r := h
      by_cases hc : 2 ≤ c ∧ c ≤ 4
      · rw [if_pos hc] at z
        obtain ⟨ps, rfl⟩ := sizeGo_ints z
        exact ⟨c :: ps, rfl⟩
      · rw [if_neg hc] at z
        cases z
    | _ => cases h
theorem isSizes_inv {d : Dt} (h : d.isSizes = true) : ∃ ss : List Int, d = ctD ss ∧ SizesOk ss := by
  cases d with
  | tup ds =>
    have h' : (if 1 ≤ ds.length ∧ ds.length ≤ 5 then (match sizeGo 1 ds with | some m => decide (m ≤ 256) | none => false) else false) = true := h
    by_cases hc : 1 ≤ ds.length ∧ ds.length ≤ 5
    · rw [if_pos hc] at h'
      cases e : sizeGo 1 ds with
      | none =>
        rw [e] at h'
        cases h'
      | some r =>
        obtain ⟨ps, rfl⟩ := sizeGo_ints e
        exact ⟨ps, rfl, h⟩
    · rw [if_neg hc] at h'
      cases h'
  | _ => cases h
def wordD (which : Int) (s a b : Dt) : Str :=
  if which = 5 then (if s.inI 1 5 = true then "let" else "number")
  else if s.isSizes = true then
    (if which = 1 then (if a.isPat s.ints.length = true then (if b.isCont s.ints = true then "let" else "content") else "pattern")
    else if ((which = 2 ∨ which = 3) ∧ a.isBox s.ints = false) ∨ (which = 3 ∧ b.isBox s.ints = false) then "box" else "let")
  else "sizes"
theorem ok_law_flag (T : Txt K mg) : FnOk P w K mg base CX0 1 T.f_law_flag T.d_law_flag ["told", "due"] (fun vs H Q _ => ∃ a b : Bool, vs = [.bl a, .bl b] ∧ Q (.bl (decide (a = b))) H) := by
  refine T.F_law_flag.ok sc_law_flag (fun vs H Q E h => ?_) (fun cdv A outer s H vs Q E hr h => ?_)
  · obtain ⟨_, _, rfl, _⟩ := h
    rfl
  · obtain ⟨a, b, rfl, q⟩ := h
    refine ⟨_, (pss_one (ps_ret (pe_and (pe_callB (call_isiK' K) (by rfl) T.z_isinstance (by decide +kernel) (pa_cons (pv 0) (pa_cons (pe_bltn (v := .ty "bool") (by rfl) T.z_bool (by decide +kernel) rfl) pa_nil))) (pe_one (pe_cmpR op_eq (pv 0) (pv 1) (nomark _)))))), ?_⟩
    refine ⟨_, rfl, _, _, _, _, _, rfl, .ty _, .base (.bl a), kit_ty (show kitB "bool" "bool" = some true by decide +kernel), _, rfl, iteT ?_⟩
    refine ⟨_, rfl, _, rfl, rfl, ?_⟩
    have e : decide (V.bl a = V.bl b) = decide (a = b) := by cases a <;> cases b <;> rfl
    rw [e]
    exact q
theorem any23 (w : Int) : (([.int 2, .int 3] : List PyData).any fun z => PyData.eqv z (.int w)) = decide (w = 2 ∨ w = 3) := by
  rw [List.any_cons, List.any_cons, List.any_nil, PyData.eqv, PyData.eqv, Bool.or_false, Bool.eq_iff_iff]
  simp
  omega
theorem due_snd {H : Hp} {σ : L2.St} {k : Bool → Hp → Prop} {w : Int} {sa : Addr} {ss : List Int} {v : V} {b : Dt} (h0 : σ[0]? = some (some (.int w))) (h1 : σ[1]? = some (some (.ref sa))) (h3 : σ[3]? = some (some v)) (hs : SqT K H sa (ss.map V.int)) (hl : ss.length ≤ 1000) (hv : Dh K H v b) (hb : b.short2)
    (q : ∀ H', Same H H' → k (decide (w = 3 ∧ b.isBox ss = false)) H') : tAnd (tTest (tOp rEq (tVar 0) (tC (V.int 3)))) (tNot (tB (tCall (spLIsBox K) [] E0 (tCons (tVar 1) (tCons (tVar 3) tNil))))) σ H k := by
  refine ⟨_, h0, rfl, _, rfl, ?_⟩
  rw [dec_int]
  by_cases e3 : w = 3
  · subst e3
    refine iteT ?_
    refine ⟨_, h1, _, h3, sa, ss, v, b, rfl, hs, hl, hv, hb, fun H2 s2 => ⟨_, rfl, ?_⟩⟩
    have z := q H2 s2
    have e : decide ((3 : Int) = 3 ∧ b.isBox ss = false) = !(b.isBox ss) := by
      cases b.isBox ss <;> simp
    rw [e] at z
    exact z
  · have e : (w == 3) = false := beq_eq_false_iff_ne.mpr e3
    rw [e]
    refine iteF ?_
    have z := q H (Same.refl H)
    rw [decide_eq_false (show ¬ (w = 3 ∧ b.isBox ss = false) from fun z => e3 z.1)] at z
    exact z
def spDue (K : PySem.W.Frag) : Sp := fun vs H Q _ => ∃ (w : Int) (v1 v2 v3 : V) (s a b : Dt), vs = [.int w, v1, v2, v3] ∧ Dh K H v1 s ∧ Dh K H v2 a ∧ Dh K H v3 b ∧ a.short ∧ a.short2 ∧ b.short2 ∧ ∀ H', Same H H' → Q (.str (wordD w s a b)) H'
theorem ok_law_due (T : Txt K mg) : FnOk P w K mg base CX0 4 T.f_law_due T.d_law_due ["which", "sizes", "first", "second"] (spDue K) := by
  refine T.F_law_due.ok sc_law_due (fun vs H Q E h => ?_) (fun cdv A outer s H vs Q E hr h => ?_)
  · obtain ⟨_, _, _, _, _, _, _, rfl, _⟩ := h
    rfl
  · obtain ⟨w, v1, v2, v3, sd, a, b, rfl, h1, h2, h3, ha, ha2, hb2, q⟩ := h
    refine ⟨_, (pss_cons (ps_if (pt_cmpR op_eq (pv 0) pe_int (nomark _)) (pss_one (ps_ret (pe_ifExp (pt_val (pe_call (ok_law_is_int T) (hr.mono (by decide)) (by rfl) T.g_law_is_int T.F_law_is_int.kp T.b_law_is_int .nil pass0 (pa_cons (pv 1) (pa_cons pe_int (pa_cons pe_int pa_nil))))) pe_str pe_str))) pss_nil)
      (pss_cons (ps_if (pt_not (pt_val (pe_call (ok_law_are_sizes T) (hr.mono (by decide)) (by rfl) T.g_law_are_sizes T.F_law_are_sizes.kp T.b_law_are_sizes .nil pass0 (pa_cons (pv 1) pa_nil)))) (pss_one (ps_ret pe_str)) pss_nil)
      (pss_cons (ps_if (pt_cmpR op_eq (pv 0) pe_int (nomark _)) (pss_cons (ps_if (pt_not (pt_val (pe_call (ok_law_is_pattern T) (hr.mono (by decide)) (by rfl) T.g_law_is_pattern T.F_law_is_pattern.kp T.b_law_is_pattern .nil pass0 (pa_cons (pe_callB (call_lenK K) (by rfl) T.z_len PySem.boot_len (pa_cons (pv 1) pa_nil)) (pa_cons (pv 2) pa_nil))))) (pss_one (ps_ret pe_str)) pss_nil)
      (pss_one (ps_ret (pe_ifExp (pt_val (pe_call (ok_law_is_content T) (hr.mono (by decide)) (by rfl) T.g_law_is_content T.F_law_is_content.kp T.b_law_is_content .nil pass0 (pa_cons (pv 1) (pa_cons (pv 3) pa_nil)))) pe_str pe_str)))) pss_nil)
      (pss_cons (ps_if (PW.pt (pw_or (PW.pt (pw_and (pt_cmpR (op_inLK (K := K) (room65 hr)) (pv 0) (pe_lst (pa_cons pe_int (pa_cons pe_int pa_nil))) (by rfl)) (pw_and1 (pt_not (pt_val (pe_call (ok_law_is_box T) hr (by rfl) T.g_law_is_box T.F_law_is_box.kp T.b_law_is_box .nil pass0 (pa_cons (pv 1) (pa_cons (pv 2) pa_nil)))))))) (pw_or1 (PW.pt (pw_and (pt_cmpR op_eq (pv 0) pe_int (nomark _)) (pw_and1 (pt_not (pt_val (pe_call (ok_law_is_box T) hr (by rfl) T.g_law_is_box T.F_law_is_box.kp T.b_law_is_box .nil pass0 (pa_cons (pv 1) (pa_cons (pv 3) pa_nil))))))))))) (pss_one (ps_ret pe_str)) pss_nil)
      (pss_one (ps_ret pe_str)))))), ?_⟩
    refine ⟨_, rfl, rfl, _, rfl, ?_⟩
    rw [dec_int]
    by_cases e5 : w = 5
    · subst e5
      refine iteT ?_
      refine ⟨_, rfl, v1, sd, 1, 5, rfl, h1, fun H1 s1 => ⟨_, rfl, ?_⟩⟩
      have q := q H1 s1
      unfold wordD at q
      rw [if_pos rfl] at q
      cases e : sd.inI 1 5 with
      | true =>
        rw [e, if_pos rfl] at q
        exact iteT q
      | false =>
        rw [e, if_neg Bool.false_ne_true] at q
        exact iteF q
    · have e : (w == 5) = false := beq_eq_false_iff_ne.mpr e5
      rw [e]
      refine iteF ?_
      refine ⟨_, rfl, v1, sd, rfl, h1, fun H1 s1 => ⟨_, rfl, ?_⟩⟩
      have q0 : ∀ H', Same H1 H' → Q (.str (wordD w sd a b)) H' := fun H' s' => q H' (s1.trans s')
      unfold wordD at q0
      rw [if_neg e5] at q0
      cases es : sd.isSizes with
      | false =>
        refine iteT ?_
        rw [es, if_neg Bool.false_ne_true] at q0
        exact q0 H1 (Same.refl H1)
      | true =>
        refine iteF ?_
        rw [es, if_pos rfl] at q0
        obtain ⟨ss, rfl, ok⟩ := isSizes_inv es
        rw [ints_ct] at q0
        have hl := ok.facts.2.1
        obtain ⟨sa, rfl, hsa⟩ := ct_inv (h1.ext (.of s1))
        have h2 := h2.ext (.of s1)
        have h3 := h3.ext (.of s1)
        refine ⟨_, rfl, rfl, _, rfl, ?_⟩
        rw [dec_int]
        by_cases e1 : w = 1
        · subst e1
          refine iteT ?_
          rw [if_pos rfl] at q0
          refine ⟨_, rfl, sa, _, rfl, .inr hsa, _, rfl, _, v2, a, rfl, h2, ha, fun H2 s2 => ⟨_, rfl, ?_⟩⟩
          rw [List.length_map]
          cases ep : a.isPat ss.length with
          | false =>
            refine iteT ?_
            rw [ep, if_neg Bool.false_ne_true] at q0
            exact q0 H2 s2
          | true =>
            refine iteF ?_
            rw [ep, if_pos rfl] at q0
            refine ⟨_, rfl, _, rfl, sa, ss, v3, b, rfl, (Ext.of s2).sqT hsa, by omega, h3.ext (.of s2), fun H3 s3 => ⟨_, rfl, ?_⟩⟩
            have q1 := q0 H3 (s2.trans s3)
            cases ec : b.isCont ss with
            | true =>
              rw [ec, if_pos rfl] at q1
              exact iteT q1
            | false =>
              rw [ec, if_neg Bool.false_ne_true] at q1
              exact iteF q1
        · have e : (w == 1) = false := beq_eq_false_iff_ne.mpr e1
          rw [e]
          refine iteF ?_
          rw [if_neg e1] at q0
          refine ⟨_, rfl, ⟨by show 2 ≤ sizeLine; decide, fun l nl => ⟨PyData.int w, [.int 2, .int 3], .int w, .lst (SqL.of upd_same) (.cons (.int 2) (.cons (.int 3) .nil)), by rfl, by rfl, _, rfl, ?_⟩⟩⟩
          rw [any23]
          have s2 : Same H1 (upd H1 l (.lst [.int 2, .int 3])) := same_new nl
          generalize upd H1 l (.lst [.int 2, .int 3]) = H2 at s2 ⊢
          have fin : ∀ H3, Same H1 H3 → ((w = 2 ∨ w = 3) → a.isBox ss = true) → ∀ c : Bool, c = decide (w = 3 ∧ b.isBox ss = false) → Q (.str (if c = true then "box" else "let")) H3 := fun H3 s3 hf c ec => by
            have z := q0 H3 s3
            by_cases hb : w = 3 ∧ b.isBox ss = false
            · rw [if_pos (.inr hb)] at z
              rw [ec, decide_eq_true hb, if_pos rfl]
              exact z
            · rw [if_neg fun y => by
                rcases y with ⟨y1, y2⟩ | y
                · rw [hf y1] at y2
                  cases y2
                · exact hb y] at z
              rw [ec, decide_eq_false hb, if_neg Bool.false_ne_true]
              exact z
          by_cases h23 : w = 2 ∨ w = 3
          · rw [decide_eq_true h23]
            refine iteT ?_
            refine ⟨_, rfl, _, rfl, sa, ss, v2, a, rfl, (Ext.of s2).sqT hsa, by omega, h2.ext (.of s2), ha2, fun H3 s3 => ⟨_, rfl, ?_⟩⟩
            cases eb : a.isBox ss with
            | false =>
              refine iteT (iteT ?_)
              have z := q0 H3 (s2.trans s3)
              rw [if_pos (.inl ⟨h23, eb⟩)] at z
              exact z
            | true =>
              refine iteF ?_
              refine due_snd (K := K) rfl rfl rfl ((Ext.of (s2.trans s3)).sqT hsa) (by omega) (h3.ext (.of (s2.trans s3))) hb2 fun H4 s4 => ?_
              have z := fin H4 ((s2.trans s3).trans s4) (fun _ => eb) _ rfl
              cases hc : decide (w = 3 ∧ b.isBox ss = false) with
              | true =>
                rw [hc, if_pos rfl] at z
                exact iteT z
              | false =>
                rw [hc, if_neg Bool.false_ne_true] at z
                exact iteF z
          · rw [decide_eq_false h23]
            refine iteF ?_
            refine due_snd (K := K) rfl rfl rfl ((Ext.of s2).sqT hsa) (by omega) (h3.ext (.of s2)) hb2 fun H4 s4 => ?_
            have z := fin H4 (s2.trans s4) (fun y => absurd y h23) _ rfl
            cases hc : decide (w = 3 ∧ b.isBox ss = false) with
            | true =>
              rw [hc, if_pos rfl] at z
              exact iteT z
            | false =>
              rw [hc, if_neg Bool.false_ne_true] at z
              exact iteF z

end
end Fm
namespace Fm
open PySem PySem.Spec PyProof.Rows L2
section
variable {P : Program} {w : World} {K : PySem.W.Frag} {mg : Str → Option Value} {base : Heap}

theorem okw_is_list (T : Txt K mg) : FnOk P w K mg base (L2.CX P w) 3 T.f_is_list T.d_is_list ["columns", "thing"] (fun vs H _ E => ∃ v u d, vs = [v, u] ∧ Dh K H v d ∧ d.inI 1 5 = false ∧ ∀ H', Same H H' → E (.ref T.c_NoNumber) none H') := by
  refine T.F_is_list.okX sc_is_list (fun vs H Q E h => ?_) (fun cdv A outer s H vs Q E hr h => ?_)
  · obtain ⟨_, _, _, rfl, _⟩ := h
    rfl
  · obtain ⟨v, u, d, rfl, hv, hd, q⟩ := h
    refine ⟨_, (pss_cons (ps_if (PW.pt (pw_or (pt_not (pt_val (pe_call (ok_is_whole T) (hr.mono (by decide)) (by rfl) T.g_is_whole T.F_is_whole.kp T.b_is_whole .nil pass0 (pa_cons (pv 0) pa_nil)))) (pw_or1 (pt_not (pt_chain op_le op_le pe_int (pv 0) (pe_glob (by rfl) T.k_MOST_COLUMNS.1 T.k_MOST_COLUMNS.2)))))) (pss_one (ps_raise rfl (takes_of rfl rfl rfl rfl) (pmk_oexN T.o_NoNumber T.i_NoNumber T.t_NoNumber (ok_NoNumber_init T) (hr.mono (by decide)) T.b_NoNumber_init pass0 (by rfl) T.g_NoNumber))) pss_nil)
      (pss_cons (ps_if (PW.pt (pw_or (pt_not (pt_val (pe_callB (call_isiK' K) (by rfl) T.z_isinstance (by decide +kernel) (pa_cons (pv 1) (pa_cons (pe_bltn (v := .ty "tuple") (by rfl) T.z_tuple (by decide +kernel) rfl) pa_nil))))) (pw_or1 (pt_not (pt_chain op_le op_le pe_int (pe_callB (call_lenK K) (by rfl) T.z_len PySem.boot_len (pa_cons (pv 1) pa_nil)) (pe_glob (by rfl) T.k_MOST_PATTERNS.1 T.k_MOST_PATTERNS.2)))))) (pss_one (ps_ret pe_bl)) pss_nil)
      (pss_cons (ps_set (i := 2) sc_is_list.nd rfl (.inl rfl) pe_non)
      (pss_cons (ps_for (passes_of rfl) rfl (pi_tupK K (pv 1)) (pg_name (i := 3) sc_is_list.nd rfl (.inl rfl)) (pss_cons (ps_if (pt_not (pt_val (pe_call (ok_is_pattern T) hr (by rfl) T.g_is_pattern T.F_is_pattern.kp T.b_is_pattern .nil pass0 (pa_cons (pv 0) (pa_cons (pv 3) pa_nil))))) (pss_one (ps_ret pe_bl)) pss_nil)
      (pss_cons (ps_if (PW.pt (pw_and (pt_cmpR op_notN (pv 2) pe_non (nomark _)) (pw_and1 (pt_not (pt_cmpR (op_ltTK (K := K) hr.units0) (pv 2) (pv 3) (nomark _)))))) (pss_one (ps_ret pe_bl)) pss_nil)
      (pss_one (ps_set (i := 2) sc_is_list.nd rfl (.inl rfl) (pv 3))))))
      (pss_one (ps_ret (pe_cmpR (op_inT (K := K) (room65 hr)) (pe_call (ok_all_columns T) (hr.mono (by decide)) (by rfl) T.g_all_columns T.F_all_columns.kp T.b_all_columns .nil pass0 (pa_cons (pv 0) pa_nil)) (pv 1) (by rfl)))))))), ?_⟩
    refine ⟨_, rfl, spD_bl (.cons hv .nil) rfl fun H1 s1 => ⟨_, rfl, ?_⟩⟩
    cases hw : d.isW with
    | false => exact iteT (iteT (q H1 s1))
    | true =>
      refine iteF ?_
      cases d with
      | int c =>
        cases hv
        have hd' : (decide (1 ≤ c) && decide (c ≤ 5)) = false := hd
        refine ⟨_, rfl, _, _, rfl, rfl, _, rfl, ?_⟩
        refine ite2 (fun h1 => ?_) (fun h1 => ?_)
        · refine ⟨_, _, rfl, rfl, _, rfl, ?_⟩
          rw [h1, Bool.true_and] at hd'
          rw [hd']
          exact iteT (q H1 s1)
        · exact ⟨_, rfl, iteT (q H1 s1)⟩
      | _ => cases hw
def spXContents (T : Txt K mg) : Sp := fun vs H Q E => spAll K vs H Q L2.E0 ∨ spW1 K T.c_BadSizes vs H Q E
def spXIsBox (T : Txt K mg) : Sp := fun vs H Q E => spIsBox K vs H Q L2.E0 ∨ ∃ v u d, vs = [v, u] ∧ Dh K H v d ∧ d.isSizes = false ∧ ∀ H', Same H H' → E (.ref T.c_BadSizes) none H'
def spXBoxAt (T : Txt K mg) : Sp := fun vs H Q E => spBoxAt K vs H Q L2.E0 ∨ ∃ v v1 v2 d d1 d2 C, vs = [v, v1, v2] ∧ Dh K H v d ∧ Dh K H v1 d1 ∧ Dh K H v2 d2 ∧ wBoxAt T d d1 d2 C ∧ ∀ H', Same H H' → E (.ref C) none H'
def spXInBox (T : Txt K mg) : Sp := fun vs H Q E => spInBox K vs H Q L2.E0 ∨ ∃ v v1 d d1 C, vs = [v, v1] ∧ Dh K H v d ∧ Dh K H v1 d1 ∧ wBox T d [d1] C ∧ ∀ H', Same H H' → E (.ref C) none H'
def spXBoth (T : Txt K mg) : Sp := fun vs H Q E => spBoth K vs H Q L2.E0 ∨ ∃ v v1 v2 d d1 d2 C, vs = [v, v1, v2] ∧ Dh K H v d ∧ Dh K H v1 d1 ∧ Dh K H v2 d2 ∧ wBox T d [d1, d2] C ∧ ∀ H', Same H H' → E (.ref C) none H'
def spXIsList (T : Txt K mg) : Sp := fun vs H Q E => spList K vs H Q L2.E0 ∨ ∃ v u d, vs = [v, u] ∧ Dh K H v d ∧ d.inI 1 5 = false ∧ ∀ H', Same H H' → E (.ref T.c_NoNumber) none H'
theorem okx_contents (T : Txt K mg) : FnOk P w K mg base (L2.CX P w) 3 T.f_contents T.d_contents ["sizes"] (spXContents T) := FnOk.orX (ok_contents T) (okw_contents T)
theorem okx_is_box (T : Txt K mg) : FnOk P w K mg base (L2.CX P w) 4 T.f_is_box T.d_is_box ["sizes", "thing"] (spXIsBox T) := FnOk.orX (ok_is_box T) (okw_is_box T)
theorem okx_box_at (T : Txt K mg) : FnOk P w K mg base (L2.CX P w) 3 T.f_box_at T.d_box_at ["sizes", "pattern", "content"] (spXBoxAt T) := FnOk.orX (ok_box_at T) (okw_box_at T)
theorem okx_in_box (T : Txt K mg) : FnOk P w K mg base (L2.CX P w) 4 T.f_in_box T.d_in_box ["sizes", "box"] (spXInBox T) := FnOk.orX (ok_in_box T) (okw_in_box T)
theorem okx_both (T : Txt K mg) : FnOk P w K mg base (L2.CX P w) 4 T.f_both T.d_both ["sizes", "box", "other"] (spXBoth T) := FnOk.orX (ok_both T) (okw_both T)
theorem okx_is_list (T : Txt K mg) : FnOk P w K mg base (L2.CX P w) 3 T.f_is_list T.d_is_list ["columns", "thing"] (spXIsList T) := FnOk.orX (ok_is_list T) (okw_is_list T)
/-- the word for an error's class -/
inductive Wd (T : Txt K mg) : Addr → Str → Prop
  | s : Wd T T.c_BadSizes "sizes"
  | p : Wd T T.c_NoPattern "pattern"
  | c : Wd T T.c_NoContent "content"
  | b : Wd T T.c_NoBox "box"
  | n : Wd T T.c_NoNumber "number"
def tsWord (T : Txt K mg) (a : Addr) (cls : Value) (d : Option Addr) : TS :=
  tSeq (tAsg (tLst (tCons (tCB (rIsE2 K cls d a) (tCons (tVar 5) (tCons (tC (V.ref T.c_BadSizes)) tNil))) (tCons (tCB (rIsE2 K cls d a) (tCons (tVar 5) (tCons (tC (V.ref T.c_NoPattern)) tNil))) (tCons (tCB (rIsE2 K cls d a) (tCons (tVar 5) (tCons (tC (V.ref T.c_NoContent)) tNil)))
      (tCons (tCB (rIsE2 K cls d a) (tCons (tVar 5) (tCons (tC (V.ref T.c_NoBox)) tNil))) tNil))))) (gName 6))
    (tSeq (tDrop (tBM K "list" rAppend (tVar 6) (tCons (tCB (rIsE2 K cls d a) (tCons (tVar 5) (tCons (tC (V.ref T.c_NoNumber)) tNil))) tNil)))
      (tSeq (tAsg (tC (V.str (Str.ofString "strange"))) (gName 4))
        (tIfS (tTest (tOp rEq (tBM K "list" (rCntD K) (tVar 6) (tCons (tC (V.bl true)) tNil)) (tC (V.int 1))))
          (tAsg (tOp (rIxL K) (tLst (tCons (tC (V.str (Str.ofString "sizes"))) (tCons (tC (V.str (Str.ofString "pattern"))) (tCons (tC (V.str (Str.ofString "content"))) (tCons (tC (V.str (Str.ofString "box"))) (tCons (tC (V.str (Str.ofString "number"))) tNil))))))
            (tBM K "list" (rIndexD K) (tVar 6) (tCons (tC (V.bl true)) tNil))) (gName 4)) tNext)))
theorem word_in (T : Txt K mg) {C a : Addr} {D : Ends} {z0 z1 z2 z3 z4 z6 : Option V} {H : Hp} {wd : Str} {b1 b2 b3 b4 b5 : Bool} {j : Nat} (he : ExcC K C) (k1 : PySem.W.kitOne K (.ref C) (.ref T.c_BadSizes) = some b1) (k2 : PySem.W.kitOne K (.ref C) (.ref T.c_NoPattern) = some b2) (k3 : PySem.W.kitOne K (.ref C) (.ref T.c_NoContent) = some b3)
    (k4 : PySem.W.kitOne K (.ref C) (.ref T.c_NoBox) = some b4) (k5 : PySem.W.kitOne K (.ref C) (.ref T.c_NoNumber) = some b5) (hc : ([b1, b2, b3, b4, b5].countP fun b => b) = 1) (hj : [b1, b2, b3, b4, b5][j]? = some true) (hm : ∀ m, m < j → ∀ b, [b1, b2, b3, b4, b5][m]? = some b → b = false)
    (hwd : ([V.str "sizes", .str "pattern", .str "content", .str "box", .str "number"] : List V)[j]? = some (.str wd)) (q : ∀ y6 H', Same H H' → D.nx [z0, z1, z2, z3, some (.str wd), some (.ref a), y6] H') :
    tsWord T a (.ref C) none D [z0, z1, z2, z3, z4, some (.ref a), z6] H := by
  refine ⟨_, rfl, C, rfl, rfl, he, _, _, _, rfl, fun u h => h, k1, _, rfl, C, rfl, rfl, he, _, _, _, rfl, fun u h => h, k2, _, rfl, C, rfl, rfl, he, _, _, _, rfl, fun u h => h, k3, _, rfl, C, rfl, rfl, he, _, _, _, rfl, fun u h => h, k4, ⟨by show 4 ≤ sizeLine; decide, fun l nl => ?_⟩⟩
  have s1 : Same H (upd H l (.lst [.bl b1, .bl b2, .bl b3, .bl b4])) := same_new nl
  refine ⟨_, rfl, .inl ⟨rfl, _, SqL.of upd_same⟩, _, rfl, C, rfl, rfl, he, _, _, _, rfl, fun u h => h, k5, ?_⟩
  refine ⟨l, _, _, rfl, rfl, upd_same, by show 4 < sizeLine; decide, ?_⟩
  have s2 : Same H (upd (upd H l (.lst [.bl b1, .bl b2, .bl b3, .bl b4])) l (.lst ([.bl b1, .bl b2, .bl b3, .bl b4] ++ [.bl b5]))) := Same.put nl s1
  have hl : (upd (upd H l (.lst [.bl b1, .bl b2, .bl b3, .bl b4])) l (.lst ([.bl b1, .bl b2, .bl b3, .bl b4] ++ [.bl b5]))) l = some (.lst ([b1, b2, b3, b4, b5].map V.bl)) := upd_same
  generalize upd (upd H l (.lst [.bl b1, .bl b2, .bl b3, .bl b4])) l (.lst ([.bl b1, .bl b2, .bl b3, .bl b4] ++ [.bl b5])) = H2 at s2 hl ⊢
  have hdp : Dp K H2 (.ref l) (.list ([b1, b2, b3, b4, b5].map PyData.bool)) := .lst (SqL.of hl) (.cons (.bl _) (.cons (.bl _) (.cons (.bl _) (.cons (.bl _) (.cons (.bl _) .nil)))))
  have hsh : SeqAt.shaped (.list ([b1, b2, b3, b4, b5].map PyData.bool)) = true := by rfl
  refine ⟨_, rfl, .inl ⟨rfl, _, SqL.of hl⟩, l, .bl true, .bool true, _, rfl, rfl, hdp, .bl true, hsh, by rfl, ?_⟩
  have ec : (([b1, b2, b3, b4, b5].map PyData.bool).countP fun z => PyData.eqv z (.bool true)) = 1 := by
    rw [List.countP_map, ← hc]
    congr 1
    funext b
    show PyData.eqv (.bool b) (.bool true) = b
    rw [PyData.eqv]
    cases b <;> rfl
  refine ⟨rfl, _, rfl, ?_⟩
  rw [ec, dec_int]
  refine iteT ?_
  refine ⟨by show 5 ≤ sizeLine; decide, fun l2 nl2 => ?_⟩
  have s3 : Same H2 (upd H2 l2 (.lst [.str "sizes", .str "pattern", .str "content", .str "box", .str "number"])) := same_new nl2
  have hl2 : (upd H2 l2 (.lst [.str "sizes", .str "pattern", .str "content", .str "box", .str "number"])) l2 = some (.lst [.str "sizes", .str "pattern", .str "content", .str "box", .str "number"]) := upd_same
  generalize upd H2 l2 (.lst [.str "sizes", .str "pattern", .str "content", .str "box", .str "number"]) = H3 at s3 hl2 ⊢
  have hl3 := s3 _ _ hl
  have hdp3 : Dp K H3 (.ref l) (.list ([b1, b2, b3, b4, b5].map PyData.bool)) := .lst (SqL.of hl3) (.cons (.bl _) (.cons (.bl _) (.cons (.bl _) (.cons (.bl _) (.cons (.bl _) .nil)))))
  have eb : ∀ b : Bool, PyData.eqv (.bool b) (.bool true) = b := fun b => by
    rw [PyData.eqv]
    cases b <;> rfl
  refine ⟨_, rfl, .inl ⟨rfl, _, SqL.of hl3⟩, l, .bl true, .bool true, _, j, .bool true, rfl, rfl, hdp3, .bl true, hsh, by rfl, ?_, eb true, fun m z' hm2 hz => ?_, ?_⟩
  · rw [List.getElem?_map, hj]
    rfl
  · rw [List.getElem?_map] at hz
    obtain ⟨b, hb, rfl⟩ := Option.map_eq_some_iff.mp hz
    rw [eb]
    exact hm m hm2 b hb
  · exact ⟨l2, _, _, _, rfl, rfl, SqL.of hl2, at_of (j := j) rfl hwd, q _ H3 (s2.trans s3)⟩
theorem word_caught (T : Txt K mg) {C : Addr} {wd : Str} (hw : Wd T C wd) {D : Ends} {z0 z1 z2 z3 z4 z5 z6 : Option V} {H : Hp} (q : ∀ y6 H', Same H H' → D.nx [z0, z1, z2, z3, some (.str wd), none, y6] H') :
    wAs K (Value.ref T.c_MaskError) 5 (tsWord T) (fun _ _ _ _ => False) D (.ref C) none [z0, z1, z2, z3, z4, z5, z6] H := by
  cases hw with
  | s => exact ⟨true, T.x_BadSizes, fun _ a na => word_in T (j := 0) T.e_BadSizes T.q_BadSizes_BadSizes T.q_BadSizes_NoPattern T.q_BadSizes_NoContent T.q_BadSizes_NoBox T.q_BadSizes_NoNumber rfl rfl (fun m h => absurd h (Nat.not_lt_zero m)) rfl fun y H' s' => q y H' s', fun z => nomatch z⟩
  | p => exact ⟨true, T.x_NoPattern, fun _ a na => word_in T (j := 1) T.e_NoPattern T.q_NoPattern_BadSizes T.q_NoPattern_NoPattern T.q_NoPattern_NoContent T.q_NoPattern_NoBox T.q_NoPattern_NoNumber rfl rfl (fun m h b hb => match m, h, hb with | 0, _, hb => (Option.some.inj hb).symm) rfl fun y H' s' => q y H' s', fun z => nomatch z⟩
  | c => exact ⟨true, T.x_NoContent, fun _ a na => word_in T (j := 2) T.e_NoContent T.q_NoContent_BadSizes T.q_NoContent_NoPattern T.q_NoContent_NoContent T.q_NoContent_NoBox T.q_NoContent_NoNumber rfl rfl (fun m h b hb => match m, h, hb with | 0, _, hb => (Option.some.inj hb).symm | 1, _, hb => (Option.some.inj hb).symm) rfl fun y H' s' => q y H' s', fun z => nomatch z⟩
  | b => exact ⟨true, T.x_NoBox, fun _ a na => word_in T (j := 3) T.e_NoBox T.q_NoBox_BadSizes T.q_NoBox_NoPattern T.q_NoBox_NoContent T.q_NoBox_NoBox T.q_NoBox_NoNumber rfl rfl (fun m h b hb => match m, h, hb with | 0, _, hb => (Option.some.inj hb).symm | 1, _, hb => (Option.some.inj hb).symm | 2, _, hb => (Option.some.inj hb).symm) rfl fun y H' s' => q y H' s', fun z => nomatch z⟩
  | n => exact ⟨true, T.x_NoNumber, fun _ a na => word_in T (j := 4) T.e_NoNumber T.q_NoNumber_BadSizes T.q_NoNumber_NoPattern T.q_NoNumber_NoContent T.q_NoNumber_NoBox T.q_NoNumber_NoNumber rfl rfl (fun m h b hb => match m, h, hb with | 0, _, hb => (Option.some.inj hb).symm | 1, _, hb => (Option.some.inj hb).symm | 2, _, hb => (Option.some.inj hb).symm | 3, _, hb => (Option.some.inj hb).symm) rfl fun y H' s' => q y H' s', fun z => nomatch z⟩
/-- what is a content, a box, by its data -/
theorem isCont_inv {ss : List Int} {d : Dt} (h : d.isCont ss = true) : ∃ c, d = ctD c ∧ IsCt ss c := by
  cases d with
  | tup ds =>
    have h' : (ds.length == ss.length && contGo ss ds) = true := h
    rw [Bool.and_eq_true] at h'
    have hl : ds.length = ss.length := by simpa using h'.1
    have key : ∀ (ss : List Int) (ds : List Dt), ds.length = ss.length → contGo ss ds = true → ∃ c : List Int, ds = c.map Dt.int := by
      intro ss
      induction ss with
      | nil =>
        intro ds hl _
        exact ⟨[], List.eq_nil_of_length_eq_zero hl⟩
      | cons s ss ih =>
        intro ds hl hc
        match ds, hl, hc with
        | d :: ds, hl, hc =>
          cases d with
          | int i =>
            have z : (if 0 ≤ i ∧ i < s then contGo ss ds else false) = true := hc
            by_cases y : 0 ≤ i ∧ i < s
            · rw [if_pos y] at z
              obtain ⟨c, rfl⟩ := ih ds (by simpa using hl) z
              exact ⟨i :: c, rfl⟩
            · rw [if_neg y] at z
              cases z
          | _ => cases hc
    obtain ⟨c, rfl⟩ := key ss ds hl h'.2
    exact ⟨c, rfl, h⟩
  | _ => cases h
theorem isBox_inv {ss : List Int} {d : Dt} (h : d.isBox ss = true) : ∃ ps ws, d = boxD ps ws ∧ BoxOk ss ps ws := by
  cases d with
  | tup ds =>
    match ds, h with
    | [p, w], h =>
      have h' : (p.isPat ss.length && w.isCont (picks p.ints ss)) = true := h
      rw [Bool.and_eq_true] at h'
      obtain ⟨ps, rfl, asc⟩ := isPat_ct h'.1
      rw [ints_ct] at h'
      obtain ⟨ws, rfl, hc⟩ := isCont_inv h'.2
      exact ⟨ps, ws, rfl, asc, hc⟩
  | _ => cases h
def spWord (K : PySem.W.Frag) : Sp := fun vs H Q _ => ∃ (w : Int) (v1 v2 v3 : V) (s a b : Dt), vs = [.int w, v1, v2, v3] ∧ 0 ≤ w ∧ w ≤ 5 ∧ Dh K H v1 s ∧ Dh K H v2 a ∧ Dh K H v3 b ∧ ∀ H', Same H H' → Q (.str (wordD w s a b)) H'
theorem ok_law_word (T : Txt K mg) : FnOk P w K mg base CX0 5 T.f_law_word T.d_law_word ["which", "sizes", "first", "second"] (spWord K) := by
  refine T.F_law_word.ok sc_law_word (fun vs H Q E h => ?_) (fun cdv A outer s H vs Q E hr h => ?_)
  · obtain ⟨_, _, _, _, _, _, _, rfl, _⟩ := h
    rfl
  · obtain ⟨w, v1, v2, v3, sd, a, b, rfl, w0, w5, h1, h2, h3, q⟩ := h
    refine' ⟨_, ?dr, ?rd⟩
    case dr =>
      refine' (pss_cons (ps_set (i := 4) sc_law_word.nd rfl (.inl rfl) pe_str)
      (pss_cons ?tr
      (pss_one (ps_ret (pv 4)))))
      case tr =>
        refine' ps_try_as (i := 5) rfl rfl sc_law_word.nd rfl rfl ⟨rfl, by decide, .inl T.g_MaskError⟩ takes0 (fun W pn xe tk _ => ?tb) (fun a oe cls d pn hz hf => ?ts)
        case tb => exact (pss_one (ps_if (pt_cmpR op_eq (pv 0) pe_int (nomark _)) (pss_one (ps_expr (pe_callS (okx_contents T) (hr.mono (by decide)) (by rfl) T.g_contents T.F_contents.kp T.b_contents (fun σ => passAt tk σ) (pa_cons (pv 1) pa_nil)))) (pss_one (ps_if (pt_cmpR op_eq (pv 0) pe_int (nomark _)) (pss_one (ps_expr (pe_callS (okx_box_at T) (hr.mono (by decide)) (by rfl) T.g_box_at T.F_box_at.kp T.b_box_at (fun σ => passAt tk σ) (pa_cons (pv 1) (pa_cons (pv 2) (pa_cons (pv 3) pa_nil)))))) (pss_one (ps_if (pt_cmpR op_eq (pv 0) pe_int (nomark _)) (pss_one (ps_expr (pe_callS (okx_in_box T) (hr.mono (by decide)) (by rfl) T.g_in_box T.F_in_box.kp T.b_in_box (fun σ => passAt tk σ) (pa_cons (pv 1) (pa_cons (pv 2) pa_nil))))) (pss_one (ps_if (pt_cmpR op_eq (pv 0) pe_int (nomark _)) (pss_one (ps_expr (pe_callS (okx_both T) (hr.mono (by decide)) (by rfl) T.g_both T.F_both.kp T.b_both (fun σ => passAt tk σ) (pa_cons (pv 1) (pa_cons (pv 2) (pa_cons (pv 3) pa_nil)))))) (pss_one (ps_if (pt_cmpR op_eq (pv 0) pe_int (nomark _)) (pss_one (ps_expr (pe_callS (okx_is_box T) (hr.mono (by decide)) (by rfl) T.g_is_box T.F_is_box.kp T.b_is_box (fun σ => passAt tk σ) (pa_cons (pv 1) (pa_cons (pv 2) pa_nil))))) (pss_one (ps_expr (pe_callS (okx_is_list T) (hr.mono (by decide)) (by rfl) T.g_is_list T.F_is_list.kp T.b_is_list (fun σ => passAt tk σ) (pa_cons (pv 1) (pa_cons (pv 2) pa_nil)))))))))))))))
        case ts => exact (pss_cons (ps_set (i := 6) sc_law_word.nd rfl (.inl rfl) (pe_lst (pa_cons (pe_callB (by exact call_isE2 (K := K) hz hf) (by rfl) T.z_isinstance (by decide +kernel) (pa_cons (pv 5) (pa_cons (pe_glob (by rfl) T.g_BadSizes (show L2.RelV (.ref T.c_BadSizes) _ from rfl)) pa_nil))) (pa_cons (pe_callB (by exact call_isE2 (K := K) hz hf) (by rfl) T.z_isinstance (by decide +kernel) (pa_cons (pv 5) (pa_cons (pe_glob (by rfl) T.g_NoPattern (show L2.RelV (.ref T.c_NoPattern) _ from rfl)) pa_nil))) (pa_cons (pe_callB (by exact call_isE2 (K := K) hz hf) (by rfl) T.z_isinstance (by decide +kernel) (pa_cons (pv 5) (pa_cons (pe_glob (by rfl) T.g_NoContent (show L2.RelV (.ref T.c_NoContent) _ from rfl)) pa_nil))) (pa_cons (pe_callB (by exact call_isE2 (K := K) hz hf) (by rfl) T.z_isinstance (by decide +kernel) (pa_cons (pv 5) (pa_cons (pe_glob (by rfl) T.g_NoBox (show L2.RelV (.ref T.c_NoBox) _ from rfl)) pa_nil))) pa_nil))))))
      (pss_cons (ps_expr (pe_bmK (K := K) PySem.F.plainAttrs_list PySem.F.slot_list_append PySem.F.type_list_append mt_append (pv 6) (pa_cons (pe_callB (by exact call_isE2 (K := K) hz hf) (by rfl) T.z_isinstance (by decide +kernel) (pa_cons (pv 5) (pa_cons (pe_glob (by rfl) T.g_NoNumber (show L2.RelV (.ref T.c_NoNumber) _ from rfl)) pa_nil))) pa_nil)))
      (pss_cons (ps_set (i := 4) sc_law_word.nd rfl (.inl rfl) pe_str)
      (pss_one (ps_if (pt_cmpR op_eq (pe_bmK (K := K) PySem.F.plainAttrs_list PySem.F.slot_list_count PySem.F.type_list_count (mt_countD (K := K) (by exact (room65 hr : _))) (pv 6) (pa_cons pe_bl pa_nil)) pe_int (nomark _)) (pss_one (ps_set (i := 4) sc_law_word.nd rfl (.inl rfl) (pe_ix (ix_listK K) (pe_lst (pa_cons pe_str (pa_cons pe_str (pa_cons pe_str (pa_cons pe_str (pa_cons pe_str pa_nil)))))) (pe_bmK (K := K) PySem.F.plainAttrs_list PySem.F.slot_list_index PySem.F.type_list_index (mt_indexK (K := K) (by exact (room65 hr : _))) (pv 6) (pa_cons pe_bl pa_nil)) (fun _ _ => rfl)))) pss_nil)))))
    case rd =>
      have fin : ∀ wd : Str, wordD w sd a b = wd → ∀ H', Same H H' → Q (.str wd) H' := fun wd e H' s' => e ▸ q H' s'
      have bad : w ≠ 5 → sd.isSizes = false → wordD w sd a b = "sizes" := fun h5 hs => by
        unfold wordD
        rw [if_neg h5, hs, if_neg Bool.false_ne_true]
      have good : w ≠ 5 → sd.isSizes = true → wordD w sd a b = (if w = 1 then (if a.isPat sd.ints.length = true then (if b.isCont sd.ints = true then ("let" : Str) else ("content" : Str)) else ("pattern" : Str)) else if ((w = 2 ∨ w = 3) ∧ a.isBox sd.ints = false) ∨ (w = 3 ∧ b.isBox sd.ints = false) then ("box" : Str) else ("let" : Str)) := fun h5 hs => by
        unfold wordD
        rw [if_neg h5, hs, if_pos rfl]
      have h05 : w = 0 ∨ w = 1 ∨ w = 2 ∨ w = 3 ∨ w = 4 ∨ w = 5 := by omega
      rcases h05 with rfl | rfl | rfl | rfl | rfl | rfl
      · refine ⟨_, rfl, rfl, _, rfl, iteT ?_⟩
        refine ⟨_, rfl, ?_⟩
        cases es : sd.isSizes with
        | false => exact .inr ⟨v1, sd, rfl, h1, es, fun H' s' => word_caught T .s fun y6 H2 s2 => ⟨_, rfl, fin _ (bad (by decide) es) H2 (s'.trans s2)⟩⟩
        | true =>
          obtain ⟨ss, rfl, ok⟩ := isSizes_inv es
          obtain ⟨sa, rfl, hsa⟩ := ct_inv h1
          exact .inl ⟨sa, ss, rfl, hsa, ok, fun p xs H' np s' hp hx => ⟨_, rfl, fin _ (good (by decide) es) H' s'⟩⟩
      · refine ⟨_, rfl, rfl, _, rfl, iteF ?_⟩
        refine ⟨_, rfl, rfl, _, rfl, iteT ?_⟩
        refine ⟨_, rfl, _, rfl, _, rfl, ?_⟩
        cases es : sd.isSizes with
        | false => exact .inr ⟨v1, v2, v3, sd, a, b, _, rfl, h1, h2, h3, .inl ⟨es, rfl⟩, fun H' s' => word_caught T .s fun y6 H2 s2 => ⟨_, rfl, fin _ (bad (by decide) es) H2 (s'.trans s2)⟩⟩
        | true =>
          have gd := good (by decide) es
          rw [if_pos rfl] at gd
          obtain ⟨ss, rfl, ok⟩ := isSizes_inv es
          rw [ints_ct] at gd
          cases ep : a.isPat ss.length with
          | false =>
            rw [ep, if_neg Bool.false_ne_true] at gd
            exact .inr ⟨v1, v2, v3, ctD ss, a, b, _, rfl, h1, h2, h3, .inr ⟨ss, rfl, ok, .inl ⟨ep, rfl⟩⟩, fun H' s' => word_caught T .p fun y6 H2 s2 => ⟨_, rfl, fin _ gd H2 (s'.trans s2)⟩⟩
          | true =>
            rw [ep, if_pos rfl] at gd
            cases ec : b.isCont ss with
            | false =>
              rw [ec, if_neg Bool.false_ne_true] at gd
              exact .inr ⟨v1, v2, v3, ctD ss, a, b, _, rfl, h1, h2, h3, .inr ⟨ss, rfl, ok, .inr ⟨ep, ec, rfl⟩⟩, fun H' s' => word_caught T .c fun y6 H2 s2 => ⟨_, rfl, fin _ gd H2 (s'.trans s2)⟩⟩
            | true =>
              rw [ec, if_pos rfl] at gd
              obtain ⟨ps, rfl, asc⟩ := isPat_ct ep
              obtain ⟨c, rfl, hc⟩ := isCont_inv ec
              obtain ⟨sa, rfl, hsa⟩ := ct_inv h1
              exact .inl ⟨sa, ss, ps, c, _, _, rfl, hsa, ok, h2, asc, h3, hc, fun v H' s' hv => ⟨_, rfl, fin _ gd H' s'⟩⟩
      · refine ⟨_, rfl, rfl, _, rfl, iteF ?_⟩
        refine ⟨_, rfl, rfl, _, rfl, iteF ?_⟩
        refine ⟨_, rfl, rfl, _, rfl, iteT ?_⟩
        refine ⟨_, rfl, _, rfl, ?_⟩
        cases es : sd.isSizes with
        | false => exact .inr ⟨v1, v2, sd, a, _, rfl, h1, h2, .inl ⟨es, rfl⟩, fun H' s' => word_caught T .s fun y6 H2 s2 => ⟨_, rfl, fin _ (bad (by decide) es) H2 (s'.trans s2)⟩⟩
        | true =>
          have gd := good (by decide) es
          rw [if_neg (by decide)] at gd
          obtain ⟨ss, rfl, ok⟩ := isSizes_inv es
          rw [ints_ct] at gd
          cases eb : a.isBox ss with
          | false =>
            rw [if_pos (.inl ⟨.inl rfl, eb⟩)] at gd
            exact .inr ⟨v1, v2, ctD ss, a, _, rfl, h1, h2, .inr ⟨ss, rfl, ok, by rw [List.all_cons, eb]; rfl, rfl⟩, fun H' s' => word_caught T .b fun y6 H2 s2 => ⟨_, rfl, fin _ gd H2 (s'.trans s2)⟩⟩
          | true =>
            rw [if_neg (by
              rintro (⟨_, z⟩ | ⟨z, _⟩)
              · rw [eb] at z
                cases z
              · exact absurd z (by decide))] at gd
            obtain ⟨ps, ws, rfl, bx⟩ := isBox_inv eb
            obtain ⟨sa, rfl, hsa⟩ := ct_inv h1
            exact .inl ⟨sa, ss, ps, ws, _, rfl, hsa, ok, h2, bx, fun p xs H' np s' hp hx => ⟨_, rfl, fin _ gd H' s'⟩⟩
      · refine ⟨_, rfl, rfl, _, rfl, iteF ?_⟩
        refine ⟨_, rfl, rfl, _, rfl, iteF ?_⟩
        refine ⟨_, rfl, rfl, _, rfl, iteF ?_⟩
        refine ⟨_, rfl, rfl, _, rfl, iteT ?_⟩
        refine ⟨_, rfl, _, rfl, _, rfl, ?_⟩
        cases es : sd.isSizes with
        | false => exact .inr ⟨v1, v2, v3, sd, a, b, _, rfl, h1, h2, h3, .inl ⟨es, rfl⟩, fun H' s' => word_caught T .s fun y6 H2 s2 => ⟨_, rfl, fin _ (bad (by decide) es) H2 (s'.trans s2)⟩⟩
        | true =>
          have gd := good (by decide) es
          rw [if_neg (by decide)] at gd
          obtain ⟨ss, rfl, ok⟩ := isSizes_inv es
          rw [ints_ct] at gd
          cases eab : ([a, b].all fun e => e.isBox ss) with
          | false =>
            have hcond : ((3 : Int) = 2 ∨ (3 : Int) = 3) ∧ a.isBox ss = false ∨ (3 : Int) = 3 ∧ b.isBox ss = false := by
              rw [List.all_cons, List.all_cons, List.all_nil, Bool.and_true] at eab
              cases e1 : a.isBox ss with
              | false => exact .inl ⟨.inr rfl, rfl⟩
              | true =>
                rw [e1, Bool.true_and] at eab
                exact .inr ⟨rfl, eab⟩
            rw [if_pos hcond] at gd
            exact .inr ⟨v1, v2, v3, ctD ss, a, b, _, rfl, h1, h2, h3, .inr ⟨ss, rfl, ok, eab, rfl⟩, fun H' s' => word_caught T .b fun y6 H2 s2 => ⟨_, rfl, fin _ gd H2 (s'.trans s2)⟩⟩
          | true =>
            have e1 : a.isBox ss = true := List.all_eq_true.mp eab a (by simp)
            have e2 : b.isBox ss = true := List.all_eq_true.mp eab b (by simp)
            rw [if_neg (by
              rintro (⟨_, z⟩ | ⟨_, z⟩)
              · rw [e1] at z
                cases z
              · rw [e2] at z
                cases z)] at gd
            obtain ⟨ps, ws, rfl, bx⟩ := isBox_inv e1
            obtain ⟨qs, us, rfl, bx2⟩ := isBox_inv e2
            obtain ⟨sa, rfl, hsa⟩ := ct_inv h1
            exact .inl ⟨sa, ss, ps, ws, qs, us, _, _, rfl, hsa, ok, h2, bx, h3, bx2, fun v H' s' hv => ⟨_, rfl, fin _ gd H' s'⟩⟩
      · refine ⟨_, rfl, rfl, _, rfl, iteF ?_⟩
        refine ⟨_, rfl, rfl, _, rfl, iteF ?_⟩
        refine ⟨_, rfl, rfl, _, rfl, iteF ?_⟩
        refine ⟨_, rfl, rfl, _, rfl, iteF ?_⟩
        refine ⟨_, rfl, rfl, _, rfl, iteT ?_⟩
        refine ⟨_, rfl, _, rfl, ?_⟩
        cases es : sd.isSizes with
        | false => exact .inr ⟨v1, v2, sd, rfl, h1, es, fun H' s' => word_caught T .s fun y6 H2 s2 => ⟨_, rfl, fin _ (bad (by decide) es) H2 (s'.trans s2)⟩⟩
        | true =>
          have gd := good (by decide) es
          rw [if_neg (by decide), if_neg (by
            rintro (⟨z, _⟩ | ⟨z, _⟩)
            · exact absurd z (by decide)
            · exact absurd z (by decide))] at gd
          obtain ⟨ss, rfl, ok⟩ := isSizes_inv es
          obtain ⟨sa, rfl, hsa⟩ := ct_inv h1
          exact .inl ⟨sa, ss, v2, a, rfl, hsa, ok, h2, fun H' s' => ⟨_, rfl, fin _ gd H' s'⟩⟩
      · refine ⟨_, rfl, rfl, _, rfl, iteF ?_⟩
        refine ⟨_, rfl, rfl, _, rfl, iteF ?_⟩
        refine ⟨_, rfl, rfl, _, rfl, iteF ?_⟩
        refine ⟨_, rfl, rfl, _, rfl, iteF ?_⟩
        refine ⟨_, rfl, rfl, _, rfl, iteF ?_⟩
        refine ⟨_, rfl, _, rfl, ?_⟩
        have w5' : wordD 5 sd a b = (if sd.inI 1 5 = true then ("let" : Str) else ("number" : Str)) := by
          unfold wordD
          rw [if_pos rfl]
        cases ei : sd.inI 1 5 with
        | false =>
          rw [ei, if_neg Bool.false_ne_true] at w5'
          exact .inr ⟨v1, v2, sd, rfl, h1, ei, fun H' s' => word_caught T .n fun y6 H2 s2 => ⟨_, rfl, fin _ w5' H2 (s'.trans s2)⟩⟩
        | true =>
          rw [ei, if_pos rfl] at w5'
          cases sd with
          | int i =>
            cases h1
            have z : (decide (1 ≤ i) && decide (i ≤ 5)) = true := ei
            rw [Bool.and_eq_true, decide_eq_true_eq, decide_eq_true_eq] at z
            obtain ⟨n, rfl⟩ := Int.eq_ofNat_of_zero_le (show 0 ≤ i by omega)
            exact .inl ⟨n, v2, a, rfl, by omega, by omega, h2, fun H' s' => ⟨_, rfl, fin _ w5' H' s'⟩⟩
          | _ => cases ei

end
end Fm
namespace Fm
open PySem PySem.Spec PyProof.Rows L2
section
variable {P : Program} {w : World} {K : PySem.W.Frag} {mg : Str → Option Value} {base : Heap}

/-! ### odd things -/
structure Sm (d : Dt) : Prop where
  s1 : d.short
  s2 : d.short2
def Good (K : PySem.W.Frag) (H : Hp) (x : V) : Prop := ∃ d, Dh K H x d ∧ Sm d
theorem Good.ext {H H' : Hp} {x : V} (e : Ext H H') : Good K H x → Good K H' x := fun ⟨d, h, s⟩ => ⟨d, h.ext e, s⟩
theorem Good.non {H : Hp} : Good K H .non := ⟨_, .non, True.intro, True.intro⟩
theorem Good.bl {H : Hp} (b : Bool) : Good K H (.bl b) := ⟨_, .bl b, True.intro, True.intro⟩
theorem Good.int {H : Hp} (i : Int) : Good K H (.int i) := ⟨_, .int i, True.intro, True.intro⟩
theorem Good.str {H : Hp} (x : Str) : Good K H (.str x) := ⟨_, .str x, True.intro, True.intro⟩
theorem Good.lst {H : Hp} {a : Addr} {xs : List V} (h : H a = some (.lst xs)) : Good K H (.ref a) :=
  ⟨_, .oth (.base (.lst h)) (kit_ty (show kitB "list" "int" = some false by decide +kernel)) (kit_ty (show kitB "list" "tuple" = some false by decide +kernel)), True.intro, True.intro⟩
theorem Good.dct {H : Hp} {a : Addr} {kvs : List (Key × V)} (h : H a = some (.dK kvs)) : Good K H (.ref a) :=
  ⟨_, .oth (.base (.dK h)) (kit_ty (show kitB "dict" "int" = some false by decide +kernel)) (kit_ty (show kitB "dict" "tuple" = some false by decide +kernel)), True.intro, True.intro⟩
theorem goods_data {H : Hp} : ∀ {xs : List V}, (∀ x ∈ xs, Good K H x) → ∃ ds, DhAll K H xs ds ∧ ∀ d ∈ ds, Sm d
  | [], _ => ⟨[], .nil, fun d hd => by cases hd⟩
  | x :: xs, h => by
    obtain ⟨d, hd, sd⟩ := h x (List.mem_cons_self ..)
    obtain ⟨ds, hds, sds⟩ := goods_data fun y hy => h y (List.mem_cons_of_mem _ hy)
    refine ⟨d :: ds, .cons hd hds, fun e he => ?_⟩
    rcases List.mem_cons.mp he with z | z
    · rw [z]
      exact sd
    · exact sds e z
theorem Good.tup {H : Hp} {a : Addr} {xs : List V} (h : SqT K H a xs) (hl : xs.length ≤ 1000) (hx : ∀ x ∈ xs, Good K H x) : Good K H (.ref a) := by
  obtain ⟨ds, hds, sds⟩ := goods_data hx
  have e := hds.length
  exact ⟨_, .tup h hds, by show ds.length ≤ 1000; omega, by show ds.length ≤ 1000; omega, fun d hd => (sds d hd).s1⟩
theorem good_ct {H : Hp} {v : V} {c : List Int} (h : Dh K H v (ctD c)) (hl : c.length ≤ 1000) : Good K H v := by
  obtain ⟨a, rfl, s⟩ := ct_inv h
  refine .tup s (by rw [List.length_map]; exact hl) fun x hx => ?_
  obtain ⟨i, _, rfl⟩ := List.mem_map.mp hx
  exact .int i
def spThing (K : PySem.W.Frag) : Sp := fun vs H Q _ => ∃ h c, vs = [.ref h] ∧ HandOk H h c ∧ ∀ v H', Keep h c H H' → Good K H' v → Q v H'
/-- one of some -/
theorem some_of {H : Hp} {h c p : Addr} {xs : List V} {Q : VK} (hx : HandOk H h c) (ne : p ≠ h) (hp : H p = some (.lst xs)) (l0 : 0 < xs.length) (l1 : xs.length < 1000) (hg : ∀ x ∈ xs, Good K H x) (q : ∀ x H', x ∈ xs → Keep h c H H' → Good K H' x → Q x H') : spSome K [.ref h, .ref p] H Q E0 :=
  ⟨h, c, p, xs, rfl, hx, ne, hp, l0, by omega, fun x H' hm k => q x H' hm k ((hg x hm).ext (Keep.ext hx k))⟩
theorem ok_law_deep (T : Txt K mg) : FnOk P w K mg base CX0 3 T.f_law_deep T.d_law_deep ["hand"] (spThing K) := by
  refine T.F_law_deep.ok sc_law_deep (fun vs H Q E h => ?_) (fun cdv A outer s H vs Q E hr h => ?_)
  · obtain ⟨_, _, rfl, _⟩ := h
    rfl
  · obtain ⟨h, c, rfl, hx, q⟩ := h
    refine ⟨_, (pss_cons (ps_set (i := 1) sc_law_deep.nd rfl (.inl rfl) (pe_call (ok_law_some T) hr (by rfl) T.g_law_some T.F_law_some.kp T.b_law_some .nil pass0 (pa_cons (pv 0) (pa_cons (pe_lst (pa_cons pe_non (pa_cons (pe_tup pa_nil) (pa_cons pe_int (pa_cons pe_str pa_nil))))) pa_nil))))
      (pss_cons (ps_for PassesOwn.never rfl (pi_range1 (by rfl) T.z_range (pa_cons (pe_op op_add pe_int (pe_call (ok_law_draw T) (hr.mono (by decide)) (by rfl) T.g_law_draw T.F_law_draw.kp T.b_law_draw .nil pass0 (pa_cons (pv 0) (pa_cons pe_int pa_nil)))) pa_nil)) (pg_name (i := 2) sc_law_deep.nd rfl (.inl rfl)) (pss_one (ps_set (i := 1) sc_law_deep.nd rfl (.inl rfl) (pe_call (ok_law_some T) hr (by rfl) T.g_law_some T.F_law_some.kp T.b_law_some .nil pass0 (pa_cons (pv 0) (pa_cons (pe_lst (pa_cons (pe_lst (pa_cons (pv 1) pa_nil)) (pa_cons (pe_tup (pa_cons (pv 1) pa_nil)) (pa_cons (pe_disp (pps_cons pe_int (pv 1) pps_nil) rfl rfl (by decide) (by decide)) pa_nil)))) pa_nil))))))
      (pss_one (ps_ret (pv 1))))), ?_⟩
    refine ⟨_, rfl, ⟨by show 0 ≤ sizeLine; decide, fun t nt => ⟨by show 4 ≤ sizeLine; decide, fun p np => ?_⟩⟩⟩
    have s1 : Same H (upd H t (.tup [])) := same_new nt
    have e1 : (upd H t (.tup [])) t = some (.tup []) := upd_same
    generalize upd H t (.tup []) = H1 at s1 e1 np ⊢
    have s2 : Same H1 (upd H1 p (.lst [.non, .ref t, .int 0, .str "a"])) := same_new np
    have e2 : (upd H1 p (.lst [.non, .ref t, .int 0, .str "a"])) p = some (.lst [.non, .ref t, .int 0, .str "a"]) := upd_same
    generalize upd H1 p (.lst [.non, .ref t, .int 0, .str "a"]) = H2 at s2 e2 ⊢
    have s12 := s1.trans s2
    refine some_of (K := K) (hx.same s12) (hx.ne (s1.free np)).1 e2 (by show 0 < 4; decide) (by show 4 < 1000; decide) (fun x hm => ?_) fun x H3 _ k3 g3 => ?_
    · simp only [List.mem_cons, List.not_mem_nil, or_false] at hm
      rcases hm with rfl | rfl | rfl | rfl
      · exact .non
      · exact .tup (SqT.of (s2 _ _ e1)) (by decide) (fun x hx => by cases hx)
      · exact .int 0
      · exact .str _
    · have k03 : Keep h c H H3 := (Keep.of hx s12).trans k3
      refine ⟨_, rfl, h, c, 7, rfl, k03.hand, by decide, by decide, fun d H4 d0 d1 k4 => ?_⟩
      have k04 := k03.trans k4
      have g4 := g3.ext (Keep.ext k03.hand k4)
      refine ⟨_, _, rfl, rfl, _, rfl, by omega, by omega, for_range (lo := 0) (n := (30 + d).toNat) (fun i σ H' => ∃ (v : V) (y2 : Option V), σ = [some (.ref h), some v, y2] ∧ Keep h c H H' ∧ Good K H' v) ⟨x, none, rfl, k04, g4⟩ ?_ ?_⟩
      · rintro i σ H0 hi ⟨v, y2, rfl, k0, g0⟩
        refine ⟨_, rfl, _, rfl, ⟨by show 1 ≤ sizeLine; decide, fun a1 n1 => ?_⟩⟩
        have t1 : Same H0 (upd H0 a1 (.lst [v])) := same_new n1
        have f1 : (upd H0 a1 (.lst [v])) a1 = some (.lst [v]) := upd_same
        generalize upd H0 a1 (.lst [v]) = K1 at t1 f1 ⊢
        refine ⟨_, rfl, ⟨by show 1 ≤ sizeLine; decide, fun a2 n2 => ?_⟩⟩
        have t2 : Same K1 (upd K1 a2 (.tup [v])) := same_new n2
        have f2 : (upd K1 a2 (.tup [v])) a2 = some (.tup [v]) := upd_same
        generalize upd K1 a2 (.tup [v]) = K2 at t2 f2 ⊢
        intro a3 n3
        refine ⟨_, rfl, upd_same, [(.inl 0, v)], rfl, by show 1 ≤ 15; decide, ⟨by show 3 ≤ sizeLine; decide, fun a4 n4 => ?_⟩⟩
        have t3 : Same K2 (upd (upd K2 a3 (.dK [])) a3 (.dK (mergeK [] [(.inl 0, v)]))) := Same.put n3 (same_new n3)
        have f3 : (upd (upd K2 a3 (.dK [])) a3 (.dK (mergeK [] [(.inl 0, v)]))) a3 = some (.dK (mergeK [] [(.inl 0, v)])) := upd_same
        generalize upd (upd K2 a3 (.dK [])) a3 (.dK (mergeK [] [(.inl 0, v)])) = K3 at t3 f3 n4 ⊢
        have t4 : Same K3 (upd K3 a4 (.lst [.ref a1, .ref a2, .ref a3])) := same_new n4
        have f4 : (upd K3 a4 (.lst [.ref a1, .ref a2, .ref a3])) a4 = some (.lst [.ref a1, .ref a2, .ref a3]) := upd_same
        generalize upd K3 a4 (.lst [.ref a1, .ref a2, .ref a3]) = K4 at t4 f4 ⊢
        have tA := ((t1.trans t2).trans t3).trans t4
        refine some_of (K := K) (k0.hand.same tA) (k0.hand.ne ((t1.trans t2).trans t3 |>.free n4)).1 f4 (by show 0 < 3; decide) (by show 3 < 1000; decide) (fun x hm => ?_) fun x H5 _ k5 g5 => ?_
        · simp only [List.mem_cons, List.not_mem_nil, or_false] at hm
          rcases hm with rfl | rfl | rfl
          · exact .lst (((t2.trans t3).trans t4) _ _ f1)
          · refine .tup (SqT.of ((t3.trans t4) _ _ f2)) (by show 1 ≤ 1000; decide) fun x hx => ?_
            rw [List.mem_singleton.mp hx]
            exact g0.ext (.of tA)
          · exact .dct (t4 _ _ f3)
        · exact ⟨_, _, rfl, (k0.same tA).trans k5, g5⟩
      · rintro σ H' ⟨v, y2, rfl, k0, g0⟩
        exact ⟨_, rfl, q v H' k0 g0⟩

end
end Fm
namespace Fm
open PySem PySem.Spec PyProof.Rows L2
section
variable {P : Program} {w : World} {K : PySem.W.Frag} {mg : Str → Option Value} {base : Heap}

/-! ### patterns drawn -/
def CtS (K : PySem.W.Frag) (H : Hp) (xs : List V) : Prop := ∀ x ∈ xs, ∃ c : List Int, Dh K H x (ctD c) ∧ c.length ≤ 5
theorem CtS.ext {H H' : Hp} {xs : List V} (e : Ext H H') (h : CtS K H xs) : CtS K H' xs := fun x hx => by
  obtain ⟨c, hc, hl⟩ := h x hx
  exact ⟨c, hc.ext e, hl⟩
theorem cts_data {H : Hp} : ∀ {xs : List V}, CtS K H xs → ∃ bs : List (V × PyData), bs.map (·.1) = xs ∧ ∀ b ∈ bs, ∃ c : List Int, Dh K H b.1 (ctD c) ∧ b.2 = ctP c
  | [], _ => ⟨[], rfl, fun b hb => by cases hb⟩
  | x :: xs, h => by
    obtain ⟨c, hc, _⟩ := h x (List.mem_cons_self ..)
    obtain ⟨bs, e, hb⟩ := cts_data (xs := xs) fun y hy => h y (List.mem_cons_of_mem _ hy)
    refine ⟨(x, ctP c) :: bs, by rw [List.map_cons, e], fun b hm => ?_⟩
    rcases List.mem_cons.mp hm with z | z
    · rw [z]
      exact ⟨c, hc, rfl⟩
    · exact hb b z
theorem sort_cts {H : Hp} {a : Addr} {xs : List V} {Q : VK} (hs : SqL K H a xs) (hc : CtS K H xs) (q : ∀ p ys, H p = none → ys.length = xs.length → (∀ y ∈ ys, y ∈ xs) → Q (.ref p) (upd H p (.lst ys))) : rSortTs K [.ref a] H Q := by
  obtain ⟨bs, e, hb⟩ := cts_data hc
  refine ⟨a, bs, rfl, by rw [e]; exact hs, fun b hm => ?_, ?_, fun p np => q p _ np ?_ fun y hy => ?_⟩
  · obtain ⟨c, h1, h2⟩ := hb b hm
    rw [h2]
    refine ⟨dp_ct h1, ⟨_, rfl⟩, ?_⟩
    have z := (lay_ct c).2
    omega
  · intro d hd d' hd'
    obtain ⟨b, hm, rfl⟩ := List.mem_map.mp hd
    obtain ⟨b', hm', rfl⟩ := List.mem_map.mp hd'
    obtain ⟨c, _, h2⟩ := hb b hm
    obtain ⟨c', _, h2'⟩ := hb b' hm'
    rw [h2, h2']
    show PySem.W.alikeAll (c.map PyData.int) (c'.map PyData.int) = true
    exact PySem.W.alike_ints c c'
  · rw [List.length_map, List.length_mergeSort, ← e, List.length_map]
  · obtain ⟨b, hm, rfl⟩ := List.mem_map.mp hy
    rw [← e]
    exact List.mem_map.mpr ⟨b, List.mem_mergeSort.mp hm, rfl⟩
def spPats (K : PySem.W.Frag) : Sp := fun vs H Q _ => ∃ n : Nat, vs = [.int n] ∧ n ≤ 5 ∧ ∀ p xs H', H p = none → Same H H' → H' p = some (.lst xs) → CtS K H' xs → xs.length ≤ 32 → Q (.ref p) H'
theorem ok_law_patterns (T : Txt K mg) : FnOk P w K mg base CX0 1 T.f_law_patterns T.d_law_patterns ["columns"] (spPats K) := by
  refine T.F_law_patterns.ok sc_law_patterns (fun vs H Q E h => ?_) (fun cdv A outer s H vs Q E hr h => ?_)
  · obtain ⟨_, rfl, _⟩ := h
    rfl
  · obtain ⟨n, rfl, hn, q⟩ := h
    refine ⟨_, (pss_cons (ps_set (i := 1) sc_law_patterns.nd rfl (.inl rfl) (pe_lst (pa_cons (pe_tup pa_nil) pa_nil)))
      (pss_cons (ps_for PassesOwn.never rfl (pi_range1 (by rfl) T.z_range (pa_cons (pv 0) pa_nil)) (pg_name (i := 2) sc_law_patterns.nd rfl (.inr rfl)) (pss_one (ps_set (i := 1) sc_law_patterns.nd rfl (.inl rfl) (pe_op op_cat (pv 1) (pe_lc (own := [("pattern", 3)]) rfl sc_law_patterns.nd (pi_listK K (pv 1)) (blkOk_by (N := N_law_patterns) (sc := defScope s_law_patterns) (by decide +kernel)) (fun _ _ _ _ _ => (pg_name (i := 3) sc_law_patterns.nd rfl (.inl rfl))) (fun _ _ _ _ _ => pts_nil) (fun _ _ _ _ _ => (pe_op (op_catK K) (pv 3) (pe_tup (pa_cons (pv 2) pa_nil)))))))))
      (pss_one (ps_ret (pe_callB (call_sortTsK (K := K) hr.units) (by rfl) T.z_sorted (by decide +kernel) (pa_cons (pv 1) pa_nil)))))), ?_⟩
    refine ⟨by show 0 ≤ sizeLine; decide, fun t nt => ⟨by show 1 ≤ sizeLine; decide, fun f nf => ?_⟩⟩
    have s1 : Same H (upd H t (.tup [])) := same_new nt
    have e1 : (upd H t (.tup [])) t = some (.tup []) := upd_same
    generalize upd H t (.tup []) = H1 at s1 e1 nf ⊢
    have s2 : Same H1 (upd H1 f (.lst [.ref t])) := same_new nf
    have e2 : (upd H1 f (.lst [.ref t])) f = some (.lst [.ref t]) := upd_same
    generalize upd H1 f (.lst [.ref t]) = H2 at s2 e2 ⊢
    have s12 := s1.trans s2
    refine ⟨_, rfl, n, rfl, by omega, by omega, for_range (lo := 0) (n := ((n : Nat) : Int).toNat) (fun i σ H' => ∃ (f : Addr) (xs : List V) (y2 y3 : Option V), σ = [some (.int n), some (.ref f), y2, y3] ∧ Same H H' ∧ H' f = some (.lst xs) ∧ (∀ x ∈ xs, ∃ c : List Int, Dh K H' x (ctD c) ∧ c.length ≤ i) ∧ xs.length ≤ 2 ^ i)
      ⟨f, _, none, none, rfl, s12, e2, fun x hx => ⟨[], by rw [List.mem_singleton.mp hx]; exact .tup (SqT.of (s2 _ _ e1)) .nil, by decide⟩, by show 1 ≤ 1; decide⟩ ?_ ?_⟩
    · rintro i σ H0 hi ⟨f, xs, y2, y3, rfl, sm, hf, hc, hlen⟩
      rw [Int.toNat_natCast] at hi
      have h32 : 2 ^ i ≤ 2 ^ 5 := Nat.pow_le_pow_right (by decide) (by omega)
      refine ⟨_, rfl, ?_⟩
      refine ⟨_, rfl, f, rfl, ⟨xs, SqL.of hf⟩, fun D nD => lc_list (K := K) (xs := xs) (fun j H' => ∃ acc, Same H0 H' ∧ H' D = some (.lst acc) ∧ acc.length = j ∧ ∀ x ∈ acc, ∃ c : List Int, Dh K H' x (ctD c) ∧ c.length ≤ i + 1) ⟨[], same_new nD, upd_same, rfl, fun x hx => by cases hx⟩ (fun j H' _ ⟨_, s', _⟩ => s'.seq (SqL.of hf)) ?_ ?_⟩
      · rintro j x H' hx ⟨acc, s', hD, hal, hac⟩
        obtain ⟨c, hxc, hcl⟩ := hc x (List.mem_of_getElem? hx)
        have hjl := (List.getElem?_eq_some_iff.mp hx).1
        refine ⟨rfl, ?_⟩
        dsimp only [tYes]
        rw [if_pos rfl]
        refine ⟨_, rfl, _, rfl, by show 1 ≤ sizeLine; decide, fun r nr => cat_ct (K := K) (c := c) (j := (0 + (i : Int))) (hxc.ext (.of (s'.trans (same_new nr)))) (by omega) upd_same fun v H3 s4 hv => ?_⟩
        have s5 : Same H' H3 := (same_new nr).trans s4
        refine ⟨acc, s5 _ _ hD, sz_small (by omega), acc ++ [v], Same.put nD (s'.trans s5), upd_same, by rw [List.length_append, hal]; rfl, fun y hy => ?_⟩
        have ep : Ext H3 (upd H3 D (.lst (acc ++ [v]))) := Ext.put (s5 _ _ hD)
        rcases List.mem_append.mp hy with hy | hy
        · obtain ⟨c', h1, h2⟩ := hac y hy
          exact ⟨c', (h1.ext (.of s5)).ext ep, h2⟩
        · rw [List.mem_singleton.mp hy]
          exact ⟨c ++ [0 + (i : Int)], hv.ext ep, by rw [List.length_append]; show c.length + 1 ≤ i + 1; omega⟩
      · rintro H' ⟨acc, s', hD, hal, hac⟩
        refine ⟨f, D, xs, acc, rfl, rfl, s' _ _ hf, hD, Nat.le_of_lt (sz_small (by omega)), fun p np => ?_⟩
        have sp : Same H' (upd H' p (.lst (xs ++ acc))) := same_new np
        refine ⟨p, _, _, _, rfl, (sm.trans s').trans sp, upd_same, fun x hx => ?_, ?_⟩
        · rcases List.mem_append.mp hx with hx | hx
          · obtain ⟨c, h1, h2⟩ := hc x hx
            exact ⟨c, h1.ext (.of (s'.trans sp)), by omega⟩
          · obtain ⟨c, h1, h2⟩ := hac x hx
            exact ⟨c, h1.ext (.of sp), h2⟩
        · rw [List.length_append, hal, Nat.pow_succ]
          omega
    · rintro σ H' ⟨f, xs, y2, y3, rfl, sm, hf, hc, hlen⟩
      rw [Int.toNat_natCast] at hc hlen
      have h32 : 2 ^ n ≤ 2 ^ 5 := Nat.pow_le_pow_right (by decide) hn
      have hcs : CtS K H' xs := fun x hx => by
        obtain ⟨c, h1, h2⟩ := hc x hx
        exact ⟨c, h1, by omega⟩
      refine ⟨_, rfl, sort_cts (SqL.of hf) hcs fun p ys np hyl hy => ?_⟩
      have sp : Same H' (upd H' p (.lst ys)) := same_new np
      exact q p ys _ (sm.free np) (sm.trans sp) upd_same (fun y hm => (hcs.ext (.of sp)) y (hy y hm)) (by omega)

/-- (((), (1, 1)),) -/
theorem t_row {σ : L2.St} {H : Hp} {Q : VK} (q : ∀ v H', Same H H' → Dh K H' v rowD → Q v H') : tTup (tCons (tTup (tCons (tTup tNil) (tCons (tTup (tCons (tC (.int 1)) (tCons (tC (.int 1)) tNil))) tNil))) tNil) σ H Q := by
  refine ⟨by show 0 ≤ sizeLine; decide, fun a na => ⟨by show 2 ≤ sizeLine; decide, fun b nb => ⟨by show 2 ≤ sizeLine; decide, fun c nc => ⟨by show 1 ≤ sizeLine; decide, fun d nd => ?_⟩⟩⟩⟩
  have s1 : Same H (upd H a (.tup [])) := same_new na
  have e1 : (upd H a (.tup [])) a = some (.tup []) := upd_same
  generalize upd H a (.tup []) = H1 at s1 e1 nb nc nd ⊢
  have s2 : Same H1 (upd H1 b (.tup [.int 1, .int 1])) := same_new nb
  have e2 : (upd H1 b (.tup [.int 1, .int 1])) b = some (.tup [.int 1, .int 1]) := upd_same
  generalize upd H1 b (.tup [.int 1, .int 1]) = H2 at s2 e2 nc nd ⊢
  have s3 : Same H2 (upd H2 c (.tup [.ref a, .ref b])) := same_new nc
  have e3 : (upd H2 c (.tup [.ref a, .ref b])) c = some (.tup [.ref a, .ref b]) := upd_same
  generalize upd H2 c (.tup [.ref a, .ref b]) = H3 at s3 e3 nd ⊢
  have s4 : Same H3 (upd H3 d (.tup [.ref c])) := same_new nd
  refine q _ _ (((s1.trans s2).trans s3).trans s4) (.tup (SqT.of upd_same) (.cons (.tup (SqT.of (s4 _ _ e3)) (.cons (.tup (SqT.of ((s2.trans s3).trans s4 _ _ e1)) .nil) (.cons (dh_ct (c := [1, 1]) (SqT.of ((s3.trans s4) _ _ e2))) .nil))) .nil))
theorem t_rows {σ : L2.St} {H : Hp} {Q : VK} (q : ∀ v H', Same H H' → Dh K H' v rowsD → Q v H') :
    tTup (tCons (tTup (tCons (tTup (tCons (tTup tNil) (tCons (tTup (tCons (tC (.int 1)) (tCons (tC (.int 1)) tNil))) tNil))) tNil)) (tCons (tTup (tCons (tTup (tCons (tTup tNil) (tCons (tTup (tCons (tC (.int 1)) (tCons (tC (.int 1)) tNil))) tNil))) tNil)) tNil)) σ H Q := by
  have two : ∀ (t : TE), (∀ (σ : L2.St) (H : Hp) (Q : VK), (∀ v H', Same H H' → Dh K H' v rowD → Q v H') → t σ H Q) → tTup (tCons t (tCons t tNil)) σ H Q := fun t ht => by
    show t σ H _
    refine ht σ H _ fun r1 H2 s2 hr1 => ?_
    show t σ H2 _
    refine ht σ H2 _ fun r2 H3 s3 hr2 => ?_
    refine ⟨by show 2 ≤ sizeLine; decide, fun b nb => ?_⟩
    have s4 : Same H3 (upd H3 b (.tup [r1, r2])) := same_new nb
    exact q _ _ ((s2.trans s3).trans s4) (.tup (SqT.of upd_same) (.cons (hr1.ext (.of (s3.trans s4))) (.cons (hr2.ext (.of s4)) .nil)))
  exact two _ fun σ H Q hq => t_row hq
theorem odd_end {H7 : Hp} {D : Ends} {h c p : Addr} {y1 : Option V} {L : List V} (hx : HandOk H7 h c) (hp : H7 p = some (.lst L)) (hg : ∀ z ∈ L, Good K H7 z) (hl : L.length = 12) (q : ∀ v H', Keep h c H7 H' → Good K H' v → D.rt v H') :
    tRet (tCall (spSome K) [] E0 (tCons (tVar 0) (tCons (tOp rCat (tVar 2) (tLst (tCons (tCall (spThing K) [] E0 (tCons (tVar 0) tNil)) tNil))) tNil))) D [some (.ref h), y1, some (.ref p)] H7 := by
  refine ⟨_, rfl, _, rfl, _, rfl, h, c, rfl, hx, fun v H1 k1 g1 => ⟨by show 1 ≤ sizeLine; decide, fun a na => ?_⟩⟩
  have s1 : Same H1 (upd H1 a (.lst [v])) := same_new na
  have e1 : (upd H1 a (.lst [v])) a = some (.lst [v]) := upd_same
  generalize upd H1 a (.lst [v]) = H2 at s1 e1 ⊢
  have nph : p ≠ h := fun e => by
    obtain ⟨_, _, _, _, _, z, _⟩ := hx.ex
    rw [e, z] at hp
    have z' := congrArg List.length (HO.lst.inj (Option.some.inj hp))
    rw [hl] at z'
    cases z'
  have hp2 := s1 _ _ (k1.rest _ _ nph hp)
  refine ⟨p, a, L, [v], rfl, rfl, hp2, e1, Nat.le_of_lt (sz_small (by rw [hl]; show 12 + 1 ≤ 100000; decide)), fun r nr => ?_⟩
  have s2 : Same H2 (upd H2 r (.lst (L ++ [v]))) := same_new nr
  have e2 : (upd H2 r (.lst (L ++ [v]))) r = some (.lst (L ++ [v])) := upd_same
  generalize upd H2 r (.lst (L ++ [v])) = H3 at s2 e2 ⊢
  have k3 : Keep h c H7 H3 := (k1.same s1).same s2
  refine some_of (K := K) k3.hand ((k1.same s1).hand.ne nr).1 e2 (by rw [List.length_append, hl]; show 0 < 12 + 1; decide) (by rw [List.length_append, hl]; show 12 + 1 < 1000; decide) (fun x hm => ?_) fun x H4 _ k4 g4 => q x H4 (k3.trans k4) g4
  rcases List.mem_append.mp hm with hm | hm
  · exact (hg x hm).ext (Keep.ext hx k3)
  · rw [List.mem_singleton.mp hm]
    exact g1.ext (.of (s1.trans s2))
theorem ok_law_odd (T : Txt K mg) : FnOk P w K mg base CX0 7 T.f_law_odd T.d_law_odd ["hand"] (spThing K) := by
  refine T.F_law_odd.ok sc_law_odd (fun vs H Q E h => ?_) (fun cdv A outer s H vs Q E hr h => ?_)
  · obtain ⟨_, _, rfl, _⟩ := h
    rfl
  · obtain ⟨h, c, rfl, hx, q⟩ := h
    refine ⟨_, (pss_cons (ps_set (i := 1) sc_law_odd.nd rfl (.inl rfl) (pe_make T.M_Habit (ok_Habit_init T) (hr.mono (by decide)) (by rfl) T.g_Habit T.b_Habit_init .nil pass0 (pa_cons (pe_tup (pa_cons pe_int pa_nil)) (pa_cons (pe_tup (pa_cons (pe_tup (pa_cons (pe_tup (pa_cons (pe_tup pa_nil) (pa_cons (pe_tup (pa_cons pe_int (pa_cons pe_int pa_nil))) pa_nil))) pa_nil)) (pa_cons (pe_tup (pa_cons (pe_tup (pa_cons (pe_tup pa_nil) (pa_cons (pe_tup (pa_cons pe_int (pa_cons pe_int pa_nil))) pa_nil))) pa_nil)) pa_nil))) pa_nil))))
      (pss_cons (ps_set (i := 2) sc_law_odd.nd rfl (.inl rfl) (pe_lst (pa_cons pe_non (pa_cons pe_bl (pa_cons pe_int (pa_cons (pe_un un_neg pe_int) (pa_cons pe_str (pa_cons pe_str (pa_cons (pe_lst pa_nil) (pa_cons pe_dnewK (pa_cons (pe_tup (pa_cons pe_non pa_nil)) (pa_cons (pe_tup (pa_cons (pe_tup (pa_cons pe_int pa_nil)) (pa_cons (pe_tup (pa_cons pe_int pa_nil)) pa_nil))) (pa_cons (pe_op op_pow pe_int pe_int) (pa_cons (pv 1) pa_nil))))))))))))))
      (pss_one (ps_ret (pe_call (ok_law_some T) (hr.mono (by decide)) (by rfl) T.g_law_some T.F_law_some.kp T.b_law_some .nil pass0 (pa_cons (pv 0) (pa_cons (pe_op op_cat (pv 2) (pe_lst (pa_cons (pe_call (ok_law_deep T) (hr.mono (by decide)) (by rfl) T.g_law_deep T.F_law_deep.kp T.b_law_deep .nil pass0 (pa_cons (pv 0) pa_nil)) pa_nil))) pa_nil))))))), ?_⟩
    -- habit
    refine ⟨by show 1 ≤ sizeLine; decide, fun a na => ?_⟩
    have s1 : Same H (upd H a (.tup [.int 2])) := same_new na
    have e1 : (upd H a (.tup [.int 2])) a = some (.tup [.int 2]) := upd_same
    generalize upd H a (.tup [.int 2]) = H1 at s1 e1 ⊢
    refine t_rows (K := K) fun rv H4 s4 hrows => ?_
    have s14 := s1.trans s4
    intro x dx nx ndx nex
    have sA : Same H4 (upd (upd H4 dx (.own x)) x (.ins T.c_Habit dx [])) := fun z o e => by
      rw [upd_ne (ne_of_none e nx), upd_ne (ne_of_none e ndx)]
      exact e
    refine ⟨x, dx, .ref a, rv, rfl, upd_same, (dh_ct (c := [2]) (SqT.of (s4 _ _ e1))).ext (.of sA), hrows.ext (.of sA), fun H5 hins k5 => ⟨rfl, ?_⟩⟩
    obtain ⟨fs, hins⟩ := hins
    have s45 : Same H4 H5 := fun z o e => k5 z o (ne_of_none e nx) (sA _ _ e)
    have s5 := s14.trans s45
    clear k5 sA
    have hgood : Good K H5 (.ref x) := ⟨_, .oth (.base (.ins hins T.l_Habit T.h_Habit T.h2_Habit T.h3_Habit T.h4_Habit)) T.k_Habit_int T.k_Habit_tuple, True.intro, True.intro⟩
    refine ⟨_, rfl, ⟨by show 0 ≤ sizeLine; decide, fun a1 n1 => ?_⟩⟩
    have t1 : Same H5 (upd H5 a1 (.lst [])) := same_new n1
    have f1 : (upd H5 a1 (.lst [])) a1 = some (.lst []) := upd_same
    generalize upd H5 a1 (.lst []) = K1 at t1 f1 ⊢
    intro a2 n2
    have t2 : Same K1 (upd K1 a2 (.dK [])) := same_new n2
    have f2 : (upd K1 a2 (.dK [])) a2 = some (.dK []) := upd_same
    generalize upd K1 a2 (.dK []) = K2 at t2 f2 ⊢
    refine ⟨by show 1 ≤ sizeLine; decide, fun a3 n3 => ?_⟩
    have t3 : Same K2 (upd K2 a3 (.tup [.non])) := same_new n3
    have f3 : (upd K2 a3 (.tup [.non])) a3 = some (.tup [.non]) := upd_same
    generalize upd K2 a3 (.tup [.non]) = K3 at t3 f3 ⊢
    refine ⟨by show 1 ≤ sizeLine; decide, fun a4 n4 => ?_⟩
    have t4 : Same K3 (upd K3 a4 (.tup [.int 0])) := same_new n4
    have f4 : (upd K3 a4 (.tup [.int 0])) a4 = some (.tup [.int 0]) := upd_same
    generalize upd K3 a4 (.tup [.int 0]) = K4 at t4 f4 ⊢
    refine ⟨by show 1 ≤ sizeLine; decide, fun a5 n5 => ?_⟩
    have t5 : Same K4 (upd K4 a5 (.tup [.int 0])) := same_new n5
    have f5 : (upd K4 a5 (.tup [.int 0])) a5 = some (.tup [.int 0]) := upd_same
    generalize upd K4 a5 (.tup [.int 0]) = K5 at t5 f5 ⊢
    refine ⟨by show 2 ≤ sizeLine; decide, fun a6 n6 => ?_⟩
    have t6 : Same K5 (upd K5 a6 (.tup [.ref a4, .ref a5])) := same_new n6
    have f6 : (upd K5 a6 (.tup [.ref a4, .ref a5])) a6 = some (.tup [.ref a4, .ref a5]) := upd_same
    generalize upd K5 a6 (.tup [.ref a4, .ref a5]) = K6 at t6 f6 ⊢
    refine ⟨_, _, rfl, rfl, ⟨by decide, by decide, by decide⟩, _, rfl, ⟨by show 12 ≤ sizeLine; decide, fun p np => ?_⟩⟩
    have t16 : Same K1 K6 := (((t2.trans t3).trans t4).trans t5).trans t6
    have gx := hgood.ext (.of (t1.trans t16))
    have g0 : ∀ z ∈ [V.non, .bl true, .int 0, .int (-1), .str "", .str "01", .ref a1, .ref a2, .ref a3, .ref a6, .int (10 ^ 30), .ref x], Good K K6 z := fun z hz => by
      have gi : ∀ y ∈ [V.int 0], Good K K6 y := fun y hy => by
        rw [List.mem_singleton.mp hy]
        exact .int 0
      simp only [List.mem_cons, List.not_mem_nil, or_false] at hz
      rcases hz with rfl | rfl | rfl | rfl | rfl | rfl | rfl | rfl | rfl | rfl | rfl | rfl
      · exact .non
      · exact .bl _
      · exact .int _
      · exact .int _
      · exact .str _
      · exact .str _
      · exact .lst (t16 _ _ f1)
      · exact .dct ((((t3.trans t4).trans t5).trans t6) _ _ f2)
      · refine .tup (SqT.of (((t4.trans t5).trans t6) _ _ f3)) (by show 1 ≤ 1000; decide) fun y hy => ?_
        rw [List.mem_singleton.mp hy]
        exact .non
      · refine .tup (SqT.of f6) (by show 2 ≤ 1000; decide) fun y hy => ?_
        simp only [List.mem_cons, List.not_mem_nil, or_false] at hy
        rcases hy with rfl | rfl
        · exact .tup (SqT.of ((t5.trans t6) _ _ f4)) (by show 1 ≤ 1000; decide) gi
        · exact .tup (SqT.of (t6 _ _ f5)) (by show 1 ≤ 1000; decide) gi
      · exact .int _
      · exact gx
    have sP : Same H K6 := (s5.trans t1).trans t16
    exact odd_end (K := K) (hx.same (sP.trans (same_new np))) upd_same (fun z hz => (g0 z hz).ext (.of (same_new np))) rfl fun v H' k g => q v H' ((Keep.of hx (sP.trans (same_new np))).trans k) g

end
end Fm
namespace Fm
open PySem PySem.Spec PyProof.Rows L2
section
variable {P : Program} {w : World} {K : PySem.W.Frag} {mg : Str → Option Value} {base : Heap}

/-! ### rows bent -/
def GT (K : PySem.W.Frag) (H : Hp) (n : Nat) (v : V) : Prop := ∃ a xs, v = .ref a ∧ SqT K H a xs ∧ xs.length ≤ n ∧ ∀ x ∈ xs, Good K H x
theorem GT.ext {H H' : Hp} {n : Nat} {v : V} (e : Ext H H') : GT K H n v → GT K H' n v := fun ⟨a, xs, h1, h2, h3, h4⟩ => ⟨a, xs, h1, e.sqT h2, h3, fun x hx => (h4 x hx).ext e⟩
theorem GT.good {H : Hp} {n : Nat} {v : V} (h : GT K H n v) (hn : n ≤ 1000) : Good K H v := by
  obtain ⟨a, xs, rfl, h2, h3, h4⟩ := h
  exact .tup h2 (by omega) h4
theorem GT.mono {H : Hp} {n m : Nat} {v : V} (h : GT K H n v) (hn : n ≤ m) : GT K H m v := by
  obtain ⟨a, xs, h1, h2, h3, h4⟩ := h
  exact ⟨a, xs, h1, h2, by omega, h4⟩
theorem gt_cat {H : Hp} {x y : V} {n m : Nat} {Q : VK} (hx : GT K H n x) (hy : GT K H m y) (hb : n + m ≤ 1000) (q : ∀ v H', Same H H' → GT K H' (n + m) v → Q v H') : rCatA K x y H Q := by
  obtain ⟨a, xs, rfl, sa, la, ga⟩ := hx
  obtain ⟨b, ys, rfl, sb, lb, gb⟩ := hy
  refine ⟨a, b, xs, ys, rfl, rfl, sa, sb, Nat.le_of_lt (sz_small (by omega)), fun e => ?_, fun _ e => ?_, fun _ _ p hp => ?_⟩
  · exact q _ H (Same.refl H) ⟨b, ys, rfl, sb, by omega, gb⟩
  · exact q _ H (Same.refl H) ⟨a, xs, rfl, sa, by omega, ga⟩
  · refine q _ _ (same_new hp) ⟨p, _, rfl, SqT.of upd_same, by rw [List.length_append]; omega, fun z hz => ?_⟩
    rcases List.mem_append.mp hz with hz | hz
    · exact (ga z hz).ext (.of (same_new hp))
    · exact (gb z hz).ext (.of (same_new hp))
theorem cut_mem {xs : List V} {lo hi : Option Int} {x : V} (h : x ∈ cutV xs lo hi) : x ∈ xs := List.mem_of_mem_drop (List.mem_of_mem_take h)
theorem gt_slice {H : Hp} {x : V} {n : Nat} {lo hi : Option Int} {Q : VK} (hx : GT K H n x) (q : ∀ v H', Same H H' → GT K H' n v → Q v H') : rSlA K x lo hi H Q := by
  obtain ⟨a, xs, rfl, sa, la, ga⟩ := hx
  refine ⟨a, xs, rfl, sa, ?_⟩
  refine ⟨fun _ => q _ H (Same.refl H) ⟨a, xs, rfl, sa, la, ga⟩, fun _ p np => q _ _ (same_new np) ⟨p, _, rfl, SqT.of upd_same, Nat.le_trans (cutV_length xs lo hi) la, fun z hz => (ga z (cut_mem hz)).ext (.of (same_new np))⟩⟩
theorem gt_rev {σ : L2.St} {H : Hp} {n : Nat} {k : Nat} {x : V} {Q : VK} (hk : σ[k]? = some (some x)) (hx : GT K H n x) (q : ∀ v H', Same H H' → GT K H' n v → Q v H') : tRevT K (tVar k) (tUn (rU fun i => V.int (-i)) (tC (.int 1))) σ H Q := by
  obtain ⟨a, xs, rfl, sa, la, ga⟩ := hx
  refine ⟨_, hk, 1, rfl, rfl, a, xs, rfl, sa, fun p np => q _ _ (same_new np) ⟨p, _, rfl, SqT.of upd_same, by rw [List.length_reverse]; exact la, fun z hz => (ga z (List.mem_reverse.mp hz)).ext (.of (same_new np))⟩⟩
theorem gt_list {H : Hp} {n : Nat} {x : V} {Q : VK} (hx : GT K H n x) (q : ∀ v H', Same H H' → Good K H' v → Q v H') : rListOf K [x] H Q := by
  obtain ⟨a, xs, rfl, sa, la, ga⟩ := hx
  exact ⟨a, xs, rfl, .inr sa, fun p np => q _ _ (same_new np) (.lst upd_same)⟩
section
variable {σ : L2.St} {H : Hp} {Q : VK} {n kr ka ko : Nat} {rv ov : V} {i : Int} {tl : TO}
theorem del_part (h1 : σ[kr]? = some (some rv)) (h2 : σ[ka]? = some (some (.int i))) (g : GT K H n rv) (hn : n ≤ 300) (htl : ∀ (H : Hp) (R : Option Int → Hp → Prop), (∀ o, R o H) → tl σ H R) (q : ∀ v H', Same H H' → GT K H' (n + n) v → Q v H') :
    tOp (rCatA K) (tSl (rSlA K) (tVar kr) tNoPart (tPart (tVar ka))) (tSl (rSlA K) (tVar kr) tl tNoPart) σ H Q := by
  refine ⟨_, h1, _, h2, i, rfl, gt_slice g fun v1 K1 s1 g1 => ?_⟩
  refine ⟨_, h1, htl _ _ fun o => ?_⟩
  show rSlA K rv o none K1 (fun y H2 => rCatA K v1 y H2 Q)
  refine gt_slice (g.ext (.of s1)) fun v2 K2 s2 g2 => ?_
  exact gt_cat (g1.ext (.of s2)) g2 (by omega) fun v K3 s3 g3 => q v K3 ((s1.trans s2).trans s3) g3
theorem ins_part (h1 : σ[kr]? = some (some rv)) (h2 : σ[ka]? = some (some (.int i))) (h3 : σ[ko]? = some (some ov)) (g : GT K H n rv) (go : Good K H ov) (hn : n ≤ 300) (htl : ∀ (H : Hp) (R : Option Int → Hp → Prop), (∀ o, R o H) → tl σ H R) (q : ∀ v H', Same H H' → GT K H' (n + 1 + n) v → Q v H') :
    tOp (rCatA K) (tOp (rCatA K) (tSl (rSlA K) (tVar kr) tNoPart (tPart (tVar ka))) (tTup (tCons (tVar ko) tNil))) (tSl (rSlA K) (tVar kr) tl tNoPart) σ H Q := by
  refine ⟨_, h1, _, h2, i, rfl, gt_slice g fun v1 K1 s1 g1 => ?_⟩
  refine ⟨_, h3, by show 1 ≤ sizeLine; decide, fun p np => ?_⟩
  have s2 : Same K1 (upd K1 p (.tup [ov])) := same_new np
  have gp : GT K (upd K1 p (.tup [ov])) 1 (.ref p) := ⟨p, _, rfl, SqT.of upd_same, Nat.le_refl _, fun x hx => by
    rw [List.mem_singleton.mp hx]
    exact go.ext (.of (s1.trans s2))⟩
  generalize upd K1 p (.tup [ov]) = K2 at s2 gp ⊢
  refine gt_cat (g1.ext (.of s2)) gp (by omega) fun v3 K3 s3 g3 => ?_
  have s13 := (s1.trans s2).trans s3
  refine ⟨_, h1, htl _ _ fun o => ?_⟩
  show rSlA K rv o none K3 (fun y H2 => rCatA K v3 y H2 Q)
  refine gt_slice (g.ext (.of s13)) fun v2 K4 s4 g4 => ?_
  exact gt_cat (g3.ext (.of s4)) g4 (by omega) fun v K5 s5 g5 => q v K5 ((s13.trans s4).trans s5) g5
end
/-- a list of good things, one more -/
theorem add_goods {H : Hp} {a : Addr} {xs : List V} (h : H a = some (.lst xs)) (g : ∀ x ∈ xs, Good K H x) {H' : Hp} (s : Same H H') : H' a = some (.lst xs) ∧ ∀ x ∈ xs, Good K H' x := ⟨s _ _ h, fun x hx => (g x hx).ext (.of s)⟩
def spBent (K : PySem.W.Frag) : Sp := fun vs H Q _ => ∃ (h c : Addr) (rv : V) (m : Int), vs = [.ref h, rv, .int m] ∧ HandOk H h c ∧ GT K H 20 rv ∧ ∀ v H', Keep h c H H' → Good K H' v → Q v H'
theorem ok_law_bent (T : Txt K mg) : FnOk P w K mg base CX0 8 T.f_law_bent T.d_law_bent ["hand", "row", "most"] (spBent K) := by
  refine T.F_law_bent.ok sc_law_bent (fun vs H Q E h => ?_) (fun cdv A outer s H vs Q E hr h => ?_)
  · obtain ⟨_, _, _, _, rfl, _⟩ := h
    rfl
  · obtain ⟨h, c, rv, m, rfl, hx, g, q⟩ := h
    obtain ⟨r, xs, rfl, sr, lr, gr⟩ := g
    refine ⟨_, (pss_cons (ps_set (i := 3) sc_law_bent.nd rfl (.inl rfl) (pe_call (ok_law_draw T) (hr.mono (by decide)) (by rfl) T.g_law_draw T.F_law_draw.kp T.b_law_draw .nil pass0 (pa_cons (pv 0) (pa_cons (pe_op op_add (pe_callB (call_lenK K) (by rfl) T.z_len PySem.boot_len (pa_cons (pv 1) pa_nil)) pe_int) pa_nil))))
      (pss_cons (ps_set (i := 4) sc_law_bent.nd rfl (.inl rfl) (pe_call (ok_law_some T) (hr.mono (by decide)) (by rfl) T.g_law_some T.F_law_some.kp T.b_law_some .nil pass0 (pa_cons (pv 0) (pa_cons (pe_lst (pa_cons (pe_un un_neg pe_int) (pa_cons (pv 2) (pa_cons (pe_op op_sub (pv 2) pe_int) (pa_cons pe_bl (pa_cons pe_bl (pa_cons pe_non (pa_cons pe_str (pa_cons (pe_tup (pa_cons pe_int pa_nil)) (pa_cons pe_int (pa_cons (pe_op op_pow pe_int pe_int) pa_nil))))))))))) pa_nil))))
      (pss_cons (ps_set (i := 5) sc_law_bent.nd rfl (.inl rfl) (pe_lst (pa_cons (pe_op (op_catK K) (pe_op (op_catK K) (pe_slice (sl_tupK K) (pv 1) po_none (po_some (pv 3))) (pe_tup (pa_cons (pv 4) pa_nil))) (pe_slice (sl_tupK K) (pv 1) (po_some (pv 3)) po_none)) (pa_cons (pe_op (op_catK K) (pe_op (op_catK K) (pe_slice (sl_tupK K) (pv 1) po_none (po_some (pv 3))) (pe_tup (pa_cons (pv 4) pa_nil))) (pe_slice (sl_tupK K) (pv 1) (po_some (pe_op op_add (pv 3) pe_int)) po_none)) (pa_cons (pe_op (op_catK K) (pe_slice (sl_tupK K) (pv 1) po_none (po_some (pv 3))) (pe_slice (sl_tupK K) (pv 1) (po_some (pe_op op_add (pv 3) pe_int)) po_none)) (pa_cons (pe_callTy (call_listK (K := K)) (by rfl) T.z_list (by decide +kernel) (pa_cons (pv 1) pa_nil)) (pa_cons (pv 1) pa_nil)))))))
      (pss_one (ps_ret (pe_call (ok_law_some T) (hr.mono (by decide)) (by rfl) T.g_law_some T.F_law_some.kp T.b_law_some .nil pass0 (pa_cons (pv 0) (pa_cons (pe_op op_cat (pv 5) (pe_lst (pa_cons (pe_revT (K := K) (pv 1) (pe_un un_neg pe_int)) (pa_cons (pe_op (op_catK K) (pv 1) (pe_slice (sl_tupK K) (pv 1) po_none (po_some pe_int))) (pa_cons (pe_call (ok_law_odd T) hr (by rfl) T.g_law_odd T.F_law_odd.kp T.b_law_odd .nil pass0 (pa_cons (pv 0) pa_nil)) pa_nil))))) pa_nil)))))))), ?_⟩
    refine ⟨_, rfl, _, rfl, r, _, rfl, .inr sr, _, _, rfl, rfl, h, c, _, rfl, hx, by omega, by omega, fun at' H1 a0 a1 k1 => ?_⟩
    have g1 : GT K H1 20 (.ref r) := ⟨r, xs, rfl, (Ext.sqT (Keep.ext hx k1) sr), lr, fun x hm => (gr x hm).ext (Keep.ext hx k1)⟩
    refine ⟨_, rfl, 1, rfl, _, rfl, _, rfl, _, _, rfl, rfl, ⟨by show 1 ≤ sizeLine; decide, fun t nt => ⟨_, _, rfl, rfl, ⟨by decide, by decide, by decide⟩, ⟨by show 10 ≤ sizeLine; decide, fun p np => ?_⟩⟩⟩⟩
    have s2 : Same H1 (upd H1 t (.tup [.int 0])) := same_new nt
    have e2 : (upd H1 t (.tup [.int 0])) t = some (.tup [.int 0]) := upd_same
    generalize upd H1 t (.tup [.int 0]) = H2 at s2 e2 np ⊢
    have s3 := same_new (o := .lst [.int (-1), .int m, .int (m - 1), .bl true, .bl false, .non, .str "0", .ref t, .int 0, .int (10 ^ 30)]) np
    refine some_of (K := K) (k1.hand.same (s2.trans s3)) (k1.hand.ne (s2.free np)).1 upd_same (by show 0 < 10; decide) (by show 10 < 1000; decide) (fun x hm => ?_) fun ov H3 _ k3 g3 => ?_
    · simp only [List.mem_cons, List.not_mem_nil, or_false] at hm
      rcases hm with rfl | rfl | rfl | rfl | rfl | rfl | rfl | rfl | rfl | rfl
      · exact .int _
      · exact .int _
      · exact .int _
      · exact .bl _
      · exact .bl _
      · exact .non
      · exact .str _
      · refine .tup (SqT.of (s3 _ _ e2)) (by show 1 ≤ 1000; decide) fun y hy => ?_
        rw [List.mem_singleton.mp hy]
        exact .int 0
      · exact .int _
      · exact .int _
    · have k13 : Keep h c H H3 := (k1.same (s2.trans s3)).trans k3
      have gr3 : GT K H3 20 (.ref r) := (g1.ext (.of (s2.trans s3))).ext (Keep.ext (k1.hand.same (s2.trans s3)) k3)
      clear g1 s3 k3
      have at1 : ∀ (H : Hp) (R : Option Int → Hp → Prop), (∀ o, R o H) → tPart (tVar 3) (((L2.start N_law_bent [V.ref h, V.ref r, V.int m]).set 3 (some (V.int at'))).set 4 (some ov)) H R := fun H R hR => ⟨_, rfl, at', rfl, hR _⟩
      have at2 : ∀ (H : Hp) (R : Option Int → Hp → Prop), (∀ o, R o H) → tPart (tOp (rI0 fun i j => V.int (i + j)) (tVar 3) (tC (V.int 1))) (((L2.start N_law_bent [V.ref h, V.ref r, V.int m]).set 3 (some (V.int at'))).set 4 (some ov)) H R := fun H R hR => ⟨_, rfl, _, _, rfl, rfl, _, rfl, hR _⟩
      dsimp only [gName, tSeq, tAsg, tLst, tCons]
      refine ins_part (K := K) rfl rfl rfl gr3 g3 (by decide) at1 fun x1 K1 t1 f1 => ?_
      refine ins_part (K := K) rfl rfl rfl (gr3.ext (.of t1)) (g3.ext (.of t1)) (by decide) at2 fun x2 K2 t2 f2 => ?_
      have t12 := t1.trans t2
      refine del_part (K := K) rfl rfl (gr3.ext (.of t12)) (by decide) at2 fun x3 K3 t3 f3 => ?_
      have t13 := t12.trans t3
      refine ⟨_, rfl, ?_⟩
      dsimp only [tNil]
      refine gt_list (K := K) (gr3.ext (.of t13)) fun x4 K4 t4 f4 => ?_
      have t14 := t13.trans t4
      refine ⟨_, rfl, by show 5 ≤ sizeLine; decide, fun p5 np5 => ?_⟩
      have t5 : Same K4 (upd K4 p5 (.lst [x1, x2, x3, x4, .ref r])) := same_new np5
      have e5 : (upd K4 p5 (.lst [x1, x2, x3, x4, .ref r])) p5 = some (.lst [x1, x2, x3, x4, .ref r]) := upd_same
      have gl : ∀ x ∈ [x1, x2, x3, x4, V.ref r], Good K (upd K4 p5 (.lst [x1, x2, x3, x4, .ref r])) x := fun x hm => by
        simp only [List.mem_cons, List.not_mem_nil, or_false] at hm
        rcases hm with rfl | rfl | rfl | rfl | rfl
        · exact (f1.good (by decide)).ext (.of (((t2.trans t3).trans t4).trans t5))
        · exact (f2.good (by decide)).ext (.of ((t3.trans t4).trans t5))
        · exact (f3.good (by decide)).ext (.of (t4.trans t5))
        · exact f4.ext (.of t5)
        · exact (gr3.good (by decide)).ext (.of (t14.trans t5))
      generalize upd K4 p5 (.lst [x1, x2, x3, x4, .ref r]) = K5 at t5 e5 gl ⊢
      have t15 := t14.trans t5
      have k5 : Keep h c H K5 := k13.same t15
      have nph : p5 ≠ h := (k13.hand.ne (t14.free np5)).1
      refine ⟨_, rfl, _, rfl, ?_⟩
      dsimp only [tLst, tCons]
      refine gt_rev (K := K) rfl (gr3.ext (.of t15)) fun x6 K6 t6 f6 => ?_
      refine ⟨_, rfl, _, rfl, 1, rfl, ?_⟩
      refine gt_slice (K := K) (gr3.ext (.of (t15.trans t6))) fun x7 K7 t7 f7 => ?_
      refine gt_cat (gr3.ext (.of ((t15.trans t6).trans t7))) f7 (by decide) fun x8 K8 t8 f8 => ?_
      have t58 := (t6.trans t7).trans t8
      refine ⟨_, rfl, h, c, rfl, k5.hand.same t58, fun x9 K9 k9 g9 => ?_⟩
      have k59 : Keep h c K5 K9 := (Keep.of k5.hand t58).trans k9
      refine ⟨by show 3 ≤ sizeLine; decide, fun p6 np6 => ?_⟩
      have t6' : Same K9 (upd K9 p6 (.lst [x6, x8, x9])) := same_new np6
      have e6 : (upd K9 p6 (.lst [x6, x8, x9])) p6 = some (.lst [x6, x8, x9]) := upd_same
      have gl6 : ∀ x ∈ [x6, x8, x9], Good K (upd K9 p6 (.lst [x6, x8, x9])) x := fun x hm => by
        simp only [List.mem_cons, List.not_mem_nil, or_false] at hm
        rcases hm with rfl | rfl | rfl
        · exact (((f6.good (by decide)).ext (.of (t7.trans t8))).ext (Keep.ext (k5.hand.same t58) k9)).ext (.of t6')
        · exact ((f8.good (by decide)).ext (Keep.ext (k5.hand.same t58) k9)).ext (.of t6')
        · exact g9.ext (.of t6')
      generalize upd K9 p6 (.lst [x6, x8, x9]) = L6 at t6' e6 gl6 ⊢
      have e5' : L6 p5 = some (.lst [x1, x2, x3, x4, .ref r]) := t6' _ _ (k59.rest _ _ nph e5)
      have gl' : ∀ x ∈ [x1, x2, x3, x4, V.ref r], Good K L6 x := fun x hm => ((gl x hm).ext (Keep.ext k5.hand k59)).ext (.of t6')
      refine ⟨p5, p6, _, _, rfl, rfl, e5', e6, by show 8 ≤ sizeLine; decide, fun p7 np7 => ?_⟩
      have t7' : Same L6 (upd L6 p7 (.lst ([x1, x2, x3, x4, .ref r] ++ [x6, x8, x9]))) := same_new np7
      have kF : Keep h c H L6 := (k5.trans k59).same t6'
      refine some_of (K := K) (kF.hand.same t7') (kF.hand.ne np7).1 upd_same (by show 0 < 8; decide) (by show 8 < 1000; decide) (fun x hm => ?_) fun x H9 _ k9 g9 => q x H9 ((kF.same t7').trans k9) g9
      rcases List.mem_append.mp hm with hm | hm
      · exact (gl' x hm).ext (.of t7')
      · exact (gl6 x hm).ext (.of t7')

end
end Fm
namespace Fm
open PySem PySem.Spec PyProof.Rows L2
section
variable {P : Program} {w : World} {K : PySem.W.Frag} {mg : Str → Option Value} {base : Heap}

/-! ### lists bent -/
def TL (K : PySem.W.Frag) (H : Hp) (v : V) : Prop := ∃ a xs, v = .ref a ∧ SqT K H a xs ∧ 1 ≤ xs.length ∧ xs.length ≤ 40 ∧ ∀ x ∈ xs, GT K H 20 x
theorem TL.ext {H H' : Hp} {v : V} (e : Ext H H') : TL K H v → TL K H' v := fun ⟨a, xs, h1, h2, h3, h4, h5⟩ => ⟨a, xs, h1, e.sqT h2, h3, h4, fun x hx => (h5 x hx).ext e⟩
theorem TL.gt {H : Hp} {v : V} (h : TL K H v) : GT K H 40 v := by
  obtain ⟨a, xs, rfl, h2, h3, h4, h5⟩ := h
  exact ⟨a, xs, rfl, h2, h4, fun x hx => (h5 x hx).good (by decide)⟩
def spBentL (K : PySem.W.Frag) : Sp := fun vs H Q _ => ∃ (h c : Addr) (n : Nat) (tv : V), vs = [.ref h, .int n, tv] ∧ n ≤ 1000 ∧ HandOk H h c ∧ TL K H tv ∧ ∀ v H', Keep h c H H' → Good K H' v → Q v H'
theorem ok_law_bent_list (T : Txt K mg) : FnOk P w K mg base CX0 9 T.f_law_bent_list T.d_law_bent_list ["hand", "columns", "told"] (spBentL K) := by
  refine T.F_law_bent_list.ok sc_law_bent_list (fun vs H Q E h => ?_) (fun cdv A outer s H vs Q E hr h => ?_)
  · obtain ⟨_, _, _, _, rfl, _⟩ := h
    rfl
  · obtain ⟨h, c, n, tv, rfl, hn, hx, g, q⟩ := h
    obtain ⟨r, xs, rfl, sr, l1, lr, gr⟩ := g
    refine ⟨_, (pss_cons (ps_set (i := 3) sc_law_bent_list.nd rfl (.inl rfl) (pe_call (ok_law_draw T) (hr.mono (by decide)) (by rfl) T.g_law_draw T.F_law_draw.kp T.b_law_draw .nil pass0 (pa_cons (pv 0) (pa_cons (pe_callB (call_lenK K) (by rfl) T.z_len PySem.boot_len (pa_cons (pv 2) pa_nil)) pa_nil))))
      (pss_cons (ps_set (i := 4) sc_law_bent_list.nd rfl (.inl rfl) (pe_call (ok_law_bent T) hr (by rfl) T.g_law_bent T.F_law_bent.kp T.b_law_bent .nil pass0 (pa_cons (pv 0) (pa_cons (pe_ix (ix_tupK K) (pv 2) (pv 3) (fun _ _ => rfl)) (pa_cons (pv 1) pa_nil)))))
      (pss_cons (ps_set (i := 5) sc_law_bent_list.nd rfl (.inl rfl) (pe_lst (pa_cons (pe_op (op_catK K) (pe_slice (sl_tupK K) (pv 2) po_none (po_some (pv 3))) (pe_slice (sl_tupK K) (pv 2) (po_some (pe_op op_add (pv 3) pe_int)) po_none)) (pa_cons (pe_op (op_catK K) (pe_op (op_catK K) (pe_slice (sl_tupK K) (pv 2) po_none (po_some (pv 3))) (pe_tup (pa_cons (pv 4) pa_nil))) (pe_slice (sl_tupK K) (pv 2) (po_some (pe_op op_add (pv 3) pe_int)) po_none)) (pa_cons (pe_revT (K := K) (pv 2) (pe_un un_neg pe_int)) (pa_cons (pe_op (op_catK K) (pv 2) (pe_slice (sl_tupK K) (pv 2) po_none (po_some pe_int))) pa_nil))))))
      (pss_one (ps_ret (pe_call (ok_law_some T) (hr.mono (by decide)) (by rfl) T.g_law_some T.F_law_some.kp T.b_law_some .nil pass0 (pa_cons (pv 0) (pa_cons (pe_op op_cat (pv 5) (pe_lst (pa_cons (pe_callTy (call_listK (K := K)) (by rfl) T.z_list (by decide +kernel) (pa_cons (pv 2) pa_nil)) (pa_cons (pv 2) (pa_cons (pe_tup (pa_cons (pe_tupRg rfl (by rfl) T.z_tuple (prg_1 (by rfl) T.z_range (pv 1))) pa_nil)) (pa_cons (pe_call (ok_law_odd T) (hr.mono (by decide)) (by rfl) T.g_law_odd T.F_law_odd.kp T.b_law_odd .nil pass0 (pa_cons (pv 0) pa_nil)) pa_nil)))))) pa_nil)))))))), ?_⟩
    refine ⟨_, rfl, _, rfl, r, _, rfl, .inr sr, h, c, _, rfl, hx, by omega, by omega, fun at' H1 a0 a1 k1 => ?_⟩
    have tl1 : TL K H1 (.ref r) := ⟨r, xs, rfl, Ext.sqT (Keep.ext hx k1) sr, l1, lr, fun x hm => (gr x hm).ext (Keep.ext hx k1)⟩
    have sr1 := Ext.sqT (Keep.ext hx k1) sr
    obtain ⟨x, hxa⟩ : ∃ x, xs[at'.toNat]? = some x := ⟨_, List.getElem?_eq_getElem (by omega)⟩
    refine ⟨_, rfl, _, rfl, _, rfl, r, _, at', x, rfl, rfl, sr1, at_of (j := at'.toNat) (by omega) hxa, _, rfl, h, c, x, _, rfl, k1.hand, (gr x (List.mem_of_getElem? hxa)).ext (Keep.ext hx k1), fun ov H3 k3 g3 => ?_⟩
    have k13 : Keep h c H H3 := k1.trans k3
    have tl3 := tl1.ext (Keep.ext k1.hand k3)
    have gr3 := tl3.gt
    clear tl1 sr1 k3
    have at2 : ∀ (H : Hp) (R : Option Int → Hp → Prop), (∀ o, R o H) → tPart (tOp (rI0 fun i j => V.int (i + j)) (tVar 3) (tC (V.int 1))) (((L2.start N_law_bent_list [V.ref h, V.int n, V.ref r]).set 3 (some (V.int at'))).set 4 (some ov)) H R := fun H R hR => ⟨_, rfl, _, _, rfl, rfl, _, rfl, hR _⟩
    dsimp only [gName, tSeq, tAsg, tLst, tCons]
    refine del_part (K := K) rfl rfl gr3 (by decide) at2 fun x1 K1 t1 f1 => ?_
    refine ins_part (K := K) rfl rfl rfl (gr3.ext (.of t1)) (g3.ext (.of t1)) (by decide) at2 fun x2 K2 t2 f2 => ?_
    have t12 := t1.trans t2
    refine gt_rev (K := K) rfl (gr3.ext (.of t12)) fun x3 K3 t3 f3 => ?_
    have t13 := t12.trans t3
    refine ⟨_, rfl, _, rfl, 1, rfl, ?_⟩
    refine gt_slice (K := K) (gr3.ext (.of t13)) fun x7 K7 t7 f7 => ?_
    refine gt_cat (gr3.ext (.of (t13.trans t7))) f7 (by decide) fun x4 K4 t4' f4 => ?_
    have t4 := t7.trans t4'
    have t14 := t13.trans t4
    refine ⟨by show 4 ≤ sizeLine; decide, fun p5 np5 => ?_⟩
    have t5 : Same K4 (upd K4 p5 (.lst [x1, x2, x3, x4])) := same_new np5
    have e5 : (upd K4 p5 (.lst [x1, x2, x3, x4])) p5 = some (.lst [x1, x2, x3, x4]) := upd_same
    have gl : ∀ x ∈ [x1, x2, x3, x4], Good K (upd K4 p5 (.lst [x1, x2, x3, x4])) x := fun x hm => by
      simp only [List.mem_cons, List.not_mem_nil, or_false] at hm
      rcases hm with rfl | rfl | rfl | rfl
      · exact (f1.good (by decide)).ext (.of (((t2.trans t3).trans t4).trans t5))
      · exact (f2.good (by decide)).ext (.of ((t3.trans t4).trans t5))
      · exact (f3.good (by decide)).ext (.of (t4.trans t5))
      · exact (f4.good (by decide)).ext (.of t5)
    generalize upd K4 p5 (.lst [x1, x2, x3, x4]) = K5 at t5 e5 gl ⊢
    have t15 := t14.trans t5
    have k5 : Keep h c H K5 := k13.same t15
    have nph : p5 ≠ h := (k13.hand.ne (t14.free np5)).1
    have gr5 := gr3.ext (.of t15)
    refine ⟨_, rfl, _, rfl, ?_⟩
    dsimp only [tLst, tCons]
    refine ⟨_, rfl, ?_⟩
    dsimp only [tNil]
    refine gt_list (K := K) gr5 fun x6 K6 t6 f6 => ?_
    refine ⟨_, rfl, _, rfl, n, rfl, RgOk.of_le (by omega) (by omega) (by omega) (by omega), fun a7 n7 => ?_⟩
    have t7 : Same K6 (upd K6 a7 (.tup (rgV 0 n))) := same_new n7
    have f7 : GT K (upd K6 a7 (.tup (rgV 0 n))) 1000 (.ref a7) := ⟨a7, _, rfl, SqT.of upd_same, by rw [rgV_length]; omega, fun x hx => by
      rw [rgV_I] at hx
      obtain ⟨i, _, rfl⟩ := List.mem_map.mp hx
      exact .int i⟩
    generalize upd K6 a7 (.tup (rgV 0 n)) = K7' at t7 f7 ⊢
    refine ⟨by show 1 ≤ sizeLine; decide, fun a8 n8 => ?_⟩
    have t8 : Same K7' (upd K7' a8 (.tup [.ref a7])) := same_new n8
    have f8 : GT K (upd K7' a8 (.tup [.ref a7])) 1 (.ref a8) := ⟨a8, _, rfl, SqT.of upd_same, Nat.le_refl _, fun x hx => by
      rw [List.mem_singleton.mp hx]
      exact (f7.good (by decide)).ext (.of t8)⟩
    generalize upd K7' a8 (.tup [.ref a7]) = K8 at t8 f8 ⊢
    have t58 := (t6.trans t7).trans t8
    refine ⟨_, rfl, h, c, rfl, k5.hand.same t58, fun x9 K9 k9 g9 => ?_⟩
    have k59 : Keep h c K5 K9 := (Keep.of k5.hand t58).trans k9
    refine ⟨by show 4 ≤ sizeLine; decide, fun p6 np6 => ?_⟩
    have t6' : Same K9 (upd K9 p6 (.lst [x6, .ref r, .ref a8, x9])) := same_new np6
    have e6 : (upd K9 p6 (.lst [x6, .ref r, .ref a8, x9])) p6 = some (.lst [x6, .ref r, .ref a8, x9]) := upd_same
    have gl6 : ∀ x ∈ [x6, .ref r, .ref a8, x9], Good K (upd K9 p6 (.lst [x6, .ref r, .ref a8, x9])) x := fun x hm => by
      simp only [List.mem_cons, List.not_mem_nil, or_false] at hm
      rcases hm with rfl | rfl | rfl | rfl
      · exact ((f6.ext (.of (t7.trans t8))).ext (Keep.ext (k5.hand.same t58) k9)).ext (.of t6')
      · exact ((gr5.good (by decide)).ext (Keep.ext k5.hand k59)).ext (.of t6')
      · exact ((f8.good (by decide)).ext (Keep.ext (k5.hand.same t58) k9)).ext (.of t6')
      · exact g9.ext (.of t6')
    generalize upd K9 p6 (.lst [x6, .ref r, .ref a8, x9]) = L6 at t6' e6 gl6 ⊢
    have e5' : L6 p5 = some (.lst [x1, x2, x3, x4]) := t6' _ _ (k59.rest _ _ nph e5)
    have gl' : ∀ x ∈ [x1, x2, x3, x4], Good K L6 x := fun x hm => ((gl x hm).ext (Keep.ext k5.hand k59)).ext (.of t6')
    refine ⟨p5, p6, _, _, rfl, rfl, e5', e6, by show 8 ≤ sizeLine; decide, fun p7 np7 => ?_⟩
    have t7' : Same L6 (upd L6 p7 (.lst ([x1, x2, x3, x4] ++ [x6, .ref r, .ref a8, x9]))) := same_new np7
    have kF : Keep h c H L6 := (k5.trans k59).same t6'
    refine some_of (K := K) (kF.hand.same t7') (kF.hand.ne np7).1 upd_same (by show 0 < 8; decide) (by show 8 < 1000; decide) (fun x hm => ?_) fun x H9 _ k9 g9 => q x H9 ((kF.same t7').trans k9) g9
    rcases List.mem_append.mp hm with hm | hm
    · exact (gl' x hm).ext (.of t7')
    · exact (gl6 x hm).ext (.of t7')
def spDrawnL (K : PySem.W.Frag) : Sp := fun vs H Q _ => ∃ (h c : Addr) (n : Nat), vs = [.ref h, .int n] ∧ n ≤ 5 ∧ HandOk H h c ∧ ∀ v H', Keep h c H H' → TL K H' v → Q v H'
theorem ok_law_drawn_list (T : Txt K mg) : FnOk P w K mg base CX0 2 T.f_law_drawn_list T.d_law_drawn_list ["hand", "columns"] (spDrawnL K) := by
  refine T.F_law_drawn_list.ok sc_law_drawn_list (fun vs H Q E h => ?_) (fun cdv A outer s H vs Q E hr h => ?_)
  · obtain ⟨_, _, _, rfl, _⟩ := h
    rfl
  · obtain ⟨h, c, n, rfl, hn, hx, q⟩ := h
    refine ⟨_, (pss_cons (ps_setLc (i := 2) (own := [("pattern", 5)]) rfl sc_law_drawn_list.nd rfl rfl (sw_true rfl rfl rfl (by decide +kernel)) (pi_listK K (pe_call (ok_law_patterns T) hr (by rfl) T.g_law_patterns T.F_law_patterns.kp T.b_law_patterns .nil pass0 (pa_cons (pv 1) pa_nil))) (blkOk_by (N := N_law_drawn_list) (sc := defScope s_law_drawn_list) (by decide +kernel)) (fun _ _ _ _ _ => (pg_name (i := 5) sc_law_drawn_list.nd rfl (.inl rfl))) (fun _ _ _ _ _ => (pts_one (pt_cmpR op_lt (pe_callB (call_lenK K) (by rfl) T.z_len PySem.boot_len (pa_cons (pv 5) pa_nil)) (pv 1) (nomark _)))) (fun _ _ _ _ _ => (pv 5)))
      (pss_cons (ps_setLc (i := 3) (own := [("pattern", 5)]) rfl sc_law_drawn_list.nd rfl rfl (sw_true rfl rfl rfl (by decide +kernel)) (pi_listK K (pv 2)) (blkOk_by (N := N_law_drawn_list) (sc := defScope s_law_drawn_list) (by decide +kernel)) (fun _ _ _ _ _ => (pg_name (i := 5) sc_law_drawn_list.nd rfl (.inl rfl))) (fun _ _ _ _ _ => (pts_one (pt_cmpR op_eq (pe_call (ok_law_draw T) hr (by rfl) T.g_law_draw T.F_law_draw.kp T.b_law_draw .nil pass0 (pa_cons (pv 0) (pa_cons pe_int pa_nil))) pe_int (nomark _)))) (fun _ _ _ _ _ => (pv 5)))
      (pss_cons (ps_if (pt_cmpR op_eq (pe_call (ok_law_draw T) hr (by rfl) T.g_law_draw T.F_law_draw.kp T.b_law_draw .nil pass0 (pa_cons (pv 0) (pa_cons pe_int pa_nil))) pe_int (nomark _)) (pss_one (ps_set (i := 3) sc_law_drawn_list.nd rfl (.inl rfl) (pv 2))) pss_nil)
      (pss_cons (ps_set (i := 4) sc_law_drawn_list.nd rfl (.inl rfl) (pe_ix (ix_listK K) (pe_lst (pa_cons pe_int (pa_cons pe_int pa_nil))) (pe_call (ok_law_draw T) hr (by rfl) T.g_law_draw T.F_law_draw.kp T.b_law_draw .nil pass0 (pa_cons (pv 0) (pa_cons pe_int pa_nil))) (fun _ _ => rfl)))
      (pss_one (ps_ret (pe_callTy (call_tupleK K) (by rfl) T.z_tuple (by decide +kernel) (pa_cons (pe_callB (call_sortTsK (K := K) hr.units) (by rfl) T.z_sorted (by decide +kernel) (pa_cons (pe_op op_cat (pe_slice (sl_listK K) (pv 3) po_none (po_some (pv 4))) (pe_lst (pa_cons (pe_tupRg rfl (by rfl) T.z_tuple (prg_1 (by rfl) T.z_range (pv 1))) pa_nil))) pa_nil)) pa_nil)))))))), ?_⟩
    refine ⟨_, rfl, n, rfl, hn, fun p xs H1 np s1 hp hc hl => ?_⟩
    have nph : p ≠ h := (hx.ne np).1
    -- every
    refine ⟨p, rfl, ⟨xs, SqL.of hp⟩, fun D nD => lc_list (K := K) (xs := xs) (fun i H' => ∃ acc, Same H1 H' ∧ H' D = some (.lst acc) ∧ (∀ x ∈ acc, x ∈ xs) ∧ acc.length ≤ i) ⟨[], same_new nD, upd_same, (fun x hx => by cases hx), Nat.zero_le _⟩ (fun i H' _ ⟨_, s', _⟩ => s'.seq (SqL.of hp)) ?_ ?_⟩
    · rintro i x H' hx' ⟨acc, s', hD, hac, hal⟩
      have hxm := List.mem_of_getElem? hx'
      have hil := (List.getElem?_eq_some_iff.mp hx').1
      obtain ⟨ct, hct, _⟩ := hc x hxm
      obtain ⟨xa, rfl, hxa⟩ := ct_inv hct
      refine ⟨rfl, _, rfl, xa, _, rfl, .inr ((Ext.of s').sqT hxa), _, rfl, _, _, rfl, rfl, _, rfl, ?_⟩
      refine ite2 (fun _ => ?_) (fun _ => ?_)
      · refine ⟨_, rfl, acc, hD, sz_small (by omega), acc ++ [_], Same.put nD s', upd_same, fun y hy => ?_, by rw [List.length_append]; show acc.length + 1 ≤ i + 1; omega⟩
        rcases List.mem_append.mp hy with hy | hy
        · exact hac y hy
        · rw [List.mem_singleton.mp hy]
          exact hxm
      · exact ⟨acc, s', hD, hac, by omega⟩
    · rintro H2 ⟨ev, s2, hev, hevm, hevl⟩
      have nDh : D ≠ h := ((hx.same s1).ne nD).1
      have k2 : Keep h c H H2 := Keep.of hx (s1.trans s2)
      have hc2 : CtS K H2 ev := fun x hx => by
        obtain ⟨ct, h1, h2⟩ := hc x (hevm x hx)
        exact ⟨ct, h1.ext (.of s2), h2⟩
      -- kept
      refine ⟨_, rfl, D, rfl, ⟨ev, SqL.of hev⟩, fun D2 nD2 => lc_list (K := K) (xs := ev) (fun i H' => ∃ acc, Keep h c H2 H' ∧ H' D2 = some (.lst acc) ∧ (∀ x ∈ acc, x ∈ ev) ∧ acc.length ≤ i) ⟨[], Keep.of k2.hand (same_new nD2), upd_same, (fun x hx => by cases hx), Nat.zero_le _⟩ (fun i H' _ ⟨_, k', _⟩ => SqL.of (k'.rest _ _ nDh hev)) ?_ ?_⟩
      · rintro i x H' hx' ⟨acc, k', hD2, hac, hal⟩
        have hxm := List.mem_of_getElem? hx'
        have hil := (List.getElem?_eq_some_iff.mp hx').1
        have nD2h : D2 ≠ h := (k2.hand.ne nD2).1
        refine ⟨rfl, _, rfl, h, c, 3, rfl, k'.hand, by decide, by decide, fun d H3 d0 d1 k3 => ?_⟩
        refine ⟨rfl, _, rfl, ?_⟩
        have hD3 := k3.rest _ _ nD2h hD2
        refine ite2 (fun _ => ?_) (fun _ => ?_)
        · refine ⟨_, rfl, acc, hD3, sz_small (by omega), acc ++ [_], Keep.put k2.hand (k'.trans k3) nD2, upd_same, fun y hy => ?_, by rw [List.length_append]; show acc.length + 1 ≤ i + 1; omega⟩
          rcases List.mem_append.mp hy with hy | hy
          · exact hac y hy
          · rw [List.mem_singleton.mp hy]
            exact hxm
        · exact ⟨acc, k'.trans k3, hD3, hac, by omega⟩
      · rintro H3 ⟨kp, k3, hkp, hkpm, hkpl⟩
        have nD2h : D2 ≠ h := (k2.hand.ne nD2).1
        have hev3 := k3.rest _ _ nDh hev
        refine ⟨_, rfl, h, c, 3, rfl, k3.hand, by decide, by decide, fun d H4 d0 d1 k4 => ?_⟩
        refine ⟨rfl, _, rfl, ?_⟩
        have k24 := k3.trans k4
        have fin : ∀ (K1 : Addr) (ks : List V), K1 ≠ h → H4 K1 = some (.lst ks) → (∀ x ∈ ks, x ∈ ev) → ks.length ≤ 32 → ∀ (y5 : Option V), tSeq (tAsg (tOp (rIxL K) (tLst (tCons (tC (V.int 11)) (tCons (tC (V.int 12)) tNil))) (tCall (spDraw K) [] E0 (tCons (tVar 0) (tCons (tC (V.int 2)) tNil)))) (gName 4))
            (tRet (tCB (rTupK K) (tCons (tCB (rSortTs K) (tCons (tOp rCat (tSl (rSlL K) (tVar 3) tNoPart (tPart (tVar 4))) (tLst (tCons (tTupRg (tRg1 (tVar 1))) tNil))) tNil)) tNil)))
            { nx := fun x H' => Q V.non H', rt := Q } [some (.ref h), some (.int n), some (.ref D), some (.ref K1), none, y5] H4 := fun K1 ks nK hK hm hkl y5 => by
          refine ⟨by show 2 ≤ sizeLine; decide, fun l nl => ?_⟩
          have t1 : Same H4 (upd H4 l (.lst [.int 11, .int 12])) := same_new nl
          have e1 : (upd H4 l (.lst [.int 11, .int 12])) l = some (.lst [.int 11, .int 12]) := upd_same
          generalize upd H4 l (.lst [.int 11, .int 12]) = H5 at t1 e1 ⊢
          have k25 := k24.same t1
          refine ⟨_, rfl, h, c, 2, rfl, k25.hand, by decide, by decide, fun d H6 d0 d1 k6 => ?_⟩
          have k26 := k25.trans k6
          obtain ⟨m, hm2⟩ : ∃ m : Int, atI [V.int 11, V.int 12] d = some (.int m) := by
            rcases (show d = 0 ∨ d = 1 by omega) with rfl | rfl
            · exact ⟨11, at_of (j := 0) rfl rfl⟩
            · exact ⟨12, at_of (j := 1) rfl rfl⟩
          have hK6 := k6.rest _ _ nK (t1 _ _ hK)
          refine ⟨l, _, d, _, rfl, rfl, SqL.of (k6.rest _ _ (k24.hand.ne nl).1 e1), hm2, ?_⟩
          refine ⟨_, rfl, _, rfl, m, rfl, K1, ks, rfl, SqL.of hK6, fun p1 np1 => ?_⟩
          have u1 : Same H6 (upd H6 p1 (.lst (cutV ks none (some m)))) := same_new np1
          have f1 : (upd H6 p1 (.lst (cutV ks none (some m)))) p1 = some (.lst (cutV ks none (some m))) := upd_same
          have hcl := cutV_length ks none (some m)
          have hcm : ∀ x ∈ cutV ks none (some m), x ∈ ks := fun x hx => cut_mem hx
          generalize cutV ks none (some m) = cs at u1 f1 hcl hcm ⊢
          generalize upd H6 p1 (.lst cs) = L1 at u1 f1 ⊢
          refine ⟨_, rfl, n, rfl, RgOk.of_le (by omega) (by omega) (by omega) (by omega), fun t nt => ?_⟩
          have u2 : Same L1 (upd L1 t (.tup (rgV 0 n))) := same_new nt
          have f2 : Dh K (upd L1 t (.tup (rgV 0 n))) (.ref t) (ctD (rgI n)) := by
            rw [rgV_I]
            exact dh_ct (SqT.of upd_same)
          generalize upd L1 t (.tup (rgV 0 n)) = L2 at u2 f2 ⊢
          refine ⟨by show 1 ≤ sizeLine; decide, fun l2 nl2 => ?_⟩
          have u3 : Same L2 (upd L2 l2 (.lst [.ref t])) := same_new nl2
          have f3 : (upd L2 l2 (.lst [.ref t])) l2 = some (.lst [.ref t]) := upd_same
          generalize upd L2 l2 (.lst [.ref t]) = L3 at u3 f3 ⊢
          refine ⟨p1, l2, cs, _, rfl, rfl, (u2.trans u3) _ _ f1, f3, Nat.le_of_lt (sz_small (by show cs.length + 1 ≤ 100000; omega)), fun p3 np3 => ?_⟩
          have u4 : Same L3 (upd L3 p3 (.lst (cs ++ [.ref t]))) := same_new np3
          have f4 : (upd L3 p3 (.lst (cs ++ [.ref t]))) p3 = some (.lst (cs ++ [.ref t])) := upd_same
          generalize upd L3 p3 (.lst (cs ++ [.ref t])) = L4 at u4 f4 ⊢
          have u14 := ((u1.trans u2).trans u3).trans u4
          have kF := k26.same u14
          have hcts : CtS K L4 (cs ++ [.ref t]) := fun x hx => by
            rcases List.mem_append.mp hx with hx | hx
            · obtain ⟨ct, h1, h2⟩ := hc2 x (hm x (hcm x hx))
              exact ⟨ct, h1.ext (Keep.ext k2.hand kF), h2⟩
            · rw [List.mem_singleton.mp hx]
              refine ⟨rgI n, f2.ext (.of (u3.trans u4)), ?_⟩
              unfold rgI
              rw [List.length_map, List.length_range]
              exact hn
          dsimp only [tNil]
          refine sort_cts (SqL.of f4) hcts fun p4 ys np4 hyl hym => ?_
          have u5 : Same L4 (upd L4 p4 (.lst ys)) := same_new np4
          have hcy : CtS K (upd L4 p4 (.lst ys)) ys := fun y hy => (hcts.ext (.of u5)) y (hym y hy)
          refine ⟨p4, ys, rfl, .inl ⟨SqL.of upd_same, fun l3 nl3 => ?_⟩⟩
          have u6 := same_new (o := .tup ys) nl3
          have hyl' : ys.length = cs.length + 1 := by
            rw [hyl, List.length_append]
            rfl
          refine q _ _ (k2.trans ((kF.same u5).same u6)) ⟨l3, ys, rfl, SqT.of upd_same, by omega, by omega, fun y hy => ?_⟩
          obtain ⟨ct, h1, h2⟩ := hcy y hy
          obtain ⟨ya, rfl, hya⟩ := ct_inv (h1.ext (.of u6))
          refine ⟨ya, _, rfl, hya, by rw [List.length_map]; omega, fun z hz => ?_⟩
          obtain ⟨i, _, rfl⟩ := List.mem_map.mp hz
          exact .int i
        refine ite2 (fun _ => ?_) (fun _ => ?_)
        · exact ⟨_, rfl, fin D ev nDh (k4.rest _ _ nDh hev3) (fun x hx => hx) (by omega) _⟩
        · exact fin D2 kp nD2h (k4.rest _ _ nD2h hkp) hkpm (by omega) _

end
end Fm
namespace Fm
open PySem PySem.Spec PyProof.Rows L2
section
variable {P : Program} {w : World} {K : PySem.W.Frag} {mg : Str → Option Value} {base : Heap}

/-! ### which contents there are, which boxes meet -/
abbrev at0 (c : List Int) (k : Int) : Int := c.getD k.toNat 0
theorem contGo_iff : ∀ {ss c : List Int}, contGo ss (c.map Dt.int) = true ↔ ∀ (i : Nat) (x s : Int), c[i]? = some x → ss[i]? = some s → 0 ≤ x ∧ x < s
  | [], c => ⟨fun _ i x s _ h => by simp at h, fun _ => by cases c <;> rfl⟩
  | s :: ss, [] => ⟨fun _ i x s h => by simp at h, fun _ => rfl⟩
  | s :: ss, x :: c => by
    have e : contGo (s :: ss) ((x :: c).map Dt.int) = if 0 ≤ x ∧ x < s then contGo ss (c.map Dt.int) else false := rfl
    rw [e]
    constructor
    · intro h i y t hy ht
      by_cases hx : 0 ≤ x ∧ x < s
      · rw [if_pos hx] at h
        cases i with
        | zero =>
          have e1 : x = y := by simpa using hy
          have e2 : s = t := by simpa using ht
          rw [← e1, ← e2]
          exact hx
        | succ i => exact contGo_iff.mp h i y t (by simpa using hy) (by simpa using ht)
      · rw [if_neg hx] at h
        cases h
    · intro h
      rw [if_pos (h 0 x s rfl rfl)]
      exact contGo_iff.mpr fun i y t hy ht => h (i + 1) y t (by simpa using hy) (by simpa using ht)
theorem isCt_iff {ss c : List Int} : IsCt ss c ↔ c.length = ss.length ∧ ∀ (i : Nat) (x s : Int), c[i]? = some x → ss[i]? = some s → 0 ≤ x ∧ x < s := by
  have e : (ctD c).isCont ss = ((c.map Dt.int).length == ss.length && contGo ss (c.map Dt.int)) := rfl
  unfold IsCt
  rw [e, Bool.and_eq_true, contGo_iff, List.length_map]
  simp
theorem mem_step {found : List (List Int)} {s : Int} {c : List Int} : c ∈ stepC found s ↔ ∃ b ∈ found, ∃ w : Nat, w < s.toNat ∧ c = b ++ [(w : Int)] := by
  unfold stepC
  rw [List.mem_flatMap]
  constructor
  · rintro ⟨b, hb, hc⟩
    obtain ⟨w, hw, rfl⟩ := List.mem_map.mp hc
    exact ⟨b, hb, w, List.mem_range.mp hw, rfl⟩
  · rintro ⟨b, hb, w, hw, rfl⟩
    exact ⟨b, hb, List.mem_map.mpr ⟨w, List.mem_range.mpr hw, rfl⟩⟩
theorem mem_allC_take {ss : List Int} : ∀ (i : Nat), i ≤ ss.length → ∀ c, c ∈ allC (ss.take i) ↔ c.length = i ∧ ∀ (j : Nat) (x s : Int), c[j]? = some x → ss[j]? = some s → 0 ≤ x ∧ x < s
  | 0, _, c => by
    have e : allC (ss.take 0) = [[]] := rfl
    rw [e, List.mem_singleton]
    constructor
    · rintro rfl
      exact ⟨rfl, fun j x s h => by simp at h⟩
    · rintro ⟨h, _⟩
      exact List.length_eq_zero_iff.mp h
  | i + 1, h, c => by
    have hi : i < ss.length := h
    have e : ss[i]? = some ss[i] := List.getElem?_eq_getElem hi
    have e' : ss.take (i + 1) = ss.take i ++ [ss[i]] := by rw [List.take_add_one, e]; rfl
    rw [e', allC_snoc, mem_step]
    constructor
    · rintro ⟨b, hb, w, hw, rfl⟩
      obtain ⟨hl, hall⟩ := (mem_allC_take i (Nat.le_of_lt hi) b).mp hb
      refine ⟨by rw [List.length_append, hl]; rfl, fun j x s hx hs => ?_⟩
      by_cases hj : j < i
      · rw [List.getElem?_append_left (by omega)] at hx
        exact hall j x s hx hs
      · have hj2 : j < (b ++ [(w : Int)]).length := (List.getElem?_eq_some_iff.mp hx).1
        rw [List.length_append, hl] at hj2
        have ej : j = i := by
          have : ([(w : Int)] : List Int).length = 1 := rfl
          omega
        subst ej
        rw [List.getElem?_append_right (by omega), hl, Nat.sub_self] at hx
        have ex : (w : Int) = x := by simpa using hx
        rw [e] at hs
        have es := Option.some.inj hs
        omega
    · rintro ⟨hl, hall⟩
      have hil : i < c.length := by omega
      refine ⟨c.take i, (mem_allC_take i (Nat.le_of_lt hi) _).mpr ⟨by rw [List.length_take]; omega, fun j x s hx hs => ?_⟩, (c[i]).toNat, ?_, ?_⟩
      · have hj : j < (c.take i).length := (List.getElem?_eq_some_iff.mp hx).1
        rw [List.length_take] at hj
        rw [List.getElem?_take_of_lt (by omega)] at hx
        exact hall j x s hx hs
      · have := hall i c[i] ss[i] (List.getElem?_eq_getElem hil) e
        omega
      · have := hall i c[i] ss[i] (List.getElem?_eq_getElem hil) e
        have e2 : ((c[i].toNat : Nat) : Int) = c[i] := by omega
        rw [e2]
        have e3 : c.take (i + 1) = c.take i ++ [c[i]] := by rw [List.take_add_one, List.getElem?_eq_getElem hil]; rfl
        rw [← e3, List.take_of_length_le (by omega)]
theorem mem_allC {ss c : List Int} : c ∈ allC ss ↔ IsCt ss c := by
  have q := mem_allC_take (ss := ss) ss.length (Nat.le_refl _) c
  rw [List.take_length] at q
  rw [q, isCt_iff]
theorem at0_some {c : List Int} {k : Int} (h0 : 0 ≤ k) (h1 : k < c.length) : c[k.toNat]? = some (at0 c k) := by
  have hl : k.toNat < c.length := by omega
  show _ = some (c.getD k.toNat 0)
  rw [List.getD_eq_getElem?_getD, List.getElem?_eq_getElem hl]
  rfl
theorem map_cont {ys : List Int} {f g : Int → Int} (h : ∀ y ∈ ys, 0 ≤ f y ∧ f y < g y) : IsCt (ys.map g) (ys.map f) := by
  rw [isCt_iff]
  refine ⟨by rw [List.length_map, List.length_map], fun i x s hx hs => ?_⟩
  rw [List.getElem?_map] at hx hs
  cases e : ys[i]? with
  | none =>
    rw [e] at hx
    cases hx
  | some y =>
    rw [e] at hx hs
    cases hx
    cases hs
    exact h y (List.mem_of_getElem? e)
theorem cont_map {ys : List Int} {f g : Int → Int} (h : IsCt (ys.map g) (ys.map f)) : ∀ y ∈ ys, 0 ≤ f y ∧ f y < g y := fun y hy => by
  obtain ⟨i, hi, e⟩ := List.mem_iff_getElem.mp hy
  have e' : ys[i]? = some y := by rw [List.getElem?_eq_getElem hi, e]
  exact (isCt_iff.mp h).2 i (f y) (g y) (by rw [List.getElem?_map, e']; rfl) (by rw [List.getElem?_map, e']; rfl)
theorem boxOk_picks {ss ps c : List Int} (ha : Asc ss.length (-1) ps) (hc : IsCt ss c) : BoxOk ss ps (picks ps c) := by
  refine ⟨ha, map_cont fun p hp => ?_⟩
  obtain ⟨h0, h1⟩ := ha.inR p hp
  exact (isCt_iff.mp hc).2 p.toNat _ _ (at0_some h0 (by rw [hc.len]; exact h1)) (at0_some h0 h1)
/-- what the pairs of a box say -/
theorem BoxOk.worth {ss ps ws : List Int} (h : BoxOk ss ps ws) {k w : Int} (e : (ps.zip ws).lookup k = some w) : k ∈ ps ∧ 0 ≤ w ∧ w < at0 ss k := by
  obtain ⟨i, hi, ei⟩ := List.mem_iff_getElem.mp (lookup_mem e)
  have hz : (ps.zip ws)[i]? = some (k, w) := by rw [List.getElem?_eq_getElem hi, ei]
  rw [List.getElem?_zip_eq_some] at hz
  obtain ⟨h1, h2⟩ := hz
  refine ⟨List.mem_of_getElem? h1, ?_⟩
  have hc : IsCt (picks ps ss) ws := h.cont
  exact (isCt_iff.mp hc).2 i w (at0 ss k) h2 (by unfold picks; rw [List.getElem?_map, h1]; rfl)
theorem lookup_some {ps ws : List Int} (h : ws.length = ps.length) {k : Int} (hk : k ∈ ps) : ∃ w, (ps.zip ws).lookup k = some w := by
  cases e : (ps.zip ws).lookup k with
  | some w => exact ⟨w, rfl⟩
  | none =>
    rw [lookup_none, zip_keys h] at e
    exact absurd hk e
theorem picks_iff : ∀ {ps ws c : List Int}, ws.length = ps.length → ps.Nodup → (picks ps c = ws ↔ ∀ k w, (ps.zip ws).lookup k = some w → at0 c k = w)
  | [], [], c, _, _ => by simp [picks, List.lookup]
  | [], _ :: _, _, h, _ => by simp at h
  | _ :: _, [], _, h, _ => by simp at h
  | p :: ps, w :: ws, c, h, hn => by
    obtain ⟨n1, n2⟩ := List.nodup_cons.mp hn
    have hl : ws.length = ps.length := by simpa using h
    have ih := picks_iff (c := c) hl n2
    show (at0 c p :: picks ps c = w :: ws) ↔ _
    rw [List.cons.injEq, ih]
    constructor
    · rintro ⟨h1, h2⟩ k v hv
      rw [List.zip_cons_cons, lookup_cons] at hv
      by_cases e : p = k
      · rw [if_pos e] at hv
        cases hv
        rw [← e]
        exact h1
      · rw [if_neg e] at hv
        exact h2 k v hv
    · intro hall
      refine ⟨hall p w (by rw [List.zip_cons_cons, lookup_cons, if_pos rfl]), fun k v hv => hall k v ?_⟩
      have hk : k ∈ ps := by
        have := lookup_none (k := k) (l := ps.zip ws)
        rw [zip_keys hl] at this
        cases hd : decide (k ∈ ps) with
        | true => exact of_decide_eq_true hd
        | false =>
          rw [this.mpr (of_decide_eq_false hd)] at hv
          cases hv
      rw [List.zip_cons_cons, lookup_cons, if_neg fun e => n1 (by rw [show p = k from e]; exact hk)]
      exact hv
theorem clash_iff {A B : Prs} (hA : In5 (A.map (·.1))) : clash A B = true ↔ ∃ k a b, A.lookup k = some a ∧ B.lookup k = some b ∧ a ≠ b := by
  unfold clash
  rw [List.any_eq_true]
  constructor
  · rintro ⟨k, _, h⟩
    cases ha : A.lookup k with
    | none =>
      rw [ha] at h
      cases h
    | some a =>
      cases hb : B.lookup k with
      | none =>
        rw [ha, hb] at h
        cases h
      | some b =>
        rw [ha, hb] at h
        exact ⟨k, a, b, ha, hb, by simpa using h⟩
  · rintro ⟨k, a, b, ha, hb, n⟩
    have hk : k ∈ A.map (·.1) := List.mem_map.mpr ⟨_, lookup_mem ha, rfl⟩
    refine ⟨k, mem_cols5 (hA k hk).1 (hA k hk).2, ?_⟩
    rw [ha, hb]
    simpa using n
section
variable {ss ps ws qs us : List Int}
theorem keys5 (h1 : BoxOk ss ps ws) (hl : ss.length ≤ 5) : In5 ((ps.zip ws).map (·.1)) := by
  rw [zip_keys h1.len]
  exact h1.in5 hl
theorem no_clash (h1 : BoxOk ss ps ws) (hl : ss.length ≤ 5) (n : clash (ps.zip ws) (qs.zip us) = false) {k a b : Int} (ha : (ps.zip ws).lookup k = some a) (hb : (qs.zip us).lookup k = some b) : a = b := by
  by_cases e : a = b
  · exact e
  · have := (clash_iff (keys5 h1 hl)).mpr ⟨k, a, b, ha, hb, e⟩
    rw [n] at this
    cases this
/-- the value at a column of the union -/
theorem val2_A {A B : Prs} {k a : Int} (h : A.lookup k = some a) : val2 A B k = a := by
  unfold val2
  rw [h]
theorem val2_B {A B : Prs} {k b : Int} (h : A.lookup k = none) (hb : B.lookup k = some b) : val2 A B k = b := by
  unfold val2
  rw [h, hb]
  rfl
theorem union_pick (h1 : BoxOk ss ps ws) (h2 : BoxOk ss qs us) (hl : ss.length ≤ 5) (n : clash (ps.zip ws) (qs.zip us) = false) (c : List Int) :
    picks (unionC ps qs) c = (unionC ps qs).map (val2 (ps.zip ws) (qs.zip us)) ↔ picks ps c = ws ∧ picks qs c = us := by
  rw [picks_iff h1.len (rise_nodup h1.asc.rise), picks_iff h2.len (rise_nodup h2.asc.rise)]
  unfold picks
  rw [List.map_inj_left]
  constructor
  · intro h
    refine ⟨fun k w e => ?_, fun k w e => ?_⟩
    · have q := h k ((mem_union (h1.in5 hl) (h2.in5 hl) k).mpr (.inl (h1.worth e).1))
      rw [val2_A e] at q
      exact q
    · have q := h k ((mem_union (h1.in5 hl) (h2.in5 hl) k).mpr (.inr (h2.worth e).1))
      cases ha : (ps.zip ws).lookup k with
      | some a =>
        rw [val2_A ha] at q
        rw [← no_clash h1 hl n ha e]
        exact q
      | none =>
        rw [val2_B ha e] at q
        exact q
  · rintro ⟨a1, a2⟩ k hk
    rcases (mem_union (h1.in5 hl) (h2.in5 hl) k).mp hk with hp | hq
    · obtain ⟨w, e⟩ := lookup_some h1.len hp
      rw [val2_A e]
      exact a1 k w e
    · obtain ⟨u, e⟩ := lookup_some h2.len hq
      cases ha : (ps.zip ws).lookup k with
      | some a =>
        rw [val2_A ha]
        exact a1 k a ha
      | none =>
        rw [val2_B ha e]
        exact a2 k u e
theorem rise_asc {n : Int} : ∀ {l : Int} {ys : List Int}, ys.Pairwise (· < ·) → (∀ y ∈ ys, l < y ∧ y < n) → Asc n l ys
  | _, [], _, _ => True.intro
  | l, y :: ys, h, hb => by
    obtain ⟨p1, p2⟩ := List.pairwise_cons.mp h
    have hy := hb y (List.mem_cons_self ..)
    exact ⟨hy.1, hy.2, rise_asc p2 fun z hz => ⟨p1 z hz, (hb z (List.mem_cons_of_mem _ hz)).2⟩⟩
theorem union_val (h1 : BoxOk ss ps ws) (h2 : BoxOk ss qs us) (hl : ss.length ≤ 5) {k : Int} (hk : k ∈ unionC ps qs) : (0 ≤ k ∧ k < ss.length) ∧ 0 ≤ val2 (ps.zip ws) (qs.zip us) k ∧ val2 (ps.zip ws) (qs.zip us) k < at0 ss k := by
  rcases (mem_union (h1.in5 hl) (h2.in5 hl) k).mp hk with hp | hq
  · obtain ⟨w, e⟩ := lookup_some h1.len hp
    rw [val2_A e]
    exact ⟨h1.asc.inR k hp, (h1.worth e).2⟩
  · obtain ⟨u, e⟩ := lookup_some h2.len hq
    refine ⟨h2.asc.inR k hq, ?_⟩
    cases ha : (ps.zip ws).lookup k with
    | some a =>
      rw [val2_A ha]
      exact (h1.worth ha).2
    | none =>
      rw [val2_B ha e]
      exact (h2.worth e).2
theorem union_box (h1 : BoxOk ss ps ws) (h2 : BoxOk ss qs us) (hl : ss.length ≤ 5) : BoxOk ss (unionC ps qs) ((unionC ps qs).map (val2 (ps.zip ws) (qs.zip us))) :=
  ⟨rise_asc (unionC_rise _ _) fun y hy => by
    have := (union_val (ws := ws) (us := us) h1 h2 hl hy).1
    omega, map_cont fun y hy => (union_val h1 h2 hl hy).2⟩
/-- a content in both -/
def meetC (ss ps ws qs us : List Int) : List Int := (List.range ss.length).map fun (i : Nat) => if (i : Int) ∈ unionC ps qs then val2 (ps.zip ws) (qs.zip us) i else 0
theorem meetC_ct (h1 : BoxOk ss ps ws) (h2 : BoxOk ss qs us) (ok : SizesOk ss) : IsCt ss (meetC ss ps ws qs us) := by
  obtain ⟨_, hl, hm⟩ := ok.facts
  rw [isCt_iff]
  refine ⟨by simp [meetC], fun i x s hx hs => ?_⟩
  have hi : i < ss.length := (List.getElem?_eq_some_iff.mp hs).1
  unfold meetC at hx
  rw [List.getElem?_map, List.getElem?_range hi] at hx
  have ex : (if (i : Int) ∈ unionC ps qs then val2 (ps.zip ws) (qs.zip us) i else 0) = x := Option.some.inj hx
  have es : at0 ss (i : Int) = s := by
    have := at0_some (c := ss) (k := (i : Int)) (by omega) (by omega)
    rw [Int.toNat_natCast, hs] at this
    exact (Option.some.inj this).symm
  by_cases hu : (i : Int) ∈ unionC ps qs
  · rw [if_pos hu] at ex
    have := (union_val (ws := ws) (us := us) h1 h2 hl hu).2
    omega
  · rw [if_neg hu] at ex
    have := hm s (List.mem_of_getElem? hs)
    omega
theorem meetC_in (h1 : BoxOk ss ps ws) (h2 : BoxOk ss qs us) (hl : ss.length ≤ 5) : picks (unionC ps qs) (meetC ss ps ws qs us) = (unionC ps qs).map (val2 (ps.zip ws) (qs.zip us)) := by
  unfold picks
  rw [List.map_inj_left]
  intro k hk
  have hb := (union_val (ws := ws) (us := us) h1 h2 hl hk).1
  have e : (meetC ss ps ws qs us)[k.toNat]? = some (val2 (ps.zip ws) (qs.zip us) k) := by
    unfold meetC
    rw [List.getElem?_map, List.getElem?_range (show k.toNat < ss.length by omega)]
    have ek : ((k.toNat : Nat) : Int) = k := by omega
    show some (if ((k.toNat : Nat) : Int) ∈ unionC ps qs then _ else _) = _
    rw [ek, if_pos hk]
  rw [List.getD_eq_getElem?_getD, e]
  rfl
/-- what is common -/
def comm (ss ps ws qs us : List Int) : List (List Int) := (inBox ss ps ws).filter fun c => decide (picks qs c = us)
theorem comm_none (h1 : BoxOk ss ps ws) (h2 : BoxOk ss qs us) (ok : SizesOk ss) (e : bothR ps ws qs us = none) : comm ss ps ws qs us = [] := by
  obtain ⟨_, hl, _⟩ := ok.facts
  have hc : clash (ps.zip ws) (qs.zip us) = true := by
    cases h : clash (ps.zip ws) (qs.zip us) with
    | true => rfl
    | false =>
      unfold bothR at e
      rw [h] at e
      cases e
  obtain ⟨k, a, b, ha, hb, n⟩ := (clash_iff (keys5 h1 hl)).mp hc
  unfold comm inBox
  rw [List.filter_filter, List.filter_eq_nil_iff]
  intro c _ hq
  rw [Bool.and_eq_true, decide_eq_true_eq, decide_eq_true_eq] at hq
  have q1 := (picks_iff h1.len (rise_nodup h1.asc.rise)).mp hq.2 k a ha
  have q2 := (picks_iff h2.len (rise_nodup h2.asc.rise)).mp hq.1 k b hb
  exact n (q1.symm.trans q2)
theorem comm_some (h1 : BoxOk ss ps ws) (h2 : BoxOk ss qs us) (ok : SizesOk ss) {ys vs : List Int} (e : bothR ps ws qs us = some (ys, vs)) : comm ss ps ws qs us ≠ [] ∧ BoxOk ss ys vs ∧ inBox ss ys vs = comm ss ps ws qs us := by
  obtain ⟨_, hl, _⟩ := ok.facts
  unfold bothR at e
  cases h : clash (ps.zip ws) (qs.zip us) with
  | true =>
    rw [h] at e
    cases e
  | false =>
    rw [h] at e
    have e' : some (unionC ps qs, (unionC ps qs).map (val2 (ps.zip ws) (qs.zip us))) = some (ys, vs) := e
    cases e'
    have eqf : inBox ss (unionC ps qs) ((unionC ps qs).map (val2 (ps.zip ws) (qs.zip us))) = comm ss ps ws qs us := by
      unfold comm inBox
      rw [List.filter_filter]
      refine List.filter_congr fun c _ => ?_
      rw [Bool.eq_iff_iff, Bool.and_eq_true, decide_eq_true_eq, decide_eq_true_eq, decide_eq_true_eq, union_pick h1 h2 hl h]
      exact And.comm
    refine ⟨fun z => ?_, union_box h1 h2 hl, eqf⟩
    rw [← eqf] at z
    have hm : meetC ss ps ws qs us ∈ inBox ss (unionC ps qs) ((unionC ps qs).map (val2 (ps.zip ws) (qs.zip us))) := List.mem_filter.mpr ⟨mem_allC.mpr (meetC_ct h1 h2 ok), decide_eq_true (meetC_in h1 h2 hl)⟩
    rw [z] at hm
    cases hm
theorem unionC_comm (ps qs : List Int) : unionC ps qs = unionC qs ps := by
  unfold unionC
  refine List.filter_congr fun k _ => ?_
  rw [Bool.or_comm]
theorem bothR_comm (h1 : BoxOk ss ps ws) (h2 : BoxOk ss qs us) (hl : ss.length ≤ 5) : bothR qs us ps ws = bothR ps ws qs us := by
  unfold bothR
  have ec : clash (qs.zip us) (ps.zip ws) = clash (ps.zip ws) (qs.zip us) := by
    rw [Bool.eq_iff_iff, clash_iff (keys5 h2 hl), clash_iff (keys5 h1 hl)]
    constructor
    · rintro ⟨k, a, b, ha, hb, n⟩
      exact ⟨k, b, a, hb, ha, n.symm⟩
    · rintro ⟨k, a, b, ha, hb, n⟩
      exact ⟨k, b, a, hb, ha, n.symm⟩
  rw [ec]
  cases h : clash (ps.zip ws) (qs.zip us) with
  | true => rfl
  | false =>
    show some _ = some _
    rw [unionC_comm qs ps]
    congr 2
    refine List.map_congr_left fun k hk => ?_
    cases ha : (ps.zip ws).lookup k with
    | none =>
      cases hb : (qs.zip us).lookup k with
      | none =>
        unfold val2
        rw [ha, hb]
      | some b => rw [val2_A hb, val2_B ha hb]
    | some a =>
      cases hb : (qs.zip us).lookup k with
      | none => rw [val2_A ha, val2_B hb ha]
      | some b => rw [val2_A ha, val2_A hb, no_clash h1 hl h ha hb]
theorem vals_self : ∀ {ps ws : List Int} {B : Prs}, ws.length = ps.length → ps.Nodup → ps.map (val2 (ps.zip ws) B) = ws := by
  intro ps ws B hl hn
  have q : ∀ {ps ws : List Int}, ws.length = ps.length → ∀ A : Prs, (∀ k w, (ps.zip ws).lookup k = some w → A.lookup k = some w) → ps.Nodup → ps.map (val2 A B) = ws := by
    intro ps
    induction ps with
    | nil => intro ws h A _ _; cases ws with
      | nil => rfl
      | cons _ _ => simp at h
    | cons p ps ih =>
      intro ws h A hA hn
      cases ws with
      | nil => simp at h
      | cons w ws =>
        obtain ⟨n1, n2⟩ := List.nodup_cons.mp hn
        have hl : ws.length = ps.length := by simpa using h
        rw [List.map_cons, val2_A (hA p w (by rw [List.zip_cons_cons, lookup_cons, if_pos rfl])), ih hl A (fun k v hv => hA k v ?_) n2]
        have hk : k ∈ ps := by
          have z : k ∈ (ps.zip ws).map (·.1) := List.mem_map.mpr ⟨_, lookup_mem hv, rfl⟩
          rw [zip_keys hl] at z
          exact z
        rw [List.zip_cons_cons, lookup_cons, if_neg fun e => n1 (by rw [show p = k from e]; exact hk)]
        exact hv
  exact q hl _ (fun _ _ h => h) hn
theorem union_self (h1 : BoxOk ss ps ws) (hl : ss.length ≤ 5) (hq : ∀ k ∈ qs, k ∈ ps) : unionC ps qs = ps :=
  rise_eq (unionC_rise _ _) h1.asc.rise fun k => by
    rw [mem_union (h1.in5 hl) (fun p hp => h1.in5 hl p (hq p hp))]
    exact ⟨fun h => h.elim id (hq k), .inl⟩
theorem bothR_self (h1 : BoxOk ss ps ws) (hl : ss.length ≤ 5) : bothR ps ws ps ws = some (ps, ws) := by
  unfold bothR
  have ec : clash (ps.zip ws) (ps.zip ws) = false := by
    cases h : clash (ps.zip ws) (ps.zip ws) with
    | false => rfl
    | true =>
      obtain ⟨k, a, b, ha, hb, n⟩ := (clash_iff (keys5 h1 hl)).mp h
      rw [ha] at hb
      exact absurd (Option.some.inj hb) n
  rw [ec]
  show some _ = some _
  rw [union_self h1 hl fun _ h => h, vals_self h1.len (rise_nodup h1.asc.rise)]
theorem bothR_nil (h1 : BoxOk ss ps ws) (hl : ss.length ≤ 5) : bothR ps ws [] [] = some (ps, ws) := by
  unfold bothR
  have ec : clash (ps.zip ws) (([] : List Int).zip []) = false := by
    cases h : clash (ps.zip ws) (([] : List Int).zip []) with
    | false => rfl
    | true =>
      obtain ⟨k, a, b, ha, hb, n⟩ := (clash_iff (keys5 h1 hl)).mp h
      cases hb
  rw [ec]
  show some _ = some _
  rw [union_self (qs := []) h1 hl (fun _ h => absurd h List.not_mem_nil), vals_self h1.len (rise_nodup h1.asc.rise)]
theorem box_nil : BoxOk ss [] [] := ⟨True.intro, rfl⟩
theorem inBox_nil : inBox ss [] [] = allC ss := by
  unfold inBox
  exact List.filter_eq_self.mpr fun c _ => rfl
end

theorem draw_box {H : Hp} {σ : L2.St} {Q : VK} {h c az ev : Addr} {ss : List Int} {xs : List V} (e1 : σ[1]? = some (some (.ref h))) (e3 : σ[3]? = some (some (.ref az))) (e4 : σ[4]? = some (some (.ref ev))) (hx : HandOk H h c) (ok : SizesOk ss) (hz : SqT K H az (ss.map V.int)) (ne : ev ≠ h)
    (hev : H ev = some (.lst xs)) (hxs : DhAll K H xs ((allC ss).map ctD)) (l0 : 0 < xs.length) (l1 : xs.length ≤ 1024) (q : ∀ v ps ws H', Keep h c H H' → BoxOk ss ps ws → Dh K H' v (boxD ps ws) → Q v H') :
    tCall (spLBox K) [] E0 (tCons (tCall (spPat K) [] E0 (tCons (tVar 1) (tCons (tCB (rLenK K) (tCons (tVar 3) tNil)) tNil))) (tCons (tCall (spSome K) [] E0 (tCons (tVar 1) (tCons (tVar 4) tNil))) tNil)) σ H Q := by
  obtain ⟨_, h5, _⟩ := ok.facts
  refine ⟨_, e1, _, e3, az, _, rfl, .inr hz, h, c, (ss.map V.int).length, rfl, hx, (by rw [List.length_map]; omega), fun v ps H1 k1 asc hp => ?_⟩
  rw [List.length_map] at asc
  refine ⟨_, e1, _, e4, h, c, ev, xs, rfl, k1.hand, ne, k1.rest _ _ ne hev, l0, by omega, fun x H2 hm k2 => ?_⟩
  obtain ⟨d, hd, hxd⟩ := (hxs.ext (Keep.ext hx k1)).mem hm
  obtain ⟨ct, hct, rfl⟩ := List.mem_map.mp hd
  have hct' := mem_allC.mp hct
  have hlen := asc.len (by omega)
  refine ⟨ps, ct, _, _, rfl, hp.ext (Keep.ext k1.hand k2), hxd.ext (Keep.ext k1.hand k2), (by rw [hct'.len]; exact asc.inR), by omega, fun bv H3 s3 hb => q bv ps _ H3 ((k1.trans k2).same s3) (boxOk_picks asc hct') hb⟩

/-! ### the pieces of the law k02 -/
theorem box_parts {H : Hp} {v : V} {ss ps ws : List Int} (hb : Dh K H v (boxD ps ws)) (bx : BoxOk ss ps ws) (hl : ss.length ≤ 5) : ∃ b w1 w2, v = .ref b ∧ SqT K H b [w1, w2] ∧ GT K H 20 w1 ∧ GT K H 20 w2 := by
  obtain ⟨b, w1, w2, rfl, hbt, h1, h2⟩ := box_inv hb
  have l1 := bx.asc.len (by omega)
  have l2 := bx.len
  obtain ⟨a1, rfl, s1⟩ := ct_inv h1
  obtain ⟨a2, rfl, s2⟩ := ct_inv h2
  refine ⟨b, _, _, rfl, hbt, ⟨a1, _, rfl, s1, by rw [List.length_map]; omega, fun x hx => ?_⟩, ⟨a2, _, rfl, s2, by rw [List.length_map]; omega, fun x hx => ?_⟩⟩
  · obtain ⟨i, _, rfl⟩ := List.mem_map.mp hx
    exact .int i
  · obtain ⟨i, _, rfl⟩ := List.mem_map.mp hx
    exact .int i
section
variable {H : Hp} {σ : L2.St} {Q : VK} {h c : Addr}
theorem e_bent {b : Addr} {xs : List V} {w : V} {kb j : Nat} {tm : TE} (e1 : σ[1]? = some (some (.ref h))) (eb : σ[kb]? = some (some (.ref b))) (hx : HandOk H h c) (hb : SqT K H b xs) (hj : xs[j]? = some w) (g : GT K H 20 w) (htm : ∀ R : VK, (∀ m, R (.int m) H) → tm σ H R)
    (q : ∀ v H', Keep h c H H' → Good K H' v → Q v H') : tCall (spBent K) [] E0 (tCons (tVar 1) (tCons (tOp (rIxT K) (tVar kb) (tC (.int (j : Nat)))) (tCons tm tNil))) σ H Q :=
  ⟨_, e1, _, eb, b, xs, _, w, rfl, rfl, hb, atI_nat hj, htm _ fun m => ⟨h, c, w, m, rfl, hx, g, q⟩⟩
theorem e_first {b : Addr} {w1 w2 g1 g2 : V} (e1 : σ[1]? = some (some (.ref h))) (e5 : σ[5]? = some (some (.ref b))) (e12 : σ[12]? = some (some g1)) (e8 : σ[8]? = some (some g2)) (hx : HandOk H h c) (hb : SqT K H b [w1, w2]) (p1 : GT K H 20 w1) (p2 : GT K H 20 w2) (q1 : Good K H g1) (q2 : Good K H g2)
    (q : ∀ v H', Keep h c H H' → Good K H' v → Q v H') :
    tCall (spSome K) [] E0 (tCons (tVar 1) (tCons (tLst (tCons (tVar 5) (tCons (tTup (tCons (tOp (rIxT K) (tVar 5) (tC (.int 0))) (tCons (tVar 12) tNil))) (tCons (tTup (tCons (tVar 8) (tCons (tOp (rIxT K) (tVar 5) (tC (.int 1))) tNil)))
      (tCons (tSl (rSlA K) (tVar 5) tNoPart (tPart (tC (.int 1)))) (tCons (tCall (spThing K) [] E0 (tCons (tVar 1) tNil)) tNil)))))) tNil)) σ H Q := by
  have gb : GT K H 2 (.ref b) := ⟨b, _, rfl, hb, Nat.le_refl _, fun x hm => by
    simp only [List.mem_cons, List.not_mem_nil, or_false] at hm
    rcases hm with rfl | rfl
    · exact p1.good (by decide)
    · exact p2.good (by decide)⟩
  refine ⟨_, e1, _, e5, _, e5, b, _, _, _, rfl, rfl, hb, atI_nat (j := 0) rfl, _, e12, by show 2 ≤ sizeLine; decide, fun a na => ?_⟩
  have s1 : Same H (upd H a (.tup [w1, g1])) := same_new na
  have f1 : GT K (upd H a (.tup [w1, g1])) 2 (.ref a) := ⟨a, _, rfl, SqT.of upd_same, Nat.le_refl _, fun x hm => by
    simp only [List.mem_cons, List.not_mem_nil, or_false] at hm
    rcases hm with rfl | rfl
    · exact (p1.good (by decide)).ext (.of s1)
    · exact q1.ext (.of s1)⟩
  generalize upd H a (.tup [w1, g1]) = H1 at s1 f1 ⊢
  refine ⟨_, e8, _, e5, b, _, _, _, rfl, rfl, (Ext.of s1).sqT hb, atI_nat (j := 1) rfl, by show 2 ≤ sizeLine; decide, fun a2 na2 => ?_⟩
  have s2 : Same H1 (upd H1 a2 (.tup [g2, w2])) := same_new na2
  have f2 : GT K (upd H1 a2 (.tup [g2, w2])) 2 (.ref a2) := ⟨a2, _, rfl, SqT.of upd_same, Nat.le_refl _, fun x hm => by
    simp only [List.mem_cons, List.not_mem_nil, or_false] at hm
    rcases hm with rfl | rfl
    · exact q2.ext (.of (s1.trans s2))
    · exact (p2.good (by decide)).ext (.of (s1.trans s2))⟩
  generalize upd H1 a2 (.tup [g2, w2]) = H2 at s2 f2 ⊢
  have s12 := s1.trans s2
  refine ⟨_, e5, 1, rfl, ?_⟩
  refine gt_slice (K := K) (gb.ext (.of s12)) fun v3 H3 s3 f3 => ?_
  have s13 := s12.trans s3
  refine ⟨_, e1, h, c, rfl, hx.same s13, fun v4 H4 k4 f4 => ⟨by show 5 ≤ sizeLine; decide, fun p np => ?_⟩⟩
  have k04 : Keep h c H H4 := (Keep.of hx s13).trans k4
  have s5 := same_new (o := .lst [.ref b, .ref a, .ref a2, v3, v4]) np
  refine some_of (K := K) (k04.hand.same s5) (k04.hand.ne np).1 upd_same (by show 0 < 5; decide) (by show 5 < 1000; decide) (fun x hm => ?_) fun x H5 _ k5 g5 => q x H5 ((k04.same s5).trans k5) g5
  simp only [List.mem_cons, List.not_mem_nil, or_false] at hm
  have k3 : Keep h c H3 H4 := k4
  have x34 := Keep.ext (hx.same s13) k4
  rcases hm with rfl | rfl | rfl | rfl | rfl
  · exact ((gb.good (by decide)).ext (Keep.ext hx k04)).ext (.of s5)
  · exact (((f1.good (by decide)).ext (.of (s2.trans s3))).ext x34).ext (.of s5)
  · exact (((f2.good (by decide)).ext (.of s3)).ext x34).ext (.of s5)
  · exact ((f3.good (by decide)).ext x34).ext (.of s5)
  · exact f4.ext (.of s5)
/-- one of two: the first stands, the second is made -/
theorem e_two {t1 t2 : TE} {x1 : V} (e1 : σ[1]? = some (some (.ref h))) (hx : HandOk H h c) (h1 : ∀ R : VK, R x1 H → t1 σ H R) (g1 : Good K H x1) (h2 : ∀ R : VK, (∀ v H', Keep h c H H' → Good K H' v → R v H') → t2 σ H R) (q : ∀ v H', Keep h c H H' → Good K H' v → Q v H') :
    tCall (spSome K) [] E0 (tCons (tVar 1) (tCons (tLst (tCons t1 (tCons t2 tNil))) tNil)) σ H Q := by
  refine ⟨_, e1, h1 _ (h2 _ fun v H1 k1 f1 => ⟨by show 2 ≤ sizeLine; decide, fun p np => ?_⟩)⟩
  have s := same_new (o := .lst [x1, v]) np
  refine some_of (K := K) (k1.hand.same s) (k1.hand.ne np).1 upd_same (by show 0 < 2; decide) (by show 2 < 1000; decide) (fun x hm => ?_) fun x H5 _ k5 g5 => q x H5 ((k1.same s).trans k5) g5
  simp only [List.mem_cons, List.not_mem_nil, or_false] at hm
  rcases hm with rfl | rfl
  · exact (g1.ext (Keep.ext hx k1)).ext (.of s)
  · exact f1.ext (.of s)
theorem e_second {b : Addr} {w1 w2 : V} (e1 : σ[1]? = some (some (.ref h))) (e6 : σ[6]? = some (some (.ref b))) (hx : HandOk H h c) (hb : SqT K H b [w1, w2]) (p1 : GT K H 20 w1) (p2 : GT K H 20 w2) (q : ∀ v H', Keep h c H H' → Good K H' v → Q v H') :
    tCall (spSome K) [] E0 (tCons (tVar 1) (tCons (tLst (tCons (tVar 6) (tCons (tTup (tCons (tOp (rIxT K) (tVar 6) (tC (.int 0))) (tCons (tCall (spBent K) [] E0 (tCons (tVar 1) (tCons (tOp (rIxT K) (tVar 6) (tC (.int 1))) (tCons (tC (.int 3)) tNil)))) tNil))) (tCons (tCall (spThing K) [] E0 (tCons (tVar 1) tNil)) tNil)))) tNil)) σ H Q := by
  have gb : GT K H 2 (.ref b) := ⟨b, _, rfl, hb, Nat.le_refl _, fun x hm => by
    simp only [List.mem_cons, List.not_mem_nil, or_false] at hm
    rcases hm with rfl | rfl
    · exact p1.good (by decide)
    · exact p2.good (by decide)⟩
  refine ⟨_, e1, _, e6, _, e6, b, _, _, _, rfl, rfl, hb, atI_nat (j := 0) rfl, _, e1, _, e6, b, _, _, _, rfl, rfl, hb, atI_nat (j := 1) rfl, h, c, w2, 3, rfl, hx, p2, fun v1 H1 k1 f1 => ⟨by show 2 ≤ sizeLine; decide, fun a na => ?_⟩⟩
  have s1 : Same H1 (upd H1 a (.tup [w1, v1])) := same_new na
  have fa : GT K (upd H1 a (.tup [w1, v1])) 2 (.ref a) := ⟨a, _, rfl, SqT.of upd_same, Nat.le_refl _, fun x hm => by
    simp only [List.mem_cons, List.not_mem_nil, or_false] at hm
    rcases hm with rfl | rfl
    · exact ((p1.good (by decide)).ext (Keep.ext hx k1)).ext (.of s1)
    · exact f1.ext (.of s1)⟩
  generalize upd H1 a (.tup [w1, v1]) = H2 at s1 fa ⊢
  have k2 := k1.same s1
  refine ⟨_, e1, h, c, rfl, k2.hand, fun v4 H4 k4 f4 => ⟨by show 3 ≤ sizeLine; decide, fun p np => ?_⟩⟩
  have k04 := k2.trans k4
  have s5 := same_new (o := .lst [.ref b, .ref a, v4]) np
  refine some_of (K := K) (k04.hand.same s5) (k04.hand.ne np).1 upd_same (by show 0 < 3; decide) (by show 3 < 1000; decide) (fun x hm => ?_) fun x H5 _ k5 g5 => q x H5 ((k04.same s5).trans k5) g5
  simp only [List.mem_cons, List.not_mem_nil, or_false] at hm
  rcases hm with rfl | rfl | rfl
  · exact ((gb.good (by decide)).ext (Keep.ext hx k04)).ext (.of s5)
  · exact ((fa.good (by decide)).ext (Keep.ext k2.hand k4)).ext (.of s5)
  · exact f4.ext (.of s5)
end

section
variable {H : Hp} {σ : L2.St} {Q : VK} {h c : Addr}
theorem ints_good {H : Hp} {a : Addr} {c : List Int} (h : H a = some (.tup (c.map V.int))) (hl : c.length ≤ 1000) : Good K H (.ref a) := good_ct (dh_ct (SqT.of h)) hl
theorem e_odds (e1 : σ[1]? = some (some (.ref h))) (hx : HandOk H h c) (q : ∀ p xs H', Keep h c H H' → p ≠ h → H' p = some (.lst xs) → xs.length = 8 → (∀ x ∈ xs, Good K H' x) → Q (.ref p) H') :
    tLst (tCons (tTup (tCons (tC (.int 5)) tNil)) (tCons (tTup (tCons (tC (.int 4)) (tCons (tC (.int 4)) (tCons (tC (.int 4)) (tCons (tC (.int 4)) tNil))))) (tCons (tTup (tCons (tC (.int 4)) (tCons (tC (.int 4)) (tCons (tC (.int 4)) (tCons (tC (.int 4)) (tCons (tC (.int 2)) tNil))))))
      (tCons (tOp (rRepT K) (tTup (tCons (tC (.int 2)) tNil)) (tC (.int 6))) (tCons (tTup tNil) (tCons (tTup (tCons (tC (.bl true)) (tCons (tC (.int 2)) tNil))) (tCons (tLst (tCons (tC (.int 2)) (tCons (tC (.int 2)) tNil))) (tCons (tCall (spThing K) [] E0 (tCons (tVar 1) tNil)) tNil)))))))) σ H Q := by
  refine ⟨by show 1 ≤ sizeLine; decide, fun a1 n1 => ?_⟩
  have s1 : Same H (upd H a1 (.tup [.int 5])) := same_new n1
  have f1 : Good K (upd H a1 (.tup [.int 5])) (.ref a1) := ints_good (c := [5]) upd_same (by decide)
  generalize upd H a1 (.tup [.int 5]) = H1 at s1 f1 ⊢
  refine ⟨by show 4 ≤ sizeLine; decide, fun a2 n2 => ?_⟩
  have s2 : Same H1 (upd H1 a2 (.tup [.int 4, .int 4, .int 4, .int 4])) := same_new n2
  have f2 : Good K (upd H1 a2 (.tup [.int 4, .int 4, .int 4, .int 4])) (.ref a2) := ints_good (c := [4, 4, 4, 4]) upd_same (by decide)
  generalize upd H1 a2 (.tup [.int 4, .int 4, .int 4, .int 4]) = H2 at s2 f2 ⊢
  refine ⟨by show 5 ≤ sizeLine; decide, fun a3 n3 => ?_⟩
  have s3 : Same H2 (upd H2 a3 (.tup [.int 4, .int 4, .int 4, .int 4, .int 2])) := same_new n3
  have f3 : Good K (upd H2 a3 (.tup [.int 4, .int 4, .int 4, .int 4, .int 2])) (.ref a3) := ints_good (c := [4, 4, 4, 4, 2]) upd_same (by decide)
  generalize upd H2 a3 (.tup [.int 4, .int 4, .int 4, .int 4, .int 2]) = H3 at s3 f3 ⊢
  refine ⟨by show 1 ≤ sizeLine; decide, fun a4 n4 => ⟨a4, 6, [.int 2], rfl, rfl, SqT.of upd_same, by simp, by decide, by decide, by show 1 ≤ 1000; decide, fun a5 n5 => ?_⟩⟩
  have s5 : Same H3 (upd (upd H3 a4 (.tup [.int 2])) a5 (.tup (List.replicate (6 : Int).toNat [V.int 2]).flatten)) := (same_new n4).trans (same_new n5)
  have f5 : Good K (upd (upd H3 a4 (.tup [.int 2])) a5 (.tup (List.replicate (6 : Int).toNat [V.int 2]).flatten)) (.ref a5) := ints_good (c := [2, 2, 2, 2, 2, 2]) upd_same (by decide)
  generalize upd (upd H3 a4 (.tup [.int 2])) a5 (.tup (List.replicate (6 : Int).toNat [V.int 2]).flatten) = H5 at s5 f5 ⊢
  refine ⟨by show 0 ≤ sizeLine; decide, fun a6 n6 => ?_⟩
  have s6 : Same H5 (upd H5 a6 (.tup [])) := same_new n6
  have f6 : Good K (upd H5 a6 (.tup [])) (.ref a6) := ints_good (c := []) upd_same (by decide)
  generalize upd H5 a6 (.tup []) = H6 at s6 f6 ⊢
  refine ⟨by show 2 ≤ sizeLine; decide, fun a7 n7 => ?_⟩
  have s7 : Same H6 (upd H6 a7 (.tup [.bl true, .int 2])) := same_new n7
  have f7 : Good K (upd H6 a7 (.tup [.bl true, .int 2])) (.ref a7) := .tup (SqT.of upd_same) (by show 2 ≤ 1000; decide) fun x hm => by
    simp only [List.mem_cons, List.not_mem_nil, or_false] at hm
    rcases hm with rfl | rfl
    · exact .bl _
    · exact .int _
  generalize upd H6 a7 (.tup [.bl true, .int 2]) = H7 at s7 f7 ⊢
  refine ⟨by show 2 ≤ sizeLine; decide, fun a8 n8 => ?_⟩
  have s8 : Same H7 (upd H7 a8 (.lst [.int 2, .int 2])) := same_new n8
  have f8 : Good K (upd H7 a8 (.lst [.int 2, .int 2])) (.ref a8) := .lst upd_same
  generalize upd H7 a8 (.lst [.int 2, .int 2]) = H8 at s8 f8 ⊢
  have s58 := ((s5.trans s6).trans s7).trans s8
  have s18 := ((s1.trans s2).trans s3).trans s58
  refine ⟨_, e1, h, c, rfl, hx.same s18, fun v H9 k9 f9 => ⟨by show 8 ≤ sizeLine; decide, fun p np => ?_⟩⟩
  have k09 := (Keep.of hx s18).trans k9
  have x89 := Keep.ext (hx.same s18) k9
  have sp := same_new (o := .lst [.ref a1, .ref a2, .ref a3, .ref a5, .ref a6, .ref a7, .ref a8, v]) np
  refine q p _ _ (k09.same sp) (k09.hand.ne np).1 upd_same rfl fun x hm => ?_
  simp only [List.mem_cons, List.not_mem_nil, or_false] at hm
  have up : ∀ {y : V}, Good K H8 y → Good K (upd H9 p (.lst [.ref a1, .ref a2, .ref a3, .ref a5, .ref a6, .ref a7, .ref a8, v])) y := fun g => (g.ext x89).ext (.of sp)
  rcases hm with rfl | rfl | rfl | rfl | rfl | rfl | rfl | rfl
  · exact up (f1.ext (.of ((s2.trans s3).trans s58)))
  · exact up (f2.ext (.of (s3.trans s58)))
  · exact up (f3.ext (.of s58))
  · exact up (f5.ext (.of ((s6.trans s7).trans s8)))
  · exact up (f6.ext (.of (s7.trans s8)))
  · exact up (f7.ext (.of s8))
  · exact up f8
  · exact f9.ext (.of sp)
def Ask (K : PySem.W.Frag) (H : Hp) (x : V) : Prop := ∃ (r : Addr) (w : Int) (a b : V), x = .ref r ∧ SqT K H r [.int w, a, b] ∧ 0 ≤ w ∧ w ≤ 4 ∧ Good K H a ∧ Good K H b
theorem Ask.ext {H' : Hp} {x : V} (e : Ext H H') : Ask K H x → Ask K H' x := fun ⟨r, w, a, b, h1, h2, h3, h4, h5, h6⟩ => ⟨r, w, a, b, h1, e.sqT h2, h3, h4, h5.ext e, h6.ext e⟩
theorem t_ask {t : TE} {w : Int} {ta tb : TE} {a b : V} (w0 : 0 ≤ w) (w4 : w ≤ 4) (ha : ∀ (H : Hp) (R : VK), R a H → ta σ H R) (hb : ∀ (H : Hp) (R : VK), R b H → tb σ H R) (ga : Good K H a) (gb : Good K H b) (q : ∀ v H', Same H H' → Ask K H' v → Q v H') : tTup (tCons (tC (.int w)) (tCons ta (tCons tb tNil))) σ H Q := by
  show ta σ H _
  refine ha H _ ?_
  show tb σ H _
  refine hb H _ ⟨by show 3 ≤ sizeLine; decide, fun p np => ?_⟩
  exact q _ _ (same_new np) ⟨p, w, a, b, rfl, SqT.of upd_same, w0, w4, ga.ext (.of (same_new np)), gb.ext (.of (same_new np))⟩
theorem lst5 {t0 t1 t2 t3 t4 : TE} (hh : t0 σ H fun x0 H1 => t1 σ H1 fun x1 H2 => t2 σ H2 fun x2 H3 => t3 σ H3 fun x3 H4 => t4 σ H4 fun x4 H5 => [x0, x1, x2, x3, x4].length ≤ sizeLine ∧ ∀ p, H5 p = none → Q (.ref p) (upd H5 p (.lst [x0, x1, x2, x3, x4]))) :
    tLst (tCons t0 (tCons t1 (tCons t2 (tCons t3 (tCons t4 tNil))))) σ H Q := hh
theorem e_asked {v13 v16 v17 v18 : V} (e13 : σ[13]? = some (some v13)) (e16 : σ[16]? = some (some v16)) (e17 : σ[17]? = some (some v17)) (e18 : σ[18]? = some (some v18)) (g13 : Good K H v13) (g16 : Good K H v16) (g17 : Good K H v17) (g18 : Good K H v18)
    (q : ∀ p xs H', Same H H' → H' p = some (.lst xs) → (∀ x ∈ xs, Ask K H' x) → Q (.ref p) H') :
    tLst (tCons (tTup (tCons (tC (.int 0)) (tCons (tC .non) (tCons (tC .non) tNil)))) (tCons (tTup (tCons (tC (.int 1)) (tCons (tVar 16) (tCons (tVar 17) tNil)))) (tCons (tTup (tCons (tC (.int 2)) (tCons (tVar 13) (tCons (tC .non) tNil))))
      (tCons (tTup (tCons (tC (.int 3)) (tCons (tVar 13) (tCons (tVar 18) tNil)))) (tCons (tTup (tCons (tC (.int 4)) (tCons (tVar 13) (tCons (tC .non) tNil)))) tNil))))) σ H Q := by
  refine lst5 ?_
  refine t_ask (K := K) (t := tC .non) (by decide) (by decide) (fun _ _ h => h) (fun _ _ h => h) Good.non Good.non fun x0 H1 s1 a0 => ?_
  refine t_ask (K := K) (t := tC .non) (by decide) (by decide) (fun _ _ h => ⟨_, e16, h⟩) (fun _ _ h => ⟨_, e17, h⟩) (g16.ext (.of s1)) (g17.ext (.of s1)) fun x1 H2 s2 a1 => ?_
  have s12 := s1.trans s2
  refine t_ask (K := K) (t := tC .non) (by decide) (by decide) (fun _ _ h => ⟨_, e13, h⟩) (fun _ _ h => h) (g13.ext (.of s12)) Good.non fun x2 H3 s3 a2 => ?_
  have s13 := s12.trans s3
  refine t_ask (K := K) (t := tC .non) (by decide) (by decide) (fun _ _ h => ⟨_, e13, h⟩) (fun _ _ h => ⟨_, e18, h⟩) (g13.ext (.of s13)) (g18.ext (.of s13)) fun x3 H4 s4 a3 => ?_
  have s14 := s13.trans s4
  refine t_ask (K := K) (t := tC .non) (by decide) (by decide) (fun _ _ h => ⟨_, e13, h⟩) (fun _ _ h => h) (g13.ext (.of s14)) Good.non fun x4 H5 s5 a4 => ?_
  refine ⟨by show 5 ≤ sizeLine; decide, fun p np => ?_⟩
  have sp := same_new (o := .lst [x0, x1, x2, x3, x4]) np
  refine q p _ _ ((s14.trans s5).trans sp) upd_same fun x hm => ?_
  simp only [List.mem_cons, List.not_mem_nil, or_false] at hm
  rcases hm with rfl | rfl | rfl | rfl | rfl
  · exact a0.ext (.of ((((s2.trans s3).trans s4).trans s5).trans sp))
  · exact a1.ext (.of (((s3.trans s4).trans s5).trans sp))
  · exact a2.ext (.of ((s4.trans s5).trans sp))
  · exact a3.ext (.of (s5.trans sp))
  · exact a4.ext (.of sp)
end

end
end Fm
namespace Fm
open PySem PySem.Spec PyProof.Rows L2
section
variable {P : Program} {w : World} {K : PySem.W.Frag} {mg : Str → Option Value} {base : Heap}

section
variable {H : Hp} {σ : L2.St} {Q : VK} {h c : Addr}
theorem e_many {n : Int} {z : Str} (e8 : σ[8]? = some (some (.int n))) (hx : HandOk H h c) (q : ∀ p xs H', Same H H' → p ≠ h → H' p = some (.lst xs) → xs.length = 9 → (∀ x ∈ xs, Good K H' x) → Q (.ref p) H') :
    tLst (tCons (tVar 8) (tCons (tC (.int 0)) (tCons (tC (.int 6)) (tCons (tC (.bl true)) (tCons (tC .non) (tCons (tC (.str z)) (tCons (tTup (tCons (tC (.int 3)) tNil)) (tCons (tUn (rU fun i => .int (-i)) (tC (.int 1)))
      (tCons (tOp (rI CPow fun i j => .int (i ^ j.toNat)) (tC (.int 10)) (tC (.int 30))) tNil))))))))) σ H Q := by
  refine ⟨_, e8, by show 1 ≤ sizeLine; decide, fun a1 n1 => ?_⟩
  have s1 : Same H (upd H a1 (.tup [.int 3])) := same_new n1
  have f1 : Good K (upd H a1 (.tup [.int 3])) (.ref a1) := ints_good (c := [3]) upd_same (by decide)
  generalize upd H a1 (.tup [.int 3]) = H1 at s1 f1 ⊢
  refine ⟨1, rfl, 10, 30, rfl, rfl, ⟨by decide, by decide, by decide⟩, by show 9 ≤ sizeLine; decide, fun p np => ?_⟩
  have sp := same_new (o := .lst [.int n, .int 0, .int 6, .bl true, .non, .str z, .ref a1, .int (-1), .int ((10 : Int) ^ (30 : Int).toNat)]) np
  refine q p _ _ (s1.trans sp) ((hx.same s1).ne np).1 upd_same rfl fun x hm => ?_
  simp only [List.mem_cons, List.not_mem_nil, or_false] at hm
  rcases hm with rfl | rfl | rfl | rfl | rfl | rfl | rfl | rfl | rfl
  · exact .int _
  · exact .int _
  · exact .int _
  · exact .bl _
  · exact .non
  · exact .str _
  · exact f1.ext (.of sp)
  · exact .int _
  · exact .int _
theorem e_things {n : Nat} {tv : V} (e1 : σ[1]? = some (some (.ref h))) (e8 : σ[8]? = some (some (.int n))) (e9 : σ[9]? = some (some tv)) (hn : n ≤ 5) (hx : HandOk H h c) (tl : TL K H tv)
    (q : ∀ p xs H', Keep h c H H' → H' p = some (.lst xs) → (∀ x ∈ xs, Good K H' x) → Q (.ref p) H') :
    tLst (tCons (tVar 9) (tCons (tCall (spBentL K) [] E0 (tCons (tVar 1) (tCons (tVar 8) (tCons (tVar 9) tNil)))) (tCons (tCall (spBentL K) [] E0 (tCons (tVar 1) (tCons (tVar 8) (tCons (tVar 9) tNil)))) tNil))) σ H Q := by
  refine ⟨_, e9, _, e1, _, e8, _, e9, h, c, n, tv, rfl, by omega, hx, tl, fun v1 H1 k1 g1 => ?_⟩
  refine ⟨_, e1, _, e8, _, e9, h, c, n, tv, rfl, by omega, k1.hand, tl.ext (Keep.ext hx k1), fun v2 H2 k2 g2 => ?_⟩
  refine ⟨by show 3 ≤ sizeLine; decide, fun p np => ?_⟩
  have sp := same_new (o := .lst [tv, v1, v2]) np
  refine q p _ _ ((k1.trans k2).same sp) upd_same fun x hm => ?_
  simp only [List.mem_cons, List.not_mem_nil, or_false] at hm
  rcases hm with rfl | rfl | rfl
  · exact (tl.gt.good (by decide)).ext (Keep.ext hx ((k1.trans k2).same sp))
  · exact g1.ext (Keep.ext k1.hand (k2.same sp))
  · exact g2.ext (.of sp)
end
theorem for_iList {tl : TE} {g : TG} {tb : TS} {D : Ends} {σ : L2.St} {H : Hp} (h : tl σ H fun x H1 => tFor (fun _ H2 R => ∃ a, x = .ref a ∧ (∃ xs, SqL K H2 a xs) ∧ R (Itl K a) H2) g tb D σ H1) : tFor (iList K tl) g tb D σ H := h

end
end Fm
namespace Fm
open PySem PySem.Spec PyProof.Rows L2
section
variable {P : Program} {w : World} {K : PySem.W.Frag} {mg : Str → Option Value} {base : Heap}

theorem at_last {xs : List V} {v : V} (h : xs[xs.length - 1]? = some v) : atI xs (-1) = some v := by
  have hl := (List.getElem?_eq_some_iff.mp h).1
  have e : atI xs (-1) = xs[xs.length - 1]? := by
    unfold atI ixN
    rw [if_neg (by omega : ¬ (0 : Int) ≤ -1), if_pos (by omega)]
    show xs[((-1 : Int) + (xs.length : Int)).toNat]? = _
    congr 1
    omega
  rw [e, h]
structure LB (K : PySem.W.Frag) (h c az ev : Addr) (bv ov : V) (ss : List Int) (xs : List V) (ps ws qs us : List Int) (H : Hp) : Prop where
  hand : HandOk H h c
  sz : SqT K H az (ss.map V.int)
  ev : H ev = some (.lst xs)
  xs : DhAll K H xs ((allC ss).map ctD)
  b : Dh K H bv (boxD ps ws)
  o : Dh K H ov (boxD qs us)
theorem LB.keep {h c az ev : Addr} {bv ov : V} {ss : List Int} {xs : List V} {ps ws qs us : List Int} {H H' : Hp} (x : LB K h c az ev bv ov ss xs ps ws qs us H) (ne : ev ≠ h) (k : Keep h c H H') : LB K h c az ev bv ov ss xs ps ws qs us H' :=
  ⟨k.hand, Ext.sqT (Keep.ext x.hand k) x.sz, k.rest _ _ ne x.ev, x.xs.ext (Keep.ext x.hand k), x.b.ext (Keep.ext x.hand k), x.o.ext (Keep.ext x.hand k)⟩
theorem LB.same {h c az ev : Addr} {bv ov : V} {ss : List Int} {xs : List V} {ps ws qs us : List Int} {H H' : Hp} (x : LB K h c az ev bv ov ss xs ps ws qs us H) (ne : ev ≠ h) (s : Same H H') : LB K h c az ev bv ov ss xs ps ws qs us H' := x.keep ne (.of x.hand s)
def spLaw (K : PySem.W.Frag) : Sp := fun vs H Q _ => ∃ (a : Addr) (ns : List Int), vs = [.ref a] ∧ SqL K H a (ns.map V.int) ∧ ns.length ≤ 63 ∧ ∀ H', Q (.bl true) H'
theorem ok_law (T : Txt K mg) {f : Addr} {fd : FuncData} (F : Fun K "law" "law" s_law f fd) : FnOk P w K mg base CX0 10 f fd ["script"] (spLaw K) := by
  refine F.ok sc_law (fun vs H Q E h => ?_) (fun cdv A outer s H vs Q E hr h => ?_)
  · obtain ⟨_, _, rfl, _⟩ := h
    rfl
  · obtain ⟨a, ns, rfl, hS, hl, q⟩ := h
    refine ⟨_, (pss_cons (ps_set (i := 1) sc_law.nd rfl (.inl rfl) (pe_call (ok_law_hand T) (hr.mono (by decide)) (by rfl) T.g_law_hand T.F_law_hand.kp T.b_law_hand .nil pass0 (pa_cons (pv 0) pa_nil)))
      (pss_cons (ps_for PassesOwn.never rfl (pi_range1 (by rfl) T.z_range (pa_cons pe_int pa_nil)) (pg_name (i := 2) sc_law.nd rfl (.inl rfl)) (pss_cons (ps_set (i := 3) sc_law.nd rfl (.inl rfl) (pe_call (ok_law_sizes T) (hr.mono (by decide)) (by rfl) T.g_law_sizes T.F_law_sizes.kp T.b_law_sizes .nil pass0 (pa_cons (pv 1) pa_nil)))
      (pss_cons (ps_set (i := 4) sc_law.nd rfl (.inl rfl) (pe_call (ok_law_contents T) (hr.mono (by decide)) (by rfl) T.g_law_contents T.F_law_contents.kp T.b_law_contents .nil pass0 (pa_cons (pv 3) pa_nil)))
      (pss_cons (ps_set (i := 5) sc_law.nd rfl (.inl rfl) (pe_call (ok_law_box T) (hr.mono (by decide)) (by rfl) T.g_law_box T.F_law_box.kp T.b_law_box .nil pass0 (pa_cons (pe_call (ok_law_pattern T) (hr.mono (by decide)) (by rfl) T.g_law_pattern T.F_law_pattern.kp T.b_law_pattern .nil pass0 (pa_cons (pv 1) (pa_cons (pe_callB (call_lenK K) (by rfl) T.z_len PySem.boot_len (pa_cons (pv 3) pa_nil)) pa_nil))) (pa_cons (pe_call (ok_law_some T) (hr.mono (by decide)) (by rfl) T.g_law_some T.F_law_some.kp T.b_law_some .nil pass0 (pa_cons (pv 1) (pa_cons (pv 4) pa_nil))) pa_nil))))
      (pss_cons (ps_set (i := 6) sc_law.nd rfl (.inl rfl) (pe_call (ok_law_box T) (hr.mono (by decide)) (by rfl) T.g_law_box T.F_law_box.kp T.b_law_box .nil pass0 (pa_cons (pe_call (ok_law_pattern T) (hr.mono (by decide)) (by rfl) T.g_law_pattern T.F_law_pattern.kp T.b_law_pattern .nil pass0 (pa_cons (pv 1) (pa_cons (pe_callB (call_lenK K) (by rfl) T.z_len PySem.boot_len (pa_cons (pv 3) pa_nil)) pa_nil))) (pa_cons (pe_call (ok_law_some T) (hr.mono (by decide)) (by rfl) T.g_law_some T.F_law_some.kp T.b_law_some .nil pass0 (pa_cons (pv 1) (pa_cons (pv 4) pa_nil))) pa_nil))))
      (pss_cons (ps_for PassesOwn.never rfl (pi_range1 (by rfl) T.z_range (pa_cons pe_int pa_nil)) (pg_name (i := 7) sc_law.nd rfl (.inl rfl)) (pss_cons (ps_set (i := 12) sc_law.nd rfl (.inl rfl) (pe_call (ok_law_bent T) (hr.mono (by decide)) (by rfl) T.g_law_bent T.F_law_bent.kp T.b_law_bent .nil pass0 (pa_cons (pv 1) (pa_cons (pe_ix (ix_tupK K) (pv 5) pe_int (fun _ _ => rfl)) (pa_cons pe_int pa_nil)))))
      (pss_cons (ps_set (i := 8) sc_law.nd rfl (.inl rfl) (pe_call (ok_law_bent T) (hr.mono (by decide)) (by rfl) T.g_law_bent T.F_law_bent.kp T.b_law_bent .nil pass0 (pa_cons (pv 1) (pa_cons (pe_ix (ix_tupK K) (pv 5) pe_int (fun _ _ => rfl)) (pa_cons (pe_callB (call_lenK K) (by rfl) T.z_len PySem.boot_len (pa_cons (pv 3) pa_nil)) pa_nil)))))
      (pss_cons (ps_set (i := 13) sc_law.nd rfl (.inl rfl) (pe_call (ok_law_some T) (hr.mono (by decide)) (by rfl) T.g_law_some T.F_law_some.kp T.b_law_some .nil pass0 (pa_cons (pv 1) (pa_cons (pe_lst (pa_cons (pv 5) (pa_cons (pe_tup (pa_cons (pe_ix (ix_tupK K) (pv 5) pe_int (fun _ _ => rfl)) (pa_cons (pv 12) pa_nil))) (pa_cons (pe_tup (pa_cons (pv 8) (pa_cons (pe_ix (ix_tupK K) (pv 5) pe_int (fun _ _ => rfl)) pa_nil))) (pa_cons (pe_slice (sl_tupK K) (pv 5) po_none (po_some pe_int)) (pa_cons (pe_call (ok_law_odd T) (hr.mono (by decide)) (by rfl) T.g_law_odd T.F_law_odd.kp T.b_law_odd .nil pass0 (pa_cons (pv 1) pa_nil)) pa_nil)))))) pa_nil))))
      (pss_cons (ps_if (pt_not (pt_val (pe_call (ok_law_flag T) (hr.mono (by decide)) (by rfl) T.g_law_flag T.F_law_flag.kp T.b_law_flag .nil pass0 (pa_cons (pe_call (ok_is_box T) (hr.mono (by decide)) (by rfl) T.g_is_box T.F_is_box.kp T.b_is_box .nil pass0 (pa_cons (pv 3) (pa_cons (pv 13) pa_nil))) (pa_cons (pe_call (ok_law_is_box T) (hr.mono (by decide)) (by rfl) T.g_law_is_box T.F_law_is_box.kp T.b_law_is_box .nil pass0 (pa_cons (pv 3) (pa_cons (pv 13) pa_nil))) pa_nil))))) (pss_one (ps_ret pe_bl)) pss_nil)
      (pss_cons (ps_set (i := 14) sc_law.nd rfl (.inl rfl) (pe_lst (pa_cons (pe_tup (pa_cons pe_int pa_nil)) (pa_cons (pe_tup (pa_cons pe_int (pa_cons pe_int (pa_cons pe_int (pa_cons pe_int pa_nil))))) (pa_cons (pe_tup (pa_cons pe_int (pa_cons pe_int (pa_cons pe_int (pa_cons pe_int (pa_cons pe_int pa_nil)))))) (pa_cons (pe_op (op_repTK (K := K)) (pe_tup (pa_cons pe_int pa_nil)) pe_int) (pa_cons (pe_tup pa_nil) (pa_cons (pe_tup (pa_cons pe_bl (pa_cons pe_int pa_nil))) (pa_cons (pe_lst (pa_cons pe_int (pa_cons pe_int pa_nil))) (pa_cons (pe_call (ok_law_odd T) (hr.mono (by decide)) (by rfl) T.g_law_odd T.F_law_odd.kp T.b_law_odd .nil pass0 (pa_cons (pv 1) pa_nil)) pa_nil))))))))))
      (pss_cons (ps_set (i := 15) sc_law.nd rfl (.inl rfl) (pe_call (ok_law_some T) (hr.mono (by decide)) (by rfl) T.g_law_some T.F_law_some.kp T.b_law_some .nil pass0 (pa_cons (pv 1) (pa_cons (pe_lst (pa_cons (pv 3) (pa_cons (pe_call (ok_law_some T) (hr.mono (by decide)) (by rfl) T.g_law_some T.F_law_some.kp T.b_law_some .nil pass0 (pa_cons (pv 1) (pa_cons (pv 14) pa_nil))) pa_nil))) pa_nil))))
      (pss_cons (ps_set (i := 16) sc_law.nd rfl (.inl rfl) (pe_call (ok_law_some T) (hr.mono (by decide)) (by rfl) T.g_law_some T.F_law_some.kp T.b_law_some .nil pass0 (pa_cons (pv 1) (pa_cons (pe_lst (pa_cons (pe_ix (ix_tupK K) (pv 5) pe_int (fun _ _ => rfl)) (pa_cons (pe_call (ok_law_bent T) (hr.mono (by decide)) (by rfl) T.g_law_bent T.F_law_bent.kp T.b_law_bent .nil pass0 (pa_cons (pv 1) (pa_cons (pe_ix (ix_tupK K) (pv 5) pe_int (fun _ _ => rfl)) (pa_cons (pe_callB (call_lenK K) (by rfl) T.z_len PySem.boot_len (pa_cons (pv 3) pa_nil)) pa_nil)))) pa_nil))) pa_nil))))
      (pss_cons (ps_set (i := 17) sc_law.nd rfl (.inl rfl) (pe_call (ok_law_some T) (hr.mono (by decide)) (by rfl) T.g_law_some T.F_law_some.kp T.b_law_some .nil pass0 (pa_cons (pv 1) (pa_cons (pe_lst (pa_cons (pe_ix (ix_listK K) (pv 4) pe_int (fun _ _ => rfl)) (pa_cons (pe_call (ok_law_bent T) (hr.mono (by decide)) (by rfl) T.g_law_bent T.F_law_bent.kp T.b_law_bent .nil pass0 (pa_cons (pv 1) (pa_cons (pe_ix (ix_listK K) (pv 4) (pe_un un_neg pe_int) (fun _ _ => rfl)) (pa_cons pe_int pa_nil)))) pa_nil))) pa_nil))))
      (pss_cons (ps_set (i := 18) sc_law.nd rfl (.inl rfl) (pe_call (ok_law_some T) (hr.mono (by decide)) (by rfl) T.g_law_some T.F_law_some.kp T.b_law_some .nil pass0 (pa_cons (pv 1) (pa_cons (pe_lst (pa_cons (pv 6) (pa_cons (pe_tup (pa_cons (pe_ix (ix_tupK K) (pv 6) pe_int (fun _ _ => rfl)) (pa_cons (pe_call (ok_law_bent T) (hr.mono (by decide)) (by rfl) T.g_law_bent T.F_law_bent.kp T.b_law_bent .nil pass0 (pa_cons (pv 1) (pa_cons (pe_ix (ix_tupK K) (pv 6) pe_int (fun _ _ => rfl)) (pa_cons pe_int pa_nil)))) pa_nil))) (pa_cons (pe_call (ok_law_odd T) (hr.mono (by decide)) (by rfl) T.g_law_odd T.F_law_odd.kp T.b_law_odd .nil pass0 (pa_cons (pv 1) pa_nil)) pa_nil)))) pa_nil))))
      (pss_cons (ps_set (i := 19) sc_law.nd rfl (.inl rfl) (pe_lst (pa_cons (pe_tup (pa_cons pe_int (pa_cons pe_non (pa_cons pe_non pa_nil)))) (pa_cons (pe_tup (pa_cons pe_int (pa_cons (pv 16) (pa_cons (pv 17) pa_nil)))) (pa_cons (pe_tup (pa_cons pe_int (pa_cons (pv 13) (pa_cons pe_non pa_nil)))) (pa_cons (pe_tup (pa_cons pe_int (pa_cons (pv 13) (pa_cons (pv 18) pa_nil)))) (pa_cons (pe_tup (pa_cons pe_int (pa_cons (pv 13) (pa_cons pe_non pa_nil)))) pa_nil)))))))
      (pss_one (ps_for PassesOwn.never rfl (pi_listK K (pv 19)) (pg_tupK K (n := 3) rfl (pgs_cons (pg_name (i := 20) sc_law.nd rfl (.inl rfl)) (pgs_cons (pg_name (i := 21) sc_law.nd rfl (.inl rfl)) (pgs_cons (pg_name (i := 22) sc_law.nd rfl (.inl rfl)) pgs_nil)))) (pss_one (ps_if (pt_cmpR op_ne (pe_call (ok_law_word T) (hr.mono (by decide)) (by rfl) T.g_law_word T.F_law_word.kp T.b_law_word .nil pass0 (pa_cons (pv 20) (pa_cons (pv 15) (pa_cons (pv 21) (pa_cons (pv 22) pa_nil))))) (pe_call (ok_law_due T) (hr.mono (by decide)) (by rfl) T.g_law_due T.F_law_due.kp T.b_law_due .nil pass0 (pa_cons (pv 20) (pa_cons (pv 15) (pa_cons (pv 21) (pa_cons (pv 22) pa_nil))))) (nomark _)) (pss_one (ps_ret pe_bl)) pss_nil)))))))))))))))
      (pss_cons (ps_set (i := 8) sc_law.nd rfl (.inl rfl) (pe_op op_add pe_int (pe_call (ok_law_draw T) (hr.mono (by decide)) (by rfl) T.g_law_draw T.F_law_draw.kp T.b_law_draw .nil pass0 (pa_cons (pv 1) (pa_cons pe_int pa_nil)))))
      (pss_cons (ps_set (i := 9) sc_law.nd rfl (.inl rfl) (pe_call (ok_law_drawn_list T) (hr.mono (by decide)) (by rfl) T.g_law_drawn_list T.F_law_drawn_list.kp T.b_law_drawn_list .nil pass0 (pa_cons (pv 1) (pa_cons (pv 8) pa_nil))))
      (pss_cons (ps_for PassesOwn.never rfl (pi_listK K (pe_lst (pa_cons (pv 9) (pa_cons (pe_call (ok_law_bent_list T) hr (by rfl) T.g_law_bent_list T.F_law_bent_list.kp T.b_law_bent_list .nil pass0 (pa_cons (pv 1) (pa_cons (pv 8) (pa_cons (pv 9) pa_nil)))) (pa_cons (pe_call (ok_law_bent_list T) hr (by rfl) T.g_law_bent_list T.F_law_bent_list.kp T.b_law_bent_list .nil pass0 (pa_cons (pv 1) (pa_cons (pv 8) (pa_cons (pv 9) pa_nil)))) pa_nil))))) (pg_name (i := 10) sc_law.nd rfl (.inl rfl)) (pss_one (ps_if (pt_not (pt_val (pe_call (ok_law_flag T) (hr.mono (by decide)) (by rfl) T.g_law_flag T.F_law_flag.kp T.b_law_flag .nil pass0 (pa_cons (pe_call (ok_is_list T) (hr.mono (by decide)) (by rfl) T.g_is_list T.F_is_list.kp T.b_is_list .nil pass0 (pa_cons (pv 8) (pa_cons (pv 10) pa_nil))) (pa_cons (pe_call (ok_law_is_list T) (hr.mono (by decide)) (by rfl) T.g_law_is_list T.F_law_is_list.kp T.b_law_is_list .nil pass0 (pa_cons (pv 8) (pa_cons (pv 10) pa_nil))) pa_nil))))) (pss_one (ps_ret pe_bl)) pss_nil)))
      (pss_cons (ps_set (i := 11) sc_law.nd rfl (.inl rfl) (pe_call (ok_law_some T) (hr.mono (by decide)) (by rfl) T.g_law_some T.F_law_some.kp T.b_law_some .nil pass0 (pa_cons (pv 1) (pa_cons (pe_lst (pa_cons (pv 8) (pa_cons pe_int (pa_cons pe_int (pa_cons pe_bl (pa_cons pe_non (pa_cons pe_str (pa_cons (pe_tup (pa_cons pe_int pa_nil)) (pa_cons (pe_un un_neg pe_int) (pa_cons (pe_op op_pow pe_int pe_int) pa_nil)))))))))) pa_nil))))
      (pss_one (ps_if (pt_cmpR op_ne (pe_call (ok_law_word T) (hr.mono (by decide)) (by rfl) T.g_law_word T.F_law_word.kp T.b_law_word .nil pass0 (pa_cons pe_int (pa_cons (pv 11) (pa_cons (pv 9) (pa_cons pe_non pa_nil))))) (pe_call (ok_law_due T) (hr.mono (by decide)) (by rfl) T.g_law_due T.F_law_due.kp T.b_law_due .nil pass0 (pa_cons pe_int (pa_cons (pv 11) (pa_cons (pv 9) (pa_cons pe_non pa_nil))))) (nomark _)) (pss_one (ps_ret pe_bl)) pss_nil))))))))))))
      (pss_one (ps_ret pe_bl)))), ?_⟩
    refine ⟨_, rfl, a, ns, rfl, hS, by omega, fun h c H1 nh s1 hx => ?_⟩
    refine ⟨4, rfl, by decide, by decide, for_range (lo := 0) (n := 4) (fun i σ H' => ∃ y2 y3 y4 y5 y6 y7 y8 y9 y10 y11 y12 y13 y14 y15 y16 y17 y18 y19 y20 y21 y22 : Option V, σ = [some (.ref a), some (.ref h), y2, y3, y4, y5, y6, y7, y8, y9, y10, y11, y12, y13, y14, y15, y16, y17, y18, y19, y20, y21, y22] ∧ HandOk H' h c)
      ⟨none, none, none, none, none, none, none, none, none, none, none, none, none, none, none, none, none, none, none, none, none, rfl, hx⟩ ?_ ?_⟩
    · rintro i σ H' hi ⟨y2, y3, y4, y5, y6, y7, y8, y9, y10, y11, y12, y13, y14, y15, y16, y17, y18, y19, y20, y21, y22, rfl, hx⟩
      refine ⟨_, rfl, h, c, rfl, hx, fun sz ss H2 k2 ok hsz => ?_⟩
      obtain ⟨az, rfl, haz⟩ := ct_inv hsz
      obtain ⟨_, h5, _⟩ := ok.facts
      refine ⟨_, rfl, az, ss, rfl, haz, ok, fun ev xs H3 nev s3 hev hxs => ?_⟩
      have hne : ev ≠ h := (k2.hand.ne nev).1
      have hlen := hxs.length
      rw [List.length_map] at hlen
      have hal := allC_all ok
      have l0 : 0 < xs.length := by
        rw [hlen]
        have hm := mem_allC.mpr (meetC_ct (box_nil (ss := ss)) box_nil ok)
        exact List.length_pos_of_mem hm
      dsimp only [tSeq, tAsg]
      refine draw_box (K := K) rfl rfl rfl (k2.hand.same s3) ok ((Ext.of s3).sqT haz) hne hev hxs l0 (by omega) fun bv ps ws H4 k4 bx1 hb => ?_
      refine draw_box (K := K) rfl rfl rfl k4.hand ok (Ext.sqT (Keep.ext (k2.hand.same s3) k4) ((Ext.of s3).sqT haz)) hne (k4.rest _ _ hne hev) (hxs.ext (Keep.ext (k2.hand.same s3) k4)) l0 (by omega) fun ov qs us H5 k5 bx2 ho => ?_
      have lb5 : LB K h c az ev bv ov ss xs ps ws qs us H5 := ⟨k5.hand, Ext.sqT (Keep.ext k4.hand k5) (Ext.sqT (Keep.ext (k2.hand.same s3) k4) ((Ext.of s3).sqT haz)), k5.rest _ _ hne (k4.rest _ _ hne hev), (hxs.ext (Keep.ext (k2.hand.same s3) k4)).ext (Keep.ext k4.hand k5), hb.ext (Keep.ext k4.hand k5), ho⟩
      clear hev hxs haz hx hsz s3 k2 k4 k5 hb ho s1 hS nh nev
      refine ⟨4, rfl, by decide, by decide, for_range (lo := 0) (n := 4) (fun j σ H' => ∃ y2 y7 y8 y9 y10 y11 y12 y13 y14 y15 y16 y17 y18 y19 y20 y21 y22 : Option V, σ = [some (.ref a), some (.ref h), y2, some (.ref az), some (.ref ev), some bv, some ov, y7, y8, y9, y10, y11, y12, y13, y14, y15, y16, y17, y18, y19, y20, y21, y22] ∧ LB K h c az ev bv ov ss xs ps ws qs us H')
        ⟨_, _, _, _, _, _, _, _, _, _, _, _, _, _, _, _, _, rfl, lb5⟩ ?_ ?_⟩
      · clear lb5
        rintro j σ H0 hj ⟨y2, y7, y8, y9, y10, y11, y12, y13, y14, y15, y16, y17, y18, y19, y20, y21, y22, rfl, lb⟩
        obtain ⟨b, w1, w2, rfl, hbt, p1, p2⟩ := box_parts lb.b bx1 h5
        obtain ⟨b2, u1, u2, rfl, hot, r1, r2⟩ := box_parts lb.o bx2 h5
        have lenm : ∀ (H : Hp) (σ : L2.St), LB K h c az ev (.ref b) (.ref b2) ss xs ps ws qs us H → σ[3]? = some (some (.ref az)) → ∀ R : VK, (∀ m, R (.int m) H) → tCB (rLenK K) (tCons (tVar 3) tNil) σ H R := fun H σ lb e3 R hR => ⟨_, e3, az, _, rfl, .inr lb.sz, hR _⟩
        try dsimp only [tNext, tSeq, tAsg, gName, List.set_cons_succ, List.set_cons_zero]
        refine e_bent (K := K) (j := 1) (w := w2) rfl rfl lb.hand hbt rfl p2 (fun R hR => hR 3) fun v12 H1 k1 g12 => ?_
        have lb1 := lb.keep hne k1
        try dsimp only [tNext, tSeq, tAsg, gName, List.set_cons_succ, List.set_cons_zero]
        refine e_bent (K := K) (j := 0) (w := w1) rfl rfl lb1.hand (Ext.sqT (Keep.ext lb.hand k1) hbt) rfl (p1.ext (Keep.ext lb.hand k1)) (lenm H1 _ lb1 rfl) fun v8 H2 k2 g8 => ?_
        have lb2 := lb1.keep hne k2
        have kk2 := k1.trans k2
        have x02 := Keep.ext lb.hand kk2
        try dsimp only [tNext, tSeq, tAsg, gName, List.set_cons_succ, List.set_cons_zero]
        refine e_first (K := K) rfl rfl rfl rfl lb2.hand (x02.sqT hbt) (p1.ext x02) (p2.ext x02) (g12.ext (Keep.ext lb1.hand k2)) g8 fun fv H3 k3 g13 => ?_
        have lb3 := lb2.keep hne k3
        have kk3 := kk2.trans k3
        obtain ⟨d13, hf13, sm13⟩ := g13
        try dsimp only [tNext, tSeq, tAsg, gName, List.set_cons_succ, List.set_cons_zero]
        refine ⟨_, rfl, _, rfl, az, ss, fv, d13, rfl, lb3.sz, ok, hf13, fun H4 s4 => ?_⟩
        have lb4 := lb3.same hne s4
        refine ⟨_, rfl, _, rfl, az, ss, fv, d13, rfl, lb4.sz, by omega, hf13.ext (.of s4), sm13.s2, fun H5 s5 => ⟨_, _, rfl, ⟨_, rfl, ?_⟩⟩⟩
        rw [decide_eq_true rfl]
        refine iteF ?_
        have lb5 := lb4.same hne s5
        have kk5 := (kk3.same s4).same s5
        have g13 : Good K H5 fv := ⟨d13, hf13.ext (.of (s4.trans s5)), sm13⟩
        try dsimp only [tNext, tSeq, tAsg, gName, List.set_cons_succ, List.set_cons_zero]
        refine e_odds (K := K) rfl lb5.hand fun p14 xs14 H6 k6 np14 e14 l14 g14 => ?_
        have lb6 := lb5.keep hne k6
        have kk6 := kk5.trans k6
        try dsimp only [tNext, tSeq, tAsg, gName, List.set_cons_succ, List.set_cons_zero]
        refine e_two (K := K) (x1 := .ref az) rfl lb6.hand (fun R h => ⟨_, rfl, h⟩) (good_ct (dh_ct lb6.sz) (by omega)) (fun R hR => ⟨_, rfl, _, rfl, some_of (K := K) lb6.hand np14 e14 (by omega) (by omega) g14 fun x H7 _ k7 g7 => hR x H7 k7 g7⟩) fun v15 H7 k7 g15 => ?_
        have lb7 := lb6.keep hne k7
        have kk7 := kk6.trans k7
        have x07 := Keep.ext lb.hand kk7
        try dsimp only [tNext, tSeq, tAsg, gName, List.set_cons_succ, List.set_cons_zero]
        refine e_two (K := K) (x1 := w1) rfl lb7.hand (fun R h => ⟨_, rfl, b, _, _, _, rfl, rfl, x07.sqT hbt, atI_nat (j := 0) rfl, h⟩) ((p1.ext x07).good (by decide)) (fun R hR => e_bent (K := K) (j := 0) (w := w1) rfl rfl lb7.hand (x07.sqT hbt) rfl (p1.ext x07) (lenm H7 _ lb7 rfl) hR) fun v16 H8 k8 g16 => ?_
        have lb8 := lb7.keep hne k8
        have kk8 := kk7.trans k8
        have cts : ∀ (H : Hp), LB K h c az ev (.ref b) (.ref b2) ss xs ps ws qs us H → ∀ x ∈ xs, GT K H 20 x := fun H lb x hx => by
          obtain ⟨d, hd, hxd⟩ := lb.xs.mem hx
          obtain ⟨ct, hct, rfl⟩ := List.mem_map.mp hd
          have hcl := (mem_allC.mp hct).len
          obtain ⟨ca, rfl, hca⟩ := ct_inv hxd
          refine ⟨ca, _, rfl, hca, by rw [List.length_map]; omega, fun z hz => ?_⟩
          obtain ⟨i, _, rfl⟩ := List.mem_map.mp hz
          exact .int i
        obtain ⟨c0, hc0⟩ : ∃ x, xs[0]? = some x := ⟨_, List.getElem?_eq_getElem l0⟩
        obtain ⟨c9, hc9⟩ : ∃ x, xs[xs.length - 1]? = some x := ⟨_, List.getElem?_eq_getElem (by omega)⟩
        have hneg : atI xs (-1) = some c9 := at_last hc9
        try dsimp only [tNext, tSeq, tAsg, gName, List.set_cons_succ, List.set_cons_zero]
        refine e_two (K := K) (x1 := c0) rfl lb8.hand (fun R h => ⟨_, rfl, ev, xs, _, _, rfl, rfl, SqL.of lb8.ev, atI_nat (j := 0) hc0, h⟩) ((cts H8 lb8 c0 (List.mem_of_getElem? hc0)).good (by decide)) (fun R hR => ⟨_, rfl, _, rfl, 1, rfl, ev, xs, _, _, rfl, rfl, SqL.of lb8.ev, hneg, h, c, c9, 4, rfl, lb8.hand, cts H8 lb8 c9 (List.mem_of_getElem? hc9), hR⟩) fun v17 H9 k9 g17 => ?_
        have lb9 := lb8.keep hne k9
        have kk9 := kk8.trans k9
        have x09 := Keep.ext lb.hand kk9
        try dsimp only [tNext, tSeq, tAsg, gName, List.set_cons_succ, List.set_cons_zero]
        refine e_second (K := K) rfl rfl lb9.hand (x09.sqT hot) (r1.ext x09) (r2.ext x09) fun v18 H10 k10 g18 => ?_
        have lb10 := lb9.keep hne k10
        have xA := Keep.ext lb9.hand k10
        have xB := Keep.ext lb8.hand k9
        have xC := Keep.ext lb7.hand k8
        have xD := Keep.ext lb6.hand k7
        have xE := Keep.ext lb5.hand k6
        try dsimp only [tNext, tSeq, tAsg, gName, List.set_cons_succ, List.set_cons_zero]
        refine e_asked (K := K) rfl rfl rfl rfl (((((g13.ext xE).ext xD).ext xC).ext xB).ext xA) ((g16.ext xB).ext xA) (g17.ext xA) g18 fun p19 xs19 H11 s11 e19 a19 => ?_
        have lb11 := lb10.same hne s11
        have g15' : Good K H11 v15 := (((g15.ext xC).ext xB).ext xA).ext (.of s11)
        obtain ⟨d15, h15, sm15⟩ := g15'
        try dsimp only [tNext, tSeq, tAsg, gName, List.set_cons_succ, List.set_cons_zero]
        refine ⟨_, rfl, p19, rfl, ⟨xs19, SqL.of e19⟩, for_list (K := K) (a := p19) (xs := xs19) (fun i σ H' => ∃ z20 z21 z22 : Option V, σ = [some (.ref a), some (.ref h), y2, some (.ref az), some (.ref ev), some (.ref b), some (.ref b2), some (.int (0 + (j : Int))), some v8, y9, y10, y11, some v12, some fv, some (.ref p14), some v15, some v16, some v17, some v18, some (.ref p19), z20, z21, z22] ∧ Same H11 H')
          ⟨_, _, _, rfl, Same.refl _⟩ (fun i σ H' _ ⟨_, _, _, _, sm⟩ => sm.seq (SqL.of e19)) ?_ ?_⟩
        · rintro i x σ H' hxi ⟨z20, z21, z22, rfl, sm⟩
          obtain ⟨r, w, qa, qb, rfl, hr3, w0, w4, ga, gb⟩ := (a19 x (List.mem_of_getElem? hxi)).ext (.of sm)
          obtain ⟨da, hda, sda⟩ := ga
          obtain ⟨db, hdb, sdb⟩ := gb
          refine ⟨r, _, rfl, hr3, rfl, _, _, rfl, _, _, rfl, _, _, rfl, rfl, ?_⟩
          refine ⟨_, rfl, _, rfl, _, rfl, _, rfl, w, v15, qa, qb, d15, da, db, rfl, w0, by omega, h15.ext (.of sm), hda, hdb, fun H12 s12 => ?_⟩
          refine ⟨_, rfl, _, rfl, _, rfl, _, rfl, w, v15, qa, qb, d15, da, db, rfl, h15.ext (.of (sm.trans s12)), hda.ext (.of s12), hdb.ext (.of s12), sda.s1, sda.s2, sdb.s2, fun H13 s13 => ⟨rfl, _, rfl, ?_⟩⟩
          rw [decide_eq_true rfl]
          refine iteF ?_
          exact ⟨_, _, _, rfl, (sm.trans s12).trans s13⟩
        · rintro σ H' ⟨z20, z21, z22, rfl, sm⟩
          exact ⟨_, _, _, _, _, _, _, _, _, _, _, _, _, _, _, _, _, rfl, lb11.same hne sm⟩
      · rintro σ H6 ⟨y2, y7, y8, y9, y10, y11, y12, y13, y14, y15, y16, y17, y18, y19, y20, y21, y22, rfl, lb⟩
        dsimp only [tSeq, tAsg]
        refine ⟨_, rfl, h, c, 5, rfl, lb.hand, by decide, by decide, fun d H7 d0 d5 k7 => ⟨1, d, rfl, rfl, ?_⟩⟩
        have lb7 := lb.keep hne k7
        clear lb
        obtain ⟨n, hn⟩ := Int.eq_ofNat_of_zero_le (by omega : 0 ≤ 1 + d)
        dsimp only [tSeq, tAsg]
        rw [hn]
        refine ⟨_, rfl, _, rfl, h, c, n, rfl, by omega, lb7.hand, fun tv H8 k8 tl => ?_⟩
        have lb8 := lb7.keep hne k8
        dsimp only [tNext, tSeq, tAsg, gName, List.set_cons_succ, List.set_cons_zero]
        refine for_iList (K := K) ?_
        refine e_things (K := K) (n := n) (tv := tv) (σ := [some (.ref a), some (.ref h), y2, some (.ref az), some (.ref ev), some bv, some ov, y7, some (.int n), some tv, y10, y11, y12, y13, y14, y15, y16, y17, y18, y19, y20, y21, y22]) rfl rfl rfl (by omega) lb8.hand tl fun p xs H9 k9 e9 g9 => ?_
        have lb9 := lb8.keep hne k9
        have tl9 := tl.ext (Keep.ext lb8.hand k9)
        refine ⟨p, rfl, ⟨xs, SqL.of e9⟩, for_list (K := K) (a := p) (xs := xs) (fun i σ H' => ∃ z10 : Option V, σ = [some (.ref a), some (.ref h), y2, some (.ref az), some (.ref ev), some bv, some ov, y7, some (.int n), some tv, z10, y11, y12, y13, y14, y15, y16, y17, y18, y19, y20, y21, y22] ∧ Same H9 H')
          ⟨_, rfl, Same.refl _⟩ (fun i σ H' _ ⟨_, _, sm⟩ => sm.seq (SqL.of e9)) ?_ ?_⟩
        · rintro i x σ H' hxi ⟨z10, rfl, sm⟩
          obtain ⟨dx, hdx, sdx⟩ := (g9 x (List.mem_of_getElem? hxi)).ext (.of sm)
          refine ⟨_, rfl, _, rfl, n, x, dx, rfl, by omega, by omega, hdx, fun H12 s12 => ?_⟩
          refine ⟨_, rfl, _, rfl, n, x, dx, rfl, by omega, hdx.ext (.of s12), sdx.s2, fun H13 s13 => ⟨_, _, rfl, ⟨_, rfl, ?_⟩⟩⟩
          rw [decide_eq_true rfl]
          refine iteF ?_
          exact ⟨_, rfl, (sm.trans s12).trans s13⟩
        · rintro σ H' ⟨z10, rfl, sm⟩
          have hx' := lb9.hand.same sm
          dsimp only [tSeq, tAsg]
          refine ⟨_, rfl, e_many (K := K) (n := n) (σ := [some (.ref a), some (.ref h), y2, some (.ref az), some (.ref ev), some bv, some ov, y7, some (.int n), some tv, z10, y11, y12, y13, y14, y15, y16, y17, y18, y19, y20, y21, y22]) rfl hx' fun q xs2 H10 s10 nq e10 l10 g10 => ?_⟩
          refine some_of (K := K) (hx'.same s10) nq e10 (by omega) (by omega) g10 fun mv H11 _ k11 g11 => ?_
          obtain ⟨dm, hdm, sdm⟩ := g11
          obtain ⟨dt, hdt, sdt⟩ := ((tl9.gt.good (by decide)).ext (.of (sm.trans s10))).ext (Keep.ext (hx'.same s10) k11)
          refine ⟨_, rfl, _, rfl, 5, mv, tv, .non, dm, dt, .non, rfl, by decide, by decide, hdm, hdt, .non, fun H12 s12 => ?_⟩
          refine ⟨_, rfl, _, rfl, 5, mv, tv, .non, dm, dt, .non, rfl, hdm.ext (.of s12), hdt.ext (.of s12), .non, sdt.s1, sdt.s2, True.intro, fun H13 s13 => ⟨rfl, _, rfl, ?_⟩⟩
          rw [decide_eq_true rfl]
          refine iteF ?_
          exact ⟨_, _, _, _, _, _, _, _, _, _, _, _, _, _, _, _, _, _, _, _, _, rfl, (k11.hand.same s12).same s13⟩
    · rintro σ H' ⟨y2, y3, y4, y5, y6, y7, y8, y9, y10, y11, y12, y13, y14, y15, y16, y17, y18, y19, y20, y21, y22, rfl, hx⟩
      exact q H'

end
end Fm
namespace Fm
open PySem PySem.Spec PyProof.Rows L2
/-! ### isinstance and except among the classes of the text -/
theorem kit_own {K : PySem.W.Frag} {D C : Addr} {b : Bool} (hne : D ≠ C) (hdct : PySem.W.hasDictIn K C = true) (ht : PySem.W.typeIn K (.ref C) = some (.type "type")) (h : PySem.W.subIn K (.ref D) (.ref C) = some b) : PySem.W.kitOne K (.ref D) (.ref C) = some b := by
  obtain ⟨cd, hc, _⟩ := PySem.W.any_some hdct
  unfold PySem.W.kitOne
  rw [if_neg fun e => hne (Value.ref.inj (beq_iff_eq.mp e))]
  have e2 : ((PySem.W.clsIn K C).isSome && PySem.W.typeIn K (.ref C) == some (.type "type")) = true := by rw [hc, ht] <;> rfl
  show (if ((PySem.W.clsIn K C).isSome && PySem.W.typeIn K (.ref C) == some (.type "type")) = true then PySem.W.subIn K (.ref D) (.ref C) else none) = some b
  rw [if_pos e2]
  exact h
theorem kit_typ {K : PySem.W.Frag} {C : Addr} {T : String} {b : Bool} (hm : PySem.W.kitMeta T = true) (h : PySem.W.subIn K (.ref C) (.type T) = some b) : PySem.W.kitOne K (.ref C) (.type T) = some b := by
  unfold PySem.W.kitOne
  rw [if_neg fun e => by cases (beq_iff_eq.mp e)]
  show (if PySem.W.kitMeta T = true then PySem.W.subIn K (.ref C) (.type T) else none) = some b
  rw [if_pos hm]
  exact h
theorem oexC_mk {K : PySem.W.Frag} {C N : Addr} {nm q : Str} {bs bm sub : List Value} {sn : List Str} {ab : Bool} {col : Option Bool} {dd : Option Addr} {k0 k1 k2 k3 k5 : Option Value} (l : K.lookup C = some (excClassObj nm q C N bs bm true sn sub ab col dd k0 k1 k2 k3 k5 "ValueError.__new__"))
    (r : PySem.HandSPX.refsVE bm = true) (sa : PySem.W.findIn K (.ref C) "__setattr__" = some (some (.builtin "object.__setattr__"))) (ex : PySem.W.subIn K (.ref C) (.type "BaseException") = some true) (ty : PySem.W.typeIn K (.ref C) = some (.type "type")) (kC : PySem.W.keepIn K (.ref C) = true) : OexC K C :=
  ⟨⟨nm, q, N, bs, bm, sn, sub, ab, col, dd, k0, k1, k2, k3, k5, l, r⟩, sa, ex, ty, kC⟩
theorem sqK_mk {K : PySem.W.Frag} {a : Addr} {o : Obj} {xs : List V} (l : K.lookup a = some o) (h : ∃ its n, o.cls = .type "tuple" ∧ o.data = .seq its n ∧ its.size ≤ sizeLine ∧ Vals xs its.toList) (H : Hp) : SqT K H a xs := by
  obtain ⟨its, n, h1, h2, h3, h4⟩ := h
  exact .inr ⟨o, its, n, l, h1, h2, h3, h4⟩
/-! ### what the top has left, the head -/
theorem all_mk {l : PySem.W.OpenLaw} {w : World} {K : PySem.W.Frag} {h : Heap} {mg : Str → Option Value} {fa f1 f2 f3 f4 f5 f6 f7 f8 f9 f10 f11 f12 f13 f14 f15 f16 f17 f18 f19 f20 f21 f22 f23 f24 f25 f26 f27 f28 f29 f30 f31 f32 f33 f34 f35 f36 f37 f38 f39 f40 f41 f42 f43 f44 f45 f46 f47 f48 f49 c_BadSizes c_NoPattern c_NoContent c_NoBox c_NoNumber c_Habit c_MaskError v_ZERO v_ONE : Addr} (X : K.In h) (G : h.Ns mainGlobals mg) (hfa : mg "law" = some (.ref fa))
    {od1 an1 od2 an2 od3 an3 od4 an4 od5 an5 od6 an6 od7 an7 od8 an8 od9 an9 od10 an10 od11 an11 od12 an12 od13 an13 od14 an14 od15 an15 od16 an16 od17 an17 od18 an18 od19 an19 od20 an20 od21 an21 od22 an22 od23 an23 od24 an24 od25 an25 od26 an26 od27 an27 od28 an28 od29 an29 od30 an30 od31 an31 od32 an32 od33 an33 od34 an34 od35 an35 od36 an36 od37 an37 od38 an38 od39 an39 od40 an40 od41 an41 od42 an42 od43 an43 od44 an44 od45 an45 od46 an46 od47 an47 od48 an48 od49 an49 : Option Addr} {sl1 sl2 sl3 sl4 sl5 sl6 sl7 sl8 sl9 sl10 sl11 sl12 sl13 sl14 sl15 sl16 sl17 sl18 sl19 sl20 sl21 sl22 sl23 sl24 sl25 sl26 sl27 sl28 sl29 sl30 sl31 sl32 sl33 sl34 sl35 sl36 sl37 sl38 sl39 sl40 sl41 sl42 sl43 sl44 sl45 sl46 sl47 sl48 sl49 : Array (Option Value)} {oc1 kV1 dc1 pm1 cd1 ct1 oc2 kV2 dc2 pm2 cd2 ct2 oc3 kV3 dc3 pm3 cd3 ct3 oc4 kV4 dc4 pm4 cd4 ct4 oc5 kV5 dc5 pm5 cd5 ct5 oc6 kV6 dc6 pm6 cd6 ct6 oc7 kV7 dc7 pm7 cd7 ct7 oc8 kV8 dc8 pm8 cd8 ct8 oc9 kV9 dc9 pm9 cd9 ct9 oc10 kV10 dc10 pm10 cd10 ct10 oc11 kV11 dc11 pm11 cd11 ct11 oc12 kV12 dc12 pm12 cd12 ct12 oc13 kV13 dc13 pm13 cd13 ct13 oc14 kV14 dc14 pm14 cd14 ct14 oc15 kV15 dc15 pm15 cd15 ct15 oc16 kV16 dc16 pm16 cd16 ct16 oc17 kV17 dc17 pm17 cd17 ct17 oc18 kV18 dc18 pm18 cd18 ct18 oc19 kV19 dc19 pm19 cd19 ct19 oc20 kV20 dc20 pm20 cd20 ct20 oc21 kV21 dc21 pm21 cd21 ct21 oc22 kV22 dc22 pm22 cd22 ct22 oc23 kV23 dc23 pm23 cd23 ct23 oc24 kV24 dc24 pm24 cd24 ct24 oc25 kV25 dc25 pm25 cd25 ct25 oc26 kV26 dc26 pm26 cd26 ct26 oc27 kV27 dc27 pm27 cd27 ct27 oc28 kV28 dc28 pm28 cd28 ct28 oc29 kV29 dc29 pm29 cd29 ct29 oc30 kV30 dc30 pm30 cd30 ct30 oc31 kV31 dc31 pm31 cd31 ct31 oc32 kV32 dc32 pm32 cd32 ct32 oc33 kV33 dc33 pm33 cd33 ct33 oc34 kV34 dc34 pm34 cd34 ct34 oc35 kV35 dc35 pm35 cd35 ct35 oc36 kV36 dc36 pm36 cd36 ct36 oc37 kV37 dc37 pm37 cd37 ct37 oc38 kV38 dc38 pm38 cd38 ct38 oc39 kV39 dc39 pm39 cd39 ct39 oc40 kV40 dc40 pm40 cd40 ct40 oc41 kV41 dc41 pm41 cd41 ct41 oc42 kV42 dc42 pm42 cd42 ct42 oc43 kV43 dc43 pm43 cd43 ct43 oc44 kV44 dc44 pm44 cd44 ct44 oc45 kV45 dc45 pm45 cd45 ct45 oc46 kV46 dc46 pm46 cd46 ct46 oc47 kV47 dc47 pm47 cd47 ct47 oc48 kV48 dc48 pm48 cd48 ct48 oc49 kV49 dc49 pm49 cd49 ct49 m_MaskError : Value} {t1 t2 t3 t4 t5 : _}
    (n_BadSizes : PySem.W.nsIn K mainGlobals "BadSizes" = some (some (.ref c_BadSizes)))
    (n_NoPattern : PySem.W.nsIn K mainGlobals "NoPattern" = some (some (.ref c_NoPattern)))
    (n_NoContent : PySem.W.nsIn K mainGlobals "NoContent" = some (some (.ref c_NoContent)))
    (n_NoBox : PySem.W.nsIn K mainGlobals "NoBox" = some (some (.ref c_NoBox)))
    (n_NoNumber : PySem.W.nsIn K mainGlobals "NoNumber" = some (some (.ref c_NoNumber)))
    (n_Habit : PySem.W.nsIn K mainGlobals "Habit" = some (some (.ref c_Habit)))
    (n_MaskError : PySem.W.nsIn K mainGlobals "MaskError" = some (some (.ref c_MaskError)))
    (w_gcd : PySem.W.nsIn K mainGlobals "gcd" = some (some (.builtin "math.gcd")))
    (n_ZERO : PySem.W.nsIn K mainGlobals "ZERO" = some (some (.ref v_ZERO)))
    (n_ONE : PySem.W.nsIn K mainGlobals "ONE" = some (some (.ref v_ONE)))
    (a1 : PySem.W.nsIn K mainGlobals "is_whole" = some (some (.ref f1))) (l1 : K.lookup f1 = some ⟨oc1, od1, .func (PySem.W.fnOf "is_whole" "is_whole" (defArgs s_is_whole) (defBody s_is_whole) (defScope s_is_whole) .none kV1 dc1 pm1 an1 cd1 ct1), sl1⟩) (c1 : PySem.W.codeIn K cd1 "is_whole" = true) (k1 : PySem.W.keepIn K (.ref f1) = true)
    (a2 : PySem.W.nsIn K mainGlobals "is_pair" = some (some (.ref f2))) (l2 : K.lookup f2 = some ⟨oc2, od2, .func (PySem.W.fnOf "is_pair" "is_pair" (defArgs s_is_pair) (defBody s_is_pair) (defScope s_is_pair) .none kV2 dc2 pm2 an2 cd2 ct2), sl2⟩) (c2 : PySem.W.codeIn K cd2 "is_pair" = true) (k2 : PySem.W.keepIn K (.ref f2) = true)
    (a3 : PySem.W.nsIn K mainGlobals "is_fraction" = some (some (.ref f3))) (l3 : K.lookup f3 = some ⟨oc3, od3, .func (PySem.W.fnOf "is_fraction" "is_fraction" (defArgs s_is_fraction) (defBody s_is_fraction) (defScope s_is_fraction) .none kV3 dc3 pm3 an3 cd3 ct3), sl3⟩) (c3 : PySem.W.codeIn K cd3 "is_fraction" = true) (k3 : PySem.W.keepIn K (.ref f3) = true)
    (a4 : PySem.W.nsIn K mainGlobals "is_share" = some (some (.ref f4))) (l4 : K.lookup f4 = some ⟨oc4, od4, .func (PySem.W.fnOf "is_share" "is_share" (defArgs s_is_share) (defBody s_is_share) (defScope s_is_share) .none kV4 dc4 pm4 an4 cd4 ct4), sl4⟩) (c4 : PySem.W.codeIn K cd4 "is_share" = true) (k4 : PySem.W.keepIn K (.ref f4) = true)
    (a5 : PySem.W.nsIn K mainGlobals "fraction" = some (some (.ref f5))) (l5 : K.lookup f5 = some ⟨oc5, od5, .func (PySem.W.fnOf "fraction" "fraction" (defArgs s_fraction) (defBody s_fraction) (defScope s_fraction) .none kV5 dc5 pm5 an5 cd5 ct5), sl5⟩) (c5 : PySem.W.codeIn K cd5 "fraction" = true) (k5 : PySem.W.keepIn K (.ref f5) = true)
    (a6 : PySem.W.nsIn K mainGlobals "plus" = some (some (.ref f6))) (l6 : K.lookup f6 = some ⟨oc6, od6, .func (PySem.W.fnOf "plus" "plus" (defArgs s_plus) (defBody s_plus) (defScope s_plus) .none kV6 dc6 pm6 an6 cd6 ct6), sl6⟩) (c6 : PySem.W.codeIn K cd6 "plus" = true) (k6 : PySem.W.keepIn K (.ref f6) = true)
    (a7 : PySem.W.nsIn K mainGlobals "is_sizes" = some (some (.ref f7))) (l7 : K.lookup f7 = some ⟨oc7, od7, .func (PySem.W.fnOf "is_sizes" "is_sizes" (defArgs s_is_sizes) (defBody s_is_sizes) (defScope s_is_sizes) .none kV7 dc7 pm7 an7 cd7 ct7), sl7⟩) (c7 : PySem.W.codeIn K cd7 "is_sizes" = true) (k7 : PySem.W.keepIn K (.ref f7) = true)
    (a8 : PySem.W.nsIn K mainGlobals "is_content" = some (some (.ref f8))) (l8 : K.lookup f8 = some ⟨oc8, od8, .func (PySem.W.fnOf "is_content" "is_content" (defArgs s_is_content) (defBody s_is_content) (defScope s_is_content) .none kV8 dc8 pm8 an8 cd8 ct8), sl8⟩) (c8 : PySem.W.codeIn K cd8 "is_content" = true) (k8 : PySem.W.keepIn K (.ref f8) = true)
    (a9 : PySem.W.nsIn K mainGlobals "is_pattern" = some (some (.ref f9))) (l9 : K.lookup f9 = some ⟨oc9, od9, .func (PySem.W.fnOf "is_pattern" "is_pattern" (defArgs s_is_pattern) (defBody s_is_pattern) (defScope s_is_pattern) .none kV9 dc9 pm9 an9 cd9 ct9), sl9⟩) (c9 : PySem.W.codeIn K cd9 "is_pattern" = true) (k9 : PySem.W.keepIn K (.ref f9) = true)
    (a10 : PySem.W.nsIn K mainGlobals "is_box_of" = some (some (.ref f10))) (l10 : K.lookup f10 = some ⟨oc10, od10, .func (PySem.W.fnOf "is_box_of" "is_box_of" (defArgs s_is_box_of) (defBody s_is_box_of) (defScope s_is_box_of) .none kV10 dc10 pm10 an10 cd10 ct10), sl10⟩) (c10 : PySem.W.codeIn K cd10 "is_box_of" = true) (k10 : PySem.W.keepIn K (.ref f10) = true)
    (a11 : PySem.W.nsIn K mainGlobals "all_columns" = some (some (.ref f11))) (l11 : K.lookup f11 = some ⟨oc11, od11, .func (PySem.W.fnOf "all_columns" "all_columns" (defArgs s_all_columns) (defBody s_all_columns) (defScope s_all_columns) .none kV11 dc11 pm11 an11 cd11 ct11), sl11⟩) (c11 : PySem.W.codeIn K cd11 "all_columns" = true) (k11 : PySem.W.keepIn K (.ref f11) = true)
    (a12 : PySem.W.nsIn K mainGlobals "all_contents" = some (some (.ref f12))) (l12 : K.lookup f12 = some ⟨oc12, od12, .func (PySem.W.fnOf "all_contents" "all_contents" (defArgs s_all_contents) (defBody s_all_contents) (defScope s_all_contents) .none kV12 dc12 pm12 an12 cd12 ct12), sl12⟩) (c12 : PySem.W.codeIn K cd12 "all_contents" = true) (k12 : PySem.W.keepIn K (.ref f12) = true)
    (a13 : PySem.W.nsIn K mainGlobals "worths_at" = some (some (.ref f13))) (l13 : K.lookup f13 = some ⟨oc13, od13, .func (PySem.W.fnOf "worths_at" "worths_at" (defArgs s_worths_at) (defBody s_worths_at) (defScope s_worths_at) .none kV13 dc13 pm13 an13 cd13 ct13), sl13⟩) (c13 : PySem.W.codeIn K cd13 "worths_at" = true) (k13 : PySem.W.keepIn K (.ref f13) = true)
    (a14 : PySem.W.nsIn K mainGlobals "contents" = some (some (.ref f14))) (l14 : K.lookup f14 = some ⟨oc14, od14, .func (PySem.W.fnOf "contents" "contents" (defArgs s_contents) (defBody s_contents) (defScope s_contents) .none kV14 dc14 pm14 an14 cd14 ct14), sl14⟩) (c14 : PySem.W.codeIn K cd14 "contents" = true) (k14 : PySem.W.keepIn K (.ref f14) = true)
    (a15 : PySem.W.nsIn K mainGlobals "is_box" = some (some (.ref f15))) (l15 : K.lookup f15 = some ⟨oc15, od15, .func (PySem.W.fnOf "is_box" "is_box" (defArgs s_is_box) (defBody s_is_box) (defScope s_is_box) .none kV15 dc15 pm15 an15 cd15 ct15), sl15⟩) (c15 : PySem.W.codeIn K cd15 "is_box" = true) (k15 : PySem.W.keepIn K (.ref f15) = true)
    (a16 : PySem.W.nsIn K mainGlobals "box_at" = some (some (.ref f16))) (l16 : K.lookup f16 = some ⟨oc16, od16, .func (PySem.W.fnOf "box_at" "box_at" (defArgs s_box_at) (defBody s_box_at) (defScope s_box_at) .none kV16 dc16 pm16 an16 cd16 ct16), sl16⟩) (c16 : PySem.W.codeIn K cd16 "box_at" = true) (k16 : PySem.W.keepIn K (.ref f16) = true)
    (a17 : PySem.W.nsIn K mainGlobals "in_box" = some (some (.ref f17))) (l17 : K.lookup f17 = some ⟨oc17, od17, .func (PySem.W.fnOf "in_box" "in_box" (defArgs s_in_box) (defBody s_in_box) (defScope s_in_box) .none kV17 dc17 pm17 an17 cd17 ct17), sl17⟩) (c17 : PySem.W.codeIn K cd17 "in_box" = true) (k17 : PySem.W.keepIn K (.ref f17) = true)
    (a18 : PySem.W.nsIn K mainGlobals "both" = some (some (.ref f18))) (l18 : K.lookup f18 = some ⟨oc18, od18, .func (PySem.W.fnOf "both" "both" (defArgs s_both) (defBody s_both) (defScope s_both) .none kV18 dc18 pm18 an18 cd18 ct18), sl18⟩) (c18 : PySem.W.codeIn K cd18 "both" = true) (k18 : PySem.W.keepIn K (.ref f18) = true)
    (a19 : PySem.W.nsIn K mainGlobals "is_list" = some (some (.ref f19))) (l19 : K.lookup f19 = some ⟨oc19, od19, .func (PySem.W.fnOf "is_list" "is_list" (defArgs s_is_list) (defBody s_is_list) (defScope s_is_list) .none kV19 dc19 pm19 an19 cd19 ct19), sl19⟩) (c19 : PySem.W.codeIn K cd19 "is_list" = true) (k19 : PySem.W.keepIn K (.ref f19) = true)
    (a20 : PySem.W.nsIn K mainGlobals "is_habit_row" = some (some (.ref f20))) (l20 : K.lookup f20 = some ⟨oc20, od20, .func (PySem.W.fnOf "is_habit_row" "is_habit_row" (defArgs s_is_habit_row) (defBody s_is_habit_row) (defScope s_is_habit_row) .none kV20 dc20 pm20 an20 cd20 ct20), sl20⟩) (c20 : PySem.W.codeIn K cd20 "is_habit_row" = true) (k20 : PySem.W.keepIn K (.ref f20) = true)
    (a21 : PySem.W.nsIn K mainGlobals "_law_hand" = some (some (.ref f21))) (l21 : K.lookup f21 = some ⟨oc21, od21, .func (PySem.W.fnOf "_law_hand" "_law_hand" (defArgs s_law_hand) (defBody s_law_hand) (defScope s_law_hand) .none kV21 dc21 pm21 an21 cd21 ct21), sl21⟩) (c21 : PySem.W.codeIn K cd21 "_law_hand" = true) (k21 : PySem.W.keepIn K (.ref f21) = true)
    (a22 : PySem.W.nsIn K mainGlobals "_law_draw" = some (some (.ref f22))) (l22 : K.lookup f22 = some ⟨oc22, od22, .func (PySem.W.fnOf "_law_draw" "_law_draw" (defArgs s_law_draw) (defBody s_law_draw) (defScope s_law_draw) .none kV22 dc22 pm22 an22 cd22 ct22), sl22⟩) (c22 : PySem.W.codeIn K cd22 "_law_draw" = true) (k22 : PySem.W.keepIn K (.ref f22) = true)
    (a23 : PySem.W.nsIn K mainGlobals "_law_some" = some (some (.ref f23))) (l23 : K.lookup f23 = some ⟨oc23, od23, .func (PySem.W.fnOf "_law_some" "_law_some" (defArgs s_law_some) (defBody s_law_some) (defScope s_law_some) .none kV23 dc23 pm23 an23 cd23 ct23), sl23⟩) (c23 : PySem.W.codeIn K cd23 "_law_some" = true) (k23 : PySem.W.keepIn K (.ref f23) = true)
    (a24 : PySem.W.nsIn K mainGlobals "_law_deep" = some (some (.ref f24))) (l24 : K.lookup f24 = some ⟨oc24, od24, .func (PySem.W.fnOf "_law_deep" "_law_deep" (defArgs s_law_deep) (defBody s_law_deep) (defScope s_law_deep) .none kV24 dc24 pm24 an24 cd24 ct24), sl24⟩) (c24 : PySem.W.codeIn K cd24 "_law_deep" = true) (k24 : PySem.W.keepIn K (.ref f24) = true)
    (a25 : PySem.W.nsIn K mainGlobals "_law_sizes" = some (some (.ref f25))) (l25 : K.lookup f25 = some ⟨oc25, od25, .func (PySem.W.fnOf "_law_sizes" "_law_sizes" (defArgs s_law_sizes) (defBody s_law_sizes) (defScope s_law_sizes) .none kV25 dc25 pm25 an25 cd25 ct25), sl25⟩) (c25 : PySem.W.codeIn K cd25 "_law_sizes" = true) (k25 : PySem.W.keepIn K (.ref f25) = true)
    (a26 : PySem.W.nsIn K mainGlobals "_law_contents" = some (some (.ref f26))) (l26 : K.lookup f26 = some ⟨oc26, od26, .func (PySem.W.fnOf "_law_contents" "_law_contents" (defArgs s_law_contents) (defBody s_law_contents) (defScope s_law_contents) .none kV26 dc26 pm26 an26 cd26 ct26), sl26⟩) (c26 : PySem.W.codeIn K cd26 "_law_contents" = true) (k26 : PySem.W.keepIn K (.ref f26) = true)
    (a27 : PySem.W.nsIn K mainGlobals "_law_patterns" = some (some (.ref f27))) (l27 : K.lookup f27 = some ⟨oc27, od27, .func (PySem.W.fnOf "_law_patterns" "_law_patterns" (defArgs s_law_patterns) (defBody s_law_patterns) (defScope s_law_patterns) .none kV27 dc27 pm27 an27 cd27 ct27), sl27⟩) (c27 : PySem.W.codeIn K cd27 "_law_patterns" = true) (k27 : PySem.W.keepIn K (.ref f27) = true)
    (a28 : PySem.W.nsIn K mainGlobals "_law_pattern" = some (some (.ref f28))) (l28 : K.lookup f28 = some ⟨oc28, od28, .func (PySem.W.fnOf "_law_pattern" "_law_pattern" (defArgs s_law_pattern) (defBody s_law_pattern) (defScope s_law_pattern) .none kV28 dc28 pm28 an28 cd28 ct28), sl28⟩) (c28 : PySem.W.codeIn K cd28 "_law_pattern" = true) (k28 : PySem.W.keepIn K (.ref f28) = true)
    (a29 : PySem.W.nsIn K mainGlobals "_law_box" = some (some (.ref f29))) (l29 : K.lookup f29 = some ⟨oc29, od29, .func (PySem.W.fnOf "_law_box" "_law_box" (defArgs s_law_box) (defBody s_law_box) (defScope s_law_box) .none kV29 dc29 pm29 an29 cd29 ct29), sl29⟩) (c29 : PySem.W.codeIn K cd29 "_law_box" = true) (k29 : PySem.W.keepIn K (.ref f29) = true)
    (a30 : PySem.W.nsIn K mainGlobals "_law_is_int" = some (some (.ref f30))) (l30 : K.lookup f30 = some ⟨oc30, od30, .func (PySem.W.fnOf "_law_is_int" "_law_is_int" (defArgs s_law_is_int) (defBody s_law_is_int) (defScope s_law_is_int) .none kV30 dc30 pm30 an30 cd30 ct30), sl30⟩) (c30 : PySem.W.codeIn K cd30 "_law_is_int" = true) (k30 : PySem.W.keepIn K (.ref f30) = true)
    (a31 : PySem.W.nsIn K mainGlobals "_law_is_pattern" = some (some (.ref f31))) (l31 : K.lookup f31 = some ⟨oc31, od31, .func (PySem.W.fnOf "_law_is_pattern" "_law_is_pattern" (defArgs s_law_is_pattern) (defBody s_law_is_pattern) (defScope s_law_is_pattern) .none kV31 dc31 pm31 an31 cd31 ct31), sl31⟩) (c31 : PySem.W.codeIn K cd31 "_law_is_pattern" = true) (k31 : PySem.W.keepIn K (.ref f31) = true)
    (a32 : PySem.W.nsIn K mainGlobals "_law_is_content" = some (some (.ref f32))) (l32 : K.lookup f32 = some ⟨oc32, od32, .func (PySem.W.fnOf "_law_is_content" "_law_is_content" (defArgs s_law_is_content) (defBody s_law_is_content) (defScope s_law_is_content) .none kV32 dc32 pm32 an32 cd32 ct32), sl32⟩) (c32 : PySem.W.codeIn K cd32 "_law_is_content" = true) (k32 : PySem.W.keepIn K (.ref f32) = true)
    (a33 : PySem.W.nsIn K mainGlobals "_law_is_box" = some (some (.ref f33))) (l33 : K.lookup f33 = some ⟨oc33, od33, .func (PySem.W.fnOf "_law_is_box" "_law_is_box" (defArgs s_law_is_box) (defBody s_law_is_box) (defScope s_law_is_box) .none kV33 dc33 pm33 an33 cd33 ct33), sl33⟩) (c33 : PySem.W.codeIn K cd33 "_law_is_box" = true) (k33 : PySem.W.keepIn K (.ref f33) = true)
    (a34 : PySem.W.nsIn K mainGlobals "_law_are_sizes" = some (some (.ref f34))) (l34 : K.lookup f34 = some ⟨oc34, od34, .func (PySem.W.fnOf "_law_are_sizes" "_law_are_sizes" (defArgs s_law_are_sizes) (defBody s_law_are_sizes) (defScope s_law_are_sizes) .none kV34 dc34 pm34 an34 cd34 ct34), sl34⟩) (c34 : PySem.W.codeIn K cd34 "_law_are_sizes" = true) (k34 : PySem.W.keepIn K (.ref f34) = true)
    (a35 : PySem.W.nsIn K mainGlobals "_law_is_list" = some (some (.ref f35))) (l35 : K.lookup f35 = some ⟨oc35, od35, .func (PySem.W.fnOf "_law_is_list" "_law_is_list" (defArgs s_law_is_list) (defBody s_law_is_list) (defScope s_law_is_list) .none kV35 dc35 pm35 an35 cd35 ct35), sl35⟩) (c35 : PySem.W.codeIn K cd35 "_law_is_list" = true) (k35 : PySem.W.keepIn K (.ref f35) = true)
    (a36 : PySem.W.nsIn K mainGlobals "_law_odd" = some (some (.ref f36))) (l36 : K.lookup f36 = some ⟨oc36, od36, .func (PySem.W.fnOf "_law_odd" "_law_odd" (defArgs s_law_odd) (defBody s_law_odd) (defScope s_law_odd) .none kV36 dc36 pm36 an36 cd36 ct36), sl36⟩) (c36 : PySem.W.codeIn K cd36 "_law_odd" = true) (k36 : PySem.W.keepIn K (.ref f36) = true)
    (a37 : PySem.W.nsIn K mainGlobals "_law_bent" = some (some (.ref f37))) (l37 : K.lookup f37 = some ⟨oc37, od37, .func (PySem.W.fnOf "_law_bent" "_law_bent" (defArgs s_law_bent) (defBody s_law_bent) (defScope s_law_bent) .none kV37 dc37 pm37 an37 cd37 ct37), sl37⟩) (c37 : PySem.W.codeIn K cd37 "_law_bent" = true) (k37 : PySem.W.keepIn K (.ref f37) = true)
    (a38 : PySem.W.nsIn K mainGlobals "_law_word" = some (some (.ref f38))) (l38 : K.lookup f38 = some ⟨oc38, od38, .func (PySem.W.fnOf "_law_word" "_law_word" (defArgs s_law_word) (defBody s_law_word) (defScope s_law_word) .none kV38 dc38 pm38 an38 cd38 ct38), sl38⟩) (c38 : PySem.W.codeIn K cd38 "_law_word" = true) (k38 : PySem.W.keepIn K (.ref f38) = true)
    (a39 : PySem.W.nsIn K mainGlobals "_law_due" = some (some (.ref f39))) (l39 : K.lookup f39 = some ⟨oc39, od39, .func (PySem.W.fnOf "_law_due" "_law_due" (defArgs s_law_due) (defBody s_law_due) (defScope s_law_due) .none kV39 dc39 pm39 an39 cd39 ct39), sl39⟩) (c39 : PySem.W.codeIn K cd39 "_law_due" = true) (k39 : PySem.W.keepIn K (.ref f39) = true)
    (a40 : PySem.W.nsIn K mainGlobals "_law_drawn_list" = some (some (.ref f40))) (l40 : K.lookup f40 = some ⟨oc40, od40, .func (PySem.W.fnOf "_law_drawn_list" "_law_drawn_list" (defArgs s_law_drawn_list) (defBody s_law_drawn_list) (defScope s_law_drawn_list) .none kV40 dc40 pm40 an40 cd40 ct40), sl40⟩) (c40 : PySem.W.codeIn K cd40 "_law_drawn_list" = true) (k40 : PySem.W.keepIn K (.ref f40) = true)
    (a41 : PySem.W.nsIn K mainGlobals "_law_bent_list" = some (some (.ref f41))) (l41 : K.lookup f41 = some ⟨oc41, od41, .func (PySem.W.fnOf "_law_bent_list" "_law_bent_list" (defArgs s_law_bent_list) (defBody s_law_bent_list) (defScope s_law_bent_list) .none kV41 dc41 pm41 an41 cd41 ct41), sl41⟩) (c41 : PySem.W.codeIn K cd41 "_law_bent_list" = true) (k41 : PySem.W.keepIn K (.ref f41) = true)
    (a42 : PySem.W.nsIn K mainGlobals "_law_flag" = some (some (.ref f42))) (l42 : K.lookup f42 = some ⟨oc42, od42, .func (PySem.W.fnOf "_law_flag" "_law_flag" (defArgs s_law_flag) (defBody s_law_flag) (defScope s_law_flag) .none kV42 dc42 pm42 an42 cd42 ct42), sl42⟩) (c42 : PySem.W.codeIn K cd42 "_law_flag" = true) (k42 : PySem.W.keepIn K (.ref f42) = true)
    (a43 : PySem.W.nsIn K mainGlobals "law" = some (some (.ref f43))) (l43 : K.lookup f43 = some ⟨oc43, od43, .func (PySem.W.fnOf "law" "law" (defArgs s_law) (defBody s_law) (defScope s_law) .none kV43 dc43 pm43 an43 cd43 ct43), sl43⟩) (c43 : PySem.W.codeIn K cd43 "law" = true) (k43 : PySem.W.keepIn K (.ref f43) = true)
    (a44 : PySem.W.findIn K (.ref c_BadSizes) "__init__" = some (some (.ref f44))) (l44 : K.lookup f44 = some ⟨oc44, od44, .func (PySem.W.fnOf "__init__" "BadSizes.__init__" (defArgs s_BadSizes_init) (defBody s_BadSizes_init) (defScope s_BadSizes_init) .none kV44 dc44 pm44 an44 cd44 ct44), sl44⟩) (c44 : PySem.W.codeIn K cd44 "BadSizes.__init__" = true) (k44 : PySem.W.keepIn K (.ref f44) = true)
    (a45 : PySem.W.findIn K (.ref c_NoPattern) "__init__" = some (some (.ref f45))) (l45 : K.lookup f45 = some ⟨oc45, od45, .func (PySem.W.fnOf "__init__" "NoPattern.__init__" (defArgs s_NoPattern_init) (defBody s_NoPattern_init) (defScope s_NoPattern_init) .none kV45 dc45 pm45 an45 cd45 ct45), sl45⟩) (c45 : PySem.W.codeIn K cd45 "NoPattern.__init__" = true) (k45 : PySem.W.keepIn K (.ref f45) = true)
    (a46 : PySem.W.findIn K (.ref c_NoContent) "__init__" = some (some (.ref f46))) (l46 : K.lookup f46 = some ⟨oc46, od46, .func (PySem.W.fnOf "__init__" "NoContent.__init__" (defArgs s_NoContent_init) (defBody s_NoContent_init) (defScope s_NoContent_init) .none kV46 dc46 pm46 an46 cd46 ct46), sl46⟩) (c46 : PySem.W.codeIn K cd46 "NoContent.__init__" = true) (k46 : PySem.W.keepIn K (.ref f46) = true)
    (a47 : PySem.W.findIn K (.ref c_NoBox) "__init__" = some (some (.ref f47))) (l47 : K.lookup f47 = some ⟨oc47, od47, .func (PySem.W.fnOf "__init__" "NoBox.__init__" (defArgs s_NoBox_init) (defBody s_NoBox_init) (defScope s_NoBox_init) .none kV47 dc47 pm47 an47 cd47 ct47), sl47⟩) (c47 : PySem.W.codeIn K cd47 "NoBox.__init__" = true) (k47 : PySem.W.keepIn K (.ref f47) = true)
    (a48 : PySem.W.findIn K (.ref c_NoNumber) "__init__" = some (some (.ref f48))) (l48 : K.lookup f48 = some ⟨oc48, od48, .func (PySem.W.fnOf "__init__" "NoNumber.__init__" (defArgs s_NoNumber_init) (defBody s_NoNumber_init) (defScope s_NoNumber_init) .none kV48 dc48 pm48 an48 cd48 ct48), sl48⟩) (c48 : PySem.W.codeIn K cd48 "NoNumber.__init__" = true) (k48 : PySem.W.keepIn K (.ref f48) = true)
    (a49 : PySem.W.findIn K (.ref c_Habit) "__init__" = some (some (.ref f49))) (l49 : K.lookup f49 = some ⟨oc49, od49, .func (PySem.W.fnOf "__init__" "Habit.__init__" (defArgs s_Habit_init) (defBody s_Habit_init) (defScope s_Habit_init) .none kV49 dc49 pm49 an49 cd49 ct49), sl49⟩) (c49 : PySem.W.codeIn K cd49 "Habit.__init__" = true) (k49 : PySem.W.keepIn K (.ref f49) = true)
    (y_MaskError : PySem.W.typeIn K (.ref c_MaskError) = some m_MaskError)
    (U_MaskError : UpC K c_MaskError m_MaskError)
    (o_BadSizes : OexC K c_BadSizes)
    (t_BadSizes : PySem.W.typeIn K (.ref f44) = some (.type "function"))
    (e_BadSizes : ExcC K c_BadSizes)
    (x_BadSizes : PySem.W.exmOne K (.ref c_BadSizes) (.ref c_MaskError) = some true)
    (o_NoPattern : OexC K c_NoPattern)
    (t_NoPattern : PySem.W.typeIn K (.ref f45) = some (.type "function"))
    (e_NoPattern : ExcC K c_NoPattern)
    (x_NoPattern : PySem.W.exmOne K (.ref c_NoPattern) (.ref c_MaskError) = some true)
    (o_NoContent : OexC K c_NoContent)
    (t_NoContent : PySem.W.typeIn K (.ref f46) = some (.type "function"))
    (e_NoContent : ExcC K c_NoContent)
    (x_NoContent : PySem.W.exmOne K (.ref c_NoContent) (.ref c_MaskError) = some true)
    (o_NoBox : OexC K c_NoBox)
    (t_NoBox : PySem.W.typeIn K (.ref f47) = some (.type "function"))
    (e_NoBox : ExcC K c_NoBox)
    (x_NoBox : PySem.W.exmOne K (.ref c_NoBox) (.ref c_MaskError) = some true)
    (o_NoNumber : OexC K c_NoNumber)
    (t_NoNumber : PySem.W.typeIn K (.ref f48) = some (.type "function"))
    (e_NoNumber : ExcC K c_NoNumber)
    (x_NoNumber : PySem.W.exmOne K (.ref c_NoNumber) (.ref c_MaskError) = some true)
    (q_BadSizes_BadSizes : PySem.W.kitOne K (.ref c_BadSizes) (.ref c_BadSizes) = some true)
    (q_BadSizes_NoPattern : PySem.W.kitOne K (.ref c_BadSizes) (.ref c_NoPattern) = some false)
    (q_BadSizes_NoContent : PySem.W.kitOne K (.ref c_BadSizes) (.ref c_NoContent) = some false)
    (q_BadSizes_NoBox : PySem.W.kitOne K (.ref c_BadSizes) (.ref c_NoBox) = some false)
    (q_BadSizes_NoNumber : PySem.W.kitOne K (.ref c_BadSizes) (.ref c_NoNumber) = some false)
    (q_NoPattern_BadSizes : PySem.W.kitOne K (.ref c_NoPattern) (.ref c_BadSizes) = some false)
    (q_NoPattern_NoPattern : PySem.W.kitOne K (.ref c_NoPattern) (.ref c_NoPattern) = some true)
    (q_NoPattern_NoContent : PySem.W.kitOne K (.ref c_NoPattern) (.ref c_NoContent) = some false)
    (q_NoPattern_NoBox : PySem.W.kitOne K (.ref c_NoPattern) (.ref c_NoBox) = some false)
    (q_NoPattern_NoNumber : PySem.W.kitOne K (.ref c_NoPattern) (.ref c_NoNumber) = some false)
    (q_NoContent_BadSizes : PySem.W.kitOne K (.ref c_NoContent) (.ref c_BadSizes) = some false)
    (q_NoContent_NoPattern : PySem.W.kitOne K (.ref c_NoContent) (.ref c_NoPattern) = some false)
    (q_NoContent_NoContent : PySem.W.kitOne K (.ref c_NoContent) (.ref c_NoContent) = some true)
    (q_NoContent_NoBox : PySem.W.kitOne K (.ref c_NoContent) (.ref c_NoBox) = some false)
    (q_NoContent_NoNumber : PySem.W.kitOne K (.ref c_NoContent) (.ref c_NoNumber) = some false)
    (q_NoBox_BadSizes : PySem.W.kitOne K (.ref c_NoBox) (.ref c_BadSizes) = some false)
    (q_NoBox_NoPattern : PySem.W.kitOne K (.ref c_NoBox) (.ref c_NoPattern) = some false)
    (q_NoBox_NoContent : PySem.W.kitOne K (.ref c_NoBox) (.ref c_NoContent) = some false)
    (q_NoBox_NoBox : PySem.W.kitOne K (.ref c_NoBox) (.ref c_NoBox) = some true)
    (q_NoBox_NoNumber : PySem.W.kitOne K (.ref c_NoBox) (.ref c_NoNumber) = some false)
    (q_NoNumber_BadSizes : PySem.W.kitOne K (.ref c_NoNumber) (.ref c_BadSizes) = some false)
    (q_NoNumber_NoPattern : PySem.W.kitOne K (.ref c_NoNumber) (.ref c_NoPattern) = some false)
    (q_NoNumber_NoContent : PySem.W.kitOne K (.ref c_NoNumber) (.ref c_NoContent) = some false)
    (q_NoNumber_NoBox : PySem.W.kitOne K (.ref c_NoNumber) (.ref c_NoBox) = some false)
    (q_NoNumber_NoNumber : PySem.W.kitOne K (.ref c_NoNumber) (.ref c_NoNumber) = some true)
    (M_Habit : Mk K c_Habit f49)
    (l_Habit : Cls K c_Habit)
    (a_sizes : PySem.W.findIn K (.ref c_Habit) "sizes" = some none)
    (a_rows : PySem.W.findIn K (.ref c_Habit) "rows" = some none)
    (h_Habit : PySem.W.findIn K (.ref c_Habit) "__class__" = some (some (.builtin "object.__class__")))
    (h2_Habit : PySem.W.specialIn K (.builtin "object.__class__") "__get__" = some (some (.builtin "getset_descriptor.__get__")))
    (h3_Habit : PySem.W.takesIn K (.builtin "object.__class__") = some true)
    (h4_Habit : PySem.W.mroIn K c_Habit (.type "object") = some true)
    (s_Habit_int : PySem.W.subIn K (.ref c_Habit) (.type "int") = some false)
    (s_Habit_tuple : PySem.W.subIn K (.ref c_Habit) (.type "tuple") = some false)
    (k_ZERO : ∀ H, SqT K H v_ZERO [.int 0, .int 1])
    (k_ONE : ∀ H, SqT K H v_ONE [.int 1, .int 1])
    (u1 : PySem.W.nsIn K mainGlobals "MOST_COLUMNS" = some (some (.int 5 t1)))
    (u2 : PySem.W.nsIn K mainGlobals "LEAST_SIZE" = some (some (.int 2 t2)))
    (u3 : PySem.W.nsIn K mainGlobals "MOST_SIZE" = some (some (.int 4 t3)))
    (u4 : PySem.W.nsIn K mainGlobals "MOST_CONTENTS" = some (some (.int 256 t4)))
    (u5 : PySem.W.nsIn K mainGlobals "MOST_PATTERNS" = some (some (.int 12 t5)))
    (z1 : PySem.W.nsIn K mainGlobals "len" = some none)
    (z2 : PySem.W.nsIn K mainGlobals "isinstance" = some none)
    (z3 : PySem.W.nsIn K mainGlobals "range" = some none)
    (z4 : PySem.W.nsIn K mainGlobals "zip" = some none)
    (z5 : PySem.W.nsIn K mainGlobals "tuple" = some none)
    (z6 : PySem.W.nsIn K mainGlobals "list" = some none)
    (z7 : PySem.W.nsIn K mainGlobals "int" = some none)
    (z8 : PySem.W.nsIn K mainGlobals "bool" = some none)
    (z9 : PySem.W.nsIn K mainGlobals "abs" = some none)
    (z10 : PySem.W.nsIn K mainGlobals "sorted" = some none)
    (z11 : PySem.W.nsIn K mainGlobals "enumerate" = some none)
    (z12 : PySem.W.nsIn K mainGlobals "all" = some none)
    : ∃ fd : FuncData, (∀ (s : Shared) (v : Value), BindsTo s fd ⟨[v], []⟩ [("script", v)]) ∧ ∀ base : Heap, K.In base → base.Ns mainGlobals mg → FnOk l.prog w K mg base CX0 10 fa fd ["script"] (spLaw K) := by
  have e := hfa.symm.trans (PySem.W.mg_of X G a43)
  cases e
  have F1 := fun_mk (st := s_is_whole) l1 c1 k1
  have b1 := F1.binds (ps := ["thing"]) fun _ _ _ _ _ _ us hl => match us, hl with | [_], _ => rfl
  have F2 := fun_mk (st := s_is_pair) l2 c2 k2
  have b2 := F2.binds (ps := ["thing"]) fun _ _ _ _ _ _ us hl => match us, hl with | [_], _ => rfl
  have F3 := fun_mk (st := s_is_fraction) l3 c3 k3
  have b3 := F3.binds (ps := ["thing"]) fun _ _ _ _ _ _ us hl => match us, hl with | [_], _ => rfl
  have F4 := fun_mk (st := s_is_share) l4 c4 k4
  have b4 := F4.binds (ps := ["thing"]) fun _ _ _ _ _ _ us hl => match us, hl with | [_], _ => rfl
  have F5 := fun_mk (st := s_fraction) l5 c5 k5
  have b5 := F5.binds (ps := ["top", "bottom"]) fun _ _ _ _ _ _ us hl => match us, hl with | [_, _], _ => rfl
  have F6 := fun_mk (st := s_plus) l6 c6 k6
  have b6 := F6.binds (ps := ["one", "other"]) fun _ _ _ _ _ _ us hl => match us, hl with | [_, _], _ => rfl
  have F7 := fun_mk (st := s_is_sizes) l7 c7 k7
  have b7 := F7.binds (ps := ["thing"]) fun _ _ _ _ _ _ us hl => match us, hl with | [_], _ => rfl
  have F8 := fun_mk (st := s_is_content) l8 c8 k8
  have b8 := F8.binds (ps := ["sizes", "thing"]) fun _ _ _ _ _ _ us hl => match us, hl with | [_, _], _ => rfl
  have F9 := fun_mk (st := s_is_pattern) l9 c9 k9
  have b9 := F9.binds (ps := ["columns", "thing"]) fun _ _ _ _ _ _ us hl => match us, hl with | [_, _], _ => rfl
  have F10 := fun_mk (st := s_is_box_of) l10 c10 k10
  have b10 := F10.binds (ps := ["sizes", "thing"]) fun _ _ _ _ _ _ us hl => match us, hl with | [_, _], _ => rfl
  have F11 := fun_mk (st := s_all_columns) l11 c11 k11
  have b11 := F11.binds (ps := ["columns"]) fun _ _ _ _ _ _ us hl => match us, hl with | [_], _ => rfl
  have F12 := fun_mk (st := s_all_contents) l12 c12 k12
  have b12 := F12.binds (ps := ["sizes"]) fun _ _ _ _ _ _ us hl => match us, hl with | [_], _ => rfl
  have F13 := fun_mk (st := s_worths_at) l13 c13 k13
  have b13 := F13.binds (ps := ["pattern", "content"]) fun _ _ _ _ _ _ us hl => match us, hl with | [_, _], _ => rfl
  have F14 := fun_mk (st := s_contents) l14 c14 k14
  have b14 := F14.binds (ps := ["sizes"]) fun _ _ _ _ _ _ us hl => match us, hl with | [_], _ => rfl
  have F15 := fun_mk (st := s_is_box) l15 c15 k15
  have b15 := F15.binds (ps := ["sizes", "thing"]) fun _ _ _ _ _ _ us hl => match us, hl with | [_, _], _ => rfl
  have F16 := fun_mk (st := s_box_at) l16 c16 k16
  have b16 := F16.binds (ps := ["sizes", "pattern", "content"]) fun _ _ _ _ _ _ us hl => match us, hl with | [_, _, _], _ => rfl
  have F17 := fun_mk (st := s_in_box) l17 c17 k17
  have b17 := F17.binds (ps := ["sizes", "box"]) fun _ _ _ _ _ _ us hl => match us, hl with | [_, _], _ => rfl
  have F18 := fun_mk (st := s_both) l18 c18 k18
  have b18 := F18.binds (ps := ["sizes", "box", "other"]) fun _ _ _ _ _ _ us hl => match us, hl with | [_, _, _], _ => rfl
  have F19 := fun_mk (st := s_is_list) l19 c19 k19
  have b19 := F19.binds (ps := ["columns", "thing"]) fun _ _ _ _ _ _ us hl => match us, hl with | [_, _], _ => rfl
  have F20 := fun_mk (st := s_is_habit_row) l20 c20 k20
  have b20 := F20.binds (ps := ["columns", "thing"]) fun _ _ _ _ _ _ us hl => match us, hl with | [_, _], _ => rfl
  have F21 := fun_mk (st := s_law_hand) l21 c21 k21
  have b21 := F21.binds (ps := ["script"]) fun _ _ _ _ _ _ us hl => match us, hl with | [_], _ => rfl
  have F22 := fun_mk (st := s_law_draw) l22 c22 k22
  have b22 := F22.binds (ps := ["hand", "many"]) fun _ _ _ _ _ _ us hl => match us, hl with | [_, _], _ => rfl
  have F23 := fun_mk (st := s_law_some) l23 c23 k23
  have b23 := F23.binds (ps := ["hand", "things"]) fun _ _ _ _ _ _ us hl => match us, hl with | [_, _], _ => rfl
  have F24 := fun_mk (st := s_law_deep) l24 c24 k24
  have b24 := F24.binds (ps := ["hand"]) fun _ _ _ _ _ _ us hl => match us, hl with | [_], _ => rfl
  have F25 := fun_mk (st := s_law_sizes) l25 c25 k25
  have b25 := F25.binds (ps := ["hand"]) fun _ _ _ _ _ _ us hl => match us, hl with | [_], _ => rfl
  have F26 := fun_mk (st := s_law_contents) l26 c26 k26
  have b26 := F26.binds (ps := ["sizes"]) fun _ _ _ _ _ _ us hl => match us, hl with | [_], _ => rfl
  have F27 := fun_mk (st := s_law_patterns) l27 c27 k27
  have b27 := F27.binds (ps := ["columns"]) fun _ _ _ _ _ _ us hl => match us, hl with | [_], _ => rfl
  have F28 := fun_mk (st := s_law_pattern) l28 c28 k28
  have b28 := F28.binds (ps := ["hand", "columns"]) fun _ _ _ _ _ _ us hl => match us, hl with | [_, _], _ => rfl
  have F29 := fun_mk (st := s_law_box) l29 c29 k29
  have b29 := F29.binds (ps := ["pattern", "content"]) fun _ _ _ _ _ _ us hl => match us, hl with | [_, _], _ => rfl
  have F30 := fun_mk (st := s_law_is_int) l30 c30 k30
  have b30 := F30.binds (ps := ["thing", "least", "most"]) fun _ _ _ _ _ _ us hl => match us, hl with | [_, _, _], _ => rfl
  have F31 := fun_mk (st := s_law_is_pattern) l31 c31 k31
  have b31 := F31.binds (ps := ["columns", "thing"]) fun _ _ _ _ _ _ us hl => match us, hl with | [_, _], _ => rfl
  have F32 := fun_mk (st := s_law_is_content) l32 c32 k32
  have b32 := F32.binds (ps := ["sizes", "thing"]) fun _ _ _ _ _ _ us hl => match us, hl with | [_, _], _ => rfl
  have F33 := fun_mk (st := s_law_is_box) l33 c33 k33
  have b33 := F33.binds (ps := ["sizes", "thing"]) fun _ _ _ _ _ _ us hl => match us, hl with | [_, _], _ => rfl
  have F34 := fun_mk (st := s_law_are_sizes) l34 c34 k34
  have b34 := F34.binds (ps := ["thing"]) fun _ _ _ _ _ _ us hl => match us, hl with | [_], _ => rfl
  have F35 := fun_mk (st := s_law_is_list) l35 c35 k35
  have b35 := F35.binds (ps := ["columns", "thing"]) fun _ _ _ _ _ _ us hl => match us, hl with | [_, _], _ => rfl
  have F36 := fun_mk (st := s_law_odd) l36 c36 k36
  have b36 := F36.binds (ps := ["hand"]) fun _ _ _ _ _ _ us hl => match us, hl with | [_], _ => rfl
  have F37 := fun_mk (st := s_law_bent) l37 c37 k37
  have b37 := F37.binds (ps := ["hand", "row", "most"]) fun _ _ _ _ _ _ us hl => match us, hl with | [_, _, _], _ => rfl
  have F38 := fun_mk (st := s_law_word) l38 c38 k38
  have b38 := F38.binds (ps := ["which", "sizes", "first", "second"]) fun _ _ _ _ _ _ us hl => match us, hl with | [_, _, _, _], _ => rfl
  have F39 := fun_mk (st := s_law_due) l39 c39 k39
  have b39 := F39.binds (ps := ["which", "sizes", "first", "second"]) fun _ _ _ _ _ _ us hl => match us, hl with | [_, _, _, _], _ => rfl
  have F40 := fun_mk (st := s_law_drawn_list) l40 c40 k40
  have b40 := F40.binds (ps := ["hand", "columns"]) fun _ _ _ _ _ _ us hl => match us, hl with | [_, _], _ => rfl
  have F41 := fun_mk (st := s_law_bent_list) l41 c41 k41
  have b41 := F41.binds (ps := ["hand", "columns", "told"]) fun _ _ _ _ _ _ us hl => match us, hl with | [_, _, _], _ => rfl
  have F42 := fun_mk (st := s_law_flag) l42 c42 k42
  have b42 := F42.binds (ps := ["told", "due"]) fun _ _ _ _ _ _ us hl => match us, hl with | [_, _], _ => rfl
  have F43 := fun_mk (st := s_law) l43 c43 k43
  have F44 := fun_mk (st := s_BadSizes_init) l44 c44 k44
  have b44 := F44.binds (ps := ["self"]) fun _ _ _ _ _ _ us hl => match us, hl with | [_], _ => rfl
  have F45 := fun_mk (st := s_NoPattern_init) l45 c45 k45
  have b45 := F45.binds (ps := ["self"]) fun _ _ _ _ _ _ us hl => match us, hl with | [_], _ => rfl
  have F46 := fun_mk (st := s_NoContent_init) l46 c46 k46
  have b46 := F46.binds (ps := ["self"]) fun _ _ _ _ _ _ us hl => match us, hl with | [_], _ => rfl
  have F47 := fun_mk (st := s_NoBox_init) l47 c47 k47
  have b47 := F47.binds (ps := ["self"]) fun _ _ _ _ _ _ us hl => match us, hl with | [_], _ => rfl
  have F48 := fun_mk (st := s_NoNumber_init) l48 c48 k48
  have b48 := F48.binds (ps := ["self"]) fun _ _ _ _ _ _ us hl => match us, hl with | [_], _ => rfl
  have F49 := fun_mk (st := s_Habit_init) l49 c49 k49
  have b49 := F49.binds (ps := ["self", "sizes", "rows"]) fun _ _ _ _ _ _ us hl => match us, hl with | [_, _, _], _ => rfl
  let T : Txt K mg := { f_is_whole := f1, d_is_whole := _, F_is_whole := F1, b_is_whole := b1, g_is_whole := PySem.W.mg_of X G a1, f_is_pair := f2, d_is_pair := _, F_is_pair := F2, b_is_pair := b2, g_is_pair := PySem.W.mg_of X G a2, f_is_fraction := f3, d_is_fraction := _, F_is_fraction := F3, b_is_fraction := b3, g_is_fraction := PySem.W.mg_of X G a3, f_is_share := f4, d_is_share := _, F_is_share := F4, b_is_share := b4, g_is_share := PySem.W.mg_of X G a4, f_fraction := f5, d_fraction := _, F_fraction := F5, b_fraction := b5, g_fraction := PySem.W.mg_of X G a5, f_plus := f6, d_plus := _, F_plus := F6, b_plus := b6, g_plus := PySem.W.mg_of X G a6, f_is_sizes := f7, d_is_sizes := _, F_is_sizes := F7, b_is_sizes := b7, g_is_sizes := PySem.W.mg_of X G a7, f_is_content := f8, d_is_content := _, F_is_content := F8, b_is_content := b8, g_is_content := PySem.W.mg_of X G a8, f_is_pattern := f9, d_is_pattern := _, F_is_pattern := F9, b_is_pattern := b9, g_is_pattern := PySem.W.mg_of X G a9, f_is_box_of := f10, d_is_box_of := _, F_is_box_of := F10, b_is_box_of := b10, g_is_box_of := PySem.W.mg_of X G a10, f_all_columns := f11, d_all_columns := _, F_all_columns := F11, b_all_columns := b11, g_all_columns := PySem.W.mg_of X G a11, f_all_contents := f12, d_all_contents := _, F_all_contents := F12, b_all_contents := b12, g_all_contents := PySem.W.mg_of X G a12, f_worths_at := f13, d_worths_at := _, F_worths_at := F13, b_worths_at := b13, g_worths_at := PySem.W.mg_of X G a13, f_contents := f14, d_contents := _, F_contents := F14, b_contents := b14, g_contents := PySem.W.mg_of X G a14, f_is_box := f15, d_is_box := _, F_is_box := F15, b_is_box := b15, g_is_box := PySem.W.mg_of X G a15, f_box_at := f16, d_box_at := _, F_box_at := F16, b_box_at := b16, g_box_at := PySem.W.mg_of X G a16, f_in_box := f17, d_in_box := _, F_in_box := F17, b_in_box := b17, g_in_box := PySem.W.mg_of X G a17, f_both := f18, d_both := _, F_both := F18, b_both := b18, g_both := PySem.W.mg_of X G a18, f_is_list := f19, d_is_list := _, F_is_list := F19, b_is_list := b19, g_is_list := PySem.W.mg_of X G a19, f_is_habit_row := f20, d_is_habit_row := _, F_is_habit_row := F20, b_is_habit_row := b20, g_is_habit_row := PySem.W.mg_of X G a20, f_law_hand := f21, d_law_hand := _, F_law_hand := F21, b_law_hand := b21, g_law_hand := PySem.W.mg_of X G a21, f_law_draw := f22, d_law_draw := _, F_law_draw := F22, b_law_draw := b22, g_law_draw := PySem.W.mg_of X G a22, f_law_some := f23, d_law_some := _, F_law_some := F23, b_law_some := b23, g_law_some := PySem.W.mg_of X G a23, f_law_deep := f24, d_law_deep := _, F_law_deep := F24, b_law_deep := b24, g_law_deep := PySem.W.mg_of X G a24, f_law_sizes := f25, d_law_sizes := _, F_law_sizes := F25, b_law_sizes := b25, g_law_sizes := PySem.W.mg_of X G a25, f_law_contents := f26, d_law_contents := _, F_law_contents := F26, b_law_contents := b26, g_law_contents := PySem.W.mg_of X G a26, f_law_patterns := f27, d_law_patterns := _, F_law_patterns := F27, b_law_patterns := b27, g_law_patterns := PySem.W.mg_of X G a27, f_law_pattern := f28, d_law_pattern := _, F_law_pattern := F28, b_law_pattern := b28, g_law_pattern := PySem.W.mg_of X G a28, f_law_box := f29, d_law_box := _, F_law_box := F29, b_law_box := b29, g_law_box := PySem.W.mg_of X G a29, f_law_is_int := f30, d_law_is_int := _, F_law_is_int := F30, b_law_is_int := b30, g_law_is_int := PySem.W.mg_of X G a30, f_law_is_pattern := f31, d_law_is_pattern := _, F_law_is_pattern := F31, b_law_is_pattern := b31, g_law_is_pattern := PySem.W.mg_of X G a31, f_law_is_content := f32, d_law_is_content := _, F_law_is_content := F32, b_law_is_content := b32, g_law_is_content := PySem.W.mg_of X G a32, f_law_is_box := f33, d_law_is_box := _, F_law_is_box := F33, b_law_is_box := b33, g_law_is_box := PySem.W.mg_of X G a33, f_law_are_sizes := f34, d_law_are_sizes := _, F_law_are_sizes := F34, b_law_are_sizes := b34, g_law_are_sizes := PySem.W.mg_of X G a34, f_law_is_list := f35, d_law_is_list := _, F_law_is_list := F35, b_law_is_list := b35, g_law_is_list := PySem.W.mg_of X G a35, f_law_odd := f36, d_law_odd := _, F_law_odd := F36, b_law_odd := b36, g_law_odd := PySem.W.mg_of X G a36, f_law_bent := f37, d_law_bent := _, F_law_bent := F37, b_law_bent := b37, g_law_bent := PySem.W.mg_of X G a37, f_law_word := f38, d_law_word := _, F_law_word := F38, b_law_word := b38, g_law_word := PySem.W.mg_of X G a38, f_law_due := f39, d_law_due := _, F_law_due := F39, b_law_due := b39, g_law_due := PySem.W.mg_of X G a39, f_law_drawn_list := f40, d_law_drawn_list := _, F_law_drawn_list := F40, b_law_drawn_list := b40, g_law_drawn_list := PySem.W.mg_of X G a40, f_law_bent_list := f41, d_law_bent_list := _, F_law_bent_list := F41, b_law_bent_list := b41, g_law_bent_list := PySem.W.mg_of X G a41, f_law_flag := f42, d_law_flag := _, F_law_flag := F42, b_law_flag := b42, g_law_flag := PySem.W.mg_of X G a42, f_BadSizes_init := f44, d_BadSizes_init := _, F_BadSizes_init := F44, b_BadSizes_init := b44, f_NoPattern_init := f45, d_NoPattern_init := _, F_NoPattern_init := F45, b_NoPattern_init := b45, f_NoContent_init := f46, d_NoContent_init := _, F_NoContent_init := F46, b_NoContent_init := b46, f_NoBox_init := f47, d_NoBox_init := _, F_NoBox_init := F47, b_NoBox_init := b47, f_NoNumber_init := f48, d_NoNumber_init := _, F_NoNumber_init := F48, b_NoNumber_init := b48, f_Habit_init := f49, d_Habit_init := _, F_Habit_init := F49, b_Habit_init := b49, c_BadSizes := c_BadSizes, g_BadSizes := PySem.W.mg_of X G n_BadSizes, c_NoPattern := c_NoPattern, g_NoPattern := PySem.W.mg_of X G n_NoPattern, c_NoContent := c_NoContent, g_NoContent := PySem.W.mg_of X G n_NoContent, c_NoBox := c_NoBox, g_NoBox := PySem.W.mg_of X G n_NoBox, c_NoNumber := c_NoNumber, g_NoNumber := PySem.W.mg_of X G n_NoNumber, c_Habit := c_Habit, g_Habit := PySem.W.mg_of X G n_Habit, c_MaskError := c_MaskError, g_MaskError := PySem.W.mg_of X G n_MaskError, m_MaskError := m_MaskError, U_MaskError := U_MaskError, o_BadSizes := o_BadSizes, t_BadSizes := t_BadSizes, e_BadSizes := e_BadSizes, x_BadSizes := x_BadSizes, i_BadSizes := a44, o_NoPattern := o_NoPattern, t_NoPattern := t_NoPattern, e_NoPattern := e_NoPattern, x_NoPattern := x_NoPattern, i_NoPattern := a45, o_NoContent := o_NoContent, t_NoContent := t_NoContent, e_NoContent := e_NoContent, x_NoContent := x_NoContent, i_NoContent := a46, o_NoBox := o_NoBox, t_NoBox := t_NoBox, e_NoBox := e_NoBox, x_NoBox := x_NoBox, i_NoBox := a47, o_NoNumber := o_NoNumber, t_NoNumber := t_NoNumber, e_NoNumber := e_NoNumber, x_NoNumber := x_NoNumber, i_NoNumber := a48, q_BadSizes_BadSizes := q_BadSizes_BadSizes, q_BadSizes_NoPattern := q_BadSizes_NoPattern, q_BadSizes_NoContent := q_BadSizes_NoContent, q_BadSizes_NoBox := q_BadSizes_NoBox, q_BadSizes_NoNumber := q_BadSizes_NoNumber, q_NoPattern_BadSizes := q_NoPattern_BadSizes, q_NoPattern_NoPattern := q_NoPattern_NoPattern, q_NoPattern_NoContent := q_NoPattern_NoContent, q_NoPattern_NoBox := q_NoPattern_NoBox, q_NoPattern_NoNumber := q_NoPattern_NoNumber, q_NoContent_BadSizes := q_NoContent_BadSizes, q_NoContent_NoPattern := q_NoContent_NoPattern, q_NoContent_NoContent := q_NoContent_NoContent, q_NoContent_NoBox := q_NoContent_NoBox, q_NoContent_NoNumber := q_NoContent_NoNumber, q_NoBox_BadSizes := q_NoBox_BadSizes, q_NoBox_NoPattern := q_NoBox_NoPattern, q_NoBox_NoContent := q_NoBox_NoContent, q_NoBox_NoBox := q_NoBox_NoBox, q_NoBox_NoNumber := q_NoBox_NoNumber, q_NoNumber_BadSizes := q_NoNumber_BadSizes, q_NoNumber_NoPattern := q_NoNumber_NoPattern, q_NoNumber_NoContent := q_NoNumber_NoContent, q_NoNumber_NoBox := q_NoNumber_NoBox, q_NoNumber_NoNumber := q_NoNumber_NoNumber, M_Habit := M_Habit, l_Habit := l_Habit, a_sizes := a_sizes, a_rows := a_rows, h_Habit := h_Habit, h2_Habit := h2_Habit, h3_Habit := h3_Habit, h4_Habit := h4_Habit, k_Habit_int := Fm.kit_typ (by decide +kernel) s_Habit_int, k_Habit_tuple := Fm.kit_typ (by decide +kernel) s_Habit_tuple, w_gcd := PySem.W.mg_of X G w_gcd, v_ZERO := v_ZERO, g_ZERO := PySem.W.mg_of X G n_ZERO, k_ZERO := k_ZERO, v_ONE := v_ONE, g_ONE := PySem.W.mg_of X G n_ONE, k_ONE := k_ONE, u_MOST_COLUMNS := _, k_MOST_COLUMNS := ⟨PySem.W.mg_of X G u1, ⟨_, rfl⟩⟩, u_LEAST_SIZE := _, k_LEAST_SIZE := ⟨PySem.W.mg_of X G u2, ⟨_, rfl⟩⟩, u_MOST_SIZE := _, k_MOST_SIZE := ⟨PySem.W.mg_of X G u3, ⟨_, rfl⟩⟩, u_MOST_CONTENTS := _, k_MOST_CONTENTS := ⟨PySem.W.mg_of X G u4, ⟨_, rfl⟩⟩, u_MOST_PATTERNS := _, k_MOST_PATTERNS := ⟨PySem.W.mg_of X G u5, ⟨_, rfl⟩⟩, z_len := PySem.W.mg_none_of X G z1, z_isinstance := PySem.W.mg_none_of X G z2, z_range := PySem.W.mg_none_of X G z3, z_zip := PySem.W.mg_none_of X G z4, z_tuple := PySem.W.mg_none_of X G z5, z_list := PySem.W.mg_none_of X G z6, z_int := PySem.W.mg_none_of X G z7, z_bool := PySem.W.mg_none_of X G z8, z_abs := PySem.W.mg_none_of X G z9, z_sorted := PySem.W.mg_none_of X G z10, z_enumerate := PySem.W.mg_none_of X G z11, z_all := PySem.W.mg_none_of X G z12 }
  exact ⟨PySem.W.fnOf "law" "law" (defArgs s_law) (defBody s_law) (defScope s_law) .none kV43 dc43 pm43 an43 cd43 ct43, fun s v => .of_eq rfl, fun base _ _ => ok_law T F43⟩
end Fm
open PySem PySem.W PyProof.Rows
set_option maxHeartbeats 0 in
theorem PySem.Challenge.cw_fairmasks_k02_boxes_and_lists_judged_and_holds : PySem.Challenge.rw_fairmasks_k02_boxes_and_lists_judged_and.Holds := by
  w_on; o_law; k_head; (case hw => w_witness2)
  k_fill
  refine L2.walk_of (l := PySem.Challenge.rw_fairmasks_k02_boxes_and_lists_judged_and) (n := 63) (k := 10) (x := "script") (CX := fun _ => L2.CX0) (sp := fun w => Fm.spLaw _) rfl (by decide) rfl ⟨rfl, by decide, by decide⟩ (fun w h Y => PySem.W.kIn_of Y) ?F (fun _ _ a ns hl _ hS => ⟨a, ns, rfl, hS, hl, fun _ => rfl⟩) (fun _ _ _ _ _ h => h)
  case F =>
    intro w mg fa h KX G hmg
    refine' Fm.all_mk KX G hmg ?n_BadSizes ?n_NoPattern ?n_NoContent ?n_NoBox ?n_NoNumber ?n_Habit ?n_MaskError ?w_gcd ?n_ZERO ?n_ONE ?a1 ?l1 ?c1 ?k1 ?a2 ?l2 ?c2 ?k2 ?a3 ?l3 ?c3 ?k3 ?a4 ?l4 ?c4 ?k4 ?a5 ?l5 ?c5 ?k5 ?a6 ?l6 ?c6 ?k6 ?a7 ?l7 ?c7 ?k7 ?a8 ?l8 ?c8 ?k8 ?a9 ?l9 ?c9 ?k9 ?a10 ?l10 ?c10 ?k10 ?a11 ?l11 ?c11 ?k11 ?a12 ?l12 ?c12 ?k12 ?a13 ?l13 ?c13 ?k13 ?a14 ?l14 ?c14 ?k14 ?a15 ?l15 ?c15 ?k15 ?a16 ?l16 ?c16 ?k16 ?a17 ?l17 ?c17 ?k17 ?a18 ?l18 ?c18 ?k18 ?a19 ?l19 ?c19 ?k19 ?a20 ?l20 ?c20 ?k20 ?a21 ?l21 ?c21 ?k21 ?a22 ?l22 ?c22 ?k22 ?a23 ?l23 ?c23 ?k23 ?a24 ?l24 ?c24 ?k24 ?a25 ?l25 ?c25 ?k25 ?a26 ?l26 ?c26 ?k26 ?a27 ?l27 ?c27 ?k27 ?a28 ?l28 ?c28 ?k28 ?a29 ?l29 ?c29 ?k29 ?a30 ?l30 ?c30 ?k30 ?a31 ?l31 ?c31 ?k31 ?a32 ?l32 ?c32 ?k32 ?a33 ?l33 ?c33 ?k33 ?a34 ?l34 ?c34 ?k34 ?a35 ?l35 ?c35 ?k35 ?a36 ?l36 ?c36 ?k36 ?a37 ?l37 ?c37 ?k37 ?a38 ?l38 ?c38 ?k38 ?a39 ?l39 ?c39 ?k39 ?a40 ?l40 ?c40 ?k40 ?a41 ?l41 ?c41 ?k41 ?a42 ?l42 ?c42 ?k42 ?a43 ?l43 ?c43 ?k43 ?a44 ?l44 ?c44 ?k44 ?a45 ?l45 ?c45 ?k45 ?a46 ?l46 ?c46 ?k46 ?a47 ?l47 ?c47 ?k47 ?a48 ?l48 ?c48 ?k48 ?a49 ?l49 ?c49 ?k49 ?y_MaskError ?U_MaskError ?o_BadSizes ?t_BadSizes ?e_BadSizes ?x_BadSizes ?o_NoPattern ?t_NoPattern ?e_NoPattern ?x_NoPattern ?o_NoContent ?t_NoContent ?e_NoContent ?x_NoContent ?o_NoBox ?t_NoBox ?e_NoBox ?x_NoBox ?o_NoNumber ?t_NoNumber ?e_NoNumber ?x_NoNumber ?q_BadSizes_BadSizes ?q_BadSizes_NoPattern ?q_BadSizes_NoContent ?q_BadSizes_NoBox ?q_BadSizes_NoNumber ?q_NoPattern_BadSizes ?q_NoPattern_NoPattern ?q_NoPattern_NoContent ?q_NoPattern_NoBox ?q_NoPattern_NoNumber ?q_NoContent_BadSizes ?q_NoContent_NoPattern ?q_NoContent_NoContent ?q_NoContent_NoBox ?q_NoContent_NoNumber ?q_NoBox_BadSizes ?q_NoBox_NoPattern ?q_NoBox_NoContent ?q_NoBox_NoBox ?q_NoBox_NoNumber ?q_NoNumber_BadSizes ?q_NoNumber_NoPattern ?q_NoNumber_NoContent ?q_NoNumber_NoBox ?q_NoNumber_NoNumber ?M_Habit ?l_Habit ?a_sizes ?a_rows ?h_Habit ?h2_Habit ?h3_Habit ?h4_Habit ?s_Habit_int ?s_Habit_tuple ?k_ZERO ?k_ONE ?u1 ?u2 ?u3 ?u4 ?u5 ?z1 ?z2 ?z3 ?z4 ?z5 ?z6 ?z7 ?z8 ?z9 ?z10 ?z11 ?z12
    case n_BadSizes => k_is
    case n_NoPattern => k_is
    case n_NoContent => k_is
    case n_NoBox => k_is
    case n_NoNumber => k_is
    case n_Habit => k_is
    case n_MaskError => k_is
    case w_gcd => k_is
    case n_ZERO => k_is
    case n_ONE => k_is
    case a1 => k_is
    case l1 => k_is
    case c1 => k_is
    case k1 => k_is
    case a2 => k_is
    case l2 => k_is
    case c2 => k_is
    case k2 => k_is
    case a3 => k_is
    case l3 => k_is
    case c3 => k_is
    case k3 => k_is
    case a4 => k_is
    case l4 => k_is
    case c4 => k_is
    case k4 => k_is
    case a5 => k_is
    case l5 => k_is
    case c5 => k_is
    case k5 => k_is
    case a6 => k_is
    case l6 => k_is
    case c6 => k_is
    case k6 => k_is
    case a7 => k_is
    case l7 => k_is
    case c7 => k_is
    case k7 => k_is
    case a8 => k_is
    case l8 => k_is
    case c8 => k_is
    case k8 => k_is
    case a9 => k_is
    case l9 => k_is
    case c9 => k_is
    case k9 => k_is
    case a10 => k_is
    case l10 => k_is
    case c10 => k_is
    case k10 => k_is
    case a11 => k_is
    case l11 => k_is
    case c11 => k_is
    case k11 => k_is
    case a12 => k_is
    case l12 => k_is
    case c12 => k_is
    case k12 => k_is
    case a13 => k_is
    case l13 => k_is
    case c13 => k_is
    case k13 => k_is
    case a14 => k_is
    case l14 => k_is
    case c14 => k_is
    case k14 => k_is
    case a15 => k_is
    case l15 => k_is
    case c15 => k_is
    case k15 => k_is
    case a16 => k_is
    case l16 => k_is
    case c16 => k_is
    case k16 => k_is
    case a17 => k_is
    case l17 => k_is
    case c17 => k_is
    case k17 => k_is
    case a18 => k_is
    case l18 => k_is
    case c18 => k_is
    case k18 => k_is
    case a19 => k_is
    case l19 => k_is
    case c19 => k_is
    case k19 => k_is
    case a20 => k_is
    case l20 => k_is
    case c20 => k_is
    case k20 => k_is
    case a21 => k_is
    case l21 => k_is
    case c21 => k_is
    case k21 => k_is
    case a22 => k_is
    case l22 => k_is
    case c22 => k_is
    case k22 => k_is
    case a23 => k_is
    case l23 => k_is
    case c23 => k_is
    case k23 => k_is
    case a24 => k_is
    case l24 => k_is
    case c24 => k_is
    case k24 => k_is
    case a25 => k_is
    case l25 => k_is
    case c25 => k_is
    case k25 => k_is
    case a26 => k_is
    case l26 => k_is
    case c26 => k_is
    case k26 => k_is
    case a27 => k_is
    case l27 => k_is
    case c27 => k_is
    case k27 => k_is
    case a28 => k_is
    case l28 => k_is
    case c28 => k_is
    case k28 => k_is
    case a29 => k_is
    case l29 => k_is
    case c29 => k_is
    case k29 => k_is
    case a30 => k_is
    case l30 => k_is
    case c30 => k_is
    case k30 => k_is
    case a31 => k_is
    case l31 => k_is
    case c31 => k_is
    case k31 => k_is
    case a32 => k_is
    case l32 => k_is
    case c32 => k_is
    case k32 => k_is
    case a33 => k_is
    case l33 => k_is
    case c33 => k_is
    case k33 => k_is
    case a34 => k_is
    case l34 => k_is
    case c34 => k_is
    case k34 => k_is
    case a35 => k_is
    case l35 => k_is
    case c35 => k_is
    case k35 => k_is
    case a36 => k_is
    case l36 => k_is
    case c36 => k_is
    case k36 => k_is
    case a37 => k_is
    case l37 => k_is
    case c37 => k_is
    case k37 => k_is
    case a38 => k_is
    case l38 => k_is
    case c38 => k_is
    case k38 => k_is
    case a39 => k_is
    case l39 => k_is
    case c39 => k_is
    case k39 => k_is
    case a40 => k_is
    case l40 => k_is
    case c40 => k_is
    case k40 => k_is
    case a41 => k_is
    case l41 => k_is
    case c41 => k_is
    case k41 => k_is
    case a42 => k_is
    case l42 => k_is
    case c42 => k_is
    case k42 => k_is
    case a43 => k_is
    case l43 => k_is
    case c43 => k_is
    case k43 => k_is
    case a44 => k_is
    case l44 => k_is
    case c44 => k_is
    case k44 => k_is
    case a45 => k_is
    case l45 => k_is
    case c45 => k_is
    case k45 => k_is
    case a46 => k_is
    case l46 => k_is
    case c46 => k_is
    case k46 => k_is
    case a47 => k_is
    case l47 => k_is
    case c47 => k_is
    case k47 => k_is
    case a48 => k_is
    case l48 => k_is
    case c48 => k_is
    case k48 => k_is
    case a49 => k_is
    case l49 => k_is
    case c49 => k_is
    case k49 => k_is
    case y_MaskError => k_is
    case U_MaskError => refine' ⟨?g_U_MaskError_z1, ?g_U_MaskError_z2, ?g_U_MaskError_z3⟩ <;> k_is
    case o_BadSizes => refine' Fm.oexC_mk ?g_o_BadSizes_z1 ?g_o_BadSizes_z2 ?g_o_BadSizes_z3 ?g_o_BadSizes_z4 ?g_o_BadSizes_z5 ?g_o_BadSizes_z6; (case g_o_BadSizes_z1 => k_is); (case g_o_BadSizes_z2 => decide +kernel); (case g_o_BadSizes_z3 => k_is); (case g_o_BadSizes_z4 => k_is); (case g_o_BadSizes_z5 => k_is); (case g_o_BadSizes_z6 => k_is)
    case t_BadSizes => k_is
    case e_BadSizes => refine' ⟨?g_e_BadSizes_z1, ?g_e_BadSizes_z2, ?g_e_BadSizes_z3, ?g_e_BadSizes_z4, ?g_e_BadSizes_z5, ?g_e_BadSizes_z6, ?g_e_BadSizes_z7, ?g_e_BadSizes_z8⟩ <;> k_is
    case x_BadSizes => refine' PySem.W.exm_ref ?g_x_BadSizes_z1 ?g_x_BadSizes_z2 ?g_x_BadSizes_z3 ?g_x_BadSizes_z4 <;> k_is
    case o_NoPattern => refine' Fm.oexC_mk ?g_o_NoPattern_z1 ?g_o_NoPattern_z2 ?g_o_NoPattern_z3 ?g_o_NoPattern_z4 ?g_o_NoPattern_z5 ?g_o_NoPattern_z6; (case g_o_NoPattern_z1 => k_is); (case g_o_NoPattern_z2 => decide +kernel); (case g_o_NoPattern_z3 => k_is); (case g_o_NoPattern_z4 => k_is); (case g_o_NoPattern_z5 => k_is); (case g_o_NoPattern_z6 => k_is)
    case t_NoPattern => k_is
    case e_NoPattern => refine' ⟨?g_e_NoPattern_z1, ?g_e_NoPattern_z2, ?g_e_NoPattern_z3, ?g_e_NoPattern_z4, ?g_e_NoPattern_z5, ?g_e_NoPattern_z6, ?g_e_NoPattern_z7, ?g_e_NoPattern_z8⟩ <;> k_is
    case x_NoPattern => refine' PySem.W.exm_ref ?g_x_NoPattern_z1 ?g_x_NoPattern_z2 ?g_x_NoPattern_z3 ?g_x_NoPattern_z4 <;> k_is
    case o_NoContent => refine' Fm.oexC_mk ?g_o_NoContent_z1 ?g_o_NoContent_z2 ?g_o_NoContent_z3 ?g_o_NoContent_z4 ?g_o_NoContent_z5 ?g_o_NoContent_z6; (case g_o_NoContent_z1 => k_is); (case g_o_NoContent_z2 => decide +kernel); (case g_o_NoContent_z3 => k_is); (case g_o_NoContent_z4 => k_is); (case g_o_NoContent_z5 => k_is); (case g_o_NoContent_z6 => k_is)
    case t_NoContent => k_is
    case e_NoContent => refine' ⟨?g_e_NoContent_z1, ?g_e_NoContent_z2, ?g_e_NoContent_z3, ?g_e_NoContent_z4, ?g_e_NoContent_z5, ?g_e_NoContent_z6, ?g_e_NoContent_z7, ?g_e_NoContent_z8⟩ <;> k_is
    case x_NoContent => refine' PySem.W.exm_ref ?g_x_NoContent_z1 ?g_x_NoContent_z2 ?g_x_NoContent_z3 ?g_x_NoContent_z4 <;> k_is
    case o_NoBox => refine' Fm.oexC_mk ?g_o_NoBox_z1 ?g_o_NoBox_z2 ?g_o_NoBox_z3 ?g_o_NoBox_z4 ?g_o_NoBox_z5 ?g_o_NoBox_z6; (case g_o_NoBox_z1 => k_is); (case g_o_NoBox_z2 => decide +kernel); (case g_o_NoBox_z3 => k_is); (case g_o_NoBox_z4 => k_is); (case g_o_NoBox_z5 => k_is); (case g_o_NoBox_z6 => k_is)
    case t_NoBox => k_is
    case e_NoBox => refine' ⟨?g_e_NoBox_z1, ?g_e_NoBox_z2, ?g_e_NoBox_z3, ?g_e_NoBox_z4, ?g_e_NoBox_z5, ?g_e_NoBox_z6, ?g_e_NoBox_z7, ?g_e_NoBox_z8⟩ <;> k_is
    case x_NoBox => refine' PySem.W.exm_ref ?g_x_NoBox_z1 ?g_x_NoBox_z2 ?g_x_NoBox_z3 ?g_x_NoBox_z4 <;> k_is
    case o_NoNumber => refine' Fm.oexC_mk ?g_o_NoNumber_z1 ?g_o_NoNumber_z2 ?g_o_NoNumber_z3 ?g_o_NoNumber_z4 ?g_o_NoNumber_z5 ?g_o_NoNumber_z6; (case g_o_NoNumber_z1 => k_is); (case g_o_NoNumber_z2 => decide +kernel); (case g_o_NoNumber_z3 => k_is); (case g_o_NoNumber_z4 => k_is); (case g_o_NoNumber_z5 => k_is); (case g_o_NoNumber_z6 => k_is)
    case t_NoNumber => k_is
    case e_NoNumber => refine' ⟨?g_e_NoNumber_z1, ?g_e_NoNumber_z2, ?g_e_NoNumber_z3, ?g_e_NoNumber_z4, ?g_e_NoNumber_z5, ?g_e_NoNumber_z6, ?g_e_NoNumber_z7, ?g_e_NoNumber_z8⟩ <;> k_is
    case x_NoNumber => refine' PySem.W.exm_ref ?g_x_NoNumber_z1 ?g_x_NoNumber_z2 ?g_x_NoNumber_z3 ?g_x_NoNumber_z4 <;> k_is
    case q_BadSizes_BadSizes => exact if_pos (beq_self_eq_true _)
    case q_BadSizes_NoPattern => refine' Fm.kit_own ?g_q_BadSizes_NoPattern_z1 ?g_q_BadSizes_NoPattern_z2 ?g_q_BadSizes_NoPattern_z3 ?g_q_BadSizes_NoPattern_z4; (case g_q_BadSizes_NoPattern_z1 => decide); (case g_q_BadSizes_NoPattern_z2 => k_is); (case g_q_BadSizes_NoPattern_z3 => k_is); (case g_q_BadSizes_NoPattern_z4 => k_is)
    case q_BadSizes_NoContent => refine' Fm.kit_own ?g_q_BadSizes_NoContent_z1 ?g_q_BadSizes_NoContent_z2 ?g_q_BadSizes_NoContent_z3 ?g_q_BadSizes_NoContent_z4; (case g_q_BadSizes_NoContent_z1 => decide); (case g_q_BadSizes_NoContent_z2 => k_is); (case g_q_BadSizes_NoContent_z3 => k_is); (case g_q_BadSizes_NoContent_z4 => k_is)
    case q_BadSizes_NoBox => refine' Fm.kit_own ?g_q_BadSizes_NoBox_z1 ?g_q_BadSizes_NoBox_z2 ?g_q_BadSizes_NoBox_z3 ?g_q_BadSizes_NoBox_z4; (case g_q_BadSizes_NoBox_z1 => decide); (case g_q_BadSizes_NoBox_z2 => k_is); (case g_q_BadSizes_NoBox_z3 => k_is); (case g_q_BadSizes_NoBox_z4 => k_is)
    case q_BadSizes_NoNumber => refine' Fm.kit_own ?g_q_BadSizes_NoNumber_z1 ?g_q_BadSizes_NoNumber_z2 ?g_q_BadSizes_NoNumber_z3 ?g_q_BadSizes_NoNumber_z4; (case g_q_BadSizes_NoNumber_z1 => decide); (case g_q_BadSizes_NoNumber_z2 => k_is); (case g_q_BadSizes_NoNumber_z3 => k_is); (case g_q_BadSizes_NoNumber_z4 => k_is)
    case q_NoPattern_BadSizes => refine' Fm.kit_own ?g_q_NoPattern_BadSizes_z1 ?g_q_NoPattern_BadSizes_z2 ?g_q_NoPattern_BadSizes_z3 ?g_q_NoPattern_BadSizes_z4; (case g_q_NoPattern_BadSizes_z1 => decide); (case g_q_NoPattern_BadSizes_z2 => k_is); (case g_q_NoPattern_BadSizes_z3 => k_is); (case g_q_NoPattern_BadSizes_z4 => k_is)
    case q_NoPattern_NoPattern => exact if_pos (beq_self_eq_true _)
    case q_NoPattern_NoContent => refine' Fm.kit_own ?g_q_NoPattern_NoContent_z1 ?g_q_NoPattern_NoContent_z2 ?g_q_NoPattern_NoContent_z3 ?g_q_NoPattern_NoContent_z4; (case g_q_NoPattern_NoContent_z1 => decide); (case g_q_NoPattern_NoContent_z2 => k_is); (case g_q_NoPattern_NoContent_z3 => k_is); (case g_q_NoPattern_NoContent_z4 => k_is)
    case q_NoPattern_NoBox => refine' Fm.kit_own ?g_q_NoPattern_NoBox_z1 ?g_q_NoPattern_NoBox_z2 ?g_q_NoPattern_NoBox_z3 ?g_q_NoPattern_NoBox_z4; (case g_q_NoPattern_NoBox_z1 => decide); (case g_q_NoPattern_NoBox_z2 => k_is); (case g_q_NoPattern_NoBox_z3 => k_is); (case g_q_NoPattern_NoBox_z4 => k_is)
    case q_NoPattern_NoNumber => refine' Fm.kit_own ?g_q_NoPattern_NoNumber_z1 ?g_q_NoPattern_NoNumber_z2 ?g_q_NoPattern_NoNumber_z3 ?g_q_NoPattern_NoNumber_z4; (case g_q_NoPattern_NoNumber_z1 => decide); (case g_q_NoPattern_NoNumber_z2 => k_is); (case g_q_NoPattern_NoNumber_z3 => k_is); (case g_q_NoPattern_NoNumber_z4 => k_is)
    case q_NoContent_BadSizes => refine' Fm.kit_own ?g_q_NoContent_BadSizes_z1 ?g_q_NoContent_BadSizes_z2 ?g_q_NoContent_BadSizes_z3 ?g_q_NoContent_BadSizes_z4; (case g_q_NoContent_BadSizes_z1 => decide); (case g_q_NoContent_BadSizes_z2 => k_is); (case g_q_NoContent_BadSizes_z3 => k_is); (case g_q_NoContent_BadSizes_z4 => k_is)
    case q_NoContent_NoPattern => refine' Fm.kit_own ?g_q_NoContent_NoPattern_z1 ?g_q_NoContent_NoPattern_z2 ?g_q_NoContent_NoPattern_z3 ?g_q_NoContent_NoPattern_z4; (case g_q_NoContent_NoPattern_z1 => decide); (case g_q_NoContent_NoPattern_z2 => k_is); (case g_q_NoContent_NoPattern_z3 => k_is); (case g_q_NoContent_NoPattern_z4 => k_is)
    case q_NoContent_NoContent => exact if_pos (beq_self_eq_true _)
    case q_NoContent_NoBox => refine' Fm.kit_own ?g_q_NoContent_NoBox_z1 ?g_q_NoContent_NoBox_z2 ?g_q_NoContent_NoBox_z3 ?g_q_NoContent_NoBox_z4; (case g_q_NoContent_NoBox_z1 => decide); (case g_q_NoContent_NoBox_z2 => k_is); (case g_q_NoContent_NoBox_z3 => k_is); (case g_q_NoContent_NoBox_z4 => k_is)
    case q_NoContent_NoNumber => refine' Fm.kit_own ?g_q_NoContent_NoNumber_z1 ?g_q_NoContent_NoNumber_z2 ?g_q_NoContent_NoNumber_z3 ?g_q_NoContent_NoNumber_z4; (case g_q_NoContent_NoNumber_z1 => decide); (case g_q_NoContent_NoNumber_z2 => k_is); (case g_q_NoContent_NoNumber_z3 => k_is); (case g_q_NoContent_NoNumber_z4 => k_is)
    case q_NoBox_BadSizes => refine' Fm.kit_own ?g_q_NoBox_BadSizes_z1 ?g_q_NoBox_BadSizes_z2 ?g_q_NoBox_BadSizes_z3 ?g_q_NoBox_BadSizes_z4; (case g_q_NoBox_BadSizes_z1 => decide); (case g_q_NoBox_BadSizes_z2 => k_is); (case g_q_NoBox_BadSizes_z3 => k_is); (case g_q_NoBox_BadSizes_z4 => k_is)
    case q_NoBox_NoPattern => refine' Fm.kit_own ?g_q_NoBox_NoPattern_z1 ?g_q_NoBox_NoPattern_z2 ?g_q_NoBox_NoPattern_z3 ?g_q_NoBox_NoPattern_z4; (case g_q_NoBox_NoPattern_z1 => decide); (case g_q_NoBox_NoPattern_z2 => k_is); (case g_q_NoBox_NoPattern_z3 => k_is); (case g_q_NoBox_NoPattern_z4 => k_is)
    case q_NoBox_NoContent => refine' Fm.kit_own ?g_q_NoBox_NoContent_z1 ?g_q_NoBox_NoContent_z2 ?g_q_NoBox_NoContent_z3 ?g_q_NoBox_NoContent_z4; (case g_q_NoBox_NoContent_z1 => decide); (case g_q_NoBox_NoContent_z2 => k_is); (case g_q_NoBox_NoContent_z3 => k_is); (case g_q_NoBox_NoContent_z4 => k_is)
    case q_NoBox_NoBox => exact if_pos (beq_self_eq_true _)
    case q_NoBox_NoNumber => refine' Fm.kit_own ?g_q_NoBox_NoNumber_z1 ?g_q_NoBox_NoNumber_z2 ?g_q_NoBox_NoNumber_z3 ?g_q_NoBox_NoNumber_z4; (case g_q_NoBox_NoNumber_z1 => decide); (case g_q_NoBox_NoNumber_z2 => k_is); (case g_q_NoBox_NoNumber_z3 => k_is); (case g_q_NoBox_NoNumber_z4 => k_is)
    case q_NoNumber_BadSizes => refine' Fm.kit_own ?g_q_NoNumber_BadSizes_z1 ?g_q_NoNumber_BadSizes_z2 ?g_q_NoNumber_BadSizes_z3 ?g_q_NoNumber_BadSizes_z4; (case g_q_NoNumber_BadSizes_z1 => decide); (case g_q_NoNumber_BadSizes_z2 => k_is); (case g_q_NoNumber_BadSizes_z3 => k_is); (case g_q_NoNumber_BadSizes_z4 => k_is)
    case q_NoNumber_NoPattern => refine' Fm.kit_own ?g_q_NoNumber_NoPattern_z1 ?g_q_NoNumber_NoPattern_z2 ?g_q_NoNumber_NoPattern_z3 ?g_q_NoNumber_NoPattern_z4; (case g_q_NoNumber_NoPattern_z1 => decide); (case g_q_NoNumber_NoPattern_z2 => k_is); (case g_q_NoNumber_NoPattern_z3 => k_is); (case g_q_NoNumber_NoPattern_z4 => k_is)
    case q_NoNumber_NoContent => refine' Fm.kit_own ?g_q_NoNumber_NoContent_z1 ?g_q_NoNumber_NoContent_z2 ?g_q_NoNumber_NoContent_z3 ?g_q_NoNumber_NoContent_z4; (case g_q_NoNumber_NoContent_z1 => decide); (case g_q_NoNumber_NoContent_z2 => k_is); (case g_q_NoNumber_NoContent_z3 => k_is); (case g_q_NoNumber_NoContent_z4 => k_is)
    case q_NoNumber_NoBox => refine' Fm.kit_own ?g_q_NoNumber_NoBox_z1 ?g_q_NoNumber_NoBox_z2 ?g_q_NoNumber_NoBox_z3 ?g_q_NoNumber_NoBox_z4; (case g_q_NoNumber_NoBox_z1 => decide); (case g_q_NoNumber_NoBox_z2 => k_is); (case g_q_NoNumber_NoBox_z3 => k_is); (case g_q_NoNumber_NoBox_z4 => k_is)
    case q_NoNumber_NoNumber => exact if_pos (beq_self_eq_true _)
    case M_Habit => refine' ⟨?g_M_Habit_z1, ?g_M_Habit_z2, ?g_M_Habit_z3, ?g_M_Habit_z4⟩ <;> k_is
    case l_Habit => refine' ⟨?g_l_Habit_z1, ?g_l_Habit_z2, ?g_l_Habit_z3, ?g_l_Habit_z4⟩ <;> k_is
    case a_sizes => k_is
    case a_rows => k_is
    case h_Habit => k_is
    case h2_Habit => k_is
    case h3_Habit => k_is
    case h4_Habit => k_is
    case s_Habit_int => k_is
    case s_Habit_tuple => k_is
    case k_ZERO => refine' Fm.sqK_mk ?g_k_ZERO_z1 ?g_k_ZERO_z2; (case g_k_ZERO_z1 => k_is); (case g_k_ZERO_z2 => exact ⟨_, _, rfl, rfl, by decide, .cons ⟨_, rfl⟩ (.cons ⟨_, rfl⟩ .nil)⟩)
    case k_ONE => refine' Fm.sqK_mk ?g_k_ONE_z1 ?g_k_ONE_z2; (case g_k_ONE_z1 => k_is); (case g_k_ONE_z2 => exact ⟨_, _, rfl, rfl, by decide, .cons ⟨_, rfl⟩ (.cons ⟨_, rfl⟩ .nil)⟩)
    case u1 => k_is
    case u2 => k_is
    case u3 => k_is
    case u4 => k_is
    case u5 => k_is
    case z1 => k_is
    case z2 => k_is
    case z3 => k_is
    case z4 => k_is
    case z5 => k_is
    case z6 => k_is
    case z7 => k_is
    case z8 => k_is
    case z9 => k_is
    case z10 => k_is
    case z11 => k_is
    case z12 => k_is
