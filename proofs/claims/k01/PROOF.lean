import PyProof.Rows.All
import Wide.All
import OpenK.AllK
import Wide.FinOn
import HandS.ForMost
import HandS.IsInst
import HandS.TupAny
import HandS.SetKeys
import HandS.DictComp
import HandS.Zip
import HandS.TupLe
import HandS.More
import HandS.Conv
import HandS.Codes
import KE.GoesNew
import KE.KDictZip
import HandS.Zip0
import PySem.Challenge.RW_fairmasks_k01_whole_contents_and_boxes
set_option Elab.async false
set_option maxRecDepth 100000
set_option maxHeartbeats 4000000
/-! Plain things of the fairmasks laws: data that a value stands for, heaps that go on, the drawing hand. -/
namespace Fm
open PySem PySem.Spec PyProof.Rows L2

/-- a thing that is judged: lists, dicts, instances are told by their type alone -/
inductive Dt where
  | non | bl (b : Bool) | int (i : Int) | str (s : Str) | tup (ds : List Dt) | oth (t : Value)

/-- only lists may have changed, and they are lists still -/
def Ext (H H' : Hp) : Prop := ∀ b o, H b = some o → H' b = some o ∨ ((∃ xs, o = .lst xs) ∧ ∃ ys, H' b = some (.lst ys))
theorem Ext.refl (H : Hp) : Ext H H := fun _ _ e => .inl e
theorem Ext.of {H H' : Hp} (s : Same H H') : Ext H H' := fun b o e => .inl (s b o e)
theorem Ext.trans {H H1 H2 : Hp} (a : Ext H H1) (b : Ext H1 H2) : Ext H H2 := fun c o e => by
  rcases a c o e with e1 | ⟨⟨xs, rfl⟩, ys, e1⟩
  · exact b c o e1
  · rcases b c _ e1 with e2 | ⟨_, zs, e2⟩
    · exact .inr ⟨⟨xs, rfl⟩, ys, e2⟩
    · exact .inr ⟨⟨xs, rfl⟩, zs, e2⟩
theorem Ext.tup {H H' : Hp} (e : Ext H H') {a : Addr} {xs : List V} (h : H a = some (.tup xs)) : H' a = some (.tup xs) := by
  rcases e a _ h with e1 | ⟨⟨ys, q⟩, _⟩
  · exact e1
  · cases q
theorem Ext.frz {H H' : Hp} (e : Ext H H') {a : Addr} {o : Obj} {u : HO} (h : H a = some (.frz o u)) : H' a = some (.frz o u) := by
  rcases e a _ h with e1 | ⟨⟨ys, q⟩, _⟩
  · exact e1
  · cases q
theorem Ext.sqT {K : PySem.W.Frag} {H H' : Hp} (e : Ext H H') {a : Addr} {xs : List V} (h : SqT K H a xs) : SqT K H' a xs := by
  rcases h with (h | ⟨o, h⟩) | h
  · exact .inl (.inl (e.tup h))
  · exact .inl (.inr ⟨o, e.frz h⟩)
  · exact .inr h
theorem same_new {H : Hp} {p : Addr} {o : HO} (h : H p = none) : Same H (upd H p o) := fun b x e => by
  rw [upd_ne (ne_of_none e h)]
  exact e
theorem Ext.new {H : Hp} {p : Addr} {o : HO} (h : H p = none) : Ext H (upd H p o) := .of (same_new h)
theorem TyX.ext {K : PySem.W.Frag} {H H' : Hp} {v : V} {t : Value} (e : Ext H H') (h : TyX K H v t) : TyX K H' v t := by
  have go : ∀ {a : Addr} {o : HO}, H a = some o → (∀ xs, o ≠ .lst xs) → H' a = some o := fun {a o} q n => by
    rcases e a _ q with e1 | ⟨⟨ys, z⟩, _⟩
    · exact e1
    · exact absurd z (n ys)
  cases h with
  | base b =>
    cases b with
    | non => exact .base .non
    | bl x => exact .base (.bl x)
    | int i => exact .base (.int i)
    | str x => exact .base (.str x)
    | flt x => exact .base (.flt x)
    | @lst a xs q =>
      rcases e a _ q with e1 | ⟨_, ys, e1⟩
      · exact .base (.lst e1)
      · exact .base (.lst e1)
    | frz q => exact .base (.frz (e.frz q))
    | tup q => exact .base (.tup (e.tup q))
    | dK q => exact .base (.dK (go q fun _ z => nomatch z))
    | dT q => exact .base (.dT (go q fun _ z => nomatch z))
    | ins q cl ha hn htk hm => exact .base (.ins (go q fun _ z => nomatch z) cl ha hn htk hm)
  | byt b => exact .byt b
  | set q => exact .set (go q fun _ z => nomatch z)
  | kList q c => exact .kList q c
  | kTuple q c => exact .kTuple q c
  | kDict q c => exact .kDict q c
  | fTuple q => exact .fTuple (e.frz q)
  | fDict q => exact .fDict (e.frz q)

mutual
inductive Dh (K : PySem.W.Frag) (H : Hp) : V → Dt → Prop
  | non : Dh K H .non .non
  | bl (b : Bool) : Dh K H (.bl b) (.bl b)
  | int (i : Int) : Dh K H (.int i) (.int i)
  | str (x : Str) : Dh K H (.str x) (.str x)
  | tup {a : Addr} {xs : List V} {ds : List Dt} : SqT K H a xs → DhAll K H xs ds → Dh K H (.ref a) (.tup ds)
  | oth {v : V} {t : Value} : TyX K H v t → PySem.W.kitOne K t (.type "int") = some false → PySem.W.kitOne K t (.type "tuple") = some false → Dh K H v (.oth t)
inductive DhAll (K : PySem.W.Frag) (H : Hp) : List V → List Dt → Prop
  | nil : DhAll K H [] []
  | cons {v : V} {vs : List V} {d : Dt} {ds : List Dt} : Dh K H v d → DhAll K H vs ds → DhAll K H (v :: vs) (d :: ds)
end
section
variable {K : PySem.W.Frag} {H H' : Hp}
mutual
theorem Dh.ext (e : Ext H H') : ∀ {v : V} {d : Dt}, Dh K H v d → Dh K H' v d
  | _, _, .non => .non
  | _, _, .bl b => .bl b
  | _, _, .int i => .int i
  | _, _, .str x => .str x
  | _, _, .tup s h => .tup (e.sqT s) (DhAll.ext e h)
  | _, _, .oth t k1 k2 => .oth (TyX.ext e t) k1 k2
theorem DhAll.ext (e : Ext H H') : ∀ {vs : List V} {ds : List Dt}, DhAll K H vs ds → DhAll K H' vs ds
  | _, _, .nil => .nil
  | _, _, .cons h t => .cons (Dh.ext e h) (DhAll.ext e t)
end
theorem DhAll.length : ∀ {vs : List V} {ds : List Dt}, DhAll K H vs ds → vs.length = ds.length
  | _, _, .nil => rfl
  | _, _, .cons _ t => congrArg (· + 1) (DhAll.length t)
theorem DhAll.get : ∀ {vs : List V} {ds : List Dt} {i : Nat} {v : V}, DhAll K H vs ds → vs[i]? = some v → ∃ d, ds[i]? = some d ∧ Dh K H v d
  | _, _, _, _, .nil, e => by simp at e
  | _, _, 0, _, .cons h _, e => by simp at e; subst e; exact ⟨_, rfl, h⟩
  | _, _, i + 1, v, .cons _ t, e => by
    obtain ⟨d, h1, h2⟩ := DhAll.get (i := i) (v := v) t (by simpa using e)
    exact ⟨d, by simpa using h1, h2⟩
theorem DhAll.at : ∀ {vs : List V} {ds : List Dt} {i : Nat} {d : Dt}, DhAll K H vs ds → ds[i]? = some d → ∃ v, vs[i]? = some v ∧ Dh K H v d
  | _, _, _, _, .nil, e => by simp at e
  | _, _, 0, _, .cons h _, e => by simp at e; subst e; exact ⟨_, rfl, h⟩
  | _, _, i + 1, d, .cons _ t, e => by
    obtain ⟨v, h1, h2⟩ := DhAll.at (i := i) (d := d) t (by simpa using e)
    exact ⟨v, by simpa using h1, h2⟩
theorem DhAll.snoc : ∀ {vs : List V} {ds : List Dt} {v : V} {d : Dt}, DhAll K H vs ds → Dh K H v d → DhAll K H (vs ++ [v]) (ds ++ [d])
  | _, _, _, _, .nil, h => .cons h .nil
  | _, _, _, _, .cons q t, h => .cons q (DhAll.snoc t h)
theorem DhAll.append : ∀ {vs ws : List V} {ds es : List Dt}, DhAll K H vs ds → DhAll K H ws es → DhAll K H (vs ++ ws) (ds ++ es)
  | _, _, _, _, .nil, h => h
  | _, _, _, _, .cons q t, h => .cons q (DhAll.append t h)

/-! ### what isinstance tells -/
def Dt.isInt : Dt → Bool
  | .int _ => true
  | .bl _ => true
  | _ => false
def Dt.isW : Dt → Bool
  | .int _ => true
  | _ => false
def Dt.isTup : Dt → Bool
  | .tup _ => true
  | _ => false
theorem tyx_tup {a : Addr} {xs : List V} (h : SqT K H a xs) : TyX K H (.ref a) (.type "tuple") := by
  rcases h with (h | ⟨o, h⟩) | ⟨o, its, n, h1, h2, _⟩
  · exact .base (.tup h)
  · exact .fTuple h
  · exact .kTuple h1 h2
theorem Dh.kinds {v : V} {d : Dt} (h : Dh K H v d) : ∃ t, TyX K H v t ∧ PySem.W.kitOne K t (.type "int") = some d.isInt ∧ PySem.W.kitOne K t (.type "tuple") = some d.isTup ∧ (d.isInt = true → PySem.W.kitOne K t (.type "bool") = some (!d.isW)) := by
  cases h with
  | non => exact ⟨_, .base .non, kit_ty (by decide +kernel), kit_ty (by decide +kernel), fun z => nomatch z⟩
  | bl b => exact ⟨_, .base (.bl b), kit_ty (show kitB "bool" "int" = some true by decide +kernel), kit_ty (show kitB "bool" "tuple" = some false by decide +kernel), fun _ => kit_ty (show kitB "bool" "bool" = some true by decide +kernel)⟩
  | int i => exact ⟨_, .base (.int i), kit_ty (show kitB "int" "int" = some true by decide +kernel), kit_ty (show kitB "int" "tuple" = some false by decide +kernel), fun _ => kit_ty (show kitB "int" "bool" = some false by decide +kernel)⟩
  | str x => exact ⟨_, .base (.str x), kit_ty (show kitB "str" "int" = some false by decide +kernel), kit_ty (show kitB "str" "tuple" = some false by decide +kernel), fun z => nomatch z⟩
  | tup s _ => exact ⟨_, tyx_tup s, kit_ty (show kitB "tuple" "int" = some false by decide +kernel), kit_ty (show kitB "tuple" "tuple" = some true by decide +kernel), fun z => nomatch z⟩
  | oth t k1 k2 => exact ⟨_, t, k1, k2, fun z => nomatch z⟩
end

/-! ### promises of defs over data -/
/-- plain: some data come in, one comes out, nothing is changed -/
def spD (K : PySem.W.Frag) (f : List Dt → Option Dt) : Sp := fun vs H Q _ => ∃ ds r, DhAll K H vs ds ∧ f ds = some r ∧ ∀ v H', Same H H' → Dh K H' v r → Q v H'
/-- .. a new list of data comes out -/
def spL (K : PySem.W.Frag) (f : List Dt → Option (List Dt)) : Sp := fun vs H Q _ => ∃ ds rs, DhAll K H vs ds ∧ f ds = some rs ∧ ∀ p xs H', H p = none → Same H H' → H' p = some (.lst xs) → DhAll K H' xs rs → Q (.ref p) H'
theorem Dh.bl_inv {K : PySem.W.Frag} {H : Hp} {v : V} {b : Bool} (h : Dh K H v (.bl b)) : v = .bl b := by cases h; rfl
theorem Dh.int_inv {K : PySem.W.Frag} {H : Hp} {v : V} {i : Int} (h : Dh K H v (.int i)) : v = .int i := by cases h; rfl
theorem Dh.non_inv {K : PySem.W.Frag} {H : Hp} {v : V} (h : Dh K H v .non) : v = .non := by cases h; rfl
theorem Dh.tup_inv {K : PySem.W.Frag} {H : Hp} {v : V} {ds : List Dt} (h : Dh K H v (.tup ds)) : ∃ a xs, v = .ref a ∧ SqT K H a xs ∧ DhAll K H xs ds := by
  cases h with
  | tup s t => exact ⟨_, _, rfl, s, t⟩
/-- the call of such a def -/
theorem spD_of {K : PySem.W.Frag} {f : List Dt → Option Dt} {vs : List V} {H : Hp} {Q : VK} {ds : List Dt} {r : Dt} (h : DhAll K H vs ds) (e : f ds = some r) (q : ∀ v H', Same H H' → Dh K H' v r → Q v H') : spD K f vs H Q E0 := ⟨ds, r, h, e, q⟩
theorem spD_bl {K : PySem.W.Frag} {f : List Dt → Option Dt} {vs : List V} {H : Hp} {Q : VK} {ds : List Dt} {b : Bool} (h : DhAll K H vs ds) (e : f ds = some (.bl b)) (q : ∀ H', Same H H' → Q (.bl b) H') : spD K f vs H Q E0 :=
  ⟨ds, _, h, e, fun v H' s d => by rw [d.bl_inv]; exact q H' s⟩
theorem spD_int {K : PySem.W.Frag} {f : List Dt → Option Dt} {vs : List V} {H : Hp} {Q : VK} {ds : List Dt} {b : Int} (h : DhAll K H vs ds) (e : f ds = some (.int b)) (q : ∀ H', Same H H' → Q (.int b) H') : spD K f vs H Q E0 :=
  ⟨ds, _, h, e, fun v H' s d => by rw [d.int_inv]; exact q H' s⟩
end Fm
namespace Fm
open PySem PySem.Spec PyProof.Rows L2
/-! ### zip of a list and a tuple that both stay as they are -/
/-- a list (true), a tuple (false) that is read -/
def SqA (L : Bool) (K : PySem.W.Frag) (H : Hp) (a : Addr) (xs : List V) : Prop := match L with
  | true => SqL K H a xs
  | false => SqT K H a xs
theorem Ext.sqTs {K : PySem.W.Frag} {H H' : Hp} {a : Addr} {xs : List V} {L : Bool} (e : Same H H') (h : SqA L K H a xs) : SqA L K H' a xs := match L, h with
  | true, h => e.seq h
  | false, h => (Ext.of e).sqT h
theorem SqA.any {K : PySem.W.Frag} {H : Hp} {a : Addr} {xs : List V} {L : Bool} (h : SqA L K H a xs) : SqL K H a xs ∨ SqT K H a xs := match L, h with
  | true, h => .inl h
  | false, h => .inr h
/-- pairs of the items of a list or tuple and of a tuple that stay as they are -/
def ItM (L : Bool) (K : PySem.W.Frag) (a b : Addr) (xs ys : List V) : It where
  go := fun i H => SqA L K H a xs ∧ SqT K H b ys ∧ i < xs.length ∧ i < ys.length
  yld := fun i H v H' => ∃ T x y, v = .ref T ∧ H T = none ∧ H' = upd H T (.tup [x, y]) ∧ xs[i]? = some x ∧ ys[i]? = some y
  stop := fun i H => SqA L K H a xs ∧ SqT K H b ys ∧ i = min xs.length ys.length
theorem vals_at {xs : List V} {us : List Value} {i : Nat} {u : Value} (r : Vals xs us) (h : us[i]? = some u) : ∃ x, xs[i]? = some x ∧ RelV x u := by
  obtain ⟨hl, e⟩ := List.getElem?_eq_some_iff.mp h
  have hx : i < xs.length := by rw [r.length]; exact hl
  obtain ⟨u', e1, e2⟩ := r.get (List.getElem?_eq_getElem hx)
  rw [h] at e1
  cases e1
  exact ⟨_, List.getElem?_eq_getElem hx, e2⟩
theorem turn_m {P : Program} {w : World} {K : PySem.W.Frag} {elts : List Expr} {kk : Nat} {tp : Pos} {a b z TI TO i1 i2 : Addr} {xs ys : List V} (S : ZipSep2 z TI TO i1 i2 [i1, a] [i2, b]) (n1 : a ≠ i1) (n2 : b ≠ i2) :
    Turn P w K (.Tuple elts kk tp) (ItM true K a b xs ys) [z, TI, TO, i1, i2] z
      (fun i h => IsZip h z TI TO .none ∧ IsTupOf2 h TI (.ref i1) (.ref i2) ∧ (∃ u v, IsTupOf2 h TO u v) ∧ h.IsListIter i1 a i ∧ h.IsTupleIter i2 b i) where
  mem := List.mem_cons_self ..
  obj := by
    rintro i h ⟨q1, q2, ⟨u, v, q3⟩, ⟨o4, q4, _, d4⟩, ⟨o5, q5, _, d5⟩⟩ c hc
    rcases (show c = z ∨ c = TI ∨ c = TO ∨ c = i1 ∨ c = i2 by simpa using hc) with e | e | e | e | e <;> subst e
    · exact ⟨_, q1, fun _ y => nomatch y⟩
    · exact ⟨_, q2, fun _ y => nomatch y⟩
    · exact ⟨_, q3, fun _ y => nomatch y⟩
    · exact ⟨o4, q4, fun _ y => by rw [d4] at y; cases y⟩
    · exact ⟨o5, q5, fun _ y => by rw [d5] at y; cases y⟩
  keep := by
    rintro i h h' ⟨q1, q2, ⟨u, v, q3⟩, q4, q5⟩ k
    exact ⟨k _ (by simp) _ q1, k _ (by simp) _ q2, ⟨u, v, k _ (by simp) _ q3⟩, q4.at fun o e => k _ (by simp) o e, q5.at fun o e => k _ (by simp) o e⟩
  item := by
    intro X hP hw hK hc i pins s σ H E I hf st hg
    subst hP hw hK
    obtain ⟨hx, hy, lx, ly⟩ := hg
    obtain ⟨us, rx, px, _⟩ := I.list hx
    obtain ⟨ws, ry, py, _⟩ := I.tuple hy
    have hd : X.A.in1.handled = none := I.ok.hd hc
    have W := GoesN.zip2 (elts := elts) (x1 := kk) (pos := tp) S (Draws.list (prog := X.prog) (w := X.w) hd i1 a n1 us.toArray) (Draws.tuple (prog := X.prog) (w := X.w) hd i2 b n2 ws.toArray)
    have hlt : i < min us.toArray.size ws.toArray.size := by
      rw [List.size_toArray, List.size_toArray, ← rx.length, ← ry.length]
      omega
    obtain ⟨q1, q2, q3, q4, q5⟩ := st
    refine W.goes i s (fun v s2 => ∃ x H', Inv X pins σ H' s2 ∧ RelV x v ∧ (ItM true X.K a b xs ys).yld i H x H' ∧ (IsZip s2.heap z TI TO .none ∧ IsTupOf2 s2.heap TI (.ref i1) (.ref i2) ∧ (∃ u v, IsTupOf2 s2.heap TO u v) ∧ s2.heap.IsListIter i1 a (i + 1) ∧ s2.heap.IsTupleIter i2 b (i + 1)) ∧ ∀ c ∈ [z, TI, TO, i1, i2], H' c = none) E hlt
      ⟨q1, q2, q3, ⟨q4, px.isList⟩, q5, py⟩ fun v h' tk hY st' hk _ => ?_
    obtain ⟨T, u, v', rfl, hT, hu, hv, hTt⟩ := hY
    obtain ⟨g1, g2, g3, ⟨g4, _⟩, g5, _⟩ := st'
    obtain ⟨x, ex, rxu⟩ := vals_at rx (show us[i]? = some u by simpa using hu)
    obtain ⟨y, ey, ryu⟩ := vals_at ry (show ws[i]? = some v' by simpa using hv)
    have new : ObjOk X.prog X.w (upd H T (.tup [x, y])) h' T (.tup [x, y]) := ⟨by show 2 ≤ sizeLine; decide, [u, v'], .cons rxu (.cons ryu .nil), hTt⟩
    refine ⟨.ref T, _, I.turnedNew (t' := tk) (ch := [z, TI, TO, i1, i2]) (fun c o hn e => hk c o (fun m => hn ?_) e) hf hT new, rfl, ⟨T, x, y, rfl, I.hok.fresh hT, rfl, ex, ey⟩, ⟨g1, g2, g3, g4, g5⟩, fun c hm => ?_⟩
    · simp only [List.mem_cons, List.not_mem_nil, or_false] at m ⊢
      rcases m with m | m | m | m <;> simp [m]
    · obtain ⟨o, e⟩ : ∃ o, s.heap.get? c = some o := by
        rcases (show c = z ∨ c = TI ∨ c = TO ∨ c = i1 ∨ c = i2 by simpa using hm) with e | e | e | e | e <;> subst e
        · exact ⟨_, q1⟩
        · exact ⟨_, q2⟩
        · obtain ⟨_, _, q⟩ := q3
          exact ⟨_, q⟩
        · obtain ⟨o, q, _⟩ := q4
          exact ⟨o, q⟩
        · obtain ⟨o, q, _⟩ := q5
          exact ⟨o, q⟩
      rw [upd_ne (Nat.ne_of_lt (Nat.lt_of_lt_of_le (Heap.lt_size e) hT))]
      exact (hf c hm).1
  done := by
    intro X hP hw hK hc i pins s σ H E I hf st hg
    subst hP hw hK
    obtain ⟨hx, hy, hi⟩ := hg
    obtain ⟨us, rx, px, _⟩ := I.list hx
    obtain ⟨ws, ry, py, _⟩ := I.tuple hy
    have hd : X.A.in1.handled = none := I.ok.hd hc
    have W := GoesN.zip2 (elts := elts) (x1 := kk) (pos := tp) S (Draws.list (prog := X.prog) (w := X.w) hd i1 a n1 us.toArray) (Draws.tuple (prog := X.prog) (w := X.w) hd i2 b n2 ws.toArray)
    have hn : i = min us.toArray.size ws.toArray.size := by
      rw [List.size_toArray, List.size_toArray, ← rx.length, ← ry.length]
      exact hi
    subst hn
    obtain ⟨q1, q2, q3, q4, q5⟩ := st
    refine W.stops s (fun s1 => Inv X pins σ H s1) E ⟨q1, q2, q3, ⟨q4, px.isList⟩, q5, py⟩ fun h' tk hk _ => ?_
    refine I.turnedL (t' := tk) (ch := [z, TI, TO, i1, i2]) (fun c o hn e => hk c o (fun m => hn ?_) e) hf
    simp only [List.mem_cons, List.not_mem_nil, or_false] at m ⊢
    rcases m with m | m | m | m <;> simp [m]
  self := fun _ _ _ _ _ st q => wpAny_pyIter_zip st.1 q
theorem turn_t {P : Program} {w : World} {K : PySem.W.Frag} {elts : List Expr} {kk : Nat} {tp : Pos} {a b z TI TO i1 i2 : Addr} {xs ys : List V} (S : ZipSep2 z TI TO i1 i2 [i1, a] [i2, b]) (n1 : a ≠ i1) (n2 : b ≠ i2) :
    Turn P w K (.Tuple elts kk tp) (ItM false K a b xs ys) [z, TI, TO, i1, i2] z
      (fun i h => IsZip h z TI TO .none ∧ IsTupOf2 h TI (.ref i1) (.ref i2) ∧ (∃ u v, IsTupOf2 h TO u v) ∧ h.IsTupleIter i1 a i ∧ h.IsTupleIter i2 b i) where
  mem := List.mem_cons_self ..
  obj := by
    rintro i h ⟨q1, q2, ⟨u, v, q3⟩, ⟨o4, q4, _, d4⟩, ⟨o5, q5, _, d5⟩⟩ c hc
    rcases (show c = z ∨ c = TI ∨ c = TO ∨ c = i1 ∨ c = i2 by simpa using hc) with e | e | e | e | e <;> subst e
    · exact ⟨_, q1, fun _ y => nomatch y⟩
    · exact ⟨_, q2, fun _ y => nomatch y⟩
    · exact ⟨_, q3, fun _ y => nomatch y⟩
    · exact ⟨o4, q4, fun _ y => by rw [d4] at y; cases y⟩
    · exact ⟨o5, q5, fun _ y => by rw [d5] at y; cases y⟩
  keep := by
    rintro i h h' ⟨q1, q2, ⟨u, v, q3⟩, q4, q5⟩ k
    exact ⟨k _ (by simp) _ q1, k _ (by simp) _ q2, ⟨u, v, k _ (by simp) _ q3⟩, q4.at fun o e => k _ (by simp) o e, q5.at fun o e => k _ (by simp) o e⟩
  item := by
    intro X hP hw hK hc i pins s σ H E I hf st hg
    subst hP hw hK
    obtain ⟨hx, hy, lx, ly⟩ := hg
    obtain ⟨us, rx, px, _⟩ := I.tuple hx
    obtain ⟨ws, ry, py, _⟩ := I.tuple hy
    have hd : X.A.in1.handled = none := I.ok.hd hc
    have W := GoesN.zip2 (elts := elts) (x1 := kk) (pos := tp) S (Draws.tuple (prog := X.prog) (w := X.w) hd i1 a n1 us.toArray) (Draws.tuple (prog := X.prog) (w := X.w) hd i2 b n2 ws.toArray)
    have hlt : i < min us.toArray.size ws.toArray.size := by
      rw [List.size_toArray, List.size_toArray, ← rx.length, ← ry.length]
      omega
    obtain ⟨q1, q2, q3, q4, q5⟩ := st
    refine W.goes i s (fun v s2 => ∃ x H', Inv X pins σ H' s2 ∧ RelV x v ∧ (ItM false X.K a b xs ys).yld i H x H' ∧ (IsZip s2.heap z TI TO .none ∧ IsTupOf2 s2.heap TI (.ref i1) (.ref i2) ∧ (∃ u v, IsTupOf2 s2.heap TO u v) ∧ s2.heap.IsTupleIter i1 a (i + 1) ∧ s2.heap.IsTupleIter i2 b (i + 1)) ∧ ∀ c ∈ [z, TI, TO, i1, i2], H' c = none) E hlt
      ⟨q1, q2, q3, ⟨q4, px⟩, q5, py⟩ fun v h' tk hY st' hk _ => ?_
    obtain ⟨T, u, v', rfl, hT, hu, hv, hTt⟩ := hY
    obtain ⟨g1, g2, g3, ⟨g4, _⟩, g5, _⟩ := st'
    obtain ⟨x, ex, rxu⟩ := vals_at rx (show us[i]? = some u by simpa using hu)
    obtain ⟨y, ey, ryu⟩ := vals_at ry (show ws[i]? = some v' by simpa using hv)
    have new : ObjOk X.prog X.w (upd H T (.tup [x, y])) h' T (.tup [x, y]) := ⟨by show 2 ≤ sizeLine; decide, [u, v'], .cons rxu (.cons ryu .nil), hTt⟩
    refine ⟨.ref T, _, I.turnedNew (t' := tk) (ch := [z, TI, TO, i1, i2]) (fun c o hn e => hk c o (fun m => hn ?_) e) hf hT new, rfl, ⟨T, x, y, rfl, I.hok.fresh hT, rfl, ex, ey⟩, ⟨g1, g2, g3, g4, g5⟩, fun c hm => ?_⟩
    · simp only [List.mem_cons, List.not_mem_nil, or_false] at m ⊢
      rcases m with m | m | m | m <;> simp [m]
    · obtain ⟨o, e⟩ : ∃ o, s.heap.get? c = some o := by
        rcases (show c = z ∨ c = TI ∨ c = TO ∨ c = i1 ∨ c = i2 by simpa using hm) with e | e | e | e | e <;> subst e
        · exact ⟨_, q1⟩
        · exact ⟨_, q2⟩
        · obtain ⟨_, _, q⟩ := q3
          exact ⟨_, q⟩
        · obtain ⟨o, q, _⟩ := q4
          exact ⟨o, q⟩
        · obtain ⟨o, q, _⟩ := q5
          exact ⟨o, q⟩
      rw [upd_ne (Nat.ne_of_lt (Nat.lt_of_lt_of_le (Heap.lt_size e) hT))]
      exact (hf c hm).1
  done := by
    intro X hP hw hK hc i pins s σ H E I hf st hg
    subst hP hw hK
    obtain ⟨hx, hy, hi⟩ := hg
    obtain ⟨us, rx, px, _⟩ := I.tuple hx
    obtain ⟨ws, ry, py, _⟩ := I.tuple hy
    have hd : X.A.in1.handled = none := I.ok.hd hc
    have W := GoesN.zip2 (elts := elts) (x1 := kk) (pos := tp) S (Draws.tuple (prog := X.prog) (w := X.w) hd i1 a n1 us.toArray) (Draws.tuple (prog := X.prog) (w := X.w) hd i2 b n2 ws.toArray)
    have hn : i = min us.toArray.size ws.toArray.size := by
      rw [List.size_toArray, List.size_toArray, ← rx.length, ← ry.length]
      exact hi
    subst hn
    obtain ⟨q1, q2, q3, q4, q5⟩ := st
    refine W.stops s (fun s1 => Inv X pins σ H s1) E ⟨q1, q2, q3, ⟨q4, px⟩, q5, py⟩ fun h' tk hk _ => ?_
    refine I.turnedL (t' := tk) (ch := [z, TI, TO, i1, i2]) (fun c o hn e => hk c o (fun m => hn ?_) e) hf
    simp only [List.mem_cons, List.not_mem_nil, or_false] at m ⊢
    rcases m with m | m | m | m <;> simp [m]
  self := fun _ _ _ _ _ st q => wpAny_pyIter_zip st.1 q
/-- zip(list or tuple, tuple) as what a for walks -/
def iZipM (K : PySem.W.Frag) (ta : TA) : TI := fun σ H R => ta σ H fun vs H1 => ∃ (L : Bool) (a b : Addr) (xs ys : List V), vs = [.ref a, .ref b] ∧ SqA L K H1 a xs ∧ SqT K H1 b ys ∧ R (ItM L K a b xs ys) H1
theorem pi_zipM {X : Cx} {e e2 : Expr} {ta : TA} {p pos tp : Pos} {elts : List Expr} {kk : Nat} (hg : Gl X "zip") (hm : X.mg "zip" = none) (ha : PA X [e, e2] ta)
    (h1 : starEach [e, e2] X.env = (false, eval e X.env) :: starEach [e2] X.env := by rfl) (h2 : (backTo pos (starEach [e2] X.env)).any (·.1) = false := by rfl) :
    PI X (.Tuple elts kk tp) (.Call (.Name "zip" p) [e, e2] [] pos) (iZipM X.K ta) := by
  constructor
  intro pins s σ H R I h
  refine Call_ (ld_blt I hg hm PyProof.Rows.boot_zip (PyProof.Rows.callWith_type1 (thn (ha.run pos pins s σ H _ I h) fun us s1 q => ?_) h1 h2))
  obtain ⟨vs, H1, I1, r1, L, a, b, xs, ys, rfl, hx, hy, q⟩ := q
  match us, r1 with
  | [_, _], .cons ra (.cons rb .nil) =>
    cases ra
    cases rb
    cases L with
    | true =>
      have hx : SqL X.K H1 a xs := hx
      obtain ⟨us, rx, px, _⟩ := I1.list hx
      obtain ⟨ws, ry, py, _⟩ := I1.tuple hy
      have la : a < s1.heap.objs.size := px.lt
      have lb : b < s1.heap.objs.size := by
        obtain ⟨o, e, _⟩ := py
        exact Heap.lt_size e
      refine zip_begins2 (begins_list a us.toArray) (begins_tuple b ws.toArray) px.isList py fun h' k1 k2 k3 k4 k5 k6 k7 => wpAny_pyIter_zip k1 ?_
      have I2 : Inv X pins σ H1 { s1 with heap := h' } := I1.kept (t' := s1.toks) k7
      refine ⟨_, [s1.heap.objs.size + 4, s1.heap.objs.size + 2, s1.heap.objs.size + 3, s1.heap.objs.size, s1.heap.objs.size + 1], _, _, H1, rfl, I2,
        turn_m (zip_sep2 (N := s1.heap.objs.size) (fp1 := [a]) (fp2 := [b]) (by simpa using la) (by simpa using lb)) (Nat.ne_of_lt la) (Nat.ne_of_lt (Nat.lt_succ_of_lt lb)), ⟨k1, k2, ⟨_, _, k3⟩, ⟨_, k4, rfl, rfl⟩, ⟨_, k5, rfl, rfl⟩⟩, fun c hc => ?_, q⟩
      have hle : s1.heap.objs.size ≤ c := by
        simp only [List.mem_cons, List.not_mem_nil, or_false] at hc
        rcases hc with e | e | e | e | e <;> (rw [e]; first | exact Nat.le_refl _ | exact Nat.le_add_right _ _)
      exact I1.fpOk hle (I1.hok.fresh hle)
    | false =>
      have hx : SqT X.K H1 a xs := hx
      obtain ⟨us, rx, px, _⟩ := I1.tuple hx
      obtain ⟨ws, ry, py, _⟩ := I1.tuple hy
      have la : a < s1.heap.objs.size := by
        obtain ⟨o, e, _⟩ := px
        exact Heap.lt_size e
      have lb : b < s1.heap.objs.size := by
        obtain ⟨o, e, _⟩ := py
        exact Heap.lt_size e
      refine zip_begins2 (begins_tuple a us.toArray) (begins_tuple b ws.toArray) px py fun h' k1 k2 k3 k4 k5 k6 k7 => wpAny_pyIter_zip k1 ?_
      have I2 : Inv X pins σ H1 { s1 with heap := h' } := I1.kept (t' := s1.toks) k7
      refine ⟨_, [s1.heap.objs.size + 4, s1.heap.objs.size + 2, s1.heap.objs.size + 3, s1.heap.objs.size, s1.heap.objs.size + 1], _, _, H1, rfl, I2,
        turn_t (zip_sep2 (N := s1.heap.objs.size) (fp1 := [a]) (fp2 := [b]) (by simpa using la) (by simpa using lb)) (Nat.ne_of_lt la) (Nat.ne_of_lt (Nat.lt_succ_of_lt lb)), ⟨k1, k2, ⟨_, _, k3⟩, ⟨_, k4, rfl, rfl⟩, ⟨_, k5, rfl, rfl⟩⟩, fun c hc => ?_, q⟩
      have hle : s1.heap.objs.size ≤ c := by
        simp only [List.mem_cons, List.not_mem_nil, or_false] at hc
        rcases hc with e | e | e | e | e <;> (rw [e]; first | exact Nat.le_refl _ | exact Nat.le_add_right _ _)
      exact I1.fpOk hle (I1.hok.fresh hle)
/-- a loop over such pairs -/
theorem for_zipM {L : Bool} {K : PySem.W.Frag} {a b : Addr} {xs ys : List V} {g : TG} {tb : TS} {D : Ends} {σ : L2.St} {H : Hp} (Pv : Nat → L2.St → Hp → Prop) (h0 : Pv 0 σ H) (hq : ∀ i σ H, Pv i σ H → SqA L K H a xs ∧ SqT K H b ys)
    (hs : ∀ (i : Nat) (x y : V) (T : Addr) (σ : L2.St) (H : Hp), xs[i]? = some x → ys[i]? = some y → Pv i σ H → H T = none → g (.ref T) σ (upd H T (.tup [x, y])) fun σ2 H2 => tb { D with nx := Pv (i + 1), ct := Pv (i + 1), bk := D.nx } σ2 H2)
    (hd : ∀ σ H, Pv (min xs.length ys.length) σ H → D.nx σ H) :
    ∃ W : Nat → Nat → L2.St → Hp → Prop, (∃ m, W 0 m σ H) ∧ ∀ i m σ H, W i m σ H →
      ((ItM L K a b xs ys).stop i H ∧ D.nx σ H) ∨ ((ItM L K a b xs ys).go i H ∧ ∃ N : L2.St → Hp → Prop, (∀ σ' H', N σ' H' → ∃ m', m' < m ∧ W (i + 1) m' σ' H') ∧ ∀ v H', (ItM L K a b xs ys).yld i H v H' → g v σ H' fun σ2 H2 => tb { D with nx := N, ct := N, bk := D.nx } σ2 H2) := by
  refine ⟨fun i m σ H => i + m = min xs.length ys.length ∧ Pv i σ H, ⟨_, Nat.zero_add _, h0⟩, ?_⟩
  rintro i m σ H ⟨em, p⟩
  obtain ⟨qx, qy⟩ := hq i σ H p
  cases m with
  | zero =>
    have ei : i = min xs.length ys.length := em
    refine .inl ⟨⟨qx, qy, ei⟩, hd σ H ?_⟩
    rw [← ei]
    exact p
  | succ m =>
    refine .inr ⟨⟨qx, qy, by omega, by omega⟩, Pv (i + 1), fun σ' H' p' => ⟨m, Nat.lt_succ_self m, by omega, p'⟩, fun v H' y => ?_⟩
    obtain ⟨T, x, y', rfl, hT, rfl, f1, f2⟩ := y
    exact hs i x y' T σ H f1 f2 p hT
end Fm
namespace Fm
open PySem PySem.Spec PyProof.Rows L2
/-- a comprehension over a list, within it over range(n): Pv by both turns and the heap -/
theorem lc2_lr {K : PySem.W.Frag} {a : Addr} {xs : List V} {n : Nat} {i0 j0 : Nat} {ta : TA} {te : TE} {vs vs1 : List Nat} {σ : L2.St} {H1 : Hp} {D : Addr} {Qd : Hp → Prop} (Pv : Nat → Nat → Hp → Prop) (hn : n < 2 ^ 62)
    (hw : ∀ x, wipe ((wipe σ vs).set i0 (some x)) vs = wipe σ vs) (hw1 : ∀ x y, wipe ((wipe ((wipe σ vs).set i0 (some x)) vs1).set j0 (some y)) vs1 = wipe ((wipe σ vs).set i0 (some x)) vs1) (h0 : Pv 0 0 (upd H1 D (.lst []))) (hl : ∀ i j H, Pv i j H → SqL K H a xs)
    (hr : ∀ i x H, xs[i]? = some x → Pv i 0 H → ∀ R : List V → Hp → Prop, R [.int n] H → ta ((wipe σ vs).set i0 (some x)) H R)
    (hs : ∀ (i j : Nat) x H, xs[i]? = some x → j < n → Pv i j H → te ((wipe ((wipe σ vs).set i0 (some x)) vs1).set j0 (some (.int (j : Int)))) H fun y H7 => ∃ acc, H7 D = some (.lst acc) ∧ acc.length < sizeLine ∧ Pv i (j + 1) (upd H7 D (.lst (acc ++ [y]))))
    (hj : ∀ i H, i < xs.length → Pv i n H → Pv (i + 1) 0 H) (hd : ∀ H, Pv xs.length 0 H → Qd H) :
    ∃ W : Nat → Nat → Hp → Prop, (∃ m, W 0 m (upd H1 D (.lst []))) ∧ ∀ i m H, W i m H →
      ((Itl K a).stop i H ∧ Qd H) ∨ ((Itl K a).go i H ∧ ∃ Nx : Hp → Prop, (∀ H', Nx H' → ∃ m', m' < m ∧ W (i + 1) m' H') ∧ ∀ x H', (Itl K a).yld i H x H' → gName i0 x (wipe σ vs) H' fun σ2 H2 => wipe σ2 vs = wipe σ vs ∧ tYes σ2 H2 fun b H3 =>
        if b = true then (iRng1 ta) σ2 H3 fun J1 H4 => ∃ W1 : Nat → Nat → Hp → Prop, (∃ m, W1 0 m H4) ∧ ∀ j k H, W1 j k H →
          (J1.stop j H ∧ Nx H) ∨ (J1.go j H ∧ ∃ Nx1 : Hp → Prop, (∀ H', Nx1 H' → ∃ k', k' < k ∧ W1 (j + 1) k' H') ∧ ∀ x H', J1.yld j H x H' → gName j0 x (wipe σ2 vs1) H' fun σ3 H5 => wipe σ3 vs1 = wipe σ2 vs1 ∧ tYes σ3 H5 fun b H6 =>
            if b = true then te σ3 H6 fun y H7 => ∃ acc, H7 D = some (.lst acc) ∧ acc.length < sizeLine ∧ Nx1 (upd H7 D (.lst (acc ++ [y]))) else Nx1 H6)
        else Nx H3) := by
  refine ⟨fun i m H => i + m = xs.length ∧ Pv i 0 H, ⟨xs.length, Nat.zero_add _, h0⟩, fun i m H h => ?_⟩
  obtain ⟨em, p⟩ := h
  have q := hl i 0 H p
  cases m with
  | zero =>
    have ei : i = xs.length := em
    subst ei
    exact .inl ⟨⟨xs, q, Nat.le_refl _⟩, hd H p⟩
  | succ m =>
    have hlt : i < xs.length := by omega
    refine .inr ⟨⟨xs, xs[i], q, List.getElem?_eq_getElem hlt⟩, Pv (i + 1) 0, fun H' p' => ⟨m, Nat.lt_succ_self m, by omega, p'⟩, fun x H' y => ?_⟩
    obtain ⟨rfl, y⟩ := y
    have hx := y xs q
    refine ⟨hw x, ?_⟩
    dsimp only [tYes]
    rw [if_pos rfl]
    refine hr i x _ hx p _ ⟨(n : Int), rfl, by omega, by omega, ?_⟩
    refine ⟨fun j k H => j + k = n ∧ Pv i j H, ⟨n, Nat.zero_add _, p⟩, fun j k H h => ?_⟩
    obtain ⟨ek, pj⟩ := h
    cases k with
    | zero =>
      have ej : j = n := ek
      subst ej
      exact .inl ⟨by show ((j : Nat) : Int).toNat ≤ j; omega, hj i H hlt pj⟩
    | succ k =>
      have hjn : j < n := by omega
      refine .inr ⟨by show j < ((n : Nat) : Int).toNat; omega, Pv i (j + 1), fun H' p' => ⟨k, Nat.lt_succ_self k, by omega, p'⟩, fun y H' e => ?_⟩
      obtain ⟨rfl, rfl⟩ := e
      have e0 : (0 : Int) + (j : Int) = (j : Int) := Int.zero_add _
      rw [e0]
      refine ⟨hw1 x _, ?_⟩
      rw [if_pos rfl]
      exact hs i j x _ hx hjn pj
end Fm
namespace Fm
open PySem PySem.Spec PyProof.Rows L2
/-! ### rules whose reading is to name the written part by itself (within a comprehension's block) -/
section
variable {X : Cx} (K : PySem.W.Frag)
theorem op_catK (e : X.K = K := by rfl) : OpR X (binaryOp .Add) (rCatA K) := e ▸ op_catA
theorem op_eqK (hu : X.A.units + 64 < cLine) (e : X.K = K := by rfl) : OpR X (compareOp .Eq) (rEqD K) := e ▸ op_eqD hu
theorem op_neK (hu : X.A.units + 64 < cLine) (e : X.K = K := by rfl) : OpR X (compareOp .NotEq) (rNeD K) := e ▸ op_neD hu
theorem ix_tupK (e : X.K = K := by rfl) : IxR X (rIxT K) := e ▸ ix_tup
theorem ix_listK (e : X.K = K := by rfl) : IxR X (rIxL K) := e ▸ ix_list
theorem call_isiK' (e : X.K = K := by rfl) : CallR X (.builtin "isinstance") (rIsi K) := e ▸ call_isi
theorem pg_tupK {es : List Expr} {k : Nat} {t : TGs} {n : Nat} {pos : Pos} (hc : X.calm = true) (h : PGs X es t) (e : X.K = K := by rfl) (hn : (assignEach es X.env).length = n := by rfl) (hst : (assignEach es X.env).findIdx? (·.1) = none := by rfl) :
    PG X (.Tuple es k pos) (gTup K n t) := e ▸ pg_tup hc h hn hst
theorem pi_tupK {tg l : Expr} {tl : TE} (hl : PE X l tl) (e : X.K = K := by rfl) : PI X tg l (iTup K tl) := e ▸ pi_tup hl
theorem pi_listK {tg l : Expr} {tl : TE} (hl : PE X l tl) (e : X.K = K := by rfl) : PI X tg l (iList K tl) := e ▸ pi_list hl
theorem sl_tupK (e : X.K = K := by rfl) : SlR X (rSlA K) := e ▸ sl_tupA
theorem sl_listK (e : X.K = K := by rfl) : SlR X (rSlL K) := e ▸ sl_list
/-- len of a list or tuple; tuple(list or tuple) -/
def rLenK (K : PySem.W.Frag) : List V → Hp → VK → Prop := fun xs H Q => ∃ p ys, xs = [.ref p] ∧ (SqL K H p ys ∨ SqT K H p ys) ∧ Q (.int ys.length) H
theorem call_lenK (e : X.K = K := by rfl) : CallR X (.builtin "len") (rLenK K) := e ▸ call_len_seq
def rTupK (K : PySem.W.Frag) : List V → Hp → VK → Prop := fun xs H Q => ∃ p ys, xs = [.ref p] ∧ ((SqL K H p ys ∧ ∀ l, H l = none → Q (.ref l) (upd H l (.tup ys))) ∨ (SqT K H p ys ∧ Q (.ref p) H))
theorem call_tupleK (e : X.K = K := by rfl) : CallR X (.type "tuple") (rTupK K) := e ▸ call_tuple_of
end
end Fm
namespace Fm
open PySem PySem.Spec PyProof.Rows L2
/-! ### dict(zip(t, u)) of two tuples: the pair that zip gave out before is still held -/
section
variable {prog : Program} {w : World} {A : Around} {E : Value → Shared → Prop} {s : Shared}
theorem zh_item {z TI TO T i1 i2 l1 l2 : Addr} {f : Bool} {oT : Obj} {k1 k2 : Nat} {xs ys : Array Value} {x y : Value} {Q : Value → Shared → Prop} (D : ZipApart z TI TO i1 i2 l1 l2) (hz : IsZipHeld s.heap z TI TO T f) (hT : s.heap.get? T = some oT) (hTI : IsPair s.heap TI (.ref i1) (.ref i2))
    (g1 : s.heap.IsTupleIter i1 l1 k1) (g2 : s.heap.IsTupleIter i2 l2 k2) (t1 : s.heap.IsTuple l1 xs) (t2 : s.heap.IsTuple l2 ys) (hx : xs[k1]? = some x) (hy : ys[k2]? = some y)
    (q : ∀ h', IsZipHeld h' z TI TO T true → h'.IsTupleIter i1 l1 (k1 + 1) → h'.IsTupleIter i2 l2 (k2 + 1) → IsPair h' s.heap.objs.size x y → (∀ c o, c ≠ z → c ≠ i1 → c ≠ i2 → s.heap.get? c = some o → h'.get? c = some o) → Q (.ref s.heap.objs.size) { s with heap := h' }) :
    wpAny (model prog w) A (Builtin.«zip.__next__» ⟨[.ref z], []⟩) (fun fin s' => ∃ v, fin = .done (.ret v) ∧ Q v s') E s := by
  show wpAny _ _ (field (.ref z) 2 >>= _) _ _ _; refine wpAny_bind (wpAny_field hz rfl (x := .bool false) rfl ?_)
  show wpAny _ _ (field (.ref z) 3 >>= _) _ _ _; refine wpAny_bind (wpAny_field hz rfl (x := .ref TI) rfl (wpAny_bind (wpAny_seqItems hTI rfl ?_)))
  show wpAny _ _ (Builtin.SmallTypes.ownedTupleIsFree (.ref z) >>= _) _ _ _; refine wpAny_bind (wpAny_tupleHeld_zip hz hT fun ha za sa => ?_)
  simp only [Bool.false_eq_true, if_false]; refine wpAny_bind ?_; rw [← Array.forIn_toList]; simp only [List.forIn_cons, List.forIn_nil]
  refine wpAny_bind (wpAny_bind (wpAny_holding ?_)); show wpAny _ _ (Builtin.SmallTypes.nextOf (.ref i1) >>= _) _ _ _
  refine wpAny_bind (RZ.nextOf_tuple_item (s := { s with heap := ha }) (g1.at fun o e => sa.extBut _ _ D.i1z e) (t1.at fun o e => sa.extBut _ _ D.l1z e) hx fun hb gb sb => wpAny_pure (wpAny_pure ?_))
  refine wpAny_bind (wpAny_bind (wpAny_holding ?_)); show wpAny _ _ (Builtin.SmallTypes.nextOf (.ref i2) >>= _) _ _ _
  refine wpAny_bind (RZ.nextOf_tuple_item (s := { s with heap := hb }) (g2.at fun o e => sb.extBut _ _ D.i12.symm (sa.extBut _ _ D.i2z e)) (t2.at fun o e => sb.extBut _ _ D.l2i1 (sa.extBut _ _ D.l2z e)) hy fun hc gc sc => wpAny_pure (wpAny_pure (wpAny_pure ?_)))
  show wpAny _ _ (newTuple [x, y] >>= _) _ _ _; refine wpAny_bind (wpAny_newTuple (wpAny_pure ⟨_, rfl, ?_⟩))
  have ez : hc.objs.size = s.heap.objs.size := by rw [sc.1, sb.1, sa.1]
  have kk : ∀ c o, c ≠ z → c ≠ i1 → c ≠ i2 → s.heap.get? c = some o → hc.get? c = some o := fun c o c1 c2 c3 e => sc.extBut _ _ c3 (sb.extBut _ _ c2 (sa.extBut _ _ c1 e))
  have hp : IsPair (hc.push { cls := .type "tuple", data := .seq #[x, y] }) hc.objs.size x y := Heap.get?_push_size _ rfl
  show Q (.ref hc.objs.size) _
  rw [ez] at hp ⊢
  exact q _ (Heap.get?_push_of_some _ (sc.extBut _ _ D.i2z.symm (sb.extBut _ _ D.i1z.symm za))) (gb.at fun o e => Heap.get?_push_of_some _ (sc.extBut _ _ D.i12 e)) (gc.at fun o e => Heap.get?_push_of_some _ e) hp fun c o c1 c2 c3 e => Heap.get?_push_of_some _ (kk c o c1 c2 c3 e)
theorem zh_end {z TI TO T i1 i2 l1 l2 : Addr} {f : Bool} {oT : Obj} {k1 k2 : Nat} {xs ys : Array Value} {Q : Fin → Shared → Prop} (hh : A.handled = none) (D : ZipApart z TI TO i1 i2 l1 l2) (hz : IsZipHeld s.heap z TI TO T f) (hT : s.heap.get? T = some oT) (hTI : IsPair s.heap TI (.ref i1) (.ref i2))
    (g1 : s.heap.IsTupleIter i1 l1 k1) (g2 : s.heap.IsTupleIter i2 l2 k2) (t1 : s.heap.IsTuple l1 xs) (t2 : s.heap.IsTuple l2 ys) (hend : xs[k1]? = none ∨ ys[k2]? = none)
    (q : ∀ h' e, (∀ c o, c ≠ z → c ≠ i1 → c ≠ i2 → s.heap.get? c = some o → h'.get? c = some o) → (∃ o, h'.get? e = some o ∧ o.cls = .type "StopIteration") → E (.ref e) { s with heap := h' }) :
    wpAny (model prog w) A (Builtin.«zip.__next__» ⟨[.ref z], []⟩) Q E s := by
  show wpAny _ _ (field (.ref z) 2 >>= _) _ _ _; refine wpAny_bind (wpAny_field hz rfl (x := .bool false) rfl ?_)
  show wpAny _ _ (field (.ref z) 3 >>= _) _ _ _; refine wpAny_bind (wpAny_field hz rfl (x := .ref TI) rfl (wpAny_bind (wpAny_seqItems hTI rfl ?_)))
  show wpAny _ _ (Builtin.SmallTypes.ownedTupleIsFree (.ref z) >>= _) _ _ _; refine wpAny_bind (wpAny_tupleHeld_zip hz hT fun ha za sa => ?_)
  simp only [Bool.false_eq_true, if_false]; refine wpAny_bind ?_; rw [← Array.forIn_toList]; simp only [List.forIn_cons, List.forIn_nil]
  refine wpAny_bind (wpAny_bind (wpAny_holding ?_)); show wpAny _ _ (Builtin.SmallTypes.nextOf (.ref i1) >>= _) _ _ _
  cases hx : xs[k1]? with
  | none => exact wpAny_bind (RZ.nextOf_tuple_end (s := { s with heap := ha }) hh (g1.at fun o e => sa.extBut _ _ D.i1z e) (t1.at fun o e => sa.extBut _ _ D.l1z e) hx fun hb e sb he => q hb e (fun c o c1 c2 _ x => sb _ _ c2 (sa.extBut _ _ c1 x)) he)
  | some x =>
    have hy : ys[k2]? = none := by
      rcases hend with n | n
      · rw [hx] at n; cases n
      · exact n
    refine wpAny_bind (RZ.nextOf_tuple_item (s := { s with heap := ha }) (g1.at fun o e => sa.extBut _ _ D.i1z e) (t1.at fun o e => sa.extBut _ _ D.l1z e) hx fun hb gb sb => wpAny_pure (wpAny_pure ?_))
    refine wpAny_bind (wpAny_bind (wpAny_holding ?_)); show wpAny _ _ (Builtin.SmallTypes.nextOf (.ref i2) >>= _) _ _ _
    exact wpAny_bind (RZ.nextOf_tuple_end (s := { s with heap := hb }) hh (g2.at fun o e => sb.extBut _ _ D.i12.symm (sa.extBut _ _ D.i2z e)) (t2.at fun o e => sb.extBut _ _ D.l2i1 (sa.extBut _ _ D.l2z e)) hy fun hc e sc he => q hc e (fun c o c1 c2 c3 x => sc _ _ c3 (sb.extBut _ _ c2 (sa.extBut _ _ c1 x))) he)
theorem zh_next {z TI TO T i1 i2 l1 l2 : Addr} {f : Bool} {oT : Obj} {k1 k2 : Nat} {xs ys : Array Value} {x y : Value} {Q : Option Value → Shared → Prop} (D : ZipApart z TI TO i1 i2 l1 l2) (hz : IsZipHeld s.heap z TI TO T f) (hT : s.heap.get? T = some oT) (hTI : IsPair s.heap TI (.ref i1) (.ref i2))
    (g1 : s.heap.IsTupleIter i1 l1 k1) (g2 : s.heap.IsTupleIter i2 l2 k2) (t1 : s.heap.IsTuple l1 xs) (t2 : s.heap.IsTuple l2 ys) (hx : xs[k1]? = some x) (hy : ys[k2]? = some y)
    (q : ∀ h', IsZipHeld h' z TI TO T true → h'.IsTupleIter i1 l1 (k1 + 1) → h'.IsTupleIter i2 l2 (k2 + 1) → IsPair h' s.heap.objs.size x y → (∀ c o, c ≠ z → c ≠ i1 → c ≠ i2 → s.heap.get? c = some o → h'.get? c = some o) → Q (some (.ref s.heap.objs.size)) { s with heap := h' }) :
    wpAny (model prog w) A (pyNext (.ref z)) Q E s := by
  have ty : s.TypeIs (.ref z) "zip" := ⟨_, hz, rfl⟩
  unfold pyNext
  exact wpAny_bind (wpAny_attempt (wpAny_callSpecial?_slot (name := Str.ofString "__next__") ty F.slot_zip_next (wpAny_call_entry F.slot_zip_next ty F.entry_zip_next (zh_item D hz hT hTI g1 g2 t1 t2 hx hy fun h' a1 a2 a3 a4 a5 => wpAny_pure (q h' a1 a2 a3 a4 a5)) (F.args_zip_next_1 _))))
theorem zh_stop {z TI TO T i1 i2 l1 l2 : Addr} {f : Bool} {oT : Obj} {k1 k2 : Nat} {xs ys : Array Value} {Q : Option Value → Shared → Prop} (hh : A.handled = none) (D : ZipApart z TI TO i1 i2 l1 l2) (hz : IsZipHeld s.heap z TI TO T f) (hT : s.heap.get? T = some oT) (hTI : IsPair s.heap TI (.ref i1) (.ref i2))
    (g1 : s.heap.IsTupleIter i1 l1 k1) (g2 : s.heap.IsTupleIter i2 l2 k2) (t1 : s.heap.IsTuple l1 xs) (t2 : s.heap.IsTuple l2 ys) (hend : xs[k1]? = none ∨ ys[k2]? = none)
    (q : ∀ h', (∀ c o, c ≠ z → c ≠ i1 → c ≠ i2 → s.heap.get? c = some o → h'.get? c = some o) → Q none { s with heap := h' }) : wpAny (model prog w) A (pyNext (.ref z)) Q E s := by
  have ty : s.TypeIs (.ref z) "zip" := ⟨_, hz, rfl⟩
  unfold pyNext
  refine wpAny_bind (wpAny_attempt (wpAny_callSpecial?_slot (name := Str.ofString "__next__") ty F.slot_zip_next (wpAny_call_entry F.slot_zip_next ty F.entry_zip_next (zh_end hh D hz hT hTI g1 g2 t1 t2 hend fun h' e k he => ?_) (F.args_zip_next_1 _))))
  obtain ⟨o, ho, hc⟩ := he
  exact wpAny_bind (wpAny_isInstance (T := "StopIteration") (b := true) ⟨o, ho, hc⟩ isSubtype_stop (wpAny_pure (q _ k)))
end
section
variable {prog : Program} {w : World}
theorem zipArg (z TI TO i1 i2 l1 l2 : Addr) (D : ZipApart z TI TO i1 i2 l1 l2) (xs ys : Array Value) : PairArg prog w "zip" z [z, TI, TO, i1, i2, l1, l2] [z, TO, i1, i2] (min xs.size ys.size) (fun i k v => xs[i]? = some k ∧ ys[i]? = some v)
    (fun h => IsZip h z TI TO .none ∧ IsPair h TI (.ref i1) (.ref i2) ∧ (∃ a b, IsPair h TO a b) ∧ h.IsTupleIter i1 l1 0 ∧ h.IsTupleIter i2 l2 0 ∧ h.IsTuple l1 xs ∧ h.IsTuple l2 ys) where
  type := fun s ok => ⟨_, ok.1, rfl⟩
  notDict := by decide
  keep := fun h h' ⟨a1, a2, ⟨u, v, a3⟩, a4, a5, a6, a7⟩ k => ⟨k _ _ a1, k _ _ a2, ⟨u, v, k _ _ a3⟩, a4.at fun o e => k _ o e, a5.at fun o e => k _ o e, a6.at fun o e => k _ o e, a7.at fun o e => k _ o e⟩
  there := fun h ⟨a1, a2, ⟨_, _, a3⟩, ⟨_, a4, _⟩, ⟨_, a5, _⟩, ⟨_, a6, _⟩, ⟨_, a7, _⟩⟩ b hb => by
    rcases (show b = z ∨ b = TI ∨ b = TO ∨ b = i1 ∨ b = i2 ∨ b = l1 ∨ b = l2 by simpa using hb) with e | e | e | e | e | e | e <;> rw [e]
    · exact ⟨_, a1⟩
    · exact ⟨_, a2⟩
    · exact ⟨_, a3⟩
    · exact ⟨_, a4⟩
    · exact ⟨_, a5⟩
    · exact ⟨_, a6⟩
    · exact ⟨_, a7⟩
  sub := fun b hb => by
    rcases (show b = z ∨ b = TO ∨ b = i1 ∨ b = i2 by simpa using hb) with e | e | e | e <;> simp [e]
  noKeys := fun A s Q E hA ok q => getAttrOr_miss_zip ok.1 rfl rfl rfl zip_no_keys (by decide +kernel) hA q
  iter := fun A s d Q E hA ⟨a1, a2, ⟨u0, v0, a3⟩, a4, a5, a6, a7⟩ hd hdf q => by
    have df : d ≠ z ∧ d ≠ TI ∧ d ≠ TO ∧ d ≠ i1 ∧ d ≠ i2 ∧ d ≠ l1 ∧ d ≠ l2 := by simpa [not_or] using hdf
    obtain ⟨d1, d2, d3, d4, d5, d6, d7⟩ := df
    refine wpAny_pyIter_zip a1 (q z [z, TO, i1, i2] (fun i h => IsPair h TI (.ref i1) (.ref i2) ∧ h.IsTupleIter i1 l1 i ∧ h.IsTupleIter i2 l2 i ∧ h.IsTuple l1 xs ∧ h.IsTuple l2 ys ∧
      ((IsZip h z TI TO .none ∧ ∃ a b, IsPair h TO a b) ∨ ∃ T f oT, IsZipHeld h z TI TO T f ∧ h.get? T = some oT ∧ T ≠ z ∧ T ≠ i1 ∧ T ≠ i2 ∧ T ≠ d)) s.heap s.toks ?_ ⟨a2, a4, a5, a6, a7, .inl ⟨a1, u0, v0, a3⟩⟩ (fun _ _ e => e) fun b hb => .inl hb)
    have out : ∀ {c : Addr}, c ∉ [z, TO, i1, i2] → c ≠ z ∧ c ≠ TO ∧ c ≠ i1 ∧ c ≠ i2 := fun {c} hc => by simpa [not_or] using hc
    constructor
    · intro m
      rcases (show d = z ∨ d = TO ∨ d = i1 ∨ d = i2 by simpa using m) with e | e | e | e
      · exact d1 e
      · exact d3 e
      · exact d4 e
      · exact d5 e
    · rintro i ha hb ⟨b2, b4, b5, b6, b7, st⟩ k
      refine ⟨k _ _ d2.symm b2, b4.at fun o e => k _ o d4.symm e, b5.at fun o e => k _ o d5.symm e, b6.at fun o e => k _ o d6.symm e, b7.at fun o e => k _ o d7.symm e, ?_⟩
      rcases st with ⟨b1, u, v, b3⟩ | ⟨T, f, oT, b1, bT, r1, r2, r3, r4⟩
      · exact .inl ⟨k _ _ d1.symm b1, u, v, k _ _ d3.symm b3⟩
      · exact .inr ⟨T, f, oT, k _ _ d1.symm b1, k _ _ r4 bT, r1, r2, r3, r4⟩
    · rintro i s1 Q1 E1 hi ⟨b2, b4, b5, b6, b7, st⟩ hds hQ
      have ex := Array.getElem?_eq_getElem (Nat.lt_of_lt_of_le hi (Nat.min_le_left xs.size ys.size))
      have ey := Array.getElem?_eq_getElem (Nat.lt_of_lt_of_le hi (Nat.min_le_right xs.size ys.size))
      have lt : ∀ {c o}, s1.heap.get? c = some o → s1.heap.objs.size ≠ c := fun e => Nat.ne_of_gt (Heap.lt_size e)
      have n1 : s1.heap.objs.size ≠ i1 := let ⟨_, e, _⟩ := b4; lt e
      have n2 : s1.heap.objs.size ≠ i2 := let ⟨_, e, _⟩ := b5; lt e
      rcases st with ⟨b1, u, v, b3⟩ | ⟨T, f, oT, b1, bT, r1, r2, r3, r4⟩
      · refine RZ.pyNext_zipT_item D b1 b2 b3 b4 b5 b6 b7 ex ey fun h' c1 c2 c3 c4 c5 c6 k => ?_
        exact hQ s1.heap.objs.size _ _ h' s1.toks ⟨ex, ey⟩ (.inl ⟨_, c5, rfl, _, rfl⟩) ⟨k _ _ D.TIz D.TITO D.TIi1 D.TIi2 b2, c3, c4, b6.at fun o e => k _ o D.l1z D.l1TO D.l1i1 D.l1i2 e, b7.at fun o e => k _ o D.l2z D.l2TO D.l2i1 D.l2i2 e,
          .inr ⟨s1.heap.objs.size, false, _, c1, c5, lt b1, n1, n2, Nat.ne_of_gt hds⟩⟩ fun c o hc e => k c o (out hc).1 (out hc).2.1 (out hc).2.2.1 (out hc).2.2.2 e
      · refine zh_next D b1 bT b2 b4 b5 b6 b7 ex ey fun h' c1 c3 c4 c5 k => ?_
        exact hQ s1.heap.objs.size _ _ h' s1.toks ⟨ex, ey⟩ (.inl ⟨_, c5, rfl, _, rfl⟩) ⟨k _ _ D.TIz D.TIi1 D.TIi2 b2, c3, c4, b6.at fun o e => k _ o D.l1z D.l1i1 D.l1i2 e, b7.at fun o e => k _ o D.l2z D.l2i1 D.l2i2 e,
          .inr ⟨T, true, oT, c1, k _ _ r1 r2 r3 bT, r1, r2, r3, r4⟩⟩ fun c o hc e => k c o (out hc).1 (out hc).2.2.1 (out hc).2.2.2 e
    · rintro s1 Q1 E1 ⟨b2, b4, b5, b6, b7, st⟩ hQ
      have hend : xs[min xs.size ys.size]? = none ∨ ys[min xs.size ys.size]? = none := by
        rcases Nat.le_total xs.size ys.size with h | h
        · exact .inl (Array.getElem?_eq_none (by omega))
        · exact .inr (Array.getElem?_eq_none (by omega))
      rcases st with ⟨b1, u, v, b3⟩ | ⟨T, f, oT, b1, bT, r1, r2, r3, r4⟩
      · exact RZ.pyNext_zipT_end hA D b1 b2 b3 b4 b5 b6 b7 hend fun h' k => hQ h' s1.toks fun c o hc e => k c o (out hc).1 (out hc).2.1 (out hc).2.2.1 (out hc).2.2.2 e
      · exact zh_stop hA D b1 bT b2 b4 b5 b6 b7 hend fun h' k => hQ h' s1.toks fun c o hc e => k c o (out hc).1 (out hc).2.2.1 (out hc).2.2.2 e
end
end Fm
namespace Fm
open PySem PySem.Spec PyProof.Rows L2
def tDZ (K : PySem.W.Frag) (ta : TA) : TE := fun σ H Q => ta σ H fun vs H1 => ∃ (a b : Addr) (kvs : List (Key × V)), vs = [.ref a, .ref b] ∧ SqT K H1 a (kvs.map fun p => kV p.1) ∧ SqT K H1 b (kvs.map fun p => p.2) ∧ ∀ p, H1 p = none → Q (.ref p) (upd H1 p (.dK (mergeK [] kvs)))
theorem kv_zip : ∀ {kvs : List (Key × V)} {us : List Value}, Vals (kvs.map fun p => p.2) us → KV kvs ((kvs.map fun p => p.1).zip us)
  | [], _, .nil => .nil
  | _ :: _, _, .cons r t => .cons ⟨rfl, r⟩ (kv_zip t)
theorem pe_dictZip {X : Cx} {e e2 : Expr} {ta : TA} {p p2 pos pos2 : Pos} (hgD : Gl X "dict") (hmD : X.mg "dict" = none) (hgZ : Gl X "zip") (hmZ : X.mg "zip" = none) (hcalm : X.calm = true) (ha : PA X [e, e2] ta)
    (h1 : starEach [e, e2] X.env = (false, eval e X.env) :: starEach [e2] X.env := by rfl) (h2 : (backTo pos2 (starEach [e2] X.env)).any (·.1) = false := by rfl)
    (h3 : starEach [.Call (.Name "zip" p2) [e, e2] [] pos2] X.env = (false, eval (.Call (.Name "zip" p2) [e, e2] [] pos2) X.env) :: starEach [] X.env := by rfl) :
    PE X (.Call (.Name "dict" p) [.Call (.Name "zip" p2) [e, e2] [] pos2] [] pos) (tDZ X.K ta) := by
  constructor
  intro pins s σ H Q I h
  refine Call_ (ld_blt I hgD hmD (show bootBuiltins "dict" = some (.type "dict") by decide +kernel) (PyProof.Rows.callWith_type1 (args_cons ?_ h3) h3 rfl))
  refine Call_ (ld_blt I hgZ hmZ PyProof.Rows.boot_zip (PyProof.Rows.callWith_type1 (thn (ha.run pos2 pins s σ H _ I h) fun us s1 q => ?_) h1 h2))
  obtain ⟨vs, H1, I1, r1, a, b, kvs, rfl, hx, hy, q⟩ := q
  match us, r1 with
  | [_, _], .cons ra (.cons rb .nil) =>
    cases ra
    cases rb
    obtain ⟨us, rx, px, lx⟩ := I1.tuple hx
    obtain ⟨ws, ry, py, ly⟩ := I1.tuple hy
    have la : a < s1.heap.objs.size := by
      obtain ⟨o, e, _⟩ := px
      exact Heap.lt_size e
    have lb : b < s1.heap.objs.size := by
      obtain ⟨o, e, _⟩ := py
      exact Heap.lt_size e
    refine RZ.call_zipT px py fun h' k1 k2 k3 k4 k5 k6 k7 => args_nil ?_
    have eu : us.length = kvs.length := by rw [← rx.length, List.length_map]
    have ew : ws.length = kvs.length := by rw [← ry.length, List.length_map]
    rw [List.length_map] at lx
    have px' : s1.heap.IsTuple a us.toArray := px
    have py' : s1.heap.IsTuple b ws.toArray := py
    refine PySem.call_dict_pairs (knd := mixKind X.prog X.w) (kvs := (kvs.map fun p => p.1).zip ws) (s := { s1 with heap := h' }) (zipArg _ _ _ _ _ a b (PySem.W.ktu_apart s1.heap.objs.size a b la lb) us.toArray ws.toArray) (I1.ok.hd hcalm) ⟨k1, k2, ⟨_, _, k3⟩, k4, k5, px'.at fun o e => k7 _ o e, py'.at fun o e => k7 _ o e⟩ ⟨?_, fun i key v ⟨e1, e2⟩ => ?_⟩ ?_ fun h2 tk hd k => ?_
    · rw [List.length_zip, List.length_map, List.size_toArray, List.size_toArray, eu, ew]
    · have e1' : us[i]? = some key := by simpa using e1
      have e2' : ws[i]? = some v := by simpa using e2
      obtain ⟨x, ex, rxu⟩ := vals_at rx e1'
      rw [List.getElem?_map] at ex
      cases ek : kvs[i]? with
      | none =>
        rw [ek] at ex
        cases ex
      | some kv =>
        rw [ek] at ex
        cases ex
        refine ⟨kv.1, ?_, kV_is rxu⟩
        rw [List.getElem?_zip_eq_some]
        exact ⟨by rw [List.getElem?_map, ek]; rfl, e2'⟩
    · rw [List.size_toArray, List.size_toArray, eu, ew, Nat.min_self]
      exact lx
    · have hlen : (mergeK [] kvs).length ≤ sizeLine := by
        refine Nat.le_trans (length_mergeK kvs []) ?_
        rw [List.length_nil, Nat.zero_add]
        exact lx
      have big : (h'.objs.size == sysModules) = false := beq_eq_false_iff_ne.mpr (Nat.ne_of_gt (Nat.lt_of_lt_of_le I1.big (by rw [k6]; exact Nat.le_add_right _ _)))
      have kk : ∀ c o, s1.heap.get? c = some o → h2.get? c = some o := fun c o e => by
        have hc := Heap.lt_size e
        refine k c o (fun m => ?_) (k7 c o e)
        simp only [List.mem_cons, List.not_mem_nil, or_false] at m
        rcases m with m | m | m | m <;> (rw [m] at hc; first | exact absurd hc (Nat.lt_irrefl _) | exact absurd hc (Nat.not_lt.mpr (Nat.le_add_right _ _)))
      have J := I1.laid (t' := tk) (h' := h2) (a := h'.objs.size) (o := .dK (mergeK [] kvs)) kk (by rw [k6]; exact Nat.le_add_right _ _) ⟨hlen, big, _, KV.merge (kv_zip ry) .nil, hd⟩
      exact ⟨.ref h'.objs.size, _, J, rfl, q _ (I1.hok.fresh (by rw [k6]; exact Nat.le_add_right _ _))⟩
end Fm
namespace Fm
open PySem PySem.Spec PyProof.Rows L2
def topS (i : Nat) : Stmt := PySem.Challenge.pw_fairmasks_k01_whole_contents_and_boxes.main.body.getD i (.Pass ⟨0, 0, 0, 0⟩)
abbrev s_is_whole : Stmt := topS 1
abbrev N_is_whole : List Str := ["thing"]
theorem sc_is_whole : FnScope N_is_whole ["thing"] (defScope s_is_whole) := ⟨rfl, rfl, rfl, by decide +kernel, rfl, by decide +kernel, by decide +kernel⟩
abbrev s_is_pair : Stmt := topS 2
abbrev N_is_pair : List Str := ["thing"]
theorem sc_is_pair : FnScope N_is_pair ["thing"] (defScope s_is_pair) := ⟨rfl, rfl, rfl, by decide +kernel, rfl, by decide +kernel, by decide +kernel⟩
abbrev s_is_sizes : Stmt := topS 14
abbrev N_is_sizes : List Str := ["thing", "many", "size"]
theorem sc_is_sizes : FnScope N_is_sizes ["thing"] (defScope s_is_sizes) := ⟨rfl, rfl, rfl, by decide +kernel, rfl, by decide +kernel, by decide +kernel⟩
abbrev s_is_content : Stmt := topS 15
abbrev N_is_content : List Str := ["sizes", "thing", "size", "worth"]
theorem sc_is_content : FnScope N_is_content ["sizes", "thing"] (defScope s_is_content) := ⟨rfl, rfl, rfl, by decide +kernel, rfl, by decide +kernel, by decide +kernel⟩
abbrev s_is_pattern : Stmt := topS 16
abbrev N_is_pattern : List Str := ["columns", "thing", "last", "column"]
theorem sc_is_pattern : FnScope N_is_pattern ["columns", "thing"] (defScope s_is_pattern) := ⟨rfl, rfl, rfl, by decide +kernel, rfl, by decide +kernel, by decide +kernel⟩
abbrev s_is_box_of : Stmt := topS 17
abbrev N_is_box_of : List Str := ["sizes", "thing", "pattern", "worths", "column"]
theorem sc_is_box_of : FnScope N_is_box_of ["sizes", "thing"] (defScope s_is_box_of) := ⟨rfl, rfl, rfl, by decide +kernel, rfl, by decide +kernel, by decide +kernel⟩
abbrev s_all_contents : Stmt := topS 18
abbrev N_all_contents : List Str := ["sizes", "found", "size", "content", "worth"]
theorem sc_all_contents : FnScope N_all_contents ["sizes"] (defScope s_all_contents) := ⟨rfl, rfl, rfl, by decide +kernel, rfl, by decide +kernel, by decide +kernel⟩
abbrev s_worths_at : Stmt := topS 19
abbrev N_worths_at : List Str := ["pattern", "content", "column"]
theorem sc_worths_at : FnScope N_worths_at ["pattern", "content"] (defScope s_worths_at) := ⟨rfl, rfl, rfl, by decide +kernel, rfl, by decide +kernel, by decide +kernel⟩
abbrev s_contents : Stmt := topS 20
abbrev N_contents : List Str := ["sizes"]
theorem sc_contents : FnScope N_contents ["sizes"] (defScope s_contents) := ⟨rfl, rfl, rfl, by decide +kernel, rfl, by decide +kernel, by decide +kernel⟩
abbrev s_is_box : Stmt := topS 21
abbrev N_is_box : List Str := ["sizes", "thing"]
theorem sc_is_box : FnScope N_is_box ["sizes", "thing"] (defScope s_is_box) := ⟨rfl, rfl, rfl, by decide +kernel, rfl, by decide +kernel, by decide +kernel⟩
abbrev s_box_at : Stmt := topS 22
abbrev N_box_at : List Str := ["sizes", "pattern", "content"]
theorem sc_box_at : FnScope N_box_at ["sizes", "pattern", "content"] (defScope s_box_at) := ⟨rfl, rfl, rfl, by decide +kernel, rfl, by decide +kernel, by decide +kernel⟩
abbrev s_in_box : Stmt := topS 23
abbrev N_in_box : List Str := ["sizes", "box", "pattern", "worths", "content"]
theorem sc_in_box : FnScope N_in_box ["sizes", "box"] (defScope s_in_box) := ⟨rfl, rfl, rfl, by decide +kernel, rfl, by decide +kernel, by decide +kernel⟩
abbrev s_both : Stmt := topS 24
abbrev N_both : List Str := ["sizes", "box", "other", "told", "pattern", "column", "worth"]
theorem sc_both : FnScope N_both ["sizes", "box", "other"] (defScope s_both) := ⟨rfl, rfl, rfl, by decide +kernel, rfl, by decide +kernel, by decide +kernel⟩
abbrev s_law_hand : Stmt := topS 26
abbrev N_law_hand : List Str := ["script", "cells", "cell"]
theorem sc_law_hand : FnScope N_law_hand ["script"] (defScope s_law_hand) := ⟨rfl, rfl, rfl, by decide +kernel, rfl, by decide +kernel, by decide +kernel⟩
abbrev s_law_draw : Stmt := topS 27
abbrev N_law_draw : List Str := ["hand", "many", "number", "cell", "digit"]
theorem sc_law_draw : FnScope N_law_draw ["hand", "many"] (defScope s_law_draw) := ⟨rfl, rfl, rfl, by decide +kernel, rfl, by decide +kernel, by decide +kernel⟩
abbrev s_law_some : Stmt := topS 28
abbrev N_law_some : List Str := ["hand", "things"]
theorem sc_law_some : FnScope N_law_some ["hand", "things"] (defScope s_law_some) := ⟨rfl, rfl, rfl, by decide +kernel, rfl, by decide +kernel, by decide +kernel⟩
abbrev s_law_sizes : Stmt := topS 29
abbrev N_law_sizes : List Str := ["hand"]
theorem sc_law_sizes : FnScope N_law_sizes ["hand"] (defScope s_law_sizes) := ⟨rfl, rfl, rfl, by decide +kernel, rfl, by decide +kernel, by decide +kernel⟩
abbrev s_law_contents : Stmt := topS 30
abbrev N_law_contents : List Str := ["sizes", "found", "size", "longer", "content", "worth"]
theorem sc_law_contents : FnScope N_law_contents ["sizes"] (defScope s_law_contents) := ⟨rfl, rfl, rfl, by decide +kernel, rfl, by decide +kernel, by decide +kernel⟩
abbrev s_law_pattern : Stmt := topS 31
abbrev N_law_pattern : List Str := ["hand", "columns", "c"]
theorem sc_law_pattern : FnScope N_law_pattern ["hand", "columns"] (defScope s_law_pattern) := ⟨rfl, rfl, rfl, by decide +kernel, rfl, by decide +kernel, by decide +kernel⟩
abbrev s_law_box : Stmt := topS 32
abbrev N_law_box : List Str := ["pattern", "content", "c"]
theorem sc_law_box : FnScope N_law_box ["pattern", "content"] (defScope s_law_box) := ⟨rfl, rfl, rfl, by decide +kernel, rfl, by decide +kernel, by decide +kernel⟩
abbrev s_law_is_in : Stmt := topS 33
abbrev N_law_is_in : List Str := ["box", "content"]
theorem sc_law_is_in : FnScope N_law_is_in ["box", "content"] (defScope s_law_is_in) := ⟨rfl, rfl, rfl, by decide +kernel, rfl, by decide +kernel, by decide +kernel⟩
abbrev s_law_both : Stmt := topS 34
abbrev N_law_both : List Str := ["box", "other", "worths", "c", "worth"]
theorem sc_law_both : FnScope N_law_both ["box", "other"] (defScope s_law_both) := ⟨rfl, rfl, rfl, by decide +kernel, rfl, by decide +kernel, by decide +kernel⟩
abbrev s_law : Stmt := topS 35
abbrev N_law : List Str := ["script", "hand", "turn", "sizes", "every", "told", "step", "box", "other", "content", "inside", "meet", "common", "one"]
theorem sc_law : FnScope N_law ["script"] (defScope s_law) := ⟨rfl, rfl, rfl, by decide +kernel, rfl, by decide +kernel, by decide +kernel⟩
/-- what the top has left: each def, each constant, the built-ins that are not hidden -/
structure Txt (K : PySem.W.Frag) (mg : Str → Option Value) where
  f_is_whole : Addr
  d_is_whole : FuncData
  F_is_whole : Fun K "is_whole" "is_whole" s_is_whole f_is_whole d_is_whole
  b_is_whole : Binds K d_is_whole ["thing"] []
  g_is_whole : mg "is_whole" = some (.ref f_is_whole)
  f_is_pair : Addr
  d_is_pair : FuncData
  F_is_pair : Fun K "is_pair" "is_pair" s_is_pair f_is_pair d_is_pair
  b_is_pair : Binds K d_is_pair ["thing"] []
  g_is_pair : mg "is_pair" = some (.ref f_is_pair)
  f_is_sizes : Addr
  d_is_sizes : FuncData
  F_is_sizes : Fun K "is_sizes" "is_sizes" s_is_sizes f_is_sizes d_is_sizes
  b_is_sizes : Binds K d_is_sizes ["thing"] []
  g_is_sizes : mg "is_sizes" = some (.ref f_is_sizes)
  f_is_content : Addr
  d_is_content : FuncData
  F_is_content : Fun K "is_content" "is_content" s_is_content f_is_content d_is_content
  b_is_content : Binds K d_is_content ["sizes", "thing"] []
  g_is_content : mg "is_content" = some (.ref f_is_content)
  f_is_pattern : Addr
  d_is_pattern : FuncData
  F_is_pattern : Fun K "is_pattern" "is_pattern" s_is_pattern f_is_pattern d_is_pattern
  b_is_pattern : Binds K d_is_pattern ["columns", "thing"] []
  g_is_pattern : mg "is_pattern" = some (.ref f_is_pattern)
  f_is_box_of : Addr
  d_is_box_of : FuncData
  F_is_box_of : Fun K "is_box_of" "is_box_of" s_is_box_of f_is_box_of d_is_box_of
  b_is_box_of : Binds K d_is_box_of ["sizes", "thing"] []
  g_is_box_of : mg "is_box_of" = some (.ref f_is_box_of)
  f_all_contents : Addr
  d_all_contents : FuncData
  F_all_contents : Fun K "all_contents" "all_contents" s_all_contents f_all_contents d_all_contents
  b_all_contents : Binds K d_all_contents ["sizes"] []
  g_all_contents : mg "all_contents" = some (.ref f_all_contents)
  f_worths_at : Addr
  d_worths_at : FuncData
  F_worths_at : Fun K "worths_at" "worths_at" s_worths_at f_worths_at d_worths_at
  b_worths_at : Binds K d_worths_at ["pattern", "content"] []
  g_worths_at : mg "worths_at" = some (.ref f_worths_at)
  f_contents : Addr
  d_contents : FuncData
  F_contents : Fun K "contents" "contents" s_contents f_contents d_contents
  b_contents : Binds K d_contents ["sizes"] []
  g_contents : mg "contents" = some (.ref f_contents)
  f_is_box : Addr
  d_is_box : FuncData
  F_is_box : Fun K "is_box" "is_box" s_is_box f_is_box d_is_box
  b_is_box : Binds K d_is_box ["sizes", "thing"] []
  g_is_box : mg "is_box" = some (.ref f_is_box)
  f_box_at : Addr
  d_box_at : FuncData
  F_box_at : Fun K "box_at" "box_at" s_box_at f_box_at d_box_at
  b_box_at : Binds K d_box_at ["sizes", "pattern", "content"] []
  g_box_at : mg "box_at" = some (.ref f_box_at)
  f_in_box : Addr
  d_in_box : FuncData
  F_in_box : Fun K "in_box" "in_box" s_in_box f_in_box d_in_box
  b_in_box : Binds K d_in_box ["sizes", "box"] []
  g_in_box : mg "in_box" = some (.ref f_in_box)
  f_both : Addr
  d_both : FuncData
  F_both : Fun K "both" "both" s_both f_both d_both
  b_both : Binds K d_both ["sizes", "box", "other"] []
  g_both : mg "both" = some (.ref f_both)
  f_law_hand : Addr
  d_law_hand : FuncData
  F_law_hand : Fun K "_law_hand" "_law_hand" s_law_hand f_law_hand d_law_hand
  b_law_hand : Binds K d_law_hand ["script"] []
  g_law_hand : mg "_law_hand" = some (.ref f_law_hand)
  f_law_draw : Addr
  d_law_draw : FuncData
  F_law_draw : Fun K "_law_draw" "_law_draw" s_law_draw f_law_draw d_law_draw
  b_law_draw : Binds K d_law_draw ["hand", "many"] []
  g_law_draw : mg "_law_draw" = some (.ref f_law_draw)
  f_law_some : Addr
  d_law_some : FuncData
  F_law_some : Fun K "_law_some" "_law_some" s_law_some f_law_some d_law_some
  b_law_some : Binds K d_law_some ["hand", "things"] []
  g_law_some : mg "_law_some" = some (.ref f_law_some)
  f_law_sizes : Addr
  d_law_sizes : FuncData
  F_law_sizes : Fun K "_law_sizes" "_law_sizes" s_law_sizes f_law_sizes d_law_sizes
  b_law_sizes : Binds K d_law_sizes ["hand"] []
  g_law_sizes : mg "_law_sizes" = some (.ref f_law_sizes)
  f_law_contents : Addr
  d_law_contents : FuncData
  F_law_contents : Fun K "_law_contents" "_law_contents" s_law_contents f_law_contents d_law_contents
  b_law_contents : Binds K d_law_contents ["sizes"] []
  g_law_contents : mg "_law_contents" = some (.ref f_law_contents)
  f_law_pattern : Addr
  d_law_pattern : FuncData
  F_law_pattern : Fun K "_law_pattern" "_law_pattern" s_law_pattern f_law_pattern d_law_pattern
  b_law_pattern : Binds K d_law_pattern ["hand", "columns"] []
  g_law_pattern : mg "_law_pattern" = some (.ref f_law_pattern)
  f_law_box : Addr
  d_law_box : FuncData
  F_law_box : Fun K "_law_box" "_law_box" s_law_box f_law_box d_law_box
  b_law_box : Binds K d_law_box ["pattern", "content"] []
  g_law_box : mg "_law_box" = some (.ref f_law_box)
  f_law_is_in : Addr
  d_law_is_in : FuncData
  F_law_is_in : Fun K "_law_is_in" "_law_is_in" s_law_is_in f_law_is_in d_law_is_in
  b_law_is_in : Binds K d_law_is_in ["box", "content"] []
  g_law_is_in : mg "_law_is_in" = some (.ref f_law_is_in)
  f_law_both : Addr
  d_law_both : FuncData
  F_law_both : Fun K "_law_both" "_law_both" s_law_both f_law_both d_law_both
  b_law_both : Binds K d_law_both ["box", "other"] []
  g_law_both : mg "_law_both" = some (.ref f_law_both)
  u_MOST_COLUMNS : Value
  k_MOST_COLUMNS : mg "MOST_COLUMNS" = some u_MOST_COLUMNS ∧ RelV (.int 5) u_MOST_COLUMNS
  u_LEAST_SIZE : Value
  k_LEAST_SIZE : mg "LEAST_SIZE" = some u_LEAST_SIZE ∧ RelV (.int 2) u_LEAST_SIZE
  u_MOST_SIZE : Value
  k_MOST_SIZE : mg "MOST_SIZE" = some u_MOST_SIZE ∧ RelV (.int 4) u_MOST_SIZE
  u_MOST_CONTENTS : Value
  k_MOST_CONTENTS : mg "MOST_CONTENTS" = some u_MOST_CONTENTS ∧ RelV (.int 256) u_MOST_CONTENTS
  z_len : mg "len" = none
  z_isinstance : mg "isinstance" = none
  z_range : mg "range" = none
  z_zip : mg "zip" = none
  z_tuple : mg "tuple" = none
  z_list : mg "list" = none
  z_int : mg "int" = none
  z_bool : mg "bool" = none
  z_abs : mg "abs" = none
  z_sorted : mg "sorted" = none
  z_dict : mg "dict" = none
section
variable {P : Program} {w : World} {K : PySem.W.Frag} {mg : Str → Option Value} {base : Heap}
/-! ### judging things -/
def m_is_whole : List Dt → Option Dt
  | [d] => some (.bl d.isW)
  | _ => none
theorem ok_is_whole (T : Txt K mg) : FnOk P w K mg base CX0 1 T.f_is_whole T.d_is_whole ["thing"] (spD K m_is_whole) := by
  refine T.F_is_whole.ok sc_is_whole (fun vs H Q E h => ?_) (fun cdv A outer s H vs Q E hr h => ?_)
  · obtain ⟨ds, r, hd, e, _⟩ := h
    exact match ds, e, hd with | [_], _, hd => hd.length
  · obtain ⟨ds, r, hd, e, q⟩ := h
    match ds, e, hd, q with
    | [d], e, .cons h .nil, q =>
      cases e
      obtain ⟨t, ty, ki, kt, kb⟩ := h.kinds
      refine ⟨_, (pss_one (ps_ret (pe_and (pe_callB (call_isiK' K) (by rfl) T.z_isinstance (by decide +kernel) (pa_cons (pv 0) (pa_cons (pe_bltn (v := .ty "int") (by rfl) T.z_int (by decide +kernel) rfl) pa_nil))) (pe_one (pe_not (pe_callB (call_isiK' K) (by rfl) T.z_isinstance (by decide +kernel) (pa_cons (pv 0) (pa_cons (pe_bltn (v := .ty "bool") (by rfl) T.z_bool (by decide +kernel) rfl) pa_nil)))))))), ?_⟩
      refine ⟨_, rfl, _, _, _, _, _, rfl, .ty _, ty, ki, _, rfl, ?_⟩
      cases hi : d.isInt with
      | true =>
        refine iteT ?_
        refine ⟨_, rfl, _, _, _, _, _, rfl, .ty _, ty, kb hi, _, rfl, ?_⟩
        rw [Bool.not_not]
        exact q _ _ (Same.refl H) (.bl _)
      | false =>
        refine iteF ?_
        have e : d.isW = false := by cases d <;> first | rfl | cases hi
        have q' := q (.bl false) H (Same.refl H)
        rw [e] at q'
        exact q' (.bl _)
def Dt.isPair : Dt → Bool
  | .tup ds => ds.length == 2
  | _ => false
def m_is_pair : List Dt → Option Dt
  | [d] => some (.bl d.isPair)
  | _ => none
theorem ok_is_pair (T : Txt K mg) : FnOk P w K mg base CX0 1 T.f_is_pair T.d_is_pair ["thing"] (spD K m_is_pair) := by
  refine T.F_is_pair.ok sc_is_pair (fun vs H Q E h => ?_) (fun cdv A outer s H vs Q E hr h => ?_)
  · obtain ⟨ds, r, hd, e, _⟩ := h
    exact match ds, e, hd with | [_], _, hd => hd.length
  · obtain ⟨ds, r, hd, e, q⟩ := h
    match ds, e, hd, q with
    | [d], e, .cons h .nil, q =>
      cases e
      obtain ⟨t, ty, ki, kt, kb⟩ := h.kinds
      refine ⟨_, (pss_one (ps_ret (pe_and (pe_callB (call_isiK' K) (by rfl) T.z_isinstance (by decide +kernel) (pa_cons (pv 0) (pa_cons (pe_bltn (v := .ty "tuple") (by rfl) T.z_tuple (by decide +kernel) rfl) pa_nil))) (pe_one (pe_cmpR op_eq (pe_callB (call_lenK K) (by rfl) T.z_len PySem.boot_len (pa_cons (pv 0) pa_nil)) pe_int (nomark _)))))), ?_⟩
      refine ⟨_, rfl, _, _, _, _, _, rfl, .ty _, ty, kt, _, rfl, ?_⟩
      cases hi : d.isTup with
      | true =>
        refine iteT ?_
        cases d with
        | tup xs =>
          obtain ⟨a, vs, rfl, hs, ha⟩ := h.tup_inv
          refine ⟨_, rfl, a, vs, rfl, .inr hs, rfl, ?_⟩
          have e : decide (V.int (vs.length : Int) = V.int 2) = (xs.length == 2) := by
            rw [dec_int, ha.length, Bool.eq_iff_iff]
            simp
            omega
          rw [e]
          exact q _ _ (Same.refl H) (.bl _)
        | _ => cases hi
      | false =>
        refine iteF ?_
        have e : d.isPair = false := by cases d <;> first | rfl | cases hi
        have q' := q (.bl false) H (Same.refl H)
        rw [e] at q'
        exact q' (.bl _)
def patGo (n : Int) : Int → List Dt → Bool
  | _, [] => true
  | l, .int c :: r => if l < c ∧ c < n then patGo n c r else false
  | _, _ :: _ => false
def Dt.isPat (n : Int) : Dt → Bool
  | .tup ds => patGo n (-1) ds
  | _ => false
def m_is_pattern : List Dt → Option Dt
  | [.int n, d] => some (.bl (d.isPat n))
  | _ => none
theorem ok_is_pattern (T : Txt K mg) : FnOk P w K mg base CX0 2 T.f_is_pattern T.d_is_pattern ["columns", "thing"] (spD K m_is_pattern) := by
  refine T.F_is_pattern.ok sc_is_pattern (fun vs H Q E h => ?_) (fun cdv A outer s H vs Q E hr h => ?_)
  · obtain ⟨ds, r, hd, e, _⟩ := h
    exact match ds, e, hd with | [.int _, _], _, hd => hd.length
  · obtain ⟨ds, r, hd, e, q⟩ := h
    match ds, e, hd, q with
    | [.int n, d], e, .cons hn (.cons h .nil), q =>
      cases e
      cases hn
      obtain ⟨t, ty, ki, kt, kb⟩ := h.kinds
      refine ⟨_, (pss_cons (ps_if (pt_not (pt_val (pe_callB (call_isiK' K) (by rfl) T.z_isinstance (by decide +kernel) (pa_cons (pv 1) (pa_cons (pe_bltn (v := .ty "tuple") (by rfl) T.z_tuple (by decide +kernel) rfl) pa_nil))))) (pss_one (ps_ret pe_bl)) pss_nil)
      (pss_cons (ps_set (i := 2) sc_is_pattern.nd rfl (.inl rfl) (pe_un un_neg pe_int))
      (pss_cons (ps_for PassesOwn.never rfl (pi_tupK K (pv 1)) (pg_name (i := 3) sc_is_pattern.nd rfl (.inl rfl)) (pss_cons (ps_if (PW.pt (pw_or (pt_not (pt_val (pe_call (ok_is_whole T) hr (by rfl) T.g_is_whole T.F_is_whole.kp T.b_is_whole .nil pass0 (pa_cons (pv 3) pa_nil)))) (pw_or1 (pt_not (pt_chain op_lt op_lt (pv 2) (pv 3) (pv 0)))))) (pss_one (ps_ret pe_bl)) pss_nil)
      (pss_one (ps_set (i := 2) sc_is_pattern.nd rfl (.inl rfl) (pv 3)))))
      (pss_one (ps_ret pe_bl))))), ?_⟩
      refine ⟨_, rfl, _, _, _, _, _, rfl, .ty _, ty, kt, _, rfl, ?_⟩
      cases hi : d.isTup with
      | false =>
        refine iteT ?_
        have e : d.isPat n = false := by cases d <;> first | rfl | cases hi
        have q' := q (.bl false) H (Same.refl H)
        rw [e] at q'
        exact q' (.bl _)
      | true =>
        refine iteF ?_
        cases d with
        | tup xs =>
          obtain ⟨a, vs, rfl, hs, ha⟩ := h.tup_inv
          refine ⟨1, rfl, _, rfl, a, rfl, ⟨_, hs⟩, for_tup (xs := vs) (fun i σ H' => ∃ (l : Int) (c : Option V), σ = [some (.int n), some (.ref a), some (.int l), c] ∧ Same H H' ∧ patGo n (-1) xs = patGo n l (xs.drop i))
            ⟨-1, none, rfl, Same.refl H, rfl⟩ (fun i σ H' _ ⟨_, _, _, sm, _⟩ => (Ext.of sm).sqT hs) ?_ ?_⟩
          · rintro i x σ H' hx ⟨l, c, rfl, sm, e⟩
            obtain ⟨dx, hdx, hx2⟩ := ha.get hx
            have hdr : xs.drop i = dx :: xs.drop (i + 1) := by
              obtain ⟨hlt, e2⟩ := List.getElem?_eq_some_iff.mp hdx
              rw [List.drop_eq_getElem_cons hlt, e2]
            rw [hdr] at e
            -- not is_whole(column) or not last < column < columns
            refine ⟨_, rfl, spD_bl (.cons (hx2.ext (.of sm)) .nil) rfl fun H1 s1 => ⟨_, rfl, ?_⟩⟩
            have fin : patGo n l (dx :: xs.drop (i + 1)) = false → ∀ H2, Same H' H2 → Q (.bl false) H2 := fun z H2 s2 => by
              have q' := q (.bl false) H2 (sm.trans s2)
              rw [show (Dt.tup xs).isPat n = patGo n (-1) xs from rfl, e, z] at q'
              exact q' (.bl _)
            cases hw : dx.isW with
            | false =>
              refine iteT (iteT ?_)
              exact fin (by cases dx <;> first | rfl | cases hw) _ s1
            | true =>
              refine iteF ?_
              cases dx with
              | int c =>
                cases hx2
                refine ⟨_, rfl, _, rfl, _, _, rfl, rfl, _, rfl, ?_⟩
                refine ite2 (fun h1 => ?_) (fun h1 => ?_)
                · refine ⟨_, rfl, _, _, rfl, rfl, _, rfl, ?_⟩
                  refine ite2 (fun h2 => ?_) (fun h2 => ?_)
                  · have n2 : ¬ c < n := by simpa using h2
                    exact fin (by show (if l < c ∧ c < n then _ else false) = false; rw [if_neg fun z => n2 z.2]) _ s1
                  · have y2 : c < n := by simpa using h2
                    refine ⟨_, rfl, c, _, rfl, sm.trans s1, ?_⟩
                    rw [e]
                    show (if l < c ∧ c < n then _ else false) = _
                    rw [if_pos ⟨of_decide_eq_true h1, y2⟩]
                · refine ⟨_, rfl, iteT ?_⟩
                  exact fin (by show (if l < c ∧ c < n then _ else false) = false; rw [if_neg fun z => h1 (decide_eq_true z.1)]) _ s1
              | _ => cases hw
          · rintro σ H' ⟨l, c, rfl, sm, e⟩
            have ed : xs.drop vs.length = [] := List.drop_eq_nil_of_le (by rw [ha.length]; exact Nat.le_refl _)
            rw [ed] at e
            have q' := q (.bl true) H' sm
            rw [show (Dt.tup xs).isPat n = patGo n (-1) xs from rfl, e] at q'
            exact q' (.bl _)
        | _ => cases hi
/-! ### contents, sizes, boxes judged -/
theorem drop_at {α : Type} {xs : List α} {i : Nat} {x : α} (h : xs[i]? = some x) : xs.drop i = x :: xs.drop (i + 1) := by
  obtain ⟨hlt, e⟩ := List.getElem?_eq_some_iff.mp h
  rw [List.drop_eq_getElem_cons hlt, e]
def contGo : List Int → List Dt → Bool
  | s :: ss, .int c :: r => if 0 ≤ c ∧ c < s then contGo ss r else false
  | _ :: _, _ :: _ => false
  | [], _ => true
  | _, [] => true
def Dt.isCont (ss : List Int) : Dt → Bool
  | .tup ds => ds.length == ss.length && contGo ss ds
  | _ => false
theorem int_at {ss : List Int} {i : Nat} {x : V} (h : (ss.map V.int)[i]? = some x) : ∃ n, x = .int n ∧ ss[i]? = some n := by
  rw [List.getElem?_map] at h
  cases e : ss[i]? with
  | none =>
    rw [e] at h
    cases h
  | some n =>
    rw [e] at h
    exact ⟨n, (Option.some.inj h).symm, rfl⟩
/-- sizes as a tuple or a list of ints, and a thing -/
def spCont (K : PySem.W.Frag) : Sp := fun vs H Q _ => ∃ (L : Bool) (p : Addr) (ss : List Int) (v : V) (d : Dt), vs = [.ref p, v] ∧ SqA L K H p (ss.map V.int) ∧ Dh K H v d ∧ ∀ H', Same H H' → Q (.bl (d.isCont ss)) H'
theorem ok_is_content (T : Txt K mg) : FnOk P w K mg base CX0 2 T.f_is_content T.d_is_content ["sizes", "thing"] (spCont K) := by
  refine T.F_is_content.ok sc_is_content (fun vs H Q E h => ?_) (fun cdv A outer s H vs Q E hr h => ?_)
  · obtain ⟨_, _, _, _, _, rfl, _⟩ := h
    rfl
  · obtain ⟨L, p, ss, v, d, rfl, hp, h, q⟩ := h
    obtain ⟨t, ty, ki, kt, kb⟩ := h.kinds
    refine ⟨_, (pss_cons (ps_if (PW.pt (pw_or (pt_not (pt_val (pe_callB (call_isiK' K) (by rfl) T.z_isinstance (by decide +kernel) (pa_cons (pv 1) (pa_cons (pe_bltn (v := .ty "tuple") (by rfl) T.z_tuple (by decide +kernel) rfl) pa_nil))))) (pw_or1 (pt_cmpR op_ne (pe_callB (call_lenK K) (by rfl) T.z_len PySem.boot_len (pa_cons (pv 1) pa_nil)) (pe_callB (call_lenK K) (by rfl) T.z_len PySem.boot_len (pa_cons (pv 0) pa_nil)) (nomark _))))) (pss_one (ps_ret pe_bl)) pss_nil)
      (pss_cons (ps_for PassesOwn.never rfl (pi_zipM (by rfl) T.z_zip (pa_cons (pv 0) (pa_cons (pv 1) pa_nil))) (pg_tupK K (n := 2) rfl (pgs_cons (pg_name (i := 2) sc_is_content.nd rfl (.inl rfl)) (pgs_cons (pg_name (i := 3) sc_is_content.nd rfl (.inl rfl)) pgs_nil))) (pss_one (ps_if (PW.pt (pw_or (pt_not (pt_val (pe_call (ok_is_whole T) hr (by rfl) T.g_is_whole T.F_is_whole.kp T.b_is_whole .nil pass0 (pa_cons (pv 3) pa_nil)))) (pw_or1 (pt_not (pt_chain op_le op_lt pe_int (pv 3) (pv 2)))))) (pss_one (ps_ret pe_bl)) pss_nil)))
      (pss_one (ps_ret pe_bl)))), ?_⟩
    refine ⟨_, rfl, _, _, _, _, _, rfl, .ty _, ty, kt, _, rfl, ?_⟩
    cases hi : d.isTup with
    | false =>
      refine iteT (iteT ?_)
      have e : d.isCont ss = false := by cases d <;> first | rfl | cases hi
      have q' := q H (Same.refl H)
      rw [e] at q'
      exact q'
    | true =>
      refine iteF ?_
      cases d with
      | tup xs =>
        obtain ⟨a, vs, rfl, hs, ha⟩ := h.tup_inv
        refine ⟨_, rfl, a, vs, rfl, .inr hs, _, rfl, p, _, rfl, hp.any, rfl, _, rfl, ?_⟩
        have el : decide (V.int (vs.length : Int) = V.int ((ss.map V.int).length : Int)) = (xs.length == ss.length) := by
          rw [dec_int, ha.length, List.length_map, Bool.eq_iff_iff]
          simp
          omega
        have eq0 : (Dt.tup xs).isCont ss = (xs.length == ss.length && contGo ss xs) := rfl
        rw [eq0] at q
        rw [el]
        cases hl : xs.length == ss.length with
        | false =>
          refine iteT ?_
          rw [hl] at q
          exact q H (Same.refl H)
        | true =>
          refine iteF ?_
          rw [hl, Bool.true_and] at q
          have hlen : xs.length = ss.length := by simpa using hl
          refine ⟨_, rfl, _, rfl, L, p, a, ss.map V.int, vs, rfl, hp, hs, for_zipM (fun i σ H' => ∃ y2 y3, σ = [some (.ref p), some (.ref a), y2, y3] ∧ Same H H' ∧ contGo ss xs = contGo (ss.drop i) (xs.drop i))
            ⟨none, none, rfl, Same.refl H, rfl⟩ (fun i σ H' ⟨_, _, _, sm, _⟩ => ⟨Ext.sqTs sm hp, (Ext.of sm).sqT hs⟩) ?_ ?_⟩
          · rintro i x y Tp σ H' hx hy ⟨y2, y3, rfl, sm, e⟩ nT
            obtain ⟨n, rfl, hn⟩ := int_at hx
            obtain ⟨dx, hdx, hx2⟩ := ha.get hy
            rw [drop_at hn, drop_at hdx] at e
            refine ⟨Tp, [_, y], rfl, SqT.of upd_same, rfl, _, [y], rfl, y, [], rfl, rfl, ?_⟩
            have s1 : Same H (upd H' Tp (.tup [V.int n, y])) := sm.trans (same_new nT)
            refine ⟨_, rfl, spD_bl (.cons (hx2.ext (.of s1)) .nil) rfl fun H1 s2 => ⟨_, rfl, ?_⟩⟩
            cases hw : dx.isW with
            | false =>
              refine iteT (iteT ?_)
              have z : contGo ss xs = false := by
                rw [e]
                cases dx <;> first | rfl | cases hw
              rw [z] at q
              exact q H1 (s1.trans s2)
            | true =>
              refine iteF ?_
              cases dx with
              | int c =>
                cases hx2
                have e' : contGo ss xs = if 0 ≤ c ∧ c < n then contGo (ss.drop (i + 1)) (xs.drop (i + 1)) else false := e
                refine ⟨_, rfl, _, _, rfl, rfl, _, rfl, ?_⟩
                refine ite2 (fun h1 => ?_) (fun h1 => ?_)
                · refine ⟨_, rfl, _, _, rfl, rfl, _, rfl, ?_⟩
                  refine ite2 (fun h2 => ?_) (fun h2 => ?_)
                  · have n2 : ¬ c < n := by simpa using h2
                    rw [if_neg fun z => n2 z.2] at e'
                    rw [e'] at q
                    exact q H1 (s1.trans s2)
                  · have y2 : c < n := by simpa using h2
                    rw [if_pos ⟨of_decide_eq_true h1, y2⟩] at e'
                    exact ⟨_, _, rfl, s1.trans s2, e'⟩
                · refine ⟨_, rfl, iteT ?_⟩
                  rw [if_neg fun z => h1 (decide_eq_true z.1)] at e'
                  rw [e'] at q
                  exact q H1 (s1.trans s2)
              | _ => cases hw
          · rintro σ H' ⟨y2, y3, rfl, sm, e⟩
            have z : contGo ss xs = true := by
              rw [e, List.drop_eq_nil_of_le (as := ss) (by have := ha.length; rw [List.length_map]; omega)]
              rfl
            rw [z] at q
            exact q H' sm
      | _ => cases hi
def sizeGo : Int → List Dt → Option Int
  | m, [] => some m
  | m, .int c :: r => if 2 ≤ c ∧ c ≤ 4 then sizeGo (m * c) r else none
  | _, _ :: _ => none
def Dt.isSizes : Dt → Bool
  | .tup ds => if 1 ≤ ds.length ∧ ds.length ≤ 5 then (match sizeGo 1 ds with | some m => decide (m ≤ 256) | none => false) else false
  | _ => false
def m_is_sizes : List Dt → Option Dt
  | [d] => some (.bl d.isSizes)
  | _ => none
theorem ok_is_sizes (T : Txt K mg) : FnOk P w K mg base CX0 2 T.f_is_sizes T.d_is_sizes ["thing"] (spD K m_is_sizes) := by
  refine T.F_is_sizes.ok sc_is_sizes (fun vs H Q E h => ?_) (fun cdv A outer s H vs Q E hr h => ?_)
  · obtain ⟨ds, r, hd, e, _⟩ := h
    exact match ds, e, hd with | [_], _, hd => hd.length
  · obtain ⟨ds, r, hd, e, q⟩ := h
    match ds, e, hd, q with
    | [d], e, .cons h .nil, q =>
      cases e
      have q : ∀ H', Same H H' → Q (.bl d.isSizes) H' := fun H' s => q _ H' s (.bl _)
      obtain ⟨t, ty, ki, kt, kb⟩ := h.kinds
      refine ⟨_, (pss_cons (ps_if (PW.pt (pw_or (pt_not (pt_val (pe_callB (call_isiK' K) (by rfl) T.z_isinstance (by decide +kernel) (pa_cons (pv 0) (pa_cons (pe_bltn (v := .ty "tuple") (by rfl) T.z_tuple (by decide +kernel) rfl) pa_nil))))) (pw_or1 (pt_not (pt_chain op_le op_le pe_int (pe_callB (call_lenK K) (by rfl) T.z_len PySem.boot_len (pa_cons (pv 0) pa_nil)) (pe_glob (by rfl) T.k_MOST_COLUMNS.1 T.k_MOST_COLUMNS.2)))))) (pss_one (ps_ret pe_bl)) pss_nil)
      (pss_cons (ps_set (i := 1) sc_is_sizes.nd rfl (.inl rfl) pe_int)
      (pss_cons (ps_for PassesOwn.never rfl (pi_tupK K (pv 0)) (pg_name (i := 2) sc_is_sizes.nd rfl (.inl rfl)) (pss_cons (ps_if (PW.pt (pw_or (pt_not (pt_val (pe_call (ok_is_whole T) hr (by rfl) T.g_is_whole T.F_is_whole.kp T.b_is_whole .nil pass0 (pa_cons (pv 2) pa_nil)))) (pw_or1 (pt_not (pt_chain op_le op_le (pe_glob (by rfl) T.k_LEAST_SIZE.1 T.k_LEAST_SIZE.2) (pv 2) (pe_glob (by rfl) T.k_MOST_SIZE.1 T.k_MOST_SIZE.2)))))) (pss_one (ps_ret pe_bl)) pss_nil)
      (pss_one (ps_set (i := 1) sc_is_sizes.nd rfl (.inl rfl) (pe_op op_mul (pv 1) (pv 2))))))
      (pss_one (ps_ret (pe_cmpR op_le (pv 1) (pe_glob (by rfl) T.k_MOST_CONTENTS.1 T.k_MOST_CONTENTS.2) (nomark _))))))), ?_⟩
      refine ⟨_, rfl, _, _, _, _, _, rfl, .ty _, ty, kt, _, rfl, ?_⟩
      cases hi : d.isTup with
      | false =>
        refine iteT (iteT ?_)
        have e : d.isSizes = false := by cases d <;> first | rfl | cases hi
        rw [e] at q
        exact q H (Same.refl H)
      | true =>
        refine iteF ?_
        cases d with
        | tup xs =>
          obtain ⟨a, vs, rfl, hs, ha⟩ := h.tup_inv
          have eq0 : (Dt.tup xs).isSizes = if 1 ≤ xs.length ∧ xs.length ≤ 5 then (match sizeGo 1 xs with | some m => decide (m ≤ 256) | none => false) else false := rfl
          rw [eq0] at q
          have hl := ha.length
          refine ⟨_, rfl, a, vs, rfl, .inr hs, _, _, rfl, rfl, _, rfl, ?_⟩
          have out : ¬ (1 ≤ xs.length ∧ xs.length ≤ 5) → Q (.bl false) H := fun n => by
            rw [if_neg n] at q
            exact q H (Same.refl H)
          refine ite2 (fun h1 => ?_) (fun h1 => ?_)
          · have h1' : (1 : Int) ≤ vs.length := of_decide_eq_true h1
            refine ⟨_, _, rfl, rfl, _, rfl, ?_⟩
            refine ite2 (fun h2 => ?_) (fun h2 => ?_)
            · have n2 : ¬ (vs.length : Int) ≤ 5 := by simpa using h2
              exact out fun z => n2 (by omega)
            · have h2' : (vs.length : Int) ≤ 5 := by simpa using h2
              have hin : 1 ≤ xs.length ∧ xs.length ≤ 5 := ⟨by omega, by omega⟩
              rw [if_pos hin] at q
              refine ⟨_, rfl, a, rfl, ⟨_, hs⟩, for_tup (xs := vs) (fun i σ H' => ∃ (m : Int) (c : Option V), σ = [some (.ref a), some (.int m), c] ∧ Same H H' ∧ sizeGo 1 xs = sizeGo m (xs.drop i))
                ⟨1, none, rfl, Same.refl H, rfl⟩ (fun i σ H' _ ⟨_, _, _, sm, _⟩ => (Ext.of sm).sqT hs) ?_ ?_⟩
              · rintro i x σ H' hx ⟨m, c, rfl, sm, e⟩
                obtain ⟨dx, hdx, hx2⟩ := ha.get hx
                rw [drop_at hdx] at e
                refine ⟨_, rfl, spD_bl (.cons (hx2.ext (.of sm)) .nil) rfl fun H1 s1 => ⟨_, rfl, ?_⟩⟩
                have bad : sizeGo m (dx :: xs.drop (i + 1)) = none → Q (.bl false) H1 := fun z => by
                  rw [e, z] at q
                  exact q H1 (sm.trans s1)
                cases hw : dx.isW with
                | false =>
                  refine iteT (iteT ?_)
                  exact bad (by cases dx <;> first | rfl | cases hw)
                | true =>
                  refine iteF ?_
                  cases dx with
                  | int c =>
                    cases hx2
                    have e' : sizeGo m (Dt.int c :: xs.drop (i + 1)) = if 2 ≤ c ∧ c ≤ 4 then sizeGo (m * c) (xs.drop (i + 1)) else none := rfl
                    refine ⟨_, rfl, _, _, rfl, rfl, _, rfl, ?_⟩
                    refine ite2 (fun h1 => ?_) (fun h1 => ?_)
                    · refine ⟨_, _, rfl, rfl, _, rfl, ?_⟩
                      refine ite2 (fun h2 => ?_) (fun h2 => ?_)
                      · have n2 : ¬ c ≤ 4 := by simpa using h2
                        exact bad (by rw [e', if_neg fun z => n2 z.2])
                      · have y2 : c ≤ 4 := by simpa using h2
                        have y1 : 2 ≤ c := of_decide_eq_true h1
                        refine ⟨_, rfl, _, rfl, _, _, rfl, rfl, .inr ⟨by omega, by omega⟩, ?_⟩
                        refine ⟨_, _, rfl, sm.trans s1, ?_⟩
                        rw [e, e', if_pos ⟨y1, y2⟩]
                    · refine ⟨_, rfl, iteT ?_⟩
                      exact bad (by rw [e', if_neg fun z => h1 (decide_eq_true z.1)])
                  | _ => cases hw
              · rintro σ H' ⟨m, c, rfl, sm, e⟩
                rw [List.drop_eq_nil_of_le (as := xs) (by omega)] at e
                have e2 : sizeGo 1 xs = some m := e
                rw [e2] at q
                exact ⟨_, rfl, _, _, rfl, rfl, q H' sm⟩
          · refine ⟨_, rfl, iteT ?_⟩
            exact out fun z => h1 (decide_eq_true (by omega))
        | _ => cases hi
/-! ### contents -/
theorem ints_dh {K : PySem.W.Frag} {H : Hp} : ∀ c : List Int, DhAll K H (c.map V.int) (c.map Dt.int)
  | [] => .nil
  | i :: r => .cons (.int i) (ints_dh r)
theorem dh_ints {K : PySem.W.Frag} {H : Hp} : ∀ {vs : List V} (c : List Int), DhAll K H vs (c.map Dt.int) → vs = c.map V.int
  | [], [], _ => rfl
  | v :: vs, i :: r, .cons h t => by rw [h.int_inv, dh_ints r t]; rfl
def ctD (c : List Int) : Dt := .tup (c.map Dt.int)
theorem dh_ct {K : PySem.W.Frag} {H : Hp} {a : Addr} {c : List Int} (h : SqT K H a (c.map V.int)) : Dh K H (.ref a) (ctD c) := .tup h (ints_dh c)
theorem ct_inv {K : PySem.W.Frag} {H : Hp} {v : V} {c : List Int} (h : Dh K H v (ctD c)) : ∃ a, v = .ref a ∧ SqT K H a (c.map V.int) := by
  obtain ⟨a, xs, rfl, s, t⟩ := h.tup_inv
  rw [dh_ints c t] at s
  exact ⟨a, rfl, s⟩
def ext (n : Nat) (c : List Int) : List (List Int) := (List.range n).map fun (w : Nat) => c ++ [(w : Int)]
theorem ext_succ (n : Nat) (c : List Int) : ext (n + 1) c = ext n c ++ [c ++ [(n : Int)]] := by
  unfold ext
  rw [List.range_succ, List.map_append]
  rfl
theorem ext_len (n : Nat) (c : List Int) : (ext n c).length = n := by simp [ext]
theorem flat_len (n : Nat) : ∀ l : List (List Int), (l.flatMap (ext n)).length = l.length * n
  | [] => by simp
  | c :: r => by rw [List.flatMap_cons, List.length_append, ext_len, flat_len n r, List.length_cons, Nat.add_mul, Nat.one_mul, Nat.add_comm]
def stepC (found : List (List Int)) (s : Int) : List (List Int) := found.flatMap (ext s.toNat)
def allC (ss : List Int) : List (List Int) := ss.foldl stepC [[]]
theorem allC_snoc (ss : List Int) (s : Int) : allC (ss ++ [s]) = stepC (allC ss) s := by
  unfold allC
  rw [List.foldl_append]
  rfl
/-- how far a comprehension has come: i lists wholly, of the next one j items -/
def upTo (cs : List (List Int)) (n i j : Nat) : List (List Int) := (cs.take i).flatMap (ext n) ++ match cs[i]? with
  | some c => ext j c
  | none => []
theorem upTo_step {cs : List (List Int)} {n i j : Nat} {c : List Int} (h : cs[i]? = some c) : upTo cs n i (j + 1) = upTo cs n i j ++ [c ++ [(j : Int)]] := by
  unfold upTo
  rw [h]
  dsimp only
  rw [ext_succ, List.append_assoc]
theorem upTo_next {cs : List (List Int)} {n i : Nat} {c : List Int} (h : cs[i]? = some c) : upTo cs n i n = upTo cs n (i + 1) 0 := by
  have e0 : (match cs[i + 1]? with
      | some c => ext 0 c
      | none => []) = [] := by
    cases cs[i + 1]? <;> rfl
  unfold upTo
  rw [e0, h, List.take_add_one, h]
  simp
theorem upTo_end {cs : List (List Int)} {n : Nat} : upTo cs n cs.length 0 = cs.flatMap (ext n) := by
  unfold upTo
  rw [List.getElem?_eq_none (Nat.le_refl _), List.take_length]
  simp
theorem upTo_zero {cs : List (List Int)} {n : Nat} : upTo cs n 0 0 = [] := by
  unfold upTo
  cases cs[0]? <;> rfl
theorem upTo_len {cs : List (List Int)} {n i j : Nat} : (upTo cs n i j).length ≤ cs.length * n + j := by
  unfold upTo
  rw [List.length_append, flat_len, List.length_take]
  have h1 : min i cs.length * n ≤ cs.length * n := Nat.mul_le_mul_right _ (Nat.min_le_right _ _)
  cases cs[i]? with
  | none => simp; omega
  | some c =>
    dsimp only
    rw [ext_len]
    omega
def SizesOk (ss : List Int) : Prop := (Dt.tup (ss.map Dt.int)).isSizes = true
theorem sizeGo_mem : ∀ (m : Int) (ss : List Int) (r : Int), sizeGo m (ss.map Dt.int) = some r → ∀ s ∈ ss, 2 ≤ s ∧ s ≤ 4
  | _, [], _, _ => fun _ h => by simp at h
  | m, c :: ss, r, h => fun s hs => by
    have h' : (if 2 ≤ c ∧ c ≤ 4 then sizeGo (m * c) (ss.map Dt.int) else none) = some r := h
    by_cases hc : 2 ≤ c ∧ c ≤ 4
    · rw [if_pos hc] at h'
      rcases List.mem_cons.mp hs with e | e
      · rw [e]
        exact hc
      · exact sizeGo_mem _ ss r h' s e
    · rw [if_neg hc] at h'
      cases h'
theorem SizesOk.facts {ss : List Int} (h : SizesOk ss) : 1 ≤ ss.length ∧ ss.length ≤ 5 ∧ ∀ s ∈ ss, 2 ≤ s ∧ s ≤ 4 := by
  have h' : (if 1 ≤ (ss.map Dt.int).length ∧ (ss.map Dt.int).length ≤ 5 then (match sizeGo 1 (ss.map Dt.int) with
    | some m => decide (m ≤ 256)
    | none => false) else false) = true := h
  rw [List.length_map] at h'
  by_cases hl : 1 ≤ ss.length ∧ ss.length ≤ 5
  · rw [if_pos hl] at h'
    cases e : sizeGo 1 (ss.map Dt.int) with
    | none =>
      rw [e] at h'
      cases h'
    | some m => exact ⟨hl.1, hl.2, sizeGo_mem 1 ss m e⟩
  · rw [if_neg hl] at h'
    cases h'
theorem allC_len {ss : List Int} (h : ∀ s ∈ ss, s ≤ 4) : ∀ i, (allC (ss.take i)).length ≤ 4 ^ i ∧ ∀ c ∈ allC (ss.take i), c.length ≤ i
  | 0 => ⟨by simp [allC], by simp [allC]⟩
  | i + 1 => by
    obtain ⟨h1, h2⟩ := allC_len h i
    cases e : ss[i]? with
    | none =>
      have e' : ss.take (i + 1) = ss.take i := by rw [List.take_add_one, e]; simp
      rw [e']
      exact ⟨Nat.le_trans h1 (Nat.pow_le_pow_right (by decide) (Nat.le_succ i)), fun c hc => Nat.le_succ_of_le (h2 c hc)⟩
    | some s =>
      have e' : ss.take (i + 1) = ss.take i ++ [s] := by rw [List.take_add_one, e]; rfl
      have hs : s ≤ 4 := h s (List.mem_of_getElem? e)
      rw [e', allC_snoc]
      unfold stepC
      refine ⟨?_, fun c hc => ?_⟩
      · rw [flat_len, Nat.pow_succ]
        exact Nat.mul_le_mul h1 (by omega)
      · obtain ⟨b, hb, hc⟩ := List.mem_flatMap.mp hc
        obtain ⟨w, _, rfl⟩ := List.mem_map.mp hc
        rw [List.length_append]
        exact Nat.add_le_add_right (h2 b hb) 1
theorem allC_all {ss : List Int} (h : SizesOk ss) : (allC ss).length ≤ 1024 ∧ ∀ c ∈ allC ss, c.length ≤ 5 := by
  obtain ⟨_, h5, hm⟩ := h.facts
  have q := allC_len (fun s hs => (hm s hs).2) ss.length
  rw [List.take_length] at q
  refine ⟨Nat.le_trans q.1 (Nat.pow_le_pow_right (by decide) h5), fun c hc => Nat.le_trans (q.2 c hc) h5⟩
theorem map_at {α β : Type} {l : List α} {f : α → β} {i : Nat} {y : β} (h : (l.map f)[i]? = some y) : ∃ x, l[i]? = some x ∧ f x = y := by
  rw [List.getElem?_map] at h
  cases e : l[i]? with
  | none =>
    rw [e] at h
    cases h
  | some x =>
    rw [e] at h
    exact ⟨x, rfl, Option.some.inj h⟩
theorem sz_small {n : Nat} (h : n ≤ 100000) : n < sizeLine := Nat.lt_of_le_of_lt h (by decide)
theorem Same.put {H0 H : Hp} {D : Addr} {o : HO} (h : H0 D = none) (s : Same H0 H) : Same H0 (upd H D o) := fun b x e => by
  rw [upd_ne (ne_of_none e h)]
  exact s b x e
/-- the list that is made at D is no part of what stood before -/
theorem Ext.put {H : Hp} {D : Addr} {xs ys : List V} (h : H D = some (.lst xs)) : Ext H (upd H D (.lst ys)) := fun b o e => by
  by_cases hb : b = D
  · subst hb
    rw [h] at e
    cases e
    exact .inr ⟨⟨xs, rfl⟩, ys, upd_same⟩
  · rw [upd_ne hb]
    exact .inl e
/-- content + (worth,) -/
theorem cat_ct {K : PySem.W.Frag} {H : Hp} {Q : VK} {x : V} {c : List Int} {j : Int} (hc : Dh K H x (ctD c)) (hl : c.length ≤ 1000) {r : Addr} (hr : H r = some (.tup [.int j]))
    (q : ∀ v H', Same H H' → Dh K H' v (ctD (c ++ [j])) → Q v H') : rCatA K x (.ref r) H Q := by
  obtain ⟨a, rfl, s⟩ := ct_inv hc
  refine ⟨a, r, _, _, rfl, rfl, s, SqT.of hr, ?_, fun e => ?_, fun _ e => (nomatch e), fun _ _ p hp => ?_⟩
  · rw [List.length_map]
    exact Nat.le_of_lt (sz_small (by show c.length + 1 ≤ 100000; omega))
  · have e0 : c = [] := List.map_eq_nil_iff.mp e
    subst e0
    exact q _ _ (Same.refl H) (dh_ct (c := [j]) (SqT.of hr))
  · refine q _ _ (same_new hp) (dh_ct ?_)
    rw [List.map_append]
    exact SqT.of upd_same
def spAll (K : PySem.W.Frag) : Sp := fun vs H Q _ => ∃ (a : Addr) (ss : List Int), vs = [.ref a] ∧ SqT K H a (ss.map V.int) ∧ SizesOk ss ∧ ∀ p xs H', H p = none → Same H H' → H' p = some (.lst xs) → DhAll K H' xs ((allC ss).map ctD) → Q (.ref p) H'
theorem ok_all_contents (T : Txt K mg) : FnOk P w K mg base CX0 1 T.f_all_contents T.d_all_contents ["sizes"] (spAll K) := by
  refine T.F_all_contents.ok sc_all_contents (fun vs H Q E h => ?_) (fun cdv A outer s H vs Q E hr h => ?_)
  · obtain ⟨_, _, rfl, _⟩ := h
    rfl
  · obtain ⟨a, ss, rfl, hs, ok, q⟩ := h
    obtain ⟨_, h5, hm⟩ := ok.facts
    refine ⟨_, (pss_cons (ps_set (i := 1) sc_all_contents.nd rfl (.inl rfl) (pe_lst (pa_cons (pe_tup pa_nil) pa_nil)))
      (pss_cons (ps_for PassesOwn.never rfl (pi_tupK K (pv 0)) (pg_name (i := 2) sc_all_contents.nd rfl (.inr rfl)) (pss_one (ps_setLc2 (i := 1) (own := [("content", 3), ("worth", 4)]) (vs1 := [4]) rfl sc_all_contents.nd rfl rfl (sw_true rfl rfl rfl (by decide +kernel)) (pi_listK K (pv 1)) (blkOk_by (N := N_all_contents) (sc := defScope s_all_contents) (by decide +kernel)) (by decide) (fun _ _ _ _ _ => (pg_name (i := 3) sc_all_contents.nd rfl (.inl rfl))) (fun _ _ _ _ _ => pts_nil) (fun _ _ _ _ _ => (pi_range1 (by rfl) T.z_range (pa_cons (pv 2) pa_nil))) (fun _ _ _ _ _ => (pg_name (i := 4) sc_all_contents.nd rfl (.inl rfl))) (fun _ _ _ _ _ => pts_nil) (fun _ _ _ _ _ => (pe_op (op_catK K) (pv 3) (pe_tup (pa_cons (pv 4) pa_nil)))))))
      (pss_one (ps_ret (pv 1))))), ?_⟩
    refine ⟨Nat.zero_le _, fun t0 n0 => ⟨by show 1 ≤ sizeLine; decide, fun f0 nf0 => ?_⟩⟩
    have s1 : Same H (upd H t0 (.tup [])) := same_new n0
    have s2 : Same H (upd (upd H t0 (.tup [])) f0 (.lst [.ref t0])) := s1.trans (same_new nf0)
    refine ⟨_, rfl, a, rfl, ⟨_, (Ext.of s2).sqT hs⟩, for_tup (xs := ss.map V.int) (fun i σ H' => ∃ (f : Addr) (xs : List V) (y2 y3 y4 : Option V), σ = [some (.ref a), some (.ref f), y2, y3, y4] ∧ Same H H' ∧ H f = none ∧ H' f = some (.lst xs) ∧ DhAll K H' xs ((allC (ss.take i)).map ctD))
      ⟨f0, [.ref t0], none, none, none, rfl, s2, s1.free nf0, upd_same, .cons (dh_ct (c := []) (SqT.of ?_)) .nil⟩ (fun i σ H' _ ⟨_, _, _, _, _, _, sm, _⟩ => (Ext.of sm).sqT hs) ?_ ?_⟩
    · rw [upd_ne (fun e => by rw [e, upd_same] at nf0; cases nf0), upd_same]
      rfl
    · rintro i x σ H' hx ⟨f, xs, y2, y3, y4, rfl, sm, nf, hf, hall⟩
      obtain ⟨z, rfl, hz⟩ := int_at hx
      obtain ⟨z2, z4⟩ := hm z (List.mem_of_getElem? hz)
      obtain ⟨n, rfl⟩ : ∃ n : Nat, z = (n : Int) := ⟨z.toNat, by omega⟩
      have hi : i < ss.length := (List.getElem?_eq_some_iff.mp hz).1
      have etake : ss.take (i + 1) = ss.take i ++ [(n : Int)] := by rw [List.take_add_one, hz]; rfl
      generalize hcs : allC (ss.take i) = cs at hall
      have hlen := hall.length
      rw [List.length_map] at hlen
      have hb := allC_len (fun s hs => (hm s hs).2) i
      rw [hcs] at hb
      have hcl : cs.length ≤ 1024 := Nat.le_trans hb.1 (Nat.pow_le_pow_right (by decide) (by omega : i ≤ 5))
      refine ⟨.ref f, rfl, f, rfl, ⟨xs, SqL.of hf⟩, fun D hD => lc2_lr (K := K) (xs := xs) (n := n) (fun i j H2 => ∃ acc, Same H' H2 ∧ H2 D = some (.lst acc) ∧ DhAll K H2 acc ((upTo cs n i j).map ctD)) (by omega) (fun _ => rfl) (fun _ _ => rfl) ?_ ?_ ?_ ?_ ?_ ?_⟩
      · exact ⟨[], same_new hD, upd_same, by rw [upTo_zero]; exact .nil⟩
      · rintro i2 j2 H2 ⟨acc, s3, _⟩
        exact s3.seq (SqL.of hf)
      · intro i2 x H2 _ _ R hR
        exact ⟨_, rfl, hR⟩
      · rintro i2 j x H2 hx2 hj ⟨acc, s3, hD2, hacc⟩
        obtain ⟨d, hd, hxd⟩ := hall.get hx2
        obtain ⟨c, hc, rfl⟩ := map_at hd
        have hcm : c.length ≤ 1000 := Nat.le_trans (hb.2 c (List.mem_of_getElem? hc)) (by omega)
        refine ⟨x, rfl, .int (j : Int), rfl, by show 1 ≤ sizeLine; decide, fun r hr2 => cat_ct (K := K) (c := c) (j := (j : Int)) (hxd.ext (.of (s3.trans (same_new hr2)))) hcm upd_same fun v H3 s4 hv => ?_⟩
        have s5 : Same H2 H3 := (same_new hr2).trans s4
        have hal : acc.length ≤ 100000 := by
          have e1 := hacc.length
          have e2 := upTo_len (cs := cs) (n := n) (i := i2) (j := j)
          have e3 : cs.length * n ≤ 1024 * 4 := Nat.mul_le_mul hcl (by omega)
          rw [List.length_map] at e1
          omega
        refine ⟨acc, s5 _ _ hD2, sz_small hal, acc ++ [v], fun b o e => ?_, upd_same, ?_⟩
        · rw [upd_ne (ne_of_none e hD)]
          exact s5 _ _ (s3 _ _ e)
        · rw [upTo_step hc, List.map_append]
          exact ((hacc.ext (.of s5)).snoc hv).ext (Ext.put (s5 _ _ hD2))
      · rintro i2 H2 hi2 ⟨acc, s3, hD2, hacc⟩
        obtain ⟨c, hc⟩ : ∃ c, cs[i2]? = some c := ⟨cs[i2], List.getElem?_eq_getElem (by omega)⟩
        exact ⟨acc, s3, hD2, by rw [← upTo_next hc]; exact hacc⟩
      · rintro H2 ⟨acc, s3, hD2, hacc⟩
        refine ⟨D, acc, _, _, _, rfl, sm.trans s3, sm.free hD, hD2, ?_⟩
        rw [hlen, upTo_end] at hacc
        rw [etake, allC_snoc, hcs]
        exact hacc
    · rintro σ H' ⟨f, xs, y2, y3, y4, rfl, sm, nf, hf, hall⟩
      rw [List.length_map, List.take_length] at hall
      exact ⟨.ref f, rfl, q f xs H' nf sm hf hall⟩
/-! ### cells picked, boxes judged -/
def picks (ps c : List Int) : List Int := ps.map fun p => c.getD p.toNat 0
theorem picks_len (ps c : List Int) : (picks ps c).length = ps.length := List.length_map _
def InR (ps : List Int) (n : Int) : Prop := ∀ p ∈ ps, 0 ≤ p ∧ p < n
theorem pick_at {ps c : List Int} {i : Nat} {p : Int} (h : ps[i]? = some p) (hr : InR ps c.length) : atI (c.map V.int) p = some (.int (c.getD p.toNat 0)) ∧ (picks ps c).take (i + 1) = (picks ps c).take i ++ [c.getD p.toNat 0] := by
  obtain ⟨h0, h1⟩ := hr p (List.mem_of_getElem? h)
  have hl : p.toNat < c.length := by omega
  have e : c[p.toNat]? = some (c.getD p.toNat 0) := by
    rw [List.getD_eq_getElem?_getD, List.getElem?_eq_getElem hl]
    rfl
  refine ⟨at_of (j := p.toNat) (by omega) ?_, ?_⟩
  · rw [List.getElem?_map, e]
    rfl
  · have e2 : (picks ps c)[i]? = some (c.getD p.toNat 0) := by
      unfold picks
      rw [List.getElem?_map, h]
      rfl
    rw [List.take_add_one, e2]
    rfl
/-- [t[x] for x in ps] -/
theorem lc_pick {H : Hp} {σ : L2.St} {Q : VK} {a b : Addr} {ps cs : List Int} {kx kc : Nat} {tp : TE} (htp : ∀ R : VK, R (.ref a) H → tp σ H R) (ha : SqT K H a (ps.map V.int)) (hb : SqT K H b (cs.map V.int)) (hr : InR ps cs.length) (hl : ps.length ≤ 1000)
    (hw : ∀ x, wipe ((wipe σ [kx]).set kx (some x)) [kx] = wipe σ [kx]) (hc : ∀ x : V, ((wipe σ [kx]).set kx (some x))[kc]? = some (some (.ref b))) (hx : ∀ x : V, ((wipe σ [kx]).set kx (some x))[kx]? = some (some x))
    (q : ∀ D H', H D = none → Same H H' → H' D = some (.lst ((picks ps cs).map V.int)) → Q (.ref D) H') :
    tLc (iTup K tp) (gName kx) tYes (tOp (rIxT K) (tVar kc) (tVar kx)) [kx] σ H Q := by
  refine htp _ ⟨a, rfl, ⟨_, ha⟩, fun D hD => lc_tup (K := K) (xs := ps.map V.int) (fun i H' => Same H H' ∧ H' D = some (.lst (((picks ps cs).take i).map V.int))) ⟨same_new hD, upd_same⟩ (fun i H' _ p => (Ext.of p.1).sqT ha) ?_ ?_⟩
  · rintro i x H' hi ⟨sm, hDl⟩
    obtain ⟨p, rfl, hp⟩ := int_at hi
    obtain ⟨e1, e2⟩ := pick_at hp hr
    refine ⟨hw _, ?_⟩
    dsimp only [tYes]
    rw [if_pos rfl]
    refine ⟨_, hc _, _, hx _, b, _, p, _, rfl, rfl, (Ext.of sm).sqT hb, e1, _, hDl, ?_, fun c o e => ?_, ?_⟩
    · rw [List.length_map, List.length_take]
      exact sz_small (by have := picks_len ps cs; omega)
    · rw [upd_ne (ne_of_none e hD)]
      exact sm _ _ e
    · rw [upd_same, e2, List.map_append]
      rfl
  · rintro H' ⟨sm, hDl⟩
    rw [List.length_map, ← picks_len ps cs, List.take_length] at hDl
    exact q D H' hD sm hDl
def spPick (K : PySem.W.Frag) : Sp := fun vs H Q _ => ∃ (ps cs : List Int) (v1 v2 : V), vs = [v1, v2] ∧ Dh K H v1 (ctD ps) ∧ Dh K H v2 (ctD cs) ∧ InR ps cs.length ∧ ps.length ≤ 1000 ∧ ∀ v H', Same H H' → Dh K H' v (ctD (picks ps cs)) → Q v H'
theorem ok_worths_at (T : Txt K mg) : FnOk P w K mg base CX0 1 T.f_worths_at T.d_worths_at ["pattern", "content"] (spPick K) := by
  refine T.F_worths_at.ok sc_worths_at (fun vs H Q E h => ?_) (fun cdv A outer s H vs Q E hr h => ?_)
  · obtain ⟨_, _, _, _, rfl, _⟩ := h
    rfl
  · obtain ⟨ps, cs, v1, v2, rfl, h1, h2, hin, hl, q⟩ := h
    obtain ⟨a, rfl, ha⟩ := ct_inv h1
    obtain ⟨b, rfl, hb⟩ := ct_inv h2
    refine ⟨_, (pss_one (ps_ret (pe_callTy (call_tupleK K) (by rfl) T.z_tuple (by decide +kernel) (pa_cons (pe_lc (own := [("column", 2)]) rfl sc_worths_at.nd (pi_tupK K (pv 0)) (blkOk_by (N := N_worths_at) (sc := defScope s_worths_at) (by decide +kernel)) (fun _ _ _ _ _ => (pg_name (i := 2) sc_worths_at.nd rfl (.inl rfl))) (fun _ _ _ _ _ => pts_nil) (fun _ _ _ _ _ => (pe_ix (ix_tupK K) (pv 1) (pv 2) (fun _ _ => rfl)))) pa_nil)))), ?_⟩
    dsimp only [tRet, tCB, tCons]
    refine lc_pick (K := K) (kx := 2) (kc := 1) (tp := tVar 0) (σ := [some (.ref a), some (.ref b), none]) (fun R hR => ⟨_, rfl, hR⟩) ha hb hin hl (fun _ => rfl) (fun _ => rfl) (fun _ => rfl) fun D H' hD sm hDl => ?_
    exact ⟨D, _, rfl, .inl ⟨SqL.of hDl, fun l hl2 => q _ _ (sm.trans (same_new hl2)) (dh_ct (SqT.of upd_same))⟩⟩
/-- ascending columns above l, below n -/
def Asc (n : Int) : Int → List Int → Prop
  | _, [] => True
  | l, c :: r => l < c ∧ c < n ∧ Asc n c r
theorem patGo_asc {n : Int} : ∀ {l : Int} {ds : List Dt}, patGo n l ds = true → ∃ ps, ds = ps.map Dt.int ∧ Asc n l ps
  | _, [], _ => ⟨[], rfl, True.intro⟩
  | l, .int c :: r, h => by
    have h' : (if l < c ∧ c < n then patGo n c r else false) = true := h
    by_cases hc : l < c ∧ c < n
    · rw [if_pos hc] at h'
      obtain ⟨ps, rfl, ha⟩ := patGo_asc h'
      exact ⟨c :: ps, rfl, hc.1, hc.2, ha⟩
    · rw [if_neg hc] at h'
      cases h'
  | _, .non :: _, h => by cases h
  | _, .bl _ :: _, h => by cases h
  | _, .str _ :: _, h => by cases h
  | _, .tup _ :: _, h => by cases h
  | _, .oth _ :: _, h => by cases h
theorem asc_patGo {n : Int} : ∀ {l : Int} {ps : List Int}, Asc n l ps → patGo n l (ps.map Dt.int) = true
  | _, [], _ => rfl
  | l, c :: r, ⟨h1, h2, h3⟩ => by
    show (if l < c ∧ c < n then patGo n c (r.map Dt.int) else false) = true
    rw [if_pos ⟨h1, h2⟩]
    exact asc_patGo h3
theorem Asc.mem {n : Int} : ∀ {l : Int} {ps : List Int}, Asc n l ps → ∀ p ∈ ps, l < p ∧ p < n
  | l, c :: r, ⟨h1, h2, h3⟩, p, hp => by
    rcases List.mem_cons.mp hp with e | e
    · rw [e]
      exact ⟨h1, h2⟩
    · have := h3.mem p e
      omega
theorem Asc.inR {n : Int} {ps : List Int} (h : Asc n (-1) ps) : InR ps n := fun p hp => by
  have := h.mem p hp
  omega
theorem Asc.lenA {n : Int} : ∀ {l : Int} {ps : List Int}, Asc n l ps → l < n → (ps.length : Int) + l < n
  | l, [], _, h => by simpa using h
  | l, c :: r, ⟨h1, h2, h3⟩, _ => by
    have := h3.lenA h2
    rw [List.length_cons]
    omega
theorem Asc.len {n : Int} {ps : List Int} (h : Asc n (-1) ps) (hn : 0 ≤ n) : (ps.length : Int) ≤ n := by
  have := h.lenA (by omega)
  omega
def Dt.ints : Dt → List Int
  | .tup ds => ds.map fun d => match d with
    | .int i => i
    | _ => 0
  | _ => []
theorem ints_ct (c : List Int) : (ctD c).ints = c := by
  show (c.map Dt.int).map _ = c
  rw [List.map_map]
  conv => rhs; rw [← List.map_id c]
  rfl
theorem isPat_ct {n : Int} {d : Dt} (h : d.isPat n = true) : ∃ ps, d = ctD ps ∧ Asc n (-1) ps := by
  cases d with
  | tup ds =>
    obtain ⟨ps, rfl, a⟩ := patGo_asc (show patGo n (-1) ds = true from h)
    exact ⟨ps, rfl, a⟩
  | _ => cases h
def Dt.isBox (ss : List Int) : Dt → Bool
  | .tup [p, w] => p.isPat ss.length && w.isCont (picks p.ints ss)
  | _ => false
theorem dh_two {K : PySem.W.Frag} {H : Hp} {xs : List V} {d1 d2 : Dt} : DhAll K H xs [d1, d2] → ∃ v1 v2, xs = [v1, v2] ∧ Dh K H v1 d1 ∧ Dh K H v2 d2
  | .cons h1 (.cons h2 .nil) => ⟨_, _, rfl, h1, h2⟩
def spBox (K : PySem.W.Frag) : Sp := fun vs H Q _ => ∃ (a : Addr) (ss : List Int) (v : V) (d : Dt), vs = [.ref a, v] ∧ SqT K H a (ss.map V.int) ∧ ss.length ≤ 1000 ∧ Dh K H v d ∧ ∀ H', Same H H' → Q (.bl (d.isBox ss)) H'
theorem ok_is_box_of (T : Txt K mg) : FnOk P w K mg base CX0 3 T.f_is_box_of T.d_is_box_of ["sizes", "thing"] (spBox K) := by
  refine T.F_is_box_of.ok sc_is_box_of (fun vs H Q E h => ?_) (fun cdv A outer s H vs Q E hr h => ?_)
  · obtain ⟨_, _, _, _, rfl, _⟩ := h
    rfl
  · obtain ⟨a, ss, v, d, rfl, ha, hl, h, q⟩ := h
    refine ⟨_, (pss_cons (ps_if (pt_not (pt_val (pe_call (ok_is_pair T) (hr.mono (by decide)) (by rfl) T.g_is_pair T.F_is_pair.kp T.b_is_pair .nil pass0 (pa_cons (pv 1) pa_nil)))) (pss_one (ps_ret pe_bl)) pss_nil)
      (pss_cons (ps_asg (pv 1) (pg_tupK K (n := 2) rfl (pgs_cons (pg_name (i := 2) sc_is_box_of.nd rfl (.inl rfl)) (pgs_cons (pg_name (i := 3) sc_is_box_of.nd rfl (.inl rfl)) pgs_nil))))
      (pss_cons (ps_if (pt_not (pt_val (pe_call (ok_is_pattern T) hr (by rfl) T.g_is_pattern T.F_is_pattern.kp T.b_is_pattern .nil pass0 (pa_cons (pe_callB (call_lenK K) (by rfl) T.z_len PySem.boot_len (pa_cons (pv 0) pa_nil)) (pa_cons (pv 2) pa_nil))))) (pss_one (ps_ret pe_bl)) pss_nil)
      (pss_one (ps_ret (pe_call (ok_is_content T) hr (by rfl) T.g_is_content T.F_is_content.kp T.b_is_content .nil pass0 (pa_cons (pe_lc (own := [("column", 4)]) rfl sc_is_box_of.nd (pi_tupK K (pv 2)) (blkOk_by (N := N_is_box_of) (sc := defScope s_is_box_of) (by decide +kernel)) (fun _ _ _ _ _ => (pg_name (i := 4) sc_is_box_of.nd rfl (.inl rfl))) (fun _ _ _ _ _ => pts_nil) (fun _ _ _ _ _ => (pe_ix (ix_tupK K) (pv 0) (pv 4) (fun _ _ => rfl)))) (pa_cons (pv 3) pa_nil)))))))), ?_⟩
    refine ⟨_, rfl, spD_bl (.cons h .nil) rfl fun H1 s1 => ⟨_, rfl, ?_⟩⟩
    cases hp : d.isPair with
    | false =>
      refine iteT ?_
      have e : d.isBox ss = false := by
        cases d with
        | tup ds =>
          match ds, hp with
          | [], _ => rfl
          | [_], _ => rfl
          | [_, _], hp => cases hp
          | _ :: _ :: _ :: _, _ => rfl
        | _ => rfl
      rw [e] at q
      exact q H1 s1
    | true =>
      refine iteF ?_
      obtain ⟨d1, d2, rfl⟩ : ∃ d1 d2, d = .tup [d1, d2] := by
        cases d with
        | tup ds =>
          match ds, hp with
          | [d1, d2], _ => exact ⟨d1, d2, rfl⟩
          | [], hp => cases hp
          | [_], hp => cases hp
          | _ :: _ :: _ :: _, hp => exact absurd hp (by simp [Dt.isPair])
        | _ => cases hp
      obtain ⟨p, xs, rfl, hs, hall⟩ := (h.ext (.of s1)).tup_inv
      obtain ⟨v1, v2, rfl, h1, h2⟩ := dh_two hall
      · refine ⟨_, rfl, p, _, rfl, hs, rfl, v1, _, rfl, v2, _, rfl, rfl, ?_⟩
        refine ⟨_, rfl, a, _, rfl, .inr ((Ext.of s1).sqT ha), _, rfl, ?_⟩
        have eb : (Dt.tup [d1, d2]).isBox ss = (d1.isPat ss.length && d2.isCont (picks d1.ints ss)) := rfl
        rw [eb] at q
        refine spD_bl (.cons (.int _) (.cons h1 .nil)) rfl fun H2 s2 => ⟨_, rfl, ?_⟩
        rw [List.length_map]
        cases hpat : d1.isPat ss.length with
        | false =>
          refine iteT ?_
          rw [hpat] at q
          exact q H2 (s1.trans s2)
        | true =>
          refine iteF ?_
          rw [hpat, Bool.true_and] at q
          obtain ⟨ps, rfl, asc⟩ := isPat_ct hpat
          rw [ints_ct] at q
          obtain ⟨b, rfl, hb⟩ := ct_inv (h1.ext (.of s2))
          have hlen := asc.len (by omega)
          dsimp only [tNext, tRet, tCall, tCons]
          refine lc_pick (K := K) (kx := 4) (kc := 0) (tp := tVar 2) (σ := [some (.ref a), some (.ref p), some (.ref b), some v2, none]) (fun R hR => ⟨_, rfl, hR⟩) hb ((Ext.of (s1.trans s2)).sqT ha) asc.inR (by omega) (fun _ => rfl) (fun _ => rfl) (fun _ => rfl) fun D H3 hD s3 hDl => ?_
          exact ⟨_, rfl, true, D, _, _, d2, rfl, SqL.of hDl, h2.ext (.of (s2.trans s3)), fun H4 s4 => q H4 (((s1.trans s2).trans s3).trans s4)⟩
/-! ### data compared -/
abbrev ctP (c : List Int) : PyData := .tuple (c.map PyData.int)
def boxD (ps ws : List Int) : Dt := .tup [ctD ps, ctD ws]
abbrev boxP (ps ws : List Int) : PyData := .tuple [ctP ps, ctP ws]
abbrev ctsP (cs : List (List Int)) : PyData := .list (cs.map ctP)
theorem lay_all {α : Type} {f : α → PyData} {n : Nat} (h : ∀ x, (f x).canLay0 = true ∧ (f x).depth ≤ n) : ∀ l : List α, PyData.canLayAll0 (l.map f) = true ∧ PyData.depthAll (l.map f) ≤ n
  | [] => ⟨rfl, Nat.zero_le _⟩
  | x :: r => by
    obtain ⟨h1, h2⟩ := lay_all h r
    obtain ⟨h3, h4⟩ := h x
    refine ⟨?_, ?_⟩
    · show ((f x).canLay0 && PyData.canLayAll0 (r.map f)) = true
      rw [h1, h3]
      rfl
    · show max (f x).depth (PyData.depthAll (r.map f)) ≤ n
      exact Nat.max_le.mpr ⟨h4, h2⟩
theorem lay_ct (c : List Int) : (ctP c).canLay0 = true ∧ (ctP c).depth ≤ 1 := by
  obtain ⟨h1, h2⟩ := lay_all (f := PyData.int) (n := 0) (fun _ => ⟨rfl, Nat.le_refl _⟩) c
  exact ⟨h1, Nat.succ_le_succ h2⟩
theorem shaped_of {d : PyData} {n : Nat} (h : d.canLay0 = true ∧ d.depth ≤ n) (hn : n ≤ 64) : SeqAt.shaped d = true := by
  unfold SeqAt.shaped
  rw [h.1, decide_eq_true (Nat.le_trans h.2 hn)]
  rfl
theorem shaped_ct (c : List Int) : SeqAt.shaped (ctP c) = true := shaped_of (lay_ct c) (by decide)
theorem lay_box (ps ws : List Int) : (boxP ps ws).canLay0 = true ∧ (boxP ps ws).depth ≤ 2 := by
  obtain ⟨h1, h2⟩ := lay_all (f := fun c => ctP c) (n := 1) lay_ct [ps, ws]
  exact ⟨h1, Nat.succ_le_succ h2⟩
theorem shaped_box (ps ws : List Int) : SeqAt.shaped (boxP ps ws) = true := shaped_of (lay_box ps ws) (by decide)
theorem lay_cts (cs : List (List Int)) : (ctsP cs).canLay0 = true ∧ (ctsP cs).depth ≤ 2 := by
  obtain ⟨h1, h2⟩ := lay_all (f := fun c => ctP c) (n := 1) lay_ct cs
  exact ⟨h1, Nat.succ_le_succ h2⟩
theorem shaped_cts (cs : List (List Int)) : SeqAt.shaped (ctsP cs) = true := shaped_of (lay_cts cs) (by decide)
theorem eqv_all {α : Type} [DecidableEq α] {f : α → PyData} (h : ∀ x y, PyData.eqv (f x) (f y) = decide (x = y)) : ∀ l m : List α, PyData.eqvAll (l.map f) (m.map f) = decide (l = m)
  | [], [] => by simp [PyData.eqvAll]
  | [], _ :: _ => by simp [PyData.eqvAll]
  | _ :: _, [] => by simp [PyData.eqvAll]
  | x :: l, y :: m => by
    rw [List.map_cons, List.map_cons, PyData.eqvAll, h, eqv_all h l m]
    by_cases e1 : x = y <;> by_cases e2 : l = m <;> simp [e1, e2]
theorem eqv_ct (c d : List Int) : PyData.eqv (ctP c) (ctP d) = decide (c = d) := by
  rw [PyData.eqv]
  exact eqv_all (f := PyData.int) (fun x y => by rw [PyData.eqv]; by_cases e : x = y <;> simp [e]) c d
theorem eqv_cts (c d : List (List Int)) : PyData.eqv (ctsP c) (ctsP d) = decide (c = d) := by
  rw [PyData.eqv]
  exact eqv_all (f := fun c => ctP c) eqv_ct c d
theorem eqv_box (a b c d : List Int) : PyData.eqv (boxP a b) (boxP c d) = decide (a = c ∧ b = d) := by
  have q := eqv_all (f := fun c => ctP c) eqv_ct [a, b] [c, d]
  rw [PyData.eqv]
  refine Eq.trans q ?_
  by_cases e1 : a = c <;> by_cases e2 : b = d <;> simp [e1, e2]
theorem dp_ints {K : PySem.W.Frag} {H : Hp} : ∀ c : List Int, DpAll K H (c.map V.int) (c.map PyData.int)
  | [] => .nil
  | i :: r => .cons (.int i) (dp_ints r)
theorem dp_ct {K : PySem.W.Frag} {H : Hp} {v : V} {c : List Int} (h : Dh K H v (ctD c)) : Dp K H v (ctP c) := by
  obtain ⟨a, rfl, s⟩ := ct_inv h
  exact .tup s (dp_ints c)
theorem box_inv {K : PySem.W.Frag} {H : Hp} {v : V} {ps ws : List Int} (h : Dh K H v (boxD ps ws)) : ∃ a v1 v2, v = .ref a ∧ SqT K H a [v1, v2] ∧ Dh K H v1 (ctD ps) ∧ Dh K H v2 (ctD ws) := by
  obtain ⟨a, xs, rfl, s, t⟩ := h.tup_inv
  obtain ⟨v1, v2, rfl, h1, h2⟩ := dh_two t
  exact ⟨a, v1, v2, rfl, s, h1, h2⟩
theorem dp_box {K : PySem.W.Frag} {H : Hp} {v : V} {ps ws : List Int} (h : Dh K H v (boxD ps ws)) : Dp K H v (boxP ps ws) := by
  obtain ⟨a, v1, v2, rfl, s, h1, h2⟩ := box_inv h
  exact .tup s (.cons (dp_ct h1) (.cons (dp_ct h2) .nil))
theorem dp_ctAll {K : PySem.W.Frag} {H : Hp} : ∀ {xs : List V} (cs : List (List Int)), DhAll K H xs (cs.map ctD) → DpAll K H xs (cs.map ctP)
  | _, [], .nil => .nil
  | _, _ :: r, .cons h t => .cons (dp_ct h) (dp_ctAll r t)
theorem dp_cts {K : PySem.W.Frag} {H : Hp} {a : Addr} {xs : List V} {cs : List (List Int)} (s : SqL K H a xs) (h : DhAll K H xs (cs.map ctD)) : Dp K H (.ref a) (ctsP cs) := .lst s (dp_ctAll cs h)
/-! ### rows: right things alone -/
theorem ok_contents (T : Txt K mg) : FnOk P w K mg base CX0 3 T.f_contents T.d_contents ["sizes"] (spAll K) := by
  refine T.F_contents.ok sc_contents (fun vs H Q E h => ?_) (fun cdv A outer s H vs Q E hr h => ?_)
  · obtain ⟨_, _, rfl, _⟩ := h
    rfl
  · obtain ⟨a, ss, rfl, hs, ok, q⟩ := h
    have ok' : (Dt.tup (ss.map Dt.int)).isSizes = true := ok
    refine ⟨_, (pss_cons (ps_if (pt_not (pt_val (pe_call (ok_is_sizes T) hr (by rfl) T.g_is_sizes T.F_is_sizes.kp T.b_is_sizes .nil pass0 (pa_cons (pv 0) pa_nil)))) (pss_one ps_never) pss_nil)
      (pss_one (ps_ret (pe_call (ok_all_contents T) (hr.mono (by decide)) (by rfl) T.g_all_contents T.F_all_contents.kp T.b_all_contents .nil pass0 (pa_cons (pv 0) pa_nil))))), ?_⟩
    refine ⟨_, rfl, spD_bl (.cons (.tup hs (ints_dh ss)) .nil) rfl fun H1 s1 => ⟨_, rfl, ?_⟩⟩
    rw [ok']
    refine iteF ?_
    exact ⟨_, rfl, a, ss, rfl, (Ext.of s1).sqT hs, ok, fun p xs H' np s2 hp hx => q p xs H' (s1.free np) (s1.trans s2) hp hx⟩
def spIsBox (K : PySem.W.Frag) : Sp := fun vs H Q _ => ∃ (a : Addr) (ss : List Int) (v : V) (d : Dt), vs = [.ref a, v] ∧ SqT K H a (ss.map V.int) ∧ SizesOk ss ∧ Dh K H v d ∧ ∀ H', Same H H' → Q (.bl (d.isBox ss)) H'
theorem ok_is_box (T : Txt K mg) : FnOk P w K mg base CX0 4 T.f_is_box T.d_is_box ["sizes", "thing"] (spIsBox K) := by
  refine T.F_is_box.ok sc_is_box (fun vs H Q E h => ?_) (fun cdv A outer s H vs Q E hr h => ?_)
  · obtain ⟨_, _, _, _, rfl, _⟩ := h
    rfl
  · obtain ⟨a, ss, v, d, rfl, hs, ok, hd, q⟩ := h
    have ok' : (Dt.tup (ss.map Dt.int)).isSizes = true := ok
    have hl := ok.facts.2.1
    refine ⟨_, (pss_cons (ps_if (pt_not (pt_val (pe_call (ok_is_sizes T) (hr.mono (by decide)) (by rfl) T.g_is_sizes T.F_is_sizes.kp T.b_is_sizes .nil pass0 (pa_cons (pv 0) pa_nil)))) (pss_one ps_never) pss_nil)
      (pss_one (ps_ret (pe_call (ok_is_box_of T) hr (by rfl) T.g_is_box_of T.F_is_box_of.kp T.b_is_box_of .nil pass0 (pa_cons (pv 0) (pa_cons (pv 1) pa_nil)))))), ?_⟩
    refine ⟨_, rfl, spD_bl (.cons (.tup hs (ints_dh ss)) .nil) rfl fun H1 s1 => ⟨_, rfl, ?_⟩⟩
    rw [ok']
    refine iteF ?_
    exact ⟨_, rfl, _, rfl, a, ss, _, d, rfl, (Ext.of s1).sqT hs, by omega, hd.ext (.of s1), fun H' s2 => q H' (s1.trans s2)⟩
/-- a content of sizes -/
def IsCt (ss c : List Int) : Prop := (ctD c).isCont ss = true
theorem IsCt.len {ss c : List Int} (h : IsCt ss c) : c.length = ss.length := by
  have h' : ((c.map Dt.int).length == ss.length && contGo ss (c.map Dt.int)) = true := h
  rw [Bool.and_eq_true] at h'
  simpa using h'.1
def spBoxAt (K : PySem.W.Frag) : Sp := fun vs H Q _ => ∃ (a : Addr) (ss ps c : List Int) (v1 v2 : V), vs = [.ref a, v1, v2] ∧ SqT K H a (ss.map V.int) ∧ SizesOk ss ∧ Dh K H v1 (ctD ps) ∧ Asc ss.length (-1) ps ∧ Dh K H v2 (ctD c) ∧ IsCt ss c ∧
  ∀ v H', Same H H' → Dh K H' v (boxD ps (picks ps c)) → Q v H'
theorem Asc.isPat {n : Int} {ps : List Int} (h : Asc n (-1) ps) : (ctD ps).isPat n = true := asc_patGo h
theorem ok_box_at (T : Txt K mg) : FnOk P w K mg base CX0 3 T.f_box_at T.d_box_at ["sizes", "pattern", "content"] (spBoxAt K) := by
  refine T.F_box_at.ok sc_box_at (fun vs H Q E h => ?_) (fun cdv A outer s H vs Q E hr h => ?_)
  · obtain ⟨_, _, _, _, _, _, rfl, _⟩ := h
    rfl
  · obtain ⟨a, ss, ps, c, v1, v2, rfl, hs, ok, h1, asc, h2, hc, q⟩ := h
    have ok' : (Dt.tup (ss.map Dt.int)).isSizes = true := ok
    have hl := ok.facts.2.1
    have hpl := asc.len (by omega)
    have hc' : (ctD c).isCont ss = true := hc
    refine ⟨_, (pss_cons (ps_if (pt_not (pt_val (pe_call (ok_is_sizes T) hr (by rfl) T.g_is_sizes T.F_is_sizes.kp T.b_is_sizes .nil pass0 (pa_cons (pv 0) pa_nil)))) (pss_one ps_never) pss_nil)
      (pss_cons (ps_if (pt_not (pt_val (pe_call (ok_is_pattern T) hr (by rfl) T.g_is_pattern T.F_is_pattern.kp T.b_is_pattern .nil pass0 (pa_cons (pe_callB (call_lenK K) (by rfl) T.z_len PySem.boot_len (pa_cons (pv 0) pa_nil)) (pa_cons (pv 1) pa_nil))))) (pss_one ps_never) pss_nil)
      (pss_cons (ps_if (pt_not (pt_val (pe_call (ok_is_content T) hr (by rfl) T.g_is_content T.F_is_content.kp T.b_is_content .nil pass0 (pa_cons (pv 0) (pa_cons (pv 2) pa_nil))))) (pss_one ps_never) pss_nil)
      (pss_one (ps_ret (pe_tup (pa_cons (pv 1) (pa_cons (pe_call (ok_worths_at T) (hr.mono (by decide)) (by rfl) T.g_worths_at T.F_worths_at.kp T.b_worths_at .nil pass0 (pa_cons (pv 1) (pa_cons (pv 2) pa_nil))) pa_nil)))))))), ?_⟩
    refine ⟨_, rfl, spD_bl (.cons (.tup hs (ints_dh ss)) .nil) rfl fun H1 s1 => ⟨_, rfl, ?_⟩⟩
    rw [ok']
    refine iteF ?_
    refine ⟨_, rfl, a, _, rfl, .inr ((Ext.of s1).sqT hs), _, rfl, ?_⟩
    refine spD_bl (.cons (.int _) (.cons (h1.ext (.of s1)) .nil)) rfl fun H2 s2 => ⟨_, rfl, ?_⟩
    rw [List.length_map, asc.isPat]
    refine iteF ?_
    refine ⟨_, rfl, _, rfl, false, a, ss, _, _, rfl, (Ext.of (s1.trans s2)).sqT hs, h2.ext (.of (s1.trans s2)), fun H3 s3 => ⟨_, rfl, ?_⟩⟩
    rw [hc']
    refine iteF ?_
    have s123 := (s1.trans s2).trans s3
    refine ⟨_, rfl, _, rfl, _, rfl, ps, c, _, _, rfl, h1.ext (.of s123), h2.ext (.of s123), by rw [hc.len]; exact asc.inR, by omega, fun v H4 s4 hv => ⟨by show 2 ≤ sizeLine; decide, fun r nr => ?_⟩⟩
    have s5 : Same H (upd H4 r (.tup [v1, v])) := (s123.trans s4).trans (same_new nr)
    exact q _ _ s5 (.tup (SqT.of upd_same) (.cons (h1.ext (.of s5)) (.cons (hv.ext (Ext.new nr)) .nil)))
/-- a box of sizes -/
structure BoxOk (ss ps ws : List Int) : Prop where
  asc : Asc ss.length (-1) ps
  cont : (ctD ws).isCont (picks ps ss) = true
theorem BoxOk.isBox {ss ps ws : List Int} (h : BoxOk ss ps ws) : (boxD ps ws).isBox ss = true := by
  show ((ctD ps).isPat ss.length && (ctD ws).isCont (picks (ctD ps).ints ss)) = true
  rw [h.asc.isPat, ints_ct, h.cont]
  rfl
theorem BoxOk.len {ss ps ws : List Int} (h : BoxOk ss ps ws) : ws.length = ps.length := by
  rw [← picks_len ps ss]
  exact IsCt.len h.cont
/-- the contents in a box -/
def inBox (ss ps ws : List Int) : List (List Int) := (allC ss).filter fun c => decide (picks ps c = ws)
def spInBox (K : PySem.W.Frag) : Sp := fun vs H Q _ => ∃ (a : Addr) (ss ps ws : List Int) (v : V), vs = [.ref a, v] ∧ SqT K H a (ss.map V.int) ∧ SizesOk ss ∧ Dh K H v (boxD ps ws) ∧ BoxOk ss ps ws ∧
  ∀ p xs H', H p = none → Same H H' → H' p = some (.lst xs) → DhAll K H' xs ((inBox ss ps ws).map ctD) → Q (.ref p) H'
theorem allC_width {ss : List Int} : ∀ i, i ≤ ss.length → ∀ c ∈ allC (ss.take i), c.length = i
  | 0, _ => by simp [allC]
  | i + 1, h => fun c hc => by
    have hi : i < ss.length := h
    have e : ss[i]? = some ss[i] := List.getElem?_eq_getElem hi
    have e' : ss.take (i + 1) = ss.take i ++ [ss[i]] := by rw [List.take_add_one, e]; rfl
    rw [e', allC_snoc] at hc
    obtain ⟨b, hb, hc⟩ := List.mem_flatMap.mp hc
    obtain ⟨w, _, rfl⟩ := List.mem_map.mp hc
    rw [List.length_append, allC_width i (Nat.le_of_lt hi) b hb]
    rfl
theorem allC_wide {ss c : List Int} (h : c ∈ allC ss) : c.length = ss.length := allC_width ss.length (Nat.le_refl _) c (by rw [List.take_length]; exact h)
theorem take_filter {α : Type} {l : List α} {i : Nat} {x : α} (p : α → Bool) (h : l[i]? = some x) : (l.take (i + 1)).filter p = (l.take i).filter p ++ if p x then [x] else [] := by
  rw [List.take_add_one, h, List.filter_append]
  show _ ++ List.filter p [x] = _
  rw [List.filter_cons, List.filter_nil]
theorem ok_in_box (T : Txt K mg) : FnOk P w K mg base CX0 4 T.f_in_box T.d_in_box ["sizes", "box"] (spInBox K) := by
  refine T.F_in_box.ok sc_in_box (fun vs H Q E h => ?_) (fun cdv A outer s H vs Q E hr h => ?_)
  · obtain ⟨_, _, _, _, _, rfl, _⟩ := h
    rfl
  · obtain ⟨a, ss, ps, ws, v, rfl, hs, ok, hv, bx, q⟩ := h
    have ok' : (Dt.tup (ss.map Dt.int)).isSizes = true := ok
    have hl := ok.facts.2.1
    have hpl := bx.asc.len (by omega)
    refine ⟨_, (pss_cons (ps_if (pt_not (pt_val (pe_call (ok_is_sizes T) (hr.mono (by decide)) (by rfl) T.g_is_sizes T.F_is_sizes.kp T.b_is_sizes .nil pass0 (pa_cons (pv 0) pa_nil)))) (pss_one ps_never) pss_nil)
      (pss_cons (ps_if (pt_not (pt_val (pe_call (ok_is_box_of T) hr (by rfl) T.g_is_box_of T.F_is_box_of.kp T.b_is_box_of .nil pass0 (pa_cons (pv 0) (pa_cons (pv 1) pa_nil))))) (pss_one ps_never) pss_nil)
      (pss_cons (ps_asg (pv 1) (pg_tupK K (n := 2) rfl (pgs_cons (pg_name (i := 2) sc_in_box.nd rfl (.inr rfl)) (pgs_cons (pg_name (i := 3) sc_in_box.nd rfl (.inr rfl)) pgs_nil))))
      (pss_one (ps_ret (pe_lc (own := [("content", 4)]) rfl sc_in_box.nd (pi_listK K (pe_call (ok_all_contents T) (hr.mono (by decide)) (by rfl) T.g_all_contents T.F_all_contents.kp T.b_all_contents .nil pass0 (pa_cons (pv 0) pa_nil))) (blkOk_by (N := N_in_box) (sc := defScope s_in_box) (by decide +kernel)) (fun _ _ _ _ _ => (pg_name (i := 4) sc_in_box.nd rfl (.inl rfl))) (fun _ _ _ _ _ => (pts_one (pt_cmpR (op_eqK K hr.units) (pe_call (ok_worths_at T) (hr.mono (by decide)) (by rfl) T.g_worths_at T.F_worths_at.kp T.b_worths_at .nil pass0 (pa_cons (pv 2) (pa_cons (pv 4) pa_nil))) (pv 3) (nomark _)))) (fun _ _ _ _ _ => (pv 4)))))))), ?_⟩
    refine ⟨_, rfl, spD_bl (.cons (.tup hs (ints_dh ss)) .nil) rfl fun H1 s1 => ⟨_, rfl, ?_⟩⟩
    rw [ok']
    refine iteF ?_
    refine ⟨_, rfl, _, rfl, a, ss, _, _, rfl, (Ext.of s1).sqT hs, by omega, hv.ext (.of s1), fun H2 s2 => ⟨_, rfl, ?_⟩⟩
    rw [bx.isBox]
    refine iteF ?_
    have s12 := s1.trans s2
    obtain ⟨b, v1, v2, rfl, hb, h1, h2⟩ := box_inv (hv.ext (.of s12))
    refine ⟨_, rfl, b, _, rfl, hb, rfl, v1, _, rfl, v2, _, rfl, rfl, ?_⟩
    refine ⟨_, rfl, a, ss, rfl, (Ext.of s12).sqT hs, ok, fun p xs H3 np s3 hp hx => ⟨p, rfl, ⟨xs, SqL.of hp⟩, fun D hD => ?_⟩⟩
    have s13 := s12.trans s3
    refine lc_list (K := K) (xs := xs) (fun i H' => ∃ acc, Same H3 H' ∧ H' D = some (.lst acc) ∧ DhAll K H' acc ((((allC ss).take i).filter fun c => decide (picks ps c = ws)).map ctD)) ⟨[], same_new hD, upd_same, .nil⟩ (fun i H' _ ⟨_, sm, _⟩ => sm.seq (SqL.of hp)) ?_ ?_
    · rintro i x H' hi ⟨acc, sm, hDl, hacc⟩
      obtain ⟨d, hd, hxd⟩ := hx.get hi
      obtain ⟨c, hc, rfl⟩ := map_at hd
      have hw := allC_wide (List.mem_of_getElem? hc)
      have s3' := s3.trans sm
      refine ⟨rfl, _, rfl, _, rfl, ps, c, _, _, rfl, h1.ext (.of s3'), hxd.ext (.of sm), by rw [hw]; exact bx.asc.inR, by omega, fun u H4 s4 hu => ?_⟩
      refine ⟨_, rfl, _, _, dp_ct hu, dp_ct (h2.ext (.of (s3'.trans s4))), shaped_ct _, shaped_ct _, _, rfl, ?_⟩
      rw [eqv_ct]
      have sm4 := sm.trans s4
      have e := take_filter (fun c => decide (picks ps c = ws)) hc
      cases hq : decide (picks ps c = ws) with
      | true =>
        refine iteT ⟨_, rfl, acc, s4 _ _ hDl, ?_, acc ++ [x], fun b o e => ?_, upd_same, ?_⟩
        · have e1 := hacc.length
          rw [List.length_map] at e1
          have e2 : (((allC ss).take i).filter fun c => decide (picks ps c = ws)).length ≤ ((allC ss).take i).length := List.length_filter_le _ _
          rw [List.length_take] at e2
          have e3 := (allC_all ok).1
          exact sz_small (by omega)
        · rw [upd_ne (ne_of_none e hD)]
          exact sm4 _ _ e
        · rw [e, hq, List.map_append]
          exact ((hacc.ext (.of s4)).snoc (hxd.ext (.of sm4))).ext (Ext.put (s4 _ _ hDl))
      | false =>
        refine iteF ⟨acc, sm4, s4 _ _ hDl, ?_⟩
        rw [e, hq]
        simpa using hacc.ext (.of s4)
    · rintro H' ⟨acc, sm, hDl, hacc⟩
      have el := hx.length
      rw [List.length_map] at el
      rw [el, List.take_length] at hacc
      exact q D acc H' (s13.free hD) (s13.trans sm) hDl hacc
/-! ### two boxes at once: the mathematics -/
abbrev Prs := List (Int × Int)
def kvV (l : Prs) : List (Key × V) := l.map fun p => (Sum.inl p.1, V.int p.2)
theorem lookup_cons (p : Int × Int) (l : Prs) (k : Int) : List.lookup k (p :: l) = if p.1 = k then some p.2 else List.lookup k l := by
  obtain ⟨a, b⟩ := p
  by_cases h : a = k
  · subst h
    simp [List.lookup]
  · have e : (k == a) = false := by simpa using fun z => h z.symm
    rw [if_neg h]
    simp [List.lookup, e]
theorem lookup_app (k : Int) : ∀ l m : Prs, (l ++ m).lookup k = match l.lookup k with
    | some v => some v
    | none => m.lookup k
  | [], m => rfl
  | p :: l, m => by
    rw [List.cons_append, lookup_cons, lookup_cons]
    by_cases h : p.1 = k
    · rw [if_pos h, if_pos h]
    · rw [if_neg h, if_neg h, lookup_app k l m]
theorem lookup_none {k : Int} : ∀ {l : Prs}, l.lookup k = none ↔ k ∉ l.map (·.1)
  | [] => by simp [List.lookup]
  | p :: l => by
    rw [lookup_cons, List.map_cons, List.mem_cons]
    by_cases h : p.1 = k
    · rw [if_pos h]
      simp [h]
    · rw [if_neg h, lookup_none (l := l)]
      constructor
      · rintro z (q | q)
        · exact h q.symm
        · exact z q
      · exact fun z q => z (.inr q)
theorem lookup_mem {k v : Int} : ∀ {l : Prs}, l.lookup k = some v → (k, v) ∈ l
  | [], h => by simp [List.lookup] at h
  | p :: l, h => by
    rw [lookup_cons] at h
    by_cases e : p.1 = k
    · rw [if_pos e] at h
      cases h
      subst e
      exact List.mem_cons_self ..
    · rw [if_neg e] at h
      exact List.mem_cons_of_mem _ (lookup_mem h)
theorem mem_lookup {k v : Int} : ∀ {l : Prs}, (l.map (·.1)).Nodup → (k, v) ∈ l → l.lookup k = some v
  | [], _, h => by simp at h
  | p :: l, hn, h => by
    rw [List.map_cons] at hn
    obtain ⟨h1, h2⟩ := List.nodup_cons.mp hn
    rw [lookup_cons]
    rcases List.mem_cons.mp h with e | e
    · subst e
      exact if_pos rfl
    · rw [if_neg fun z => h1 (List.mem_map.mpr ⟨_, e, z.symm⟩)]
      exact mem_lookup h2 e
theorem valV_kv (k : Int) : ∀ l : Prs, valV (kvV l) (Sum.inl k : Key) = (l.lookup k).map V.int
  | [] => rfl
  | p :: l => by
    rw [lookup_cons]
    by_cases h : p.1 = k
    · rw [if_pos h]
      exact valV_pos (show (Sum.inl p.1 : Key) = Sum.inl k by rw [h])
    · rw [if_neg h]
      exact (valV_neg (fun z => h (Sum.inl.inj z))).trans (valV_kv k l)
theorem any_kv (k : Int) (l : Prs) : ((kvV l).any fun kv => decide (kv.1 = (Sum.inl k : Key))) = (l.lookup k).isSome := by
  rw [valV_any, valV_kv]
  cases l.lookup k <;> rfl
theorem put_new {l : Prs} {k v : Int} (h : l.lookup k = none) : putK (kvV l) (Sum.inl k : Key) (V.int v) = kvV (l ++ [(k, v)]) := by
  unfold putK
  rw [any_kv, h]
  show kvV l ++ _ = _
  unfold kvV
  rw [List.map_append]
  rfl
theorem put_same {l : Prs} {k v : Int} (hn : (l.map (·.1)).Nodup) (h : l.lookup k = some v) : putK (kvV l) (Sum.inl k : Key) (V.int v) = kvV l := by
  unfold putK
  rw [any_kv, h]
  show (kvV l).map _ = _
  conv => rhs; rw [← List.map_id (kvV l)]
  refine List.map_congr_left fun p hp => ?_
  obtain ⟨q, hq, rfl⟩ := List.mem_map.mp hp
  by_cases e : q.1 = k
  · have e2 : q.2 = v := by
      have z := mem_lookup hn (show (k, q.2) ∈ l by rw [← e]; exact hq)
      rw [h] at z
      exact (Option.some.inj z).symm
    show (if (Sum.inl q.1 : Key) = Sum.inl k then _ else _) = _
    rw [if_pos (by rw [e]), e2]
    rfl
  · show (if (Sum.inl q.1 : Key) = Sum.inl k then _ else _) = _
    rw [if_neg fun z => e (Sum.inl.inj z)]
    rfl
theorem kv_len (l : Prs) : (kvV l).length = l.length := List.length_map _
theorem kv_keys (l : Prs) : (kvV l).map (·.1) = (l.map (·.1)).map Sum.inl := by
  unfold kvV
  rw [List.map_map, List.map_map]
  rfl
/-- the pairs of the first, and those of the second (the first i) whose keys are new -/
def merged2 (A B : Prs) (i : Nat) : Prs := A ++ (B.take i).filter fun p => (A.lookup p.1).isNone
theorem merged2_zero (A B : Prs) : merged2 A B 0 = A := by simp [merged2]
theorem merged2_old {A B : Prs} {i : Nat} {c w a : Int} (h : B[i]? = some (c, w)) (ha : A.lookup c = some a) : merged2 A B (i + 1) = merged2 A B i := by
  unfold merged2
  rw [List.take_add_one, h, List.filter_append]
  show A ++ (_ ++ List.filter _ [(c, w)]) = _
  rw [List.filter_cons, List.filter_nil, ha]
  simp
theorem merged2_new {A B : Prs} {i : Nat} {c w : Int} (h : B[i]? = some (c, w)) (ha : A.lookup c = none) : merged2 A B (i + 1) = merged2 A B i ++ [(c, w)] := by
  unfold merged2
  rw [List.take_add_one, h, List.filter_append]
  show A ++ (_ ++ List.filter _ [(c, w)]) = _
  rw [List.filter_cons, List.filter_nil, ha]
  simp
theorem filter_lookup {A : Prs} {k : Int} (h : A.lookup k = none) : ∀ B : Prs, (B.filter fun p => (A.lookup p.1).isNone).lookup k = B.lookup k
  | [] => rfl
  | p :: B => by
    rw [List.filter_cons]
    by_cases e : p.1 = k
    · rw [e, h]
      show List.lookup k (p :: _) = _
      rw [lookup_cons, lookup_cons, if_pos e, if_pos e]
    · by_cases q : (A.lookup p.1).isNone = true
      · rw [if_pos q, lookup_cons, lookup_cons, if_neg e, if_neg e, filter_lookup h B]
      · rw [if_neg q, lookup_cons, if_neg e, filter_lookup h B]
theorem merged2_look (A B : Prs) (i : Nat) (k : Int) : (merged2 A B i).lookup k = match A.lookup k with
    | some v => some v
    | none => (B.take i).lookup k := by
  unfold merged2
  rw [lookup_app]
  cases h : A.lookup k with
  | some v => rfl
  | none => exact filter_lookup h _
theorem nodup_app {l m : List Int} (hl : l.Nodup) (hm : m.Nodup) (h : ∀ x ∈ m, x ∉ l) : (l ++ m).Nodup := by
  rw [List.nodup_append]
  exact ⟨hl, hm, fun a ha b hb e => h b hb (e ▸ ha)⟩
theorem merged2_nodup {A B : Prs} {i : Nat} (hA : (A.map (·.1)).Nodup) (hB : (B.map (·.1)).Nodup) : ((merged2 A B i).map (·.1)).Nodup := by
  unfold merged2
  rw [List.map_append]
  have sub : ((B.take i).filter fun p => (A.lookup p.1).isNone).Sublist B := List.filter_sublist.trans (List.take_sublist _ _)
  refine nodup_app hA ((sub.map _).nodup hB) fun x hx => ?_
  obtain ⟨p, hp, rfl⟩ := List.mem_map.mp hx
  have q := (List.mem_filter.mp hp).2
  exact lookup_none.mp (by simpa using q)
theorem take_look {B : Prs} (hB : (B.map (·.1)).Nodup) {i : Nat} {c w : Int} (h : B[i]? = some (c, w)) : (B.take i).lookup c = none := by
  rw [lookup_none]
  intro m
  obtain ⟨p, hp, e⟩ := List.mem_map.mp m
  obtain ⟨j, hj, ej⟩ := List.mem_iff_getElem.mp hp
  rw [List.length_take] at hj
  rw [List.getElem_take] at ej
  have h1 : (B.map (·.1))[j]? = some c := by
    rw [List.getElem?_map, List.getElem?_eq_getElem (by omega), ej]
    show some p.1 = _
    rw [e]
  have h2 : (B.map (·.1))[i]? = some c := by
    rw [List.getElem?_map, h]
    rfl
  have := nd_ix hB h1 h2
  omega
/-- lists that rise strictly -/
theorem rise_eq : ∀ {l m : List Int}, l.Pairwise (· < ·) → m.Pairwise (· < ·) → (∀ x, x ∈ l ↔ x ∈ m) → l = m
  | [], [], _, _, _ => rfl
  | [], y :: m, _, _, h => by
    have := (h y).mpr (List.mem_cons_self ..)
    simp at this
  | x :: l, [], _, _, h => by
    have := (h x).mp (List.mem_cons_self ..)
    simp at this
  | x :: l, y :: m, hl, hm, h => by
    obtain ⟨l1, l2⟩ := List.pairwise_cons.mp hl
    obtain ⟨m1, m2⟩ := List.pairwise_cons.mp hm
    have e : x = y := by
      rcases List.mem_cons.mp ((h x).mp (List.mem_cons_self ..)) with q | q
      · exact q
      · rcases List.mem_cons.mp ((h y).mpr (List.mem_cons_self ..)) with r | r
        · exact r.symm
        · have a := m1 x q
          have b := l1 y r
          omega
    subst e
    rw [rise_eq l2 m2 fun z => ?_]
    constructor
    · intro hz
      rcases List.mem_cons.mp ((h z).mp (List.mem_cons_of_mem _ hz)) with q | q
      · have a := l1 z hz
        omega
      · exact q
    · intro hz
      rcases List.mem_cons.mp ((h z).mpr (List.mem_cons_of_mem _ hz)) with q | q
      · have a := m1 z hz
        omega
      · exact q
theorem rise_of : ∀ {l : List Int}, l.Pairwise (· ≤ ·) → l.Nodup → l.Pairwise (· < ·)
  | [], _, _ => .nil
  | x :: l, h, hn => by
    obtain ⟨h1, h2⟩ := List.pairwise_cons.mp h
    obtain ⟨n1, n2⟩ := List.nodup_cons.mp hn
    refine List.pairwise_cons.mpr ⟨fun y hy => ?_, rise_of h2 n2⟩
    have a := h1 y hy
    have b : x ≠ y := fun e => n1 (e ▸ hy)
    omega
theorem Asc.rise {n : Int} : ∀ {l : Int} {ps : List Int}, Asc n l ps → ps.Pairwise (· < ·)
  | _, [], _ => .nil
  | l, c :: r, ⟨h1, h2, h3⟩ => List.pairwise_cons.mpr ⟨fun y hy => (h3.mem y hy).1, h3.rise⟩
theorem rise_nodup {l : List Int} (h : l.Pairwise (· < ·)) : l.Nodup := h.imp fun a => by omega
abbrev cols5 : List Int := [0, 1, 2, 3, 4]
def unionC (ps qs : List Int) : List Int := cols5.filter fun k => decide (k ∈ ps) || decide (k ∈ qs)
theorem unionC_rise (ps qs : List Int) : (unionC ps qs).Pairwise (· < ·) := List.Pairwise.filter _ (by decide)
theorem mem_cols5 {k : Int} (h0 : 0 ≤ k) (h1 : k < 5) : k ∈ cols5 := by
  have : k = 0 ∨ k = 1 ∨ k = 2 ∨ k = 3 ∨ k = 4 := by omega
  rcases this with e | e | e | e | e <;> simp [e]
def In5 (ps : List Int) : Prop := ∀ p ∈ ps, 0 ≤ p ∧ p < 5
theorem mem_union {ps qs : List Int} (h1 : In5 ps) (h2 : In5 qs) (k : Int) : k ∈ unionC ps qs ↔ k ∈ ps ∨ k ∈ qs := by
  unfold unionC
  rw [List.mem_filter, Bool.or_eq_true, decide_eq_true_eq, decide_eq_true_eq]
  refine ⟨fun h => h.2, fun h => ⟨?_, h⟩⟩
  rcases h with h | h
  · exact mem_cols5 (h1 k h).1 (h1 k h).2
  · exact mem_cols5 (h2 k h).1 (h2 k h).2
def clash (A B : Prs) : Bool := cols5.any fun k => match A.lookup k, B.lookup k with
  | some a, some b => !decide (a = b)
  | _, _ => false
def val2 (A B : Prs) (k : Int) : Int := match A.lookup k with
  | some a => a
  | none => (B.lookup k).getD 0
/-- the box of what is in both -/
def bothR (ps ws qs us : List Int) : Option (List Int × List Int) :=
  if clash (ps.zip ws) (qs.zip us) = true then none else some (unionC ps qs, (unionC ps qs).map (val2 (ps.zip ws) (qs.zip us)))
/-! ### two boxes at once: the program -/
theorem dc_zipM {L : Bool} {a b : Addr} {xs ys : List V} {g : TG} {tt : TT} {tk tv : TE} {vs : List Nat} {σ : L2.St} {H1 : Hp} {D : Addr} {Qd : Hp → Prop} (Pv : Nat → Hp → Prop) (h0 : Pv 0 (upd H1 D (.dK []))) (hq : ∀ i H, Pv i H → SqA L K H a xs ∧ SqT K H b ys)
    (hs : ∀ (i : Nat) (x y : V) (T : Addr) (H : Hp), xs[i]? = some x → ys[i]? = some y → Pv i H → H T = none → g (.ref T) (wipe σ vs) (upd H T (.tup [x, y])) fun σ2 H2 => wipe σ2 vs = wipe σ vs ∧ tt σ2 H2 fun b H3 =>
      if b = true then tk σ2 H3 fun y H4 => tv σ2 H4 fun z H5 => ∃ kvs k, y = kV k ∧ H5 D = some (.dK kvs) ∧ kvs.length < sizeLine ∧ Pv (i + 1) (upd H5 D (.dK (putK kvs k z))) else Pv (i + 1) H3) (hd : ∀ H, Pv (min xs.length ys.length) H → Qd H) :
    ∃ W : Nat → Nat → Hp → Prop, (∃ m, W 0 m (upd H1 D (.dK []))) ∧ ∀ i m H, W i m H →
      ((ItM L K a b xs ys).stop i H ∧ Qd H) ∨ ((ItM L K a b xs ys).go i H ∧ ∃ Nx : Hp → Prop, (∀ H', Nx H' → ∃ m', m' < m ∧ W (i + 1) m' H') ∧ ∀ x H', (ItM L K a b xs ys).yld i H x H' → g x (wipe σ vs) H' fun σ2 H2 => wipe σ2 vs = wipe σ vs ∧ tt σ2 H2 fun b H3 =>
        if b = true then tk σ2 H3 fun y H4 => tv σ2 H4 fun z H5 => ∃ kvs k, y = kV k ∧ H5 D = some (.dK kvs) ∧ kvs.length < sizeLine ∧ Nx (upd H5 D (.dK (putK kvs k z))) else Nx H3) := by
  refine ⟨fun i m H => i + m = min xs.length ys.length ∧ Pv i H, ⟨_, Nat.zero_add _, h0⟩, fun i m H h => ?_⟩
  obtain ⟨em, p⟩ := h
  obtain ⟨qx, qy⟩ := hq i H p
  cases m with
  | zero =>
    have ei : i = min xs.length ys.length := em
    refine .inl ⟨⟨qx, qy, ei⟩, hd H ?_⟩
    rw [← ei]
    exact p
  | succ m =>
    refine .inr ⟨⟨qx, qy, by omega, by omega⟩, Pv (i + 1), fun H' p' => ⟨m, Nat.lt_succ_self m, by omega, p'⟩, fun v H' y => ?_⟩
    obtain ⟨T, x, y', rfl, hT, rfl, f1, f2⟩ := y
    exact hs i x y' T H f1 f2 p hT
theorem zip_at {ps ws : List Int} {i : Nat} {p w : Int} (h1 : ps[i]? = some p) (h2 : ws[i]? = some w) : (ps.zip ws)[i]? = some (p, w) := by
  rw [List.getElem?_zip_eq_some]
  exact ⟨h1, h2⟩
theorem zip_keys {ps ws : List Int} (h : ws.length = ps.length) : (ps.zip ws).map (·.1) = ps := List.map_fst_zip (by omega)
def optD : Option (List Int × List Int) → Dt
  | none => .non
  | some (a, b) => boxD a b
theorem BoxOk.nodup {ss ps ws : List Int} (h : BoxOk ss ps ws) : ((ps.zip ws).map (·.1)).Nodup := by
  rw [zip_keys h.len]
  exact rise_nodup h.asc.rise
theorem BoxOk.in5 {ss ps ws : List Int} (h : BoxOk ss ps ws) (hl : ss.length ≤ 5) : In5 ps := fun p hp => by
  have := h.asc.inR p hp
  omega
/-- a clash at some place -/
theorem clash_of {A B : Prs} {i : Nat} {c w a : Int} (hB : (B.map (·.1)).Nodup) (h : B[i]? = some (c, w)) (ha : A.lookup c = some a) (n : a ≠ w) (hc : 0 ≤ c ∧ c < 5) : clash A B = true := by
  unfold clash
  rw [List.any_eq_true]
  refine ⟨c, mem_cols5 hc.1 hc.2, ?_⟩
  rw [ha, mem_lookup hB (List.mem_of_getElem? h)]
  simpa using n
theorem clash_no {A B : Prs} (h : ∀ (j : Nat) (c w a : Int), B[j]? = some (c, w) → A.lookup c = some a → a = w) : clash A B = false := by
  unfold clash
  rw [List.any_eq_false]
  intro k _
  cases ha : A.lookup k with
  | none => simp
  | some a =>
    cases hb : B.lookup k with
    | none => simp
    | some b =>
      obtain ⟨j, hj, e⟩ := List.mem_iff_getElem.mp (lookup_mem hb)
      have := h j k b a (by rw [List.getElem?_eq_getElem hj, e]) ha
      simp [this]
theorem keys_union {ps ws qs us : List Int} (h1 : ws.length = ps.length) (h2 : us.length = qs.length) (n1 : ps.Nodup) (n2 : qs.Nodup) (i1 : In5 ps) (i2 : In5 qs) {ys : List Int} (hp : ys.Perm ((merged2 (ps.zip ws) (qs.zip us) (qs.zip us).length).map (·.1))) (hs : ys.Pairwise (· ≤ ·)) :
    ys = unionC ps qs := by
  have nA : ((ps.zip ws).map (·.1)).Nodup := by rw [zip_keys h1]; exact n1
  have nB : ((qs.zip us).map (·.1)).Nodup := by rw [zip_keys h2]; exact n2
  refine rise_eq (rise_of hs (hp.nodup_iff.mpr (merged2_nodup nA nB))) (unionC_rise _ _) fun x => ?_
  rw [hp.mem_iff, mem_union i1 i2]
  have q := merged2_look (ps.zip ws) (qs.zip us) (qs.zip us).length x
  rw [List.take_length] at q
  have e1 : x ∈ ps ↔ (ps.zip ws).lookup x ≠ none := by
    have := lookup_none (k := x) (l := ps.zip ws)
    rw [zip_keys h1] at this
    rw [Ne, this, Classical.not_not]
  have e2 : x ∈ qs ↔ (qs.zip us).lookup x ≠ none := by
    have := lookup_none (k := x) (l := qs.zip us)
    rw [zip_keys h2] at this
    rw [Ne, this, Classical.not_not]
  have e3 : x ∈ (merged2 (ps.zip ws) (qs.zip us) (qs.zip us).length).map (·.1) ↔ (merged2 (ps.zip ws) (qs.zip us) (qs.zip us).length).lookup x ≠ none := by
    rw [Ne, lookup_none, Classical.not_not]
  rw [e1, e2, e3, q]
  cases (ps.zip ws).lookup x <;> simp
theorem merged2_val {A B : Prs} {k : Int} (h : (merged2 A B B.length).lookup k ≠ none) : (merged2 A B B.length).lookup k = some (val2 A B k) := by
  have q := merged2_look A B B.length k
  rw [List.take_length] at q
  rw [q] at h ⊢
  unfold val2
  cases ha : A.lookup k with
  | some a => rfl
  | none =>
    rw [ha] at h
    cases hb : B.lookup k with
    | none => exact absurd hb h
    | some b => rfl
def spBoth (K : PySem.W.Frag) : Sp := fun vs H Q _ => ∃ (a : Addr) (ss ps ws qs us : List Int) (v1 v2 : V), vs = [.ref a, v1, v2] ∧ SqT K H a (ss.map V.int) ∧ SizesOk ss ∧ Dh K H v1 (boxD ps ws) ∧ BoxOk ss ps ws ∧ Dh K H v2 (boxD qs us) ∧ BoxOk ss qs us ∧
  ∀ v H', Same H H' → Dh K H' v (optD (bothR ps ws qs us)) → Q v H'
theorem merged2_len {A B : Prs} {i : Nat} : (merged2 A B i).length ≤ A.length + B.length := by
  unfold merged2
  have h : ((B.take i).filter fun p => (A.lookup p.1).isNone).length ≤ B.length := (List.filter_sublist.trans (List.take_sublist _ _)).length_le
  rw [List.length_append]
  omega
/-- the values of a dict's keys, one by one: [d[k] for k in ys] -/
theorem lc_vals {H : Hp} {σ : L2.St} {Q : VK} {a d : Addr} {ys : List Int} {M : Prs} {f : Int → Int} {kx kd : Nat} {tp : TE} (htp : ∀ R : VK, R (.ref a) H → tp σ H R) (ha : SqT K H a (ys.map V.int)) (hd : H d = some (.dK (kvV M))) (hv : ∀ y ∈ ys, M.lookup y = some (f y)) (hl : ys.length ≤ 1000)
    (hw : ∀ x, wipe ((wipe σ [kx]).set kx (some x)) [kx] = wipe σ [kx]) (hc : ∀ x : V, ((wipe σ [kx]).set kx (some x))[kd]? = some (some (.ref d))) (hx : ∀ x : V, ((wipe σ [kx]).set kx (some x))[kx]? = some (some x))
    (q : ∀ D H', H D = none → Same H H' → H' D = some (.lst ((ys.map f).map V.int)) → Q (.ref D) H') :
    tLc (iTup K tp) (gName kx) tYes (tDGet (tVar kd) (tVar kx)) [kx] σ H Q := by
  refine htp _ ⟨a, rfl, ⟨_, ha⟩, fun D hD => lc_tup (K := K) (xs := ys.map V.int) (fun i H' => Same H H' ∧ H' D = some (.lst (((ys.map f).take i).map V.int))) ⟨same_new hD, upd_same⟩ (fun i H' _ p => (Ext.of p.1).sqT ha) ?_ ?_⟩
  · rintro i x H' hi ⟨sm, hDl⟩
    obtain ⟨y, rfl, hy⟩ := int_at hi
    have e1 := hv y (List.mem_of_getElem? hy)
    have e2 : (ys.map f).take (i + 1) = (ys.map f).take i ++ [f y] := by
      rw [List.take_add_one, List.getElem?_map, hy]
      rfl
    refine ⟨hw _, ?_⟩
    dsimp only [tYes]
    rw [if_pos rfl]
    refine ⟨_, hc _, _, hx _, d, .int (f y), rfl, .inl ⟨_, Sum.inl y, .inl (sm _ _ hd), rfl, by rw [valV_kv, e1]; rfl⟩, _, hDl, ?_, fun c o e => ?_, ?_⟩
    · rw [List.length_map, List.length_take]
      exact sz_small (by have : (ys.map f).length = ys.length := List.length_map _; omega)
    · rw [upd_ne (ne_of_none e hD)]
      exact sm _ _ e
    · rw [upd_same, e2, List.map_append]
      rfl
  · rintro H' ⟨sm, hDl⟩
    rw [List.length_map] at hDl
    have e : (ys.map f).take ys.length = ys.map f := by
      rw [List.take_of_length_le (by rw [List.length_map]; exact Nat.le_refl _)]
    rw [e] at hDl
    exact q D H' hD sm hDl
theorem ok_both (T : Txt K mg) : FnOk P w K mg base CX0 4 T.f_both T.d_both ["sizes", "box", "other"] (spBoth K) := by
  refine T.F_both.ok sc_both (fun vs H Q E h => ?_) (fun cdv A outer s H vs Q E hr h => ?_)
  · obtain ⟨_, _, _, _, _, _, _, _, rfl, _⟩ := h
    rfl
  · obtain ⟨a, ss, ps, ws, qs, us, v1, v2, rfl, hs, ok, hv1, bx1, hv2, bx2, q⟩ := h
    have ok' : (Dt.tup (ss.map Dt.int)).isSizes = true := ok
    have hl := ok.facts.2.1
    have hpl := bx1.asc.len (by omega)
    have hql := bx2.asc.len (by omega)
    have hu := hu_of hr
    have nA := bx1.nodup
    have nB := bx2.nodup
    refine ⟨_, (pss_cons (ps_if (pt_not (pt_val (pe_call (ok_is_sizes T) (hr.mono (by decide)) (by rfl) T.g_is_sizes T.F_is_sizes.kp T.b_is_sizes .nil pass0 (pa_cons (pv 0) pa_nil)))) (pss_one ps_never) pss_nil)
      (pss_cons (ps_if (PW.pt (pw_or (pt_not (pt_val (pe_call (ok_is_box_of T) hr (by rfl) T.g_is_box_of T.F_is_box_of.kp T.b_is_box_of .nil pass0 (pa_cons (pv 0) (pa_cons (pv 1) pa_nil))))) (pw_or1 (pt_not (pt_val (pe_call (ok_is_box_of T) hr (by rfl) T.g_is_box_of T.F_is_box_of.kp T.b_is_box_of .nil pass0 (pa_cons (pv 0) (pa_cons (pv 2) pa_nil)))))))) (pss_one ps_never) pss_nil)
      (pss_cons (ps_set (i := 3) sc_both.nd rfl (.inr rfl) (pe_dc (own := [("column", 5), ("worth", 6)]) rfl sc_both.nd (pi_zipM (by rfl) T.z_zip (pa_cons (pe_ix (ix_tupK K) (pv 1) pe_int (fun _ _ => rfl)) (pa_cons (pe_ix (ix_tupK K) (pv 1) pe_int (fun _ _ => rfl)) pa_nil))) (blkOk_by (N := N_both) (sc := defScope s_both) (by decide +kernel)) (fun _ _ _ _ _ => (pg_tupK K (n := 2) rfl (pgs_cons (pg_name (i := 5) sc_both.nd rfl (.inl rfl)) (pgs_cons (pg_name (i := 6) sc_both.nd rfl (.inl rfl)) pgs_nil)))) (fun _ _ _ _ _ => pts_nil) (fun _ _ _ _ _ => (pv 5)) (fun _ _ _ _ _ => (pv 6))))
      (pss_cons (ps_for PassesOwn.never rfl (pi_zipM (by rfl) T.z_zip (pa_cons (pe_ix (ix_tupK K) (pv 2) pe_int (fun _ _ => rfl)) (pa_cons (pe_ix (ix_tupK K) (pv 2) pe_int (fun _ _ => rfl)) pa_nil))) (pg_tupK K (n := 2) rfl (pgs_cons (pg_name (i := 5) sc_both.nd rfl (.inl rfl)) (pgs_cons (pg_name (i := 6) sc_both.nd rfl (.inl rfl)) pgs_nil))) (pss_one (ps_if (pt_cmpR op_ne (pe_dsetd (pv 3) (pv 5) (pv 6) ⟨rfl, by rfl, by rfl, by rfl⟩) (pv 6) (nomark _)) (pss_one (ps_ret pe_non)) pss_nil)))
      (pss_cons (ps_set (i := 4) sc_both.nd rfl (.inl rfl) (pe_callTy (call_tupleK K) (by rfl) T.z_tuple (by decide +kernel) (pa_cons (pe_callB (call_sortedDI rfl) (by rfl) T.z_sorted (by decide +kernel) (pa_cons (pv 3) pa_nil)) pa_nil)))
      (pss_one (ps_ret (pe_tup (pa_cons (pv 4) (pa_cons (pe_callTy (call_tupleK K) (by rfl) T.z_tuple (by decide +kernel) (pa_cons (pe_lc (own := [("column", 5)]) rfl sc_both.nd (pi_tupK K (pv 4)) (blkOk_by (N := N_both) (sc := defScope s_both) (by decide +kernel)) (fun _ _ _ _ _ => (pg_name (i := 5) sc_both.nd rfl (.inl rfl))) (fun _ _ _ _ _ => pts_nil) (fun _ _ _ _ _ => (pe_dget hu (pv 3) (pv 5) (fun _ _ => rfl)))) pa_nil)) pa_nil)))))))))), ?_⟩
    refine ⟨_, rfl, spD_bl (.cons (.tup hs (ints_dh ss)) .nil) rfl fun H1 s1 => ⟨_, rfl, ?_⟩⟩
    rw [ok']
    refine iteF ?_
    refine ⟨_, rfl, _, rfl, a, ss, _, _, rfl, (Ext.of s1).sqT hs, by omega, hv1.ext (.of s1), fun H2 s2 => ⟨_, rfl, ?_⟩⟩
    rw [bx1.isBox]
    refine iteF ?_
    have s12 := s1.trans s2
    refine ⟨_, rfl, _, rfl, a, ss, _, _, rfl, (Ext.of s12).sqT hs, by omega, hv2.ext (.of s12), fun H3 s3 => ⟨_, rfl, ?_⟩⟩
    rw [bx2.isBox]
    refine iteF ?_
    have s13 := s12.trans s3
    obtain ⟨b, w1, w2, rfl, hb, h1, h2⟩ := box_inv (hv1.ext (.of s13))
    obtain ⟨c, w3, w4, rfl, hc, h3, h4⟩ := box_inv (hv2.ext (.of s13))
    obtain ⟨b1, rfl, hb1⟩ := ct_inv h1
    obtain ⟨b2, rfl, hb2⟩ := ct_inv h2
    obtain ⟨c1, rfl, hc1⟩ := ct_inv h3
    obtain ⟨c2, rfl, hc2⟩ := ct_inv h4
    -- the dict
    refine ⟨_, rfl, b, _, 0, _, rfl, rfl, hb, atI_nat (j := 0) rfl, _, rfl, b, _, 1, _, rfl, rfl, hb, atI_nat (j := 1) rfl, false, b1, b2, _, _, rfl, hb1, hb2, fun D hD => dc_zipM (K := K) (L := false) (fun i H' => Same H3 H' ∧ H' D = some (.dK (kvV ((ps.zip ws).take i)))) ⟨same_new hD, upd_same⟩
      (fun i H' p => ⟨(Ext.of p.1).sqT hb1, (Ext.of p.1).sqT hb2⟩) ?_ ?_⟩
    · rintro i x y Tp H' hx hy ⟨sm, hDl⟩ nT
      obtain ⟨p, rfl, hp⟩ := int_at hx
      obtain ⟨w', rfl, hw⟩ := int_at hy
      have hz := zip_at hp hw
      have nTD : D ≠ Tp := ne_of_none hDl nT
      refine ⟨Tp, _, rfl, SqT.of upd_same, rfl, _, _, rfl, _, _, rfl, rfl, rfl, ?_⟩
      dsimp only [tYes]
      rw [if_pos rfl]
      refine ⟨_, rfl, _, rfl, _, Sum.inl p, rfl, (by rw [upd_ne nTD]; exact hDl), ?_, fun z o e => ?_, ?_⟩
      · rw [kv_len, List.length_take, List.length_zip]
        exact sz_small (by omega)
      · rw [upd_ne (ne_of_none e hD)]
        exact (same_new nT) _ _ (sm _ _ e)
      · rw [upd_same, put_new (take_look nA hz), List.take_add_one, hz]
        rfl
    · rintro H4 ⟨sm4, hDl⟩
      have e0 : (ps.zip ws).take (min (ps.map V.int).length (ws.map V.int).length) = ps.zip ws := by
        rw [List.take_of_length_le]
        rw [List.length_map, List.length_map, List.length_zip]
        exact Nat.le_refl _
      rw [e0] at hDl
      -- the second box
      refine ⟨_, rfl, c, _, 0, _, rfl, rfl, (Ext.of sm4).sqT hc, atI_nat (j := 0) rfl, _, rfl, c, _, 1, _, rfl, rfl, (Ext.of sm4).sqT hc, atI_nat (j := 1) rfl, false, c1, c2, qs.map V.int, us.map V.int, rfl, (Ext.of sm4).sqT hc1, (Ext.of sm4).sqT hc2, for_zipM (K := K) (L := false)
        (fun i σ H' => ∃ y4 y5 y6, σ = [some (.ref a), some (.ref b), some (.ref c), some (.ref D), y4, y5, y6] ∧ Same H3 H' ∧ H' D = some (.dK (kvV (merged2 (ps.zip ws) (qs.zip us) i))) ∧ ∀ (j : Nat) (k w a : Int), j < i → (qs.zip us)[j]? = some (k, w) → (ps.zip ws).lookup k = some a → a = w)
        ⟨none, none, none, rfl, sm4, by rw [merged2_zero]; exact hDl, fun j k w a hj => absurd hj (Nat.not_lt_zero j)⟩ (fun i σ H' ⟨_, _, _, _, sm, _⟩ => ⟨(Ext.of sm).sqT hc1, (Ext.of sm).sqT hc2⟩) ?_ ?_⟩
      · rintro i x y Tp σ H' hx hy ⟨y4, y5, y6, rfl, sm, hDm, hno⟩ nT
        obtain ⟨k, rfl, hk⟩ := int_at hx
        obtain ⟨w', rfl, hw⟩ := int_at hy
        have hz := zip_at hk hw
        have nTD : D ≠ Tp := ne_of_none hDm nT
        have smT : Same H3 (upd H' Tp (.tup [V.int k, V.int w'])) := sm.trans (same_new nT)
        have hDT : (upd H' Tp (.tup [V.int k, V.int w'])) D = some (.dK (kvV (merged2 (ps.zip ws) (qs.zip us) i))) := by
          rw [upd_ne nTD]
          exact hDm
        have elk := merged2_look (ps.zip ws) (qs.zip us) i k
        rw [take_look nB hz] at elk
        refine ⟨Tp, _, rfl, SqT.of upd_same, rfl, _, _, rfl, _, _, rfl, rfl, ?_⟩
        refine ⟨_, rfl, D, rfl, .inl ⟨_, .inl hDT⟩, _, rfl, _, rfl, _, Sum.inl k, hDT, rfl, ?_, fun v hv => ?_, fun hn => ?_⟩
        · have := merged2_len (A := ps.zip ws) (B := qs.zip us) (i := i)
          rw [List.length_zip, List.length_zip] at this
          rw [kv_len]
          exact sz_small (by omega)
        · rw [valV_kv] at hv
          cases ha : (ps.zip ws).lookup k with
          | none =>
            rw [elk, ha] at hv
            cases hv
          | some av =>
            rw [elk, ha] at hv
            obtain rfl : V.int av = v := Option.some.inj hv
            refine ⟨_, rfl, rfl, _, rfl, ?_⟩
            rw [dec_int]
            by_cases hne : av = w'
            · subst hne
              rw [beq_self_eq_true]
              refine iteF ⟨_, _, _, rfl, smT, ?_, fun j k2 w2 a2 hj h5 h6 => ?_⟩
              · rw [merged2_old hz ha]
                exact hDT
              · rcases Nat.lt_succ_iff_lt_or_eq.mp hj with hlt | heq
                · exact hno j k2 w2 a2 hlt h5 h6
                · subst heq
                  rw [hz] at h5
                  cases h5
                  rw [ha] at h6
                  exact (Option.some.inj h6).symm
            · have hc5 := clash_of (A := ps.zip ws) nB hz ha hne (bx2.in5 hl k (List.mem_of_getElem? hk))
              have eR : bothR ps ws qs us = none := if_pos hc5
              have eb : (av == w') = false := by simpa using hne
              rw [eb]
              refine iteT ?_
              rw [eR] at q
              exact q .non _ (s13.trans smT) .non
        · rw [valV_kv] at hn
          cases ha : (ps.zip ws).lookup k with
          | some av =>
            rw [elk, ha] at hn
            cases hn
          | none =>
            rw [ha] at elk
            refine ⟨_, rfl, rfl, _, rfl, ?_⟩
            rw [dec_int, beq_self_eq_true]
            refine iteF ⟨_, _, _, rfl, Same.put hD smT, ?_, fun j k2 w2 a2 hj h5 h6 => ?_⟩
            · rw [upd_same, put_new elk, merged2_new hz ha]
            · rcases Nat.lt_succ_iff_lt_or_eq.mp hj with hlt | heq
              · exact hno j k2 w2 a2 hlt h5 h6
              · subst heq
                rw [hz] at h5
                cases h5
                rw [ha] at h6
                cases h6
      · rintro σ H5 ⟨y4, y5, y6, rfl, sm5, hDm, hno⟩
        have em : min (qs.map V.int).length (us.map V.int).length = (qs.zip us).length := by
          rw [List.length_map, List.length_map, List.length_zip]
        rw [em] at hDm hno
        have hcl : clash (ps.zip ws) (qs.zip us) = false := clash_no fun j k w a h5 h6 => hno j k w a (List.getElem?_eq_some_iff.mp h5).1 h5 h6
        have eR : bothR ps ws qs us = some (unionC ps qs, (unionC ps qs).map (val2 (ps.zip ws) (qs.zip us))) := if_neg (by rw [hcl]; exact Bool.false_ne_true)
        rw [eR] at q
        refine ⟨_, rfl, D, _, _, rfl, .inl hDm, kv_keys _, ?_, fun ys p hperm hsort hp => ?_⟩
        · rw [List.length_map]
          have z0 := merged2_len (A := ps.zip ws) (B := qs.zip us) (i := (qs.zip us).length)
          have z1 : (ps.zip ws).length ≤ ps.length := by
            rw [List.length_zip]
            omega
          have z2 : (qs.zip us).length ≤ qs.length := by
            rw [List.length_zip]
            omega
          omega
        have ey := keys_union bx1.len bx2.len (rise_nodup bx1.asc.rise) (rise_nodup bx2.asc.rise) (bx1.in5 hl) (bx2.in5 hl) hperm hsort
        subst ey
        refine ⟨p, _, rfl, .inl ⟨SqL.of upd_same, fun l hl2 => ?_⟩⟩
        have s6 : Same H5 (upd (upd H5 p (.lst ((unionC ps qs).map V.int))) l (.tup ((unionC ps qs).map V.int))) := (same_new hp).trans (same_new hl2)
        have hlen5 : (unionC ps qs).length ≤ 5 := List.length_filter_le _ _
        refine ⟨_, rfl, ?_⟩
        dsimp only [tCB, tCons]
        refine lc_vals (K := K) (σ := [some (.ref a), some (.ref b), some (.ref c), some (.ref D), some (.ref l), y5, y6]) (kx := 5) (kd := 3) (M := merged2 (ps.zip ws) (qs.zip us) (qs.zip us).length) (f := val2 (ps.zip ws) (qs.zip us)) (tp := tVar 4) (fun R hR => ⟨_, rfl, hR⟩) (SqT.of upd_same) (s6 _ _ hDm) (fun y hy => merged2_val fun z => ?_) (by omega) (fun _ => rfl) (fun _ => rfl) (fun _ => rfl) fun D2 H7 hD2 s7 hD2l => ?_
        · exact lookup_none.mp z (hperm.mem_iff.mp hy)
        · refine ⟨D2, _, rfl, .inl ⟨SqL.of hD2l, fun l2 hl3 => ⟨by show 2 ≤ sizeLine; decide, fun r nr => ?_⟩⟩⟩
          have s8 : Same H7 _ := (same_new (o := .tup (((unionC ps qs).map (val2 (ps.zip ws) (qs.zip us))).map V.int)) hl3).trans (same_new (o := .tup [.ref l, .ref l2]) nr)
          refine q _ _ ((s13.trans sm5).trans ((s6.trans s7).trans s8)) (.tup (SqT.of upd_same) (.cons (dh_ct (c := unionC ps qs) (SqT.of (s8 _ _ (s7 _ _ upd_same)))) (.cons (dh_ct (c := (unionC ps qs).map (val2 (ps.zip ws) (qs.zip us))) (SqT.of ((same_new nr) _ _ upd_same))) .nil)))
/-! ### the drawing hand -/
abbrev hv (c : Addr) (i big acc cnt : Int) : List V := [.ref c, .int i, .int big, .int acc, .int cnt]
/-- at h a hand: its cells at c -/
structure HandOk (H : Hp) (h c : Addr) : Prop where
  ex : ∃ (i big acc cnt : Int) (cells : List Int), H h = some (.lst (hv c i big acc cnt)) ∧ H c = some (.lst (cells.map V.int)) ∧ 0 ≤ i
/-- all but the hand is as it was -/
structure Keep (h c : Addr) (H H' : Hp) : Prop where
  rest : ∀ b o, b ≠ h → H b = some o → H' b = some o
  hand : HandOk H' h c
theorem HandOk.same {H H' : Hp} {h c : Addr} (x : HandOk H h c) (s : Same H H') : HandOk H' h c := by
  obtain ⟨i, big, acc, cnt, cells, e1, e2, e3⟩ := x.ex
  exact ⟨i, big, acc, cnt, cells, s _ _ e1, s _ _ e2, e3⟩
theorem Keep.of {H H' : Hp} {h c : Addr} (x : HandOk H h c) (s : Same H H') : Keep h c H H' := ⟨fun b o _ e => s b o e, x.same s⟩
theorem Keep.trans {H H1 H2 : Hp} {h c : Addr} (a : Keep h c H H1) (b : Keep h c H1 H2) : Keep h c H H2 := ⟨fun z o n e => b.rest z o n (a.rest z o n e), b.hand⟩
theorem Keep.same {H H1 H2 : Hp} {h c : Addr} (a : Keep h c H H1) (s : Same H1 H2) : Keep h c H H2 := a.trans (.of a.hand s)
theorem Keep.ext {H H' : Hp} {h c : Addr} (x : HandOk H h c) (k : Keep h c H H') : Ext H H' := fun b o e => by
  by_cases hb : b = h
  · subst hb
    obtain ⟨i, big, acc, cnt, cells, e1, _⟩ := x.ex
    obtain ⟨i', big', acc', cnt', cells', e1', _⟩ := k.hand.ex
    rw [e1] at e
    cases e
    exact .inr ⟨⟨_, rfl⟩, _, e1'⟩
  · exact .inl (k.rest b o hb e)
theorem Keep.free {H H' : Hp} {h c p : Addr} (x : HandOk H h c) (k : Keep h c H H') (n : H' p = none) : H p = none := by
  cases e : H p with
  | none => rfl
  | some o =>
    rcases Keep.ext x k p o e with q | ⟨_, ys, q⟩
    · rw [n] at q
      cases q
    · rw [n] at q
      cases q
theorem HandOk.ne {H : Hp} {h c p : Addr} (x : HandOk H h c) (n : H p = none) : p ≠ h ∧ p ≠ c := by
  obtain ⟨_, _, _, _, _, e1, e2, _⟩ := x.ex
  exact ⟨(ne_of_none e1 n).symm, (ne_of_none e2 n).symm⟩
/-- a new object that the hand has nothing to do with is changed -/
theorem Keep.put {H H' : Hp} {h c D : Addr} {o : HO} (x : HandOk H h c) (k : Keep h c H H') (n : H D = none) : Keep h c H (upd H' D o) := by
  obtain ⟨n1, n2⟩ := x.ne n
  refine ⟨fun b u nb e => ?_, ?_⟩
  · rw [upd_ne (ne_of_none e n)]
    exact k.rest b u nb e
  · obtain ⟨i, big, acc, cnt, cells, e1, e2, e3⟩ := k.hand.ex
    refine ⟨i, big, acc, cnt, cells, ?_, ?_, e3⟩
    · rw [upd_ne n1.symm]
      exact e1
    · rw [upd_ne n2.symm]
      exact e2
def spDraw (_K : PySem.W.Frag) : Sp := fun vs H Q _ => ∃ (h c : Addr) (many : Int), vs = [.ref h, .int many] ∧ HandOk H h c ∧ 0 < many ∧ many < 1073741824 ∧ ∀ d H', 0 ≤ d → d < many → Keep h c H H' → Q (.int d) H'
theorem upd_keep {H H' : Hp} {h : Addr} {o : HO} (k : ∀ b u, b ≠ h → H b = some u → H' b = some u) : ∀ b u, b ≠ h → H b = some u → (upd H' h o) b = some u := fun b u n e => by
  rw [upd_ne n]
  exact k b u n e
theorem ok_law_draw (T : Txt K mg) : FnOk P w K mg base CX0 1 T.f_law_draw T.d_law_draw ["hand", "many"] (spDraw K) := by
  refine T.F_law_draw.ok sc_law_draw (fun vs H Q E h => ?_) (fun cdv A outer s H vs Q E hr h => ?_)
  · obtain ⟨_, _, _, rfl, _⟩ := h
    rfl
  · obtain ⟨h, c, many, rfl, hx, m0, m1, q⟩ := h
    obtain ⟨i, big, acc, cnt, cells, hh, hc, hi⟩ := hx.ex
    have nch : c ≠ h := fun e => by
      rw [e, hh] at hc
      have z := HO.lst.inj (Option.some.inj hc)
      cases cells with
      | nil => cases z
      | cons y r =>
        have z' := (List.cons.inj z).1
        cases z'
    refine ⟨_, (C8.pss_cut (ps_if (PW.pt (pw_and (pt_cmpR op_eq (pe_ix (ix_listK K) (pv 0) pe_int (fun _ _ => rfl)) pe_int (nomark _)) (pw_and1 (pt_cmpR op_lt (pe_ix (ix_listK K) (pv 0) pe_int (fun _ _ => rfl)) (pe_callB (call_lenK K) (by rfl) T.z_len PySem.boot_len (pa_cons (pe_ix (ix_listK K) (pv 0) pe_int (fun _ _ => rfl)) pa_nil)) (nomark _))))) (pss_cons (ps_set (i := 3) sc_law_draw.nd rfl (.inl rfl) (pe_ix (ix_listK K) (pe_ix (ix_listK K) (pv 0) pe_int (fun _ _ => rfl)) (pe_ix (ix_listK K) (pv 0) pe_int (fun _ _ => rfl)) (fun _ _ => rfl)))
      (pss_cons (ps_asg (pe_op op_add (pe_ix (ix_listK K) (pv 0) pe_int (fun _ _ => rfl)) pe_int) (pg_sub (pv 0) pe_int set_list))
      (pss_cons (ps_asg (pe_op op_mod (pe_callTy call_int1 (by rfl) T.z_int (by decide +kernel) (pa_cons (pe_op op_add (pe_op op_add (pe_op op_mul (pe_ix (ix_listK K) (pv 0) pe_int (fun _ _ => rfl)) pe_int) (pv 3)) pe_int) pa_nil)) pe_int) (pg_sub (pv 0) pe_int set_list))
      (pss_one (ps_if (pt_cmpR op_ge (pv 3) (pe_op op_pow pe_int pe_int) (nomark _)) (pss_one (ps_asg (pv 3) (pg_sub (pv 0) pe_int set_list))) pss_nil))))) pss_nil)
      (pss_cons (ps_if (pt_cmpR op_gt (pe_ix (ix_listK K) (pv 0) pe_int (fun _ _ => rfl)) pe_int (nomark _)) (pss_cons (ps_set (i := 4) sc_law_draw.nd rfl (.inl rfl) (pe_op op_mod (pe_callTy call_int1 (by rfl) T.z_int (by decide +kernel) (pa_cons (pe_ix (ix_listK K) (pv 0) pe_int (fun _ _ => rfl)) pa_nil)) (pv 1)))
      (pss_cons (ps_asg (pe_op op_fdiv (pe_ix (ix_listK K) (pv 0) pe_int (fun _ _ => rfl)) (pv 1)) (pg_sub (pv 0) pe_int set_list))
      (pss_one (ps_ret (pv 4))))) pss_nil)
      (pss_cons (ps_asg (pe_op op_add (pe_ix (ix_listK K) (pv 0) pe_int (fun _ _ => rfl)) pe_int) (pg_sub (pv 0) pe_int set_list))
      (pss_cons (ps_set (i := 2) sc_law_draw.nd rfl (.inl rfl) (pe_op op_mod (pe_callTy call_int1 (by rfl) T.z_int (by decide +kernel) (pa_cons (pe_op op_mul (pe_callTy call_int1 (by rfl) T.z_int (by decide +kernel) (pa_cons (pe_op op_add (pe_ix (ix_listK K) (pv 0) pe_int (fun _ _ => rfl)) (pe_op op_mul pe_int (pe_ix (ix_listK K) (pv 0) pe_int (fun _ _ => rfl)))) pa_nil)) pe_int) pa_nil)) pe_int))
      (pss_cons (ps_set (i := 2) sc_law_draw.nd rfl (.inl rfl) (pe_op op_mod (pe_callTy call_int1 (by rfl) T.z_int (by decide +kernel) (pa_cons (pe_op op_mul (pv 2) (pe_op op_add (pe_op op_fdiv (pv 2) pe_int) pe_int)) pa_nil)) pe_int))
      (pss_cons (ps_set (i := 2) sc_law_draw.nd rfl (.inl rfl) (pe_op op_mod (pe_callTy call_int1 (by rfl) T.z_int (by decide +kernel) (pa_cons (pe_op op_mul (pv 2) (pe_op op_add (pe_op op_fdiv (pv 2) pe_int) pe_int)) pa_nil)) pe_int))
      (pss_one (ps_ret (pe_op op_mod (pe_callTy call_int1 (by rfl) T.z_int (by decide +kernel) (pa_cons (pe_op op_fdiv (pv 2) pe_int) pa_nil)) (pv 1)))))))))), ?_⟩
    refine ⟨fun σ H' => ∃ (i big acc : Int) (y2 y3 y4 : Option V), σ = [some (.ref h), some (.int many), y2, y3, y4] ∧ (∀ b o, b ≠ h → H b = some o → H' b = some o) ∧ 0 ≤ i ∧ H' h = some (.lst (hv c i big acc cnt)), ?_, ?_⟩
    · have skip : ∃ (i big acc : Int) (y2 y3 y4 : Option V), ([some (.ref h), some (.int many), none, none, none] : L2.St) = [some (.ref h), some (.int many), y2, y3, y4] ∧ (∀ b o, b ≠ h → H b = some o → H b = some o) ∧ 0 ≤ i ∧ H h = some (.lst (hv c i big acc cnt)) := ⟨i, big, acc, none, none, none, rfl, fun _ _ _ e => e, hi, hh⟩
      refine ⟨_, rfl, h, _, 2, _, rfl, rfl, SqL.of hh, atI_nat (j := 2) rfl, rfl, _, rfl, ?_⟩
      refine ite2 (fun _ => ?_) (fun _ => ?_)
      · refine ⟨_, rfl, h, _, 1, _, rfl, rfl, SqL.of hh, atI_nat (j := 1) rfl, _, rfl, h, _, 0, _, rfl, rfl, SqL.of hh, atI_nat (j := 0) rfl, c, _, rfl, .inl (SqL.of hc), _, _, rfl, rfl, _, rfl, ?_⟩
        refine ite2 (fun hlt => ?_) (fun _ => skip)
        have hlt' : i < cells.length := by
          have := of_decide_eq_true hlt
          rw [List.length_map] at this
          exact this
        have hcell : atI (cells.map V.int) i = some (.int (cells[i.toNat]'(by omega))) := by
          refine at_of (j := i.toNat) (by omega) ?_
          rw [List.getElem?_map, List.getElem?_eq_getElem (by omega)]
          rfl
        generalize cells[i.toNat]'(by omega) = cell at hcell
        refine ⟨_, rfl, h, _, 0, _, rfl, rfl, SqL.of hh, atI_nat (j := 0) rfl, _, rfl, h, _, 1, _, rfl, rfl, SqL.of hh, atI_nat (j := 1) rfl, c, _, _, _, rfl, rfl, SqL.of hc, hcell, ?_⟩
        -- hand[1] = hand[1] + 1
        refine ⟨_, rfl, h, _, 1, _, rfl, rfl, SqL.of hh, atI_nat (j := 1) rfl, _, _, rfl, rfl, _, rfl, h, _, 1, 1, rfl, rfl, hh, rfl, ?_⟩
        -- hand[3] = ..
        refine ⟨_, rfl, h, _, 3, _, rfl, rfl, SqL.of upd_same, atI_nat (j := 3) rfl, _, _, rfl, rfl, .inr ⟨by decide, by decide⟩, _, rfl, _, _, rfl, rfl, _, _, rfl, rfl, .inl ⟨_, rfl, _, _, rfl, rfl, show (0 : Int) < 2147483629 by decide, _, rfl, h, _, 3, 3, rfl, rfl, upd_same, rfl, ?_⟩⟩
        refine ⟨_, rfl, _, _, rfl, rfl, ⟨by decide, by decide, by decide⟩, _, _, rfl, rfl, _, rfl, ?_⟩
        have kp : ∀ b u, b ≠ h → H b = some u → (upd (upd H h (.lst ((hv c i big acc cnt).set 1 (V.int (i + 1))))) h (.lst (((hv c i big acc cnt).set 1 (V.int (i + 1))).set 3 (V.int ((acc * 69621 + cell + 11) % 2147483629))))) b = some u := upd_keep (upd_keep fun _ _ _ e => e)
        refine ite2 (fun _ => ?_) (fun _ => ?_)
        · refine ⟨_, rfl, _, rfl, h, _, 2, 2, rfl, rfl, upd_same, rfl, ?_⟩
          exact ⟨i + 1, cell, _, none, some (.int cell), none, rfl, upd_keep kp, by omega, upd_same⟩
        · exact ⟨i + 1, big, _, none, some (.int cell), none, rfl, kp, by omega, upd_same⟩
      · exact skip
    · rintro σ H' ⟨i, big, acc, y2, y3, y4, rfl, kp, hi, hh⟩
      have hc' : H' c = some (.lst (cells.map V.int)) := kp c _ nch hc
      refine ⟨_, rfl, h, _, 2, _, rfl, rfl, SqL.of hh, atI_nat (j := 2) rfl, _, _, rfl, rfl, _, rfl, ?_⟩
      refine ite2 (fun _ => ?_) (fun _ => ?_)
      · -- digit = int(hand[2]) % many; hand[2] = hand[2] // many
        refine ⟨_, rfl, h, _, 2, _, rfl, rfl, SqL.of hh, atI_nat (j := 2) rfl, .inl ⟨_, rfl, _, rfl, _, _, rfl, rfl, m0, ?_⟩⟩
        refine ⟨_, rfl, h, _, 2, _, rfl, rfl, SqL.of hh, atI_nat (j := 2) rfl, _, rfl, _, _, rfl, rfl, ⟨m0, m1⟩, _, rfl, h, _, 2, 2, rfl, rfl, hh, rfl, ?_⟩
        refine ⟨_, rfl, ?_⟩
        refine q (big % many) _ (Int.emod_nonneg _ (by omega)) (Int.emod_lt_of_pos _ m0) ⟨upd_keep kp, ⟨i, big / many, acc, cnt, cells, upd_same, ?_, hi⟩⟩
        rw [upd_ne nch]
        exact hc'
      · -- hand[4] = hand[4] + 1
        refine ⟨_, rfl, h, _, 4, _, rfl, rfl, SqL.of hh, atI_nat (j := 4) rfl, _, _, rfl, rfl, _, rfl, h, _, 4, 4, rfl, rfl, hh, rfl, ?_⟩
        generalize hG : upd H' h (.lst ((hv c i big acc cnt).set 4 (V.int (cnt + 1)))) = G
        have eh : G h = some (.lst (hv c i big acc (cnt + 1))) := by
          rw [← hG]
          exact upd_same
        have kG : Keep h c H G := by
          rw [← hG]
          refine ⟨upd_keep kp, ⟨i, big, acc, cnt + 1, cells, upd_same, ?_, hi⟩⟩
          rw [upd_ne nch]
          exact hc'
        refine ⟨_, rfl, h, _, 3, _, rfl, rfl, SqL.of eh, atI_nat (j := 3) rfl, _, rfl, h, _, 4, _, rfl, rfl, SqL.of eh, atI_nat (j := 4) rfl, _, _, rfl, rfl, .inl ⟨by decide, by decide⟩, _, _, rfl, rfl, .inl ⟨_, rfl, _, _, rfl, rfl, .inr ⟨by decide, by decide⟩, .inl ⟨_, rfl, _, _, rfl, rfl, show (0 : Int) < 2147483647 by decide, ?_⟩⟩⟩
        have b1 : ∀ x : Int, 0 ≤ x % 2147483647 ∧ x % 2147483647 < 2147483647 := fun x => ⟨Int.emod_nonneg _ (by decide), Int.emod_lt_of_pos _ (by decide)⟩
        generalize hn : ((acc + 7919 * (cnt + 1)) * 48271) % 2147483647 = n1
        have q1 := b1 ((acc + 7919 * (cnt + 1)) * 48271)
        rw [hn] at q1
        refine ⟨_, rfl, _, rfl, _, _, rfl, rfl, ⟨by decide, by decide⟩, _, _, rfl, rfl, _, _, rfl, rfl, .inl ⟨by omega, by omega⟩, .inl ⟨_, rfl, _, _, rfl, rfl, show (0 : Int) < 2147483647 by decide, ?_⟩⟩
        generalize hn2 : (n1 * (n1 / 1009 + 69621)) % 2147483647 = n2
        have q2 := b1 (n1 * (n1 / 1009 + 69621))
        rw [hn2] at q2
        refine ⟨_, rfl, _, rfl, _, _, rfl, rfl, ⟨by decide, by decide⟩, _, _, rfl, rfl, _, _, rfl, rfl, .inl ⟨by omega, by omega⟩, .inl ⟨_, rfl, _, _, rfl, rfl, show (0 : Int) < 2147483399 by decide, ?_⟩⟩
        refine ⟨_, rfl, _, _, rfl, rfl, ⟨by decide, by decide⟩, .inl ⟨_, rfl, _, rfl, _, _, rfl, rfl, m0, ?_⟩⟩
        exact q _ _ (Int.emod_nonneg _ (by omega)) (Int.emod_lt_of_pos _ m0) kG
/-! ### the law's own helpers -/
theorem cut_map (ns : List Int) (lo hi : Option Int) : ∃ ms : List Int, cutV (ns.map V.int) lo hi = ms.map V.int ∧ ms.length ≤ ns.length := by
  refine ⟨(ns.drop (HT.sIx (ns.map V.int).length 0 lo)).take (HT.sIx (ns.map V.int).length (ns.map V.int).length hi - HT.sIx (ns.map V.int).length 0 lo), ?_, ?_⟩
  · unfold cutV
    rw [List.map_take, List.map_drop]
  · rw [List.length_take, List.length_drop]
    omega
def spHand (K : PySem.W.Frag) : Sp := fun vs H Q _ => ∃ (a : Addr) (ns : List Int), vs = [.ref a] ∧ SqL K H a (ns.map V.int) ∧ ns.length ≤ 1000 ∧ ∀ h c H', H h = none → Same H H' → HandOk H' h c → Q (.ref h) H'
theorem ok_law_hand (T : Txt K mg) : FnOk P w K mg base CX0 1 T.f_law_hand T.d_law_hand ["script"] (spHand K) := by
  refine T.F_law_hand.ok sc_law_hand (fun vs H Q E h => ?_) (fun cdv A outer s H vs Q E hr h => ?_)
  · obtain ⟨_, _, rfl, _⟩ := h
    rfl
  · obtain ⟨a, ns, rfl, ha, hl, q⟩ := h
    obtain ⟨ms, em, hm⟩ := cut_map ns none (some 63)
    refine ⟨_, (pss_cons (ps_setLc (i := 1) (own := [("cell", 2)]) rfl sc_law_hand.nd rfl rfl (sw_true rfl rfl rfl (by decide +kernel)) (pi_listK K (pe_slice (sl_listK K) (pv 0) po_none (po_some pe_int))) (blkOk_by (N := N_law_hand) (sc := defScope s_law_hand) (by decide +kernel)) (fun _ _ _ _ _ => (pg_name (i := 2) sc_law_hand.nd rfl (.inl rfl))) (fun _ _ _ _ _ => pts_nil) (fun _ _ _ _ _ => (pe_callB call_abs (by rfl) T.z_abs (by decide +kernel) (pa_cons (pe_callTy call_int1 (by rfl) T.z_int (by decide +kernel) (pa_cons (pv 2) pa_nil)) pa_nil))))
      (pss_one (ps_ret (pe_lst (pa_cons (pv 1) (pa_cons pe_int (pa_cons pe_int (pa_cons (pe_op op_add pe_int (pe_callB (call_lenK K) (by rfl) T.z_len PySem.boot_len (pa_cons (pv 1) pa_nil))) (pa_cons pe_int pa_nil))))))))), ?_⟩
    refine ⟨_, rfl, 63, rfl, a, _, rfl, ha, fun p np => ⟨p, rfl, ⟨_, SqL.of upd_same⟩, fun D hD => lc_list (K := K) (xs := cutV (ns.map V.int) none (some 63)) (fun i H' => ∃ cs : List Int, cs.length = i ∧ Same (upd H p (.lst (cutV (ns.map V.int) none (some 63)))) H' ∧ H' D = some (.lst (cs.map V.int)))
      ⟨[], rfl, same_new hD, upd_same⟩ (fun i H' _ ⟨_, _, sm, _⟩ => sm.seq (SqL.of upd_same)) ?_ ?_⟩⟩
    · rintro i x H' hx ⟨cs, hcs, sm, hDl⟩
      rw [em] at hx
      obtain ⟨z, rfl, hz⟩ := int_at hx
      have hi := (List.getElem?_eq_some_iff.mp hz).1
      refine ⟨rfl, ?_⟩
      dsimp only [tYes]
      rw [if_pos rfl]
      refine ⟨_, rfl, .inl ⟨_, rfl, _, rfl, _, hDl, ?_, cs ++ [if z < 0 then -z else z], ?_, fun b o e => ?_, ?_⟩⟩
      · rw [List.length_map]
        exact sz_small (by omega)
      · rw [List.length_append, hcs]
        rfl
      · rw [upd_ne (ne_of_none e hD)]
        exact sm _ _ e
      · rw [upd_same, List.map_append]
        rfl
    · rintro H' ⟨cs, hcs, sm, hDl⟩
      have s1 : Same H H' := (same_new np).trans sm
      refine ⟨_, rfl, _, rfl, D, _, rfl, .inl (SqL.of hDl), _, _, rfl, rfl, by show 5 ≤ sizeLine; decide, fun h nh => ?_⟩
      have s2 : Same H' (upd H' h (.lst (hv D 0 0 (1 + ((cs.map V.int).length : Int)) 0))) := same_new nh
      exact q h D _ (s1.free nh) (s1.trans s2) ⟨0, 0, _, 0, cs, upd_same, s2 _ _ hDl, Int.le_refl 0⟩
def spSome (_K : PySem.W.Frag) : Sp := fun vs H Q _ => ∃ (h c p : Addr) (xs : List V), vs = [.ref h, .ref p] ∧ HandOk H h c ∧ p ≠ h ∧ H p = some (.lst xs) ∧ 0 < xs.length ∧ xs.length < 1000000 ∧ ∀ x H', x ∈ xs → Keep h c H H' → Q x H'
theorem ok_law_some (T : Txt K mg) : FnOk P w K mg base CX0 2 T.f_law_some T.d_law_some ["hand", "things"] (spSome K) := by
  refine T.F_law_some.ok sc_law_some (fun vs H Q E h => ?_) (fun cdv A outer s H vs Q E hr h => ?_)
  · obtain ⟨_, _, _, _, rfl, _⟩ := h
    rfl
  · obtain ⟨h, c, p, xs, rfl, hx, ne, hp, l0, l1, q⟩ := h
    refine ⟨_, (pss_one (ps_ret (pe_ix (ix_listK K) (pv 1) (pe_call (ok_law_draw T) hr (by rfl) T.g_law_draw T.F_law_draw.kp T.b_law_draw .nil pass0 (pa_cons (pv 0) (pa_cons (pe_callB (call_lenK K) (by rfl) T.z_len PySem.boot_len (pa_cons (pv 1) pa_nil)) pa_nil))) (fun _ _ => rfl)))), ?_⟩
    refine ⟨_, rfl, _, rfl, _, rfl, p, _, rfl, .inl (SqL.of hp), h, c, _, rfl, hx, by omega, by omega, fun d H' d0 d1 k => ?_⟩
    have hd : d.toNat < xs.length := by omega
    exact ⟨p, xs, d, xs[d.toNat], rfl, rfl, SqL.of (k.rest _ _ ne hp), at_of (j := d.toNat) (by omega) (List.getElem?_eq_getElem hd), q _ H' (List.getElem_mem hd) k⟩
/-! ### displays of tuples of ints -/
def taInts : List Int → TA
  | [] => tNil
  | i :: r => tCons (tC (.int i)) (taInts r)
def taTups : List (List Int) → TA
  | [] => tNil
  | c :: r => tCons (tTup (taInts c)) (taTups r)
theorem taInts_ok {σ : L2.St} {H : Hp} : ∀ (c : List Int) (Q : List V → Hp → Prop), Q (c.map V.int) H → taInts c σ H Q
  | [], Q, q => q
  | i :: r, Q, q => taInts_ok r (fun vs H1 => Q (V.int i :: vs) H1) q
theorem taTups_ok {σ : L2.St} : ∀ (css : List (List Int)) {H : Hp} (Q : List V → Hp → Prop), (∀ c ∈ css, c.length ≤ 1000) → (∀ vs H', Same H H' → DhAll K H' vs (css.map ctD) → Q vs H') → taTups css σ H Q
  | [], H, Q, _, q => q [] H (Same.refl H) .nil
  | c :: r, H, Q, hl, q => by
    refine taInts_ok c _ ⟨?_, fun p np => taTups_ok r (fun vs H1 => Q (V.ref p :: vs) H1) (fun d hd => hl d (List.mem_cons_of_mem _ hd)) fun vs H' s hv => ?_⟩
    · rw [List.length_map]
      exact Nat.le_of_lt (sz_small (by have := hl c (List.mem_cons_self ..); omega))
    · have s2 := (same_new (o := .tup (c.map V.int)) np).trans s
      exact q _ H' s2 (.cons (dh_ct (SqT.of (s _ _ upd_same))) hv)
theorem DhAll.mem {H : Hp} {vs : List V} {ds : List Dt} (h : DhAll K H vs ds) {v : V} (hv : v ∈ vs) : ∃ d, d ∈ ds ∧ Dh K H v d := by
  obtain ⟨i, hi, rfl⟩ := List.mem_iff_getElem.mp hv
  obtain ⟨d, e, hd⟩ := h.get (List.getElem?_eq_getElem hi)
  exact ⟨d, List.mem_of_getElem? e, hd⟩
/-- a written list of tuples of ints handed to _law_some, behind the hand -/
theorem some_tups {H : Hp} {σ : L2.St} {Q : VK} {h ca : Addr} {css : List (List Int)} (hx : HandOk H h ca) (hl : ∀ c ∈ css, c.length ≤ 1000) (h0 : 0 < css.length) (h1 : css.length ≤ 1000) (q : ∀ x c H', c ∈ css → Keep h ca H H' → Dh K H' x (ctD c) → Q x H') :
    tLst (taTups css) σ H fun x H1 => spSome K [.ref h, x] H1 Q E0 := by
  refine taTups_ok (K := K) css _ hl fun vs H1 s1 hv => ?_
  have e := hv.length
  rw [List.length_map] at e
  refine ⟨Nat.le_of_lt (sz_small (by omega)), fun p np => ?_⟩
  have s2 : Same H (upd H1 p (.lst vs)) := s1.trans (same_new np)
  have nph : p ≠ h := ((hx.same s1).ne np).1
  refine ⟨h, ca, p, vs, rfl, hx.same s2, nph, upd_same, by omega, by omega, fun x H' hm k => ?_⟩
  obtain ⟨d, hd, hxd⟩ := hv.mem hm
  obtain ⟨c, hc, rfl⟩ := List.mem_map.mp hd
  exact q x c H' hc ((Keep.of hx s2).trans k) ((hxd.ext (Ext.new np)).ext (Keep.ext (hx.same s2) k))
def spSizes (K : PySem.W.Frag) : Sp := fun vs H Q _ => ∃ h c : Addr, vs = [.ref h] ∧ HandOk H h c ∧ ∀ v ss H', Keep h c H H' → SizesOk ss → Dh K H' v (ctD ss) → Q v H'
abbrev szA : List (List Int) := [[2, 2, 2, 2, 2], [4, 4], [3, 3, 2], [2, 4, 2, 2], [4, 4, 4]]
abbrev szB : List (List Int) := [[2, 2, 2], [2, 3, 2], [3, 2, 2], [2, 2], [3, 2], [2, 2, 3], [4], [2, 2, 2, 2], [2]]
theorem szA_ok : ∀ c ∈ szA, SizesOk c := fun c hc => by
  have q : szA.all (fun c => (Dt.tup (c.map Dt.int)).isSizes) = true := by decide
  exact List.all_eq_true.mp q c hc
theorem szB_ok : ∀ c ∈ szB, SizesOk c := fun c hc => by
  have q : szB.all (fun c => (Dt.tup (c.map Dt.int)).isSizes) = true := by decide
  exact List.all_eq_true.mp q c hc
theorem ok_law_sizes (T : Txt K mg) : FnOk P w K mg base CX0 3 T.f_law_sizes T.d_law_sizes ["hand"] (spSizes K) := by
  refine T.F_law_sizes.ok sc_law_sizes (fun vs H Q E h => ?_) (fun cdv A outer s H vs Q E hr h => ?_)
  · obtain ⟨_, _, rfl, _⟩ := h
    rfl
  · obtain ⟨h, ca, rfl, hx, q⟩ := h
    refine ⟨_, (pss_cons (ps_if (pt_cmpR op_eq (pe_call (ok_law_draw T) (hr.mono (by decide)) (by rfl) T.g_law_draw T.F_law_draw.kp T.b_law_draw .nil pass0 (pa_cons (pv 0) (pa_cons pe_int pa_nil))) pe_int (nomark _)) (pss_one (ps_ret (pe_call (ok_law_some T) hr (by rfl) T.g_law_some T.F_law_some.kp T.b_law_some .nil pass0 (pa_cons (pv 0) (pa_cons (pe_lst (pa_cons (pe_tup (pa_cons pe_int (pa_cons pe_int (pa_cons pe_int (pa_cons pe_int (pa_cons pe_int pa_nil)))))) (pa_cons (pe_tup (pa_cons pe_int (pa_cons pe_int pa_nil))) (pa_cons (pe_tup (pa_cons pe_int (pa_cons pe_int (pa_cons pe_int pa_nil)))) (pa_cons (pe_tup (pa_cons pe_int (pa_cons pe_int (pa_cons pe_int (pa_cons pe_int pa_nil))))) (pa_cons (pe_tup (pa_cons pe_int (pa_cons pe_int (pa_cons pe_int pa_nil)))) pa_nil)))))) pa_nil))))) pss_nil)
      (pss_one (ps_ret (pe_call (ok_law_some T) hr (by rfl) T.g_law_some T.F_law_some.kp T.b_law_some .nil pass0 (pa_cons (pv 0) (pa_cons (pe_lst (pa_cons (pe_tup (pa_cons pe_int (pa_cons pe_int (pa_cons pe_int pa_nil)))) (pa_cons (pe_tup (pa_cons pe_int (pa_cons pe_int (pa_cons pe_int pa_nil)))) (pa_cons (pe_tup (pa_cons pe_int (pa_cons pe_int (pa_cons pe_int pa_nil)))) (pa_cons (pe_tup (pa_cons pe_int (pa_cons pe_int pa_nil))) (pa_cons (pe_tup (pa_cons pe_int (pa_cons pe_int pa_nil))) (pa_cons (pe_tup (pa_cons pe_int (pa_cons pe_int (pa_cons pe_int pa_nil)))) (pa_cons (pe_tup (pa_cons pe_int pa_nil)) (pa_cons (pe_tup (pa_cons pe_int (pa_cons pe_int (pa_cons pe_int (pa_cons pe_int pa_nil))))) (pa_cons (pe_tup (pa_cons pe_int pa_nil)) pa_nil)))))))))) pa_nil)))))), ?_⟩
    refine ⟨_, rfl, h, ca, 12, rfl, hx, by decide, by decide, fun d H1 _ _ k => ⟨rfl, _, rfl, ?_⟩⟩
    have go : ∀ css : List (List Int), (∀ c ∈ css, SizesOk c) → css.length ≤ 1000 → 0 < css.length → tLst (taTups css) [some (.ref h)] H1 fun x H2 => spSome K [.ref h, x] H2 Q E0 := fun css ok l1 l0 =>
      some_tups (K := K) k.hand (fun c hc => by have := (ok c hc).facts; omega) l0 l1 fun x c H2 hc k2 hd => q x c H2 (k.trans k2) (ok c hc) hd
    refine ite2 (fun _ => ?_) (fun _ => ?_)
    · exact ⟨_, rfl, go szA szA_ok (by decide) (by decide)⟩
    · exact ⟨_, rfl, go szB szB_ok (by decide) (by decide)⟩
def spPat (K : PySem.W.Frag) : Sp := fun vs H Q _ => ∃ (h c : Addr) (n : Nat), vs = [.ref h, .int n] ∧ HandOk H h c ∧ n ≤ 5 ∧ ∀ v ps H', Keep h c H H' → Asc n (-1) ps → Dh K H' v (ctD ps) → Q v H'
theorem Asc.snoc {n : Int} : ∀ {l : Int} {ps : List Int}, Asc n l ps → l < n → Asc (n + 1) l (ps ++ [n])
  | _, [], _, h => ⟨h, by omega, True.intro⟩
  | _, c :: r, ⟨h1, h2, h3⟩, _ => ⟨h1, by omega, h3.snoc h2⟩
theorem Asc.wide {n : Int} : ∀ {l : Int} {ps : List Int}, Asc n l ps → Asc (n + 1) l ps
  | _, [], _ => True.intro
  | _, c :: r, ⟨h1, h2, h3⟩ => ⟨h1, by omega, h3.wide⟩
theorem ok_law_pattern (T : Txt K mg) : FnOk P w K mg base CX0 2 T.f_law_pattern T.d_law_pattern ["hand", "columns"] (spPat K) := by
  refine T.F_law_pattern.ok sc_law_pattern (fun vs H Q E h => ?_) (fun cdv A outer s H vs Q E hr h => ?_)
  · obtain ⟨_, _, _, rfl, _⟩ := h
    rfl
  · obtain ⟨h, ca, n, rfl, hx, hn, q⟩ := h
    refine ⟨_, (pss_one (ps_ret (pe_callTy (call_tupleK K) (by rfl) T.z_tuple (by decide +kernel) (pa_cons (pe_lc (own := [("c", 2)]) rfl sc_law_pattern.nd (pi_range1 (by rfl) T.z_range (pa_cons (pv 1) pa_nil)) (blkOk_by (N := N_law_pattern) (sc := defScope s_law_pattern) (by decide +kernel)) (fun _ _ _ _ _ => (pg_name (i := 2) sc_law_pattern.nd rfl (.inl rfl))) (fun _ _ _ _ _ => (pts_one (pt_cmpR op_eq (pe_call (ok_law_draw T) hr (by rfl) T.g_law_draw T.F_law_draw.kp T.b_law_draw .nil pass0 (pa_cons (pv 0) (pa_cons pe_int pa_nil))) pe_int (nomark _)))) (fun _ _ _ _ _ => (pv 2))) pa_nil)))), ?_⟩
    refine ⟨_, rfl, (n : Int), rfl, by omega, by omega, fun D hD => lc_range (lo := 0) (n := ((n : Nat) : Int).toNat) (fun i H' => ∃ ps, Keep h ca H H' ∧ H' D = some (.lst (ps.map V.int)) ∧ Asc i (-1) ps ∧ ps.length ≤ i)
      ⟨[], Keep.of hx (same_new hD), upd_same, True.intro, Nat.le_refl _⟩ ?_ ?_⟩
    · rintro i H' hi ⟨ps, k, hDl, ha, hpl⟩
      have ndh : D ≠ h := (hx.ne hD).1
      refine ⟨rfl, _, rfl, h, ca, 2, rfl, k.hand, by decide, by decide, fun d H2 _ _ k2 => ⟨rfl, _, rfl, ?_⟩⟩
      have hD2 := k2.rest _ _ ndh hDl
      refine ite2 (fun _ => ?_) (fun _ => ?_)
      · refine ⟨_, rfl, _, hD2, ?_, ps ++ [(i : Int)], Keep.put hx (k.trans k2) hD, ?_, ?_, ?_⟩
        · rw [List.length_map]
          exact sz_small (by omega)
        · rw [upd_same, List.map_append, Int.zero_add]
          rfl
        · have e : ((i + 1 : Nat) : Int) = (i : Int) + 1 := by omega
          rw [e]
          exact ha.snoc (by omega)
        · rw [List.length_append]
          simp
          omega
      · refine ⟨ps, k.trans k2, hD2, ?_, by omega⟩
        have e : ((i + 1 : Nat) : Int) = (i : Int) + 1 := by omega
        rw [e]
        exact ha.wide
    · rintro H' ⟨ps, k, hDl, ha, hpl⟩
      rw [Int.toNat_natCast] at ha
      refine ⟨D, _, rfl, .inl ⟨SqL.of hDl, fun l nl => ?_⟩⟩
      exact q _ ps _ (k.same (same_new nl)) ha (dh_ct (SqT.of upd_same))
/-! ### contents and boxes as the law has them -/
theorem ext_take {n j : Nat} (c : List Int) (h : j < n) : (ext n c).take (j + 1) = (ext n c).take j ++ [c ++ [(j : Int)]] := by
  have e : (ext n c)[j]? = some (c ++ [(j : Int)]) := by
    unfold ext
    rw [List.getElem?_map, List.getElem?_range h]
    rfl
  rw [List.take_add_one, e]
  rfl
/-- [c + (w,) for w in range(n)] -/
theorem lc_ext {H : Hp} {σ : L2.St} {Q : VK} {x : V} {c : List Int} {n : Nat} {kx kc : Nat} {ta : TA} (hta : ∀ R : List V → Hp → Prop, R [.int n] H → ta σ H R) (hx : Dh K H x (ctD c)) (hl : c.length ≤ 1000) (hn : n ≤ 1000)
    (hw : ∀ y, wipe ((wipe σ [kx]).set kx (some y)) [kx] = wipe σ [kx]) (hc : ∀ y : V, ((wipe σ [kx]).set kx (some y))[kc]? = some (some x)) (hk : ∀ y : V, ((wipe σ [kx]).set kx (some y))[kx]? = some (some y))
    (q : ∀ D xs H', H D = none → Same H H' → H' D = some (.lst xs) → DhAll K H' xs ((ext n c).map ctD) → Q (.ref D) H') :
    tLc (iRng1 ta) (gName kx) tYes (tOp (rCatA K) (tVar kc) (tTup (tCons (tVar kx) tNil))) [kx] σ H Q := by
  refine hta _ ⟨_, rfl, by omega, by omega, fun D hD => lc_range (lo := 0) (n := ((n : Nat) : Int).toNat) (fun i H' => ∃ acc, Same H H' ∧ H' D = some (.lst acc) ∧ DhAll K H' acc (((ext n c).take i).map ctD)) ⟨[], same_new hD, upd_same, .nil⟩ ?_ ?_⟩
  · rintro i H' hi ⟨acc, sm, hDl, hacc⟩
    rw [Int.toNat_natCast] at hi
    refine ⟨hw _, ?_⟩
    dsimp only [tYes]
    rw [if_pos rfl, Int.zero_add]
    refine ⟨x, hc _, _, hk _, by show 1 ≤ sizeLine; decide, fun r hr2 => cat_ct (K := K) (c := c) (j := (i : Int)) (hx.ext (.of (sm.trans (same_new hr2)))) hl upd_same fun v H3 s4 hv => ?_⟩
    have s5 : Same H' H3 := (same_new hr2).trans s4
    refine ⟨acc, s5 _ _ hDl, ?_, acc ++ [v], Same.put hD (sm.trans s5), upd_same, ?_⟩
    · have e1 := hacc.length
      rw [List.length_map, List.length_take, ext_len] at e1
      exact sz_small (by omega)
    · rw [ext_take c hi, List.map_append]
      exact ((hacc.ext (.of s5)).snoc hv).ext (Ext.put (s5 _ _ hDl))
  · rintro H' ⟨acc, sm, hDl, hacc⟩
    rw [Int.toNat_natCast, List.take_of_length_le (by rw [ext_len]; exact Nat.le_refl _)] at hacc
    exact q D acc H' hD sm hDl hacc
theorem ok_law_contents (T : Txt K mg) : FnOk P w K mg base CX0 1 T.f_law_contents T.d_law_contents ["sizes"] (spAll K) := by
  refine T.F_law_contents.ok sc_law_contents (fun vs H Q E h => ?_) (fun cdv A outer s H vs Q E hr h => ?_)
  · obtain ⟨_, _, rfl, _⟩ := h
    rfl
  · obtain ⟨a, ss, rfl, hs, ok, q⟩ := h
    obtain ⟨_, h5, hm⟩ := ok.facts
    refine ⟨_, (pss_cons (ps_set (i := 1) sc_law_contents.nd rfl (.inl rfl) (pe_lst (pa_cons (pe_tup pa_nil) pa_nil)))
      (pss_cons (ps_for PassesOwn.never rfl (pi_tupK K (pv 0)) (pg_name (i := 2) sc_law_contents.nd rfl (.inl rfl)) (pss_cons (ps_set (i := 3) sc_law_contents.nd rfl (.inl rfl) (pe_lst pa_nil))
      (pss_cons (ps_for PassesOwn.never rfl (pi_listK K (pv 1)) (pg_name (i := 4) sc_law_contents.nd rfl (.inr rfl)) (pss_one (ps_expr (pe_bm PySem.F.plainAttrs_list PySem.F.slot_list_extend PySem.F.type_list_extend mt_extend (pv 3) (pa_cons (pe_lc (own := [("worth", 5)]) rfl sc_law_contents.nd (pi_range1 (by rfl) T.z_range (pa_cons (pv 2) pa_nil)) (blkOk_by (N := N_law_contents) (sc := defScope s_law_contents) (by decide +kernel)) (fun _ _ _ _ _ => (pg_name (i := 5) sc_law_contents.nd rfl (.inl rfl))) (fun _ _ _ _ _ => pts_nil) (fun _ _ _ _ _ => (pe_op (op_catK K) (pv 4) (pe_tup (pa_cons (pv 5) pa_nil))))) pa_nil)))))
      (pss_one (ps_set (i := 1) sc_law_contents.nd rfl (.inl rfl) (pv 3))))))
      (pss_one (ps_ret (pv 1))))), ?_⟩
    refine ⟨Nat.zero_le _, fun t0 n0 => ⟨by show 1 ≤ sizeLine; decide, fun f0 nf0 => ?_⟩⟩
    have s1 : Same H (upd H t0 (.tup [])) := same_new n0
    have s2 : Same H (upd (upd H t0 (.tup [])) f0 (.lst [.ref t0])) := s1.trans (same_new nf0)
    refine ⟨_, rfl, a, rfl, ⟨_, (Ext.of s2).sqT hs⟩, for_tup (xs := ss.map V.int) (fun i σ H' => ∃ (f : Addr) (xs : List V) (y2 y3 y4 y5 : Option V), σ = [some (.ref a), some (.ref f), y2, y3, y4, y5] ∧ Same H H' ∧ H f = none ∧ H' f = some (.lst xs) ∧ DhAll K H' xs ((allC (ss.take i)).map ctD))
      ⟨f0, [.ref t0], none, none, none, none, rfl, s2, s1.free nf0, upd_same, .cons (dh_ct (c := []) (SqT.of ?_)) .nil⟩ (fun i σ H' _ ⟨_, _, _, _, _, _, _, sm, _⟩ => (Ext.of sm).sqT hs) ?_ ?_⟩
    · rw [upd_ne (fun e => by rw [e, upd_same] at nf0; cases nf0), upd_same]
      rfl
    · rintro i x σ H' hx ⟨f, xs, y2, y3, y4, y5, rfl, sm, nf, hf, hall⟩
      obtain ⟨z, rfl, hz⟩ := int_at hx
      obtain ⟨z2, z4⟩ := hm z (List.mem_of_getElem? hz)
      obtain ⟨n, rfl⟩ : ∃ n : Nat, z = (n : Int) := ⟨z.toNat, by omega⟩
      have hi : i < ss.length := (List.getElem?_eq_some_iff.mp hz).1
      have etake : ss.take (i + 1) = ss.take i ++ [(n : Int)] := by rw [List.take_add_one, hz]; rfl
      generalize hcs : allC (ss.take i) = cs at hall
      have hlen := hall.length
      rw [List.length_map] at hlen
      have hb := allC_len (fun s hs => (hm s hs).2) i
      rw [hcs] at hb
      have hcl : cs.length ≤ 1024 := Nat.le_trans hb.1 (Nat.pow_le_pow_right (by decide) (by omega : i ≤ 5))
      refine ⟨Nat.zero_le _, fun D hD => ?_⟩
      have sD : Same H' (upd H' D (.lst [])) := same_new hD
      refine ⟨.ref f, rfl, f, rfl, ⟨xs, SqL.of (sD _ _ hf)⟩, for_list (K := K) (xs := xs) (fun j σ H2 => ∃ (acc : List V) (y4 y5 : Option V), σ = [some (.ref a), some (.ref f), some (.int n), some (.ref D), y4, y5] ∧ Same H' H2 ∧ H2 D = some (.lst acc) ∧ DhAll K H2 acc (((cs.take j).flatMap (ext n)).map ctD))
        ⟨[], _, _, rfl, sD, upd_same, .nil⟩ (fun j σ H2 _ ⟨_, _, _, _, s3, _⟩ => s3.seq (SqL.of hf)) ?_ ?_⟩
      · rintro j x σ H2 hx2 ⟨acc, y4, y5, rfl, s3, hD2, hacc⟩
        obtain ⟨d, hd, hxd⟩ := hall.get hx2
        obtain ⟨c, hc, rfl⟩ := map_at hd
        have hcm : c.length ≤ 1000 := Nat.le_trans (hb.2 c (List.mem_of_getElem? hc)) (by omega)
        refine ⟨.ref D, rfl, .inl ⟨rfl, _, SqL.of hD2⟩, ?_⟩
        dsimp only [tCons]
        refine lc_ext (K := K) (σ := [some (.ref a), some (.ref f), some (.int n), some (.ref D), some x, y5]) (kx := 5) (kc := 4) (n := n) (c := c) (fun R hR => ⟨_, rfl, hR⟩) (hxd.ext (.of s3)) hcm (by omega) (fun _ => rfl) (fun _ => rfl) (fun _ => rfl) fun b zs H3 nb s4 hb3 hzs => ?_
        have e1 := hacc.length
        rw [List.length_map, flat_len, List.length_take] at e1
        have e2 := hzs.length
        rw [List.length_map, ext_len] at e2
        have e3 : min j cs.length * n ≤ 1024 * 4 := Nat.mul_le_mul (by omega) (by omega)
        refine ⟨D, b, acc, zs, rfl, rfl, s4 _ _ hD2, hb3, Nat.le_of_lt (sz_small (by omega)), acc ++ zs, _, _, rfl, Same.put hD (s3.trans s4), upd_same, ?_⟩
        rw [List.take_add_one, hc]
        show DhAll K _ _ (List.map ctD (List.flatMap (ext n) (List.take j cs ++ [c])))
        rw [List.flatMap_append, List.map_append]
        refine ((hacc.ext (.of s4)).append ?_).ext (Ext.put (s4 _ _ hD2))
        simpa using hzs
      · rintro σ H2 ⟨acc, y4, y5, rfl, s3, hD2, hacc⟩
        rw [hlen, List.take_length] at hacc
        refine ⟨_, rfl, D, acc, _, _, _, _, rfl, sm.trans s3, sm.free hD, hD2, ?_⟩
        rw [etake, allC_snoc, hcs]
        exact hacc
    · rintro σ H' ⟨f, xs, y2, y3, y4, y5, rfl, sm, nf, hf, hall⟩
      rw [List.length_map, List.take_length] at hall
      exact ⟨.ref f, rfl, q f xs H' nf sm hf hall⟩
def spLBox (K : PySem.W.Frag) : Sp := fun vs H Q _ => ∃ (ps c : List Int) (v1 v2 : V), vs = [v1, v2] ∧ Dh K H v1 (ctD ps) ∧ Dh K H v2 (ctD c) ∧ InR ps c.length ∧ ps.length ≤ 1000 ∧ ∀ v H', Same H H' → Dh K H' v (boxD ps (picks ps c)) → Q v H'
theorem ok_law_box (T : Txt K mg) : FnOk P w K mg base CX0 1 T.f_law_box T.d_law_box ["pattern", "content"] (spLBox K) := by
  refine T.F_law_box.ok sc_law_box (fun vs H Q E h => ?_) (fun cdv A outer s H vs Q E hr h => ?_)
  · obtain ⟨_, _, _, _, rfl, _⟩ := h
    rfl
  · obtain ⟨ps, c, v1, v2, rfl, h1, h2, hin, hl, q⟩ := h
    obtain ⟨a, rfl, ha⟩ := ct_inv h1
    obtain ⟨b, rfl, hb⟩ := ct_inv h2
    refine ⟨_, (pss_one (ps_ret (pe_tup (pa_cons (pv 0) (pa_cons (pe_callTy (call_tupleK K) (by rfl) T.z_tuple (by decide +kernel) (pa_cons (pe_lc (own := [("c", 2)]) rfl sc_law_box.nd (pi_tupK K (pv 0)) (blkOk_by (N := N_law_box) (sc := defScope s_law_box) (by decide +kernel)) (fun _ _ _ _ _ => (pg_name (i := 2) sc_law_box.nd rfl (.inl rfl))) (fun _ _ _ _ _ => pts_nil) (fun _ _ _ _ _ => (pe_ix (ix_tupK K) (pv 1) (pv 2) (fun _ _ => rfl)))) pa_nil)) pa_nil))))), ?_⟩
    refine ⟨_, rfl, ?_⟩
    dsimp only [tCB, tCons]
    refine lc_pick (K := K) (kx := 2) (kc := 1) (tp := tVar 0) (σ := [some (.ref a), some (.ref b), none]) (fun R hR => ⟨_, rfl, hR⟩) ha hb hin hl (fun _ => rfl) (fun _ => rfl) (fun _ => rfl) fun D H' hD sm hDl => ?_
    refine ⟨D, _, rfl, .inl ⟨SqL.of hDl, fun l nl => ⟨by show 2 ≤ sizeLine; decide, fun r nr => ?_⟩⟩⟩
    have s1 : Same H' (upd H' l (.tup ((picks ps c).map V.int))) := same_new nl
    have s2 : Same (upd H' l (.tup ((picks ps c).map V.int))) (upd (upd H' l (.tup ((picks ps c).map V.int))) r (.tup [.ref a, .ref l])) := same_new nr
    exact q _ _ (sm.trans (s1.trans s2)) (.tup (SqT.of upd_same) (.cons (h1.ext (.of (sm.trans (s1.trans s2)))) (.cons (dh_ct (SqT.of (s2 _ _ upd_same))) .nil)))
def spIsIn (K : PySem.W.Frag) : Sp := fun vs H Q _ => ∃ (ps ws c : List Int) (v1 v2 : V), vs = [v1, v2] ∧ Dh K H v1 (boxD ps ws) ∧ Dh K H v2 (ctD c) ∧ InR ps c.length ∧ ps.length ≤ 1000 ∧ ∀ H', Same H H' → Q (.bl (decide (picks ps c = ws))) H'
theorem ok_law_is_in (T : Txt K mg) : FnOk P w K mg base CX0 2 T.f_law_is_in T.d_law_is_in ["box", "content"] (spIsIn K) := by
  refine T.F_law_is_in.ok sc_law_is_in (fun vs H Q E h => ?_) (fun cdv A outer s H vs Q E hr h => ?_)
  · obtain ⟨_, _, _, _, _, rfl, _⟩ := h
    rfl
  · obtain ⟨ps, ws, c, v1, v2, rfl, h1, h2, hin, hl, q⟩ := h
    obtain ⟨b, w1, w2, rfl, hb, h3, h4⟩ := box_inv h1
    refine ⟨_, (pss_one (ps_ret (pe_cmpR (op_eqK K hr.units) (pe_call (ok_law_box T) hr (by rfl) T.g_law_box T.F_law_box.kp T.b_law_box .nil pass0 (pa_cons (pe_ix (ix_tupK K) (pv 0) pe_int (fun _ _ => rfl)) (pa_cons (pv 1) pa_nil))) (pv 0) (nomark _)))), ?_⟩
    refine ⟨_, rfl, b, _, 0, _, rfl, rfl, hb, atI_nat (j := 0) rfl, _, rfl, ps, c, _, _, rfl, h3, h2, hin, hl, fun v H' sm hv => ?_⟩
    refine ⟨_, rfl, _, _, dp_box hv, dp_box (h1.ext (.of sm)), shaped_box _ _, shaped_box _ _, ?_⟩
    have e : PyData.eqv (boxP ps (picks ps c)) (boxP ps ws) = decide (picks ps c = ws) := by
      rw [eqv_box]
      simp
    rw [e]
    exact q H' sm
/-! ### two boxes at once, as the law has it -/
theorem merge_kv : ∀ (l a : Prs), ((a ++ l).map (·.1)).Nodup → mergeK (kvV a) (kvV l) = kvV (a ++ l)
  | [], a, _ => by rw [List.append_nil]; rfl
  | p :: l, a, h => by
    have hn : a.lookup p.1 = none := by
      rw [lookup_none]
      intro m
      rw [List.map_append, List.nodup_append] at h
      exact h.2.2 _ m _ (List.mem_cons_self ..) rfl
    show mergeK (putK (kvV a) (Sum.inl p.1 : Key) (V.int p.2)) (kvV l) = _
    rw [put_new hn, merge_kv l (a ++ [(p.1, p.2)]) (by rw [List.append_assoc]; exact h), List.append_assoc]
    rfl
theorem kv_fst {ps ws : List Int} (h : ws.length = ps.length) : ((kvV (ps.zip ws)).map fun p => kV p.1) = ps.map V.int := by
  unfold kvV
  rw [List.map_map]
  have e : ((ps.zip ws).map fun p => V.int p.1) = ((ps.zip ws).map (·.1)).map V.int := by rw [List.map_map]; rfl
  refine Eq.trans e ?_
  rw [zip_keys h]
theorem kv_snd {ps ws : List Int} (h : ws.length = ps.length) : ((kvV (ps.zip ws)).map fun p => p.2) = ws.map V.int := by
  unfold kvV
  rw [List.map_map]
  have e : ((ps.zip ws).map fun p => V.int p.2) = ((ps.zip ws).map (·.2)).map V.int := by rw [List.map_map]; rfl
  refine Eq.trans e ?_
  rw [List.map_snd_zip (by omega)]
def spLBoth (K : PySem.W.Frag) : Sp := fun vs H Q _ => ∃ (ss ps ws qs us : List Int) (v1 v2 : V), vs = [v1, v2] ∧ SizesOk ss ∧ Dh K H v1 (boxD ps ws) ∧ BoxOk ss ps ws ∧ Dh K H v2 (boxD qs us) ∧ BoxOk ss qs us ∧
  ∀ v H', Same H H' → Dh K H' v (optD (bothR ps ws qs us)) → Q v H'
theorem ok_law_both (T : Txt K mg) : FnOk P w K mg base CX0 1 T.f_law_both T.d_law_both ["box", "other"] (spLBoth K) := by
  refine T.F_law_both.ok sc_law_both (fun vs H Q E h => ?_) (fun cdv A outer s H vs Q E hr h => ?_)
  · obtain ⟨_, _, _, _, _, _, _, rfl, _⟩ := h
    rfl
  · obtain ⟨ss, ps, ws, qs, us, v1, v2, rfl, ok, hv1, bx1, hv2, bx2, q⟩ := h
    have hl := ok.facts.2.1
    have hpl := bx1.asc.len (by omega)
    have hql := bx2.asc.len (by omega)
    have hu := hu_of hr
    have nA := bx1.nodup
    have nB := bx2.nodup
    obtain ⟨b, w1, w2, rfl, hb, h1, h2⟩ := box_inv hv1
    obtain ⟨c, w3, w4, rfl, hc, h3, h4⟩ := box_inv hv2
    obtain ⟨b1, rfl, hb1⟩ := ct_inv h1
    obtain ⟨b2, rfl, hb2⟩ := ct_inv h2
    obtain ⟨c1, rfl, hc1⟩ := ct_inv h3
    obtain ⟨c2, rfl, hc2⟩ := ct_inv h4
    refine ⟨_, (pss_cons (ps_set (i := 2) sc_law_both.nd rfl (.inr rfl) (pe_dictZip (by rfl) T.z_dict (by rfl) T.z_zip rfl (pa_cons (pe_ix (ix_tupK K) (pv 0) pe_int (fun _ _ => rfl)) (pa_cons (pe_ix (ix_tupK K) (pv 0) pe_int (fun _ _ => rfl)) pa_nil))))
      (pss_cons (ps_for PassesOwn.never rfl (pi_zipM (by rfl) T.z_zip (pa_cons (pe_ix (ix_tupK K) (pv 1) pe_int (fun _ _ => rfl)) (pa_cons (pe_ix (ix_tupK K) (pv 1) pe_int (fun _ _ => rfl)) pa_nil))) (pg_tupK K (n := 2) rfl (pgs_cons (pg_name (i := 3) sc_law_both.nd rfl (.inl rfl)) (pgs_cons (pg_name (i := 4) sc_law_both.nd rfl (.inl rfl)) pgs_nil))) (pss_cons (ps_if (pt_cmpR op_ne (pe_dget2 hu (pv 2) (pv 3) (pv 4) ⟨rfl, by rfl, by rfl, by rfl⟩) (pv 4) (nomark _)) (pss_one (ps_ret pe_non)) pss_nil)
      (pss_one (ps_dput hu (pv 2) (pv 3) (pv 4) rfl))))
      (pss_one (ps_ret (pe_tup (pa_cons (pe_callTy (call_tupleK K) (by rfl) T.z_tuple (by decide +kernel) (pa_cons (pe_callB (call_sortedDI rfl) (by rfl) T.z_sorted (by decide +kernel) (pa_cons (pv 2) pa_nil)) pa_nil)) (pa_cons (pe_callTy (call_tupleK K) (by rfl) T.z_tuple (by decide +kernel) (pa_cons (pe_lc (own := [("c", 3)]) rfl sc_law_both.nd (pi_listK K (pe_callB (call_sortedDI rfl) (by rfl) T.z_sorted (by decide +kernel) (pa_cons (pv 2) pa_nil))) (blkOk_by (N := N_law_both) (sc := defScope s_law_both) (by decide +kernel)) (fun _ _ _ _ _ => (pg_name (i := 3) sc_law_both.nd rfl (.inl rfl))) (fun _ _ _ _ _ => pts_nil) (fun _ _ _ _ _ => (pe_dget hu (pv 2) (pv 3) (fun _ _ => rfl)))) pa_nil)) pa_nil))))))), ?_⟩
    refine ⟨_, rfl, b, _, 0, _, rfl, rfl, hb, atI_nat (j := 0) rfl, _, rfl, b, _, 1, _, rfl, rfl, hb, atI_nat (j := 1) rfl, b1, b2, kvV (ps.zip ws), rfl, (by rw [kv_fst bx1.len]; exact hb1), (by rw [kv_snd bx1.len]; exact hb2), fun D hD => ?_⟩
    rw [show mergeK [] (kvV (ps.zip ws)) = kvV (ps.zip ws) from merge_kv (ps.zip ws) [] nA]
    have sD : Same H (upd H D (.dK (kvV (ps.zip ws)))) := same_new hD
    refine ⟨_, rfl, c, _, 0, _, rfl, rfl, (Ext.of sD).sqT hc, atI_nat (j := 0) rfl, _, rfl, c, _, 1, _, rfl, rfl, (Ext.of sD).sqT hc, atI_nat (j := 1) rfl, false, c1, c2, qs.map V.int, us.map V.int, rfl, (Ext.of sD).sqT hc1, (Ext.of sD).sqT hc2, for_zipM (K := K) (L := false)
        (fun i σ H' => ∃ y3 y4, σ = [some (.ref b), some (.ref c), some (.ref D), y3, y4] ∧ Same H H' ∧ H' D = some (.dK (kvV (merged2 (ps.zip ws) (qs.zip us) i))) ∧ ∀ (j : Nat) (k w a : Int), j < i → (qs.zip us)[j]? = some (k, w) → (ps.zip ws).lookup k = some a → a = w)
        ⟨none, none, rfl, sD, by rw [merged2_zero]; exact upd_same, fun j k w a hj => absurd hj (Nat.not_lt_zero j)⟩ (fun i σ H' ⟨_, _, _, sm, _⟩ => ⟨(Ext.of sm).sqT hc1, (Ext.of sm).sqT hc2⟩) ?_ ?_⟩
    · rintro i x y Tp σ H' hx hy ⟨y3, y4, rfl, sm, hDm, hno⟩ nT
      obtain ⟨k, rfl, hk⟩ := int_at hx
      obtain ⟨w', rfl, hw⟩ := int_at hy
      have hz := zip_at hk hw
      have nTD : D ≠ Tp := ne_of_none hDm nT
      have smT : Same H (upd H' Tp (.tup [V.int k, V.int w'])) := sm.trans (same_new nT)
      have hDT : (upd H' Tp (.tup [V.int k, V.int w'])) D = some (.dK (kvV (merged2 (ps.zip ws) (qs.zip us) i))) := by
        rw [upd_ne nTD]
        exact hDm
      have elk := merged2_look (ps.zip ws) (qs.zip us) i k
      rw [take_look nB hz] at elk
      have hlen : (kvV (merged2 (ps.zip ws) (qs.zip us) i)).length < sizeLine := by
        have := merged2_len (A := ps.zip ws) (B := qs.zip us) (i := i)
        rw [List.length_zip, List.length_zip] at this
        rw [kv_len]
        exact sz_small (by omega)
      refine ⟨Tp, _, rfl, SqT.of upd_same, rfl, _, _, rfl, _, _, rfl, rfl, ?_⟩
      refine ⟨_, rfl, D, rfl, .inl ⟨_, .inl hDT⟩, _, rfl, _, rfl, _, DGet.k (k := Sum.inl k) hDT, ?_⟩
      rw [valV_kv]
      cases ha : (ps.zip ws).lookup k with
      | some av =>
        rw [ha] at elk
        rw [elk]
        refine ⟨_, rfl, rfl, _, rfl, ?_⟩
        show (if (!decide (V.int av = V.int w')) = true then _ else _)
        rw [dec_int]
        by_cases hne : av = w'
        · subst hne
          rw [beq_self_eq_true]
          refine iteF ⟨_, rfl, _, rfl, _, rfl, D, _, rfl, DPut.k (k := Sum.inl k) hDT hlen, _, _, rfl, Same.put hD smT, ?_, fun j k2 w2 a2 hj h5 h6 => ?_⟩
          · rw [upd_same, put_same (merged2_nodup nA nB) elk, merged2_old hz ha]
          · rcases Nat.lt_succ_iff_lt_or_eq.mp hj with hlt | heq
            · exact hno j k2 w2 a2 hlt h5 h6
            · subst heq
              rw [hz] at h5
              cases h5
              rw [ha] at h6
              exact (Option.some.inj h6).symm
        · have hc5 := clash_of (A := ps.zip ws) nB hz ha hne (bx2.in5 hl k (List.mem_of_getElem? hk))
          have eR : bothR ps ws qs us = none := if_pos hc5
          have eb : (av == w') = false := by simpa using hne
          rw [eb]
          refine iteT ?_
          rw [eR] at q
          exact q .non _ smT .non
      | none =>
        rw [ha] at elk
        rw [elk]
        refine ⟨_, rfl, rfl, _, rfl, ?_⟩
        show (if (!decide (V.int w' = V.int w')) = true then _ else _)
        rw [dec_int, beq_self_eq_true]
        refine iteF ⟨_, rfl, _, rfl, _, rfl, D, _, rfl, DPut.k (k := Sum.inl k) hDT hlen, _, _, rfl, Same.put hD smT, ?_, fun j k2 w2 a2 hj h5 h6 => ?_⟩
        · rw [upd_same, put_new elk, merged2_new hz ha]
        · rcases Nat.lt_succ_iff_lt_or_eq.mp hj with hlt | heq
          · exact hno j k2 w2 a2 hlt h5 h6
          · subst heq
            rw [hz] at h5
            cases h5
            rw [ha] at h6
            cases h6
    · rintro σ H5 ⟨y3, y4, rfl, sm5, hDm, hno⟩
      have em : min (qs.map V.int).length (us.map V.int).length = (qs.zip us).length := by
        rw [List.length_map, List.length_map, List.length_zip]
      rw [em] at hDm hno
      have hcl : clash (ps.zip ws) (qs.zip us) = false := clash_no fun j k w a h5 h6 => hno j k w a (List.getElem?_eq_some_iff.mp h5).1 h5 h6
      have eR : bothR ps ws qs us = some (unionC ps qs, (unionC ps qs).map (val2 (ps.zip ws) (qs.zip us))) := if_neg (by rw [hcl]; exact Bool.false_ne_true)
      rw [eR] at q
      have h64 : ((merged2 (ps.zip ws) (qs.zip us) (qs.zip us).length).map (·.1)).length < 64 := by
        rw [List.length_map]
        have z0 := merged2_len (A := ps.zip ws) (B := qs.zip us) (i := (qs.zip us).length)
        have z1 : (ps.zip ws).length ≤ ps.length := by
          rw [List.length_zip]
          omega
        have z2 : (qs.zip us).length ≤ qs.length := by
          rw [List.length_zip]
          omega
        omega
      have key : ∀ ys : List Int, ys.Perm ((merged2 (ps.zip ws) (qs.zip us) (qs.zip us).length).map (·.1)) → ys.Pairwise (· ≤ ·) → ys = unionC ps qs := fun ys p s => keys_union bx1.len bx2.len (rise_nodup bx1.asc.rise) (rise_nodup bx2.asc.rise) (bx1.in5 hl) (bx2.in5 hl) p s
      have hlen5 : (unionC ps qs).length ≤ 5 := List.length_filter_le _ _
      refine ⟨_, rfl, D, _, _, rfl, .inl hDm, kv_keys _, h64, fun ys p hperm hsort hp => ⟨p, _, rfl, .inl ⟨SqL.of upd_same, fun l hl2 => ?_⟩⟩⟩
      have ey := key ys hperm hsort
      subst ey
      have s6 : Same H5 (upd (upd H5 p (.lst ((unionC ps qs).map V.int))) l (.tup ((unionC ps qs).map V.int))) := (same_new hp).trans (same_new hl2)
      have hDm6 := s6 _ _ hDm
      have hT6 : (upd (upd H5 p (.lst ((unionC ps qs).map V.int))) l (.tup ((unionC ps qs).map V.int))) l = some (.tup ((unionC ps qs).map V.int)) := upd_same
      generalize (upd (upd H5 p (.lst ((unionC ps qs).map V.int))) l (.tup ((unionC ps qs).map V.int))) = H6 at s6 hDm6 hT6
      refine ⟨_, rfl, D, _, _, rfl, .inl hDm6, kv_keys _, h64, fun ys2 p2 hperm2 hsort2 hp2 => ⟨p2, rfl, ⟨_, SqL.of upd_same⟩, fun D2 hD2 => ?_⟩⟩
      have ey2 := key ys2 hperm2 hsort2
      subst ey2
      have s7 : Same H6 (upd H6 p2 (.lst ((unionC ps qs).map V.int))) := same_new hp2
      refine lc_list (K := K) (xs := (unionC ps qs).map V.int) (fun i H' => Same (upd H6 p2 (.lst ((unionC ps qs).map V.int))) H' ∧ H' D2 = some (.lst ((((unionC ps qs).map (val2 (ps.zip ws) (qs.zip us))).take i).map V.int))) ⟨same_new hD2, upd_same⟩ (fun i H' _ p => p.1.seq (SqL.of upd_same)) ?_ ?_
      · rintro i x H' hi ⟨sm, hDl⟩
        obtain ⟨y, rfl, hy⟩ := int_at hi
        have e1 := merged2_val (A := ps.zip ws) (B := qs.zip us) (k := y) fun z => lookup_none.mp z (hperm2.mem_iff.mp (List.mem_of_getElem? hy))
        have e2 : ((unionC ps qs).map (val2 (ps.zip ws) (qs.zip us))).take (i + 1) = ((unionC ps qs).map (val2 (ps.zip ws) (qs.zip us))).take i ++ [val2 (ps.zip ws) (qs.zip us) y] := by
          rw [List.take_add_one, List.getElem?_map, hy]
          rfl
        refine ⟨rfl, ?_⟩
        dsimp only [tYes]
        rw [if_pos rfl]
        refine ⟨_, rfl, _, rfl, D, .int (val2 (ps.zip ws) (qs.zip us) y), rfl, .inl ⟨_, Sum.inl y, .inl (sm _ _ (s7 _ _ hDm6)), rfl, by rw [valV_kv, e1]; rfl⟩, _, hDl, ?_, Same.put hD2 sm, ?_⟩
        · rw [List.length_map, List.length_take, List.length_map]
          exact sz_small (by omega)
        · rw [upd_same, e2, List.map_append]
          rfl
      · rintro H7 ⟨sm, hDl⟩
        have e : ((unionC ps qs).map (val2 (ps.zip ws) (qs.zip us))).take ((unionC ps qs).map V.int).length = (unionC ps qs).map (val2 (ps.zip ws) (qs.zip us)) := List.take_of_length_le (by rw [List.length_map, List.length_map]; exact Nat.le_refl _)
        rw [e] at hDl
        refine ⟨D2, _, rfl, .inl ⟨SqL.of hDl, fun l2 hl3 => ⟨by show 2 ≤ sizeLine; decide, fun r nr => ?_⟩⟩⟩
        have s8 : Same H7 _ := (same_new (o := .tup (((unionC ps qs).map (val2 (ps.zip ws) (qs.zip us))).map V.int)) hl3).trans (same_new (o := .tup [.ref l, .ref l2]) nr)
        refine q _ _ (((sm5.trans s6).trans (s7.trans sm)).trans s8) (.tup (SqT.of upd_same) (.cons (dh_ct (c := unionC ps qs) (SqT.of (s8 _ _ (sm _ _ (s7 _ _ hT6))))) (.cons (dh_ct (c := (unionC ps qs).map (val2 (ps.zip ws) (qs.zip us))) (SqT.of ((same_new nr) _ _ upd_same))) .nil)))
/-! ### which contents there are, which boxes meet -/
abbrev at0 (c : List Int) (k : Int) : Int := c.getD k.toNat 0
theorem contGo_iff : ∀ {ss c : List Int}, contGo ss (c.map Dt.int) = true ↔ ∀ (i : Nat) (x s : Int), c[i]? = some x → ss[i]? = some s → 0 ≤ x ∧ x < s
  | [], c => ⟨fun _ i x s _ h => by simp at h, fun _ => by cases c <;> rfl⟩
  | s :: ss, [] => ⟨fun _ i x s h => by simp at h, fun _ => rfl⟩
  | s :: ss, x :: c => by
    have e : contGo (s :: ss) ((x :: c).map Dt.int) = if 0 ≤ x ∧ x < s then contGo ss (c.map Dt.int) else false := rfl
    rw [e]
    constructor
    · intro h i y t hy ht
      by_cases hx : 0 ≤ x ∧ x < s
      · rw [if_pos hx] at h
        cases i with
        | zero =>
          have e1 : x = y := by simpa using hy
          have e2 : s = t := by simpa using ht
          rw [← e1, ← e2]
          exact hx
        | succ i => exact contGo_iff.mp h i y t (by simpa using hy) (by simpa using ht)
      · rw [if_neg hx] at h
        cases h
    · intro h
      rw [if_pos (h 0 x s rfl rfl)]
      exact contGo_iff.mpr fun i y t hy ht => h (i + 1) y t (by simpa using hy) (by simpa using ht)
theorem isCt_iff {ss c : List Int} : IsCt ss c ↔ c.length = ss.length ∧ ∀ (i : Nat) (x s : Int), c[i]? = some x → ss[i]? = some s → 0 ≤ x ∧ x < s := by
  have e : (ctD c).isCont ss = ((c.map Dt.int).length == ss.length && contGo ss (c.map Dt.int)) := rfl
  unfold IsCt
  rw [e, Bool.and_eq_true, contGo_iff, List.length_map]
  simp
theorem mem_step {found : List (List Int)} {s : Int} {c : List Int} : c ∈ stepC found s ↔ ∃ b ∈ found, ∃ w : Nat, w < s.toNat ∧ c = b ++ [(w : Int)] := by
  unfold stepC
  rw [List.mem_flatMap]
  constructor
  · rintro ⟨b, hb, hc⟩
    obtain ⟨w, hw, rfl⟩ := List.mem_map.mp hc
    exact ⟨b, hb, w, List.mem_range.mp hw, rfl⟩
  · rintro ⟨b, hb, w, hw, rfl⟩
    exact ⟨b, hb, List.mem_map.mpr ⟨w, List.mem_range.mpr hw, rfl⟩⟩
theorem mem_allC_take {ss : List Int} : ∀ (i : Nat), i ≤ ss.length → ∀ c, c ∈ allC (ss.take i) ↔ c.length = i ∧ ∀ (j : Nat) (x s : Int), c[j]? = some x → ss[j]? = some s → 0 ≤ x ∧ x < s
  | 0, _, c => by
    have e : allC (ss.take 0) = [[]] := rfl
    rw [e, List.mem_singleton]
    constructor
    · rintro rfl
      exact ⟨rfl, fun j x s h => by simp at h⟩
    · rintro ⟨h, _⟩
      exact List.length_eq_zero_iff.mp h
  | i + 1, h, c => by
    have hi : i < ss.length := h
    have e : ss[i]? = some ss[i] := List.getElem?_eq_getElem hi
    have e' : ss.take (i + 1) = ss.take i ++ [ss[i]] := by rw [List.take_add_one, e]; rfl
    rw [e', allC_snoc, mem_step]
    constructor
    · rintro ⟨b, hb, w, hw, rfl⟩
      obtain ⟨hl, hall⟩ := (mem_allC_take i (Nat.le_of_lt hi) b).mp hb
      refine ⟨by rw [List.length_append, hl]; rfl, fun j x s hx hs => ?_⟩
      by_cases hj : j < i
      · rw [List.getElem?_append_left (by omega)] at hx
        exact hall j x s hx hs
      · have hj2 : j < (b ++ [(w : Int)]).length := (List.getElem?_eq_some_iff.mp hx).1
        rw [List.length_append, hl] at hj2
        have ej : j = i := by
          have : ([(w : Int)] : List Int).length = 1 := rfl
          omega
        subst ej
        rw [List.getElem?_append_right (by omega), hl, Nat.sub_self] at hx
        have ex : (w : Int) = x := by simpa using hx
        rw [e] at hs
        have es := Option.some.inj hs
        omega
    · rintro ⟨hl, hall⟩
      have hil : i < c.length := by omega
      refine ⟨c.take i, (mem_allC_take i (Nat.le_of_lt hi) _).mpr ⟨by rw [List.length_take]; omega, fun j x s hx hs => ?_⟩, (c[i]).toNat, ?_, ?_⟩
      · have hj : j < (c.take i).length := (List.getElem?_eq_some_iff.mp hx).1
        rw [List.length_take] at hj
        rw [List.getElem?_take_of_lt (by omega)] at hx
        exact hall j x s hx hs
      · have := hall i c[i] ss[i] (List.getElem?_eq_getElem hil) e
        omega
      · have := hall i c[i] ss[i] (List.getElem?_eq_getElem hil) e
        have e2 : ((c[i].toNat : Nat) : Int) = c[i] := by omega
        rw [e2]
        have e3 : c.take (i + 1) = c.take i ++ [c[i]] := by rw [List.take_add_one, List.getElem?_eq_getElem hil]; rfl
        rw [← e3, List.take_of_length_le (by omega)]
theorem mem_allC {ss c : List Int} : c ∈ allC ss ↔ IsCt ss c := by
  have q := mem_allC_take (ss := ss) ss.length (Nat.le_refl _) c
  rw [List.take_length] at q
  rw [q, isCt_iff]
theorem at0_some {c : List Int} {k : Int} (h0 : 0 ≤ k) (h1 : k < c.length) : c[k.toNat]? = some (at0 c k) := by
  have hl : k.toNat < c.length := by omega
  show _ = some (c.getD k.toNat 0)
  rw [List.getD_eq_getElem?_getD, List.getElem?_eq_getElem hl]
  rfl
theorem map_cont {ys : List Int} {f g : Int → Int} (h : ∀ y ∈ ys, 0 ≤ f y ∧ f y < g y) : IsCt (ys.map g) (ys.map f) := by
  rw [isCt_iff]
  refine ⟨by rw [List.length_map, List.length_map], fun i x s hx hs => ?_⟩
  rw [List.getElem?_map] at hx hs
  cases e : ys[i]? with
  | none =>
    rw [e] at hx
    cases hx
  | some y =>
    rw [e] at hx hs
    cases hx
    cases hs
    exact h y (List.mem_of_getElem? e)
theorem cont_map {ys : List Int} {f g : Int → Int} (h : IsCt (ys.map g) (ys.map f)) : ∀ y ∈ ys, 0 ≤ f y ∧ f y < g y := fun y hy => by
  obtain ⟨i, hi, e⟩ := List.mem_iff_getElem.mp hy
  have e' : ys[i]? = some y := by rw [List.getElem?_eq_getElem hi, e]
  exact (isCt_iff.mp h).2 i (f y) (g y) (by rw [List.getElem?_map, e']; rfl) (by rw [List.getElem?_map, e']; rfl)
theorem boxOk_picks {ss ps c : List Int} (ha : Asc ss.length (-1) ps) (hc : IsCt ss c) : BoxOk ss ps (picks ps c) := by
  refine ⟨ha, map_cont fun p hp => ?_⟩
  obtain ⟨h0, h1⟩ := ha.inR p hp
  exact (isCt_iff.mp hc).2 p.toNat _ _ (at0_some h0 (by rw [hc.len]; exact h1)) (at0_some h0 h1)
/-- what the pairs of a box say -/
theorem BoxOk.worth {ss ps ws : List Int} (h : BoxOk ss ps ws) {k w : Int} (e : (ps.zip ws).lookup k = some w) : k ∈ ps ∧ 0 ≤ w ∧ w < at0 ss k := by
  obtain ⟨i, hi, ei⟩ := List.mem_iff_getElem.mp (lookup_mem e)
  have hz : (ps.zip ws)[i]? = some (k, w) := by rw [List.getElem?_eq_getElem hi, ei]
  rw [List.getElem?_zip_eq_some] at hz
  obtain ⟨h1, h2⟩ := hz
  refine ⟨List.mem_of_getElem? h1, ?_⟩
  have hc : IsCt (picks ps ss) ws := h.cont
  exact (isCt_iff.mp hc).2 i w (at0 ss k) h2 (by unfold picks; rw [List.getElem?_map, h1]; rfl)
theorem lookup_some {ps ws : List Int} (h : ws.length = ps.length) {k : Int} (hk : k ∈ ps) : ∃ w, (ps.zip ws).lookup k = some w := by
  cases e : (ps.zip ws).lookup k with
  | some w => exact ⟨w, rfl⟩
  | none =>
    rw [lookup_none, zip_keys h] at e
    exact absurd hk e
theorem picks_iff : ∀ {ps ws c : List Int}, ws.length = ps.length → ps.Nodup → (picks ps c = ws ↔ ∀ k w, (ps.zip ws).lookup k = some w → at0 c k = w)
  | [], [], c, _, _ => by simp [picks, List.lookup]
  | [], _ :: _, _, h, _ => by simp at h
  | _ :: _, [], _, h, _ => by simp at h
  | p :: ps, w :: ws, c, h, hn => by
    obtain ⟨n1, n2⟩ := List.nodup_cons.mp hn
    have hl : ws.length = ps.length := by simpa using h
    have ih := picks_iff (c := c) hl n2
    show (at0 c p :: picks ps c = w :: ws) ↔ _
    rw [List.cons.injEq, ih]
    constructor
    · rintro ⟨h1, h2⟩ k v hv
      rw [List.zip_cons_cons, lookup_cons] at hv
      by_cases e : p = k
      · rw [if_pos e] at hv
        cases hv
        rw [← e]
        exact h1
      · rw [if_neg e] at hv
        exact h2 k v hv
    · intro hall
      refine ⟨hall p w (by rw [List.zip_cons_cons, lookup_cons, if_pos rfl]), fun k v hv => hall k v ?_⟩
      have hk : k ∈ ps := by
        have := lookup_none (k := k) (l := ps.zip ws)
        rw [zip_keys hl] at this
        cases hd : decide (k ∈ ps) with
        | true => exact of_decide_eq_true hd
        | false =>
          rw [this.mpr (of_decide_eq_false hd)] at hv
          cases hv
      rw [List.zip_cons_cons, lookup_cons, if_neg fun e => n1 (by rw [show p = k from e]; exact hk)]
      exact hv
theorem clash_iff {A B : Prs} (hA : In5 (A.map (·.1))) : clash A B = true ↔ ∃ k a b, A.lookup k = some a ∧ B.lookup k = some b ∧ a ≠ b := by
  unfold clash
  rw [List.any_eq_true]
  constructor
  · rintro ⟨k, _, h⟩
    cases ha : A.lookup k with
    | none =>
      rw [ha] at h
      cases h
    | some a =>
      cases hb : B.lookup k with
      | none =>
        rw [ha, hb] at h
        cases h
      | some b =>
        rw [ha, hb] at h
        exact ⟨k, a, b, ha, hb, by simpa using h⟩
  · rintro ⟨k, a, b, ha, hb, n⟩
    have hk : k ∈ A.map (·.1) := List.mem_map.mpr ⟨_, lookup_mem ha, rfl⟩
    refine ⟨k, mem_cols5 (hA k hk).1 (hA k hk).2, ?_⟩
    rw [ha, hb]
    simpa using n
section
variable {ss ps ws qs us : List Int}
theorem keys5 (h1 : BoxOk ss ps ws) (hl : ss.length ≤ 5) : In5 ((ps.zip ws).map (·.1)) := by
  rw [zip_keys h1.len]
  exact h1.in5 hl
theorem no_clash (h1 : BoxOk ss ps ws) (hl : ss.length ≤ 5) (n : clash (ps.zip ws) (qs.zip us) = false) {k a b : Int} (ha : (ps.zip ws).lookup k = some a) (hb : (qs.zip us).lookup k = some b) : a = b := by
  by_cases e : a = b
  · exact e
  · have := (clash_iff (keys5 h1 hl)).mpr ⟨k, a, b, ha, hb, e⟩
    rw [n] at this
    cases this
/-- the value at a column of the union -/
theorem val2_A {A B : Prs} {k a : Int} (h : A.lookup k = some a) : val2 A B k = a := by
  unfold val2
  rw [h]
theorem val2_B {A B : Prs} {k b : Int} (h : A.lookup k = none) (hb : B.lookup k = some b) : val2 A B k = b := by
  unfold val2
  rw [h, hb]
  rfl
theorem union_pick (h1 : BoxOk ss ps ws) (h2 : BoxOk ss qs us) (hl : ss.length ≤ 5) (n : clash (ps.zip ws) (qs.zip us) = false) (c : List Int) :
    picks (unionC ps qs) c = (unionC ps qs).map (val2 (ps.zip ws) (qs.zip us)) ↔ picks ps c = ws ∧ picks qs c = us := by
  rw [picks_iff h1.len (rise_nodup h1.asc.rise), picks_iff h2.len (rise_nodup h2.asc.rise)]
  unfold picks
  rw [List.map_inj_left]
  constructor
  · intro h
    refine ⟨fun k w e => ?_, fun k w e => ?_⟩
    · have q := h k ((mem_union (h1.in5 hl) (h2.in5 hl) k).mpr (.inl (h1.worth e).1))
      rw [val2_A e] at q
      exact q
    · have q := h k ((mem_union (h1.in5 hl) (h2.in5 hl) k).mpr (.inr (h2.worth e).1))
      cases ha : (ps.zip ws).lookup k with
      | some a =>
        rw [val2_A ha] at q
        rw [← no_clash h1 hl n ha e]
        exact q
      | none =>
        rw [val2_B ha e] at q
        exact q
  · rintro ⟨a1, a2⟩ k hk
    rcases (mem_union (h1.in5 hl) (h2.in5 hl) k).mp hk with hp | hq
    · obtain ⟨w, e⟩ := lookup_some h1.len hp
      rw [val2_A e]
      exact a1 k w e
    · obtain ⟨u, e⟩ := lookup_some h2.len hq
      cases ha : (ps.zip ws).lookup k with
      | some a =>
        rw [val2_A ha]
        exact a1 k a ha
      | none =>
        rw [val2_B ha e]
        exact a2 k u e
theorem rise_asc {n : Int} : ∀ {l : Int} {ys : List Int}, ys.Pairwise (· < ·) → (∀ y ∈ ys, l < y ∧ y < n) → Asc n l ys
  | _, [], _, _ => True.intro
  | l, y :: ys, h, hb => by
    obtain ⟨p1, p2⟩ := List.pairwise_cons.mp h
    have hy := hb y (List.mem_cons_self ..)
    exact ⟨hy.1, hy.2, rise_asc p2 fun z hz => ⟨p1 z hz, (hb z (List.mem_cons_of_mem _ hz)).2⟩⟩
theorem union_val (h1 : BoxOk ss ps ws) (h2 : BoxOk ss qs us) (hl : ss.length ≤ 5) {k : Int} (hk : k ∈ unionC ps qs) : (0 ≤ k ∧ k < ss.length) ∧ 0 ≤ val2 (ps.zip ws) (qs.zip us) k ∧ val2 (ps.zip ws) (qs.zip us) k < at0 ss k := by
  rcases (mem_union (h1.in5 hl) (h2.in5 hl) k).mp hk with hp | hq
  · obtain ⟨w, e⟩ := lookup_some h1.len hp
    rw [val2_A e]
    exact ⟨h1.asc.inR k hp, (h1.worth e).2⟩
  · obtain ⟨u, e⟩ := lookup_some h2.len hq
    refine ⟨h2.asc.inR k hq, ?_⟩
    cases ha : (ps.zip ws).lookup k with
    | some a =>
      rw [val2_A ha]
      exact (h1.worth ha).2
    | none =>
      rw [val2_B ha e]
      exact (h2.worth e).2
theorem union_box (h1 : BoxOk ss ps ws) (h2 : BoxOk ss qs us) (hl : ss.length ≤ 5) : BoxOk ss (unionC ps qs) ((unionC ps qs).map (val2 (ps.zip ws) (qs.zip us))) :=
  ⟨rise_asc (unionC_rise _ _) fun y hy => by
    have := (union_val (ws := ws) (us := us) h1 h2 hl hy).1
    omega, map_cont fun y hy => (union_val h1 h2 hl hy).2⟩
/-- a content in both -/
def meetC (ss ps ws qs us : List Int) : List Int := (List.range ss.length).map fun (i : Nat) => if (i : Int) ∈ unionC ps qs then val2 (ps.zip ws) (qs.zip us) i else 0
theorem meetC_ct (h1 : BoxOk ss ps ws) (h2 : BoxOk ss qs us) (ok : SizesOk ss) : IsCt ss (meetC ss ps ws qs us) := by
  obtain ⟨_, hl, hm⟩ := ok.facts
  rw [isCt_iff]
  refine ⟨by simp [meetC], fun i x s hx hs => ?_⟩
  have hi : i < ss.length := (List.getElem?_eq_some_iff.mp hs).1
  unfold meetC at hx
  rw [List.getElem?_map, List.getElem?_range hi] at hx
  have ex : (if (i : Int) ∈ unionC ps qs then val2 (ps.zip ws) (qs.zip us) i else 0) = x := Option.some.inj hx
  have es : at0 ss (i : Int) = s := by
    have := at0_some (c := ss) (k := (i : Int)) (by omega) (by omega)
    rw [Int.toNat_natCast, hs] at this
    exact (Option.some.inj this).symm
  by_cases hu : (i : Int) ∈ unionC ps qs
  · rw [if_pos hu] at ex
    have := (union_val (ws := ws) (us := us) h1 h2 hl hu).2
    omega
  · rw [if_neg hu] at ex
    have := hm s (List.mem_of_getElem? hs)
    omega
theorem meetC_in (h1 : BoxOk ss ps ws) (h2 : BoxOk ss qs us) (hl : ss.length ≤ 5) : picks (unionC ps qs) (meetC ss ps ws qs us) = (unionC ps qs).map (val2 (ps.zip ws) (qs.zip us)) := by
  unfold picks
  rw [List.map_inj_left]
  intro k hk
  have hb := (union_val (ws := ws) (us := us) h1 h2 hl hk).1
  have e : (meetC ss ps ws qs us)[k.toNat]? = some (val2 (ps.zip ws) (qs.zip us) k) := by
    unfold meetC
    rw [List.getElem?_map, List.getElem?_range (show k.toNat < ss.length by omega)]
    have ek : ((k.toNat : Nat) : Int) = k := by omega
    show some (if ((k.toNat : Nat) : Int) ∈ unionC ps qs then _ else _) = _
    rw [ek, if_pos hk]
  rw [List.getD_eq_getElem?_getD, e]
  rfl
/-- what is common -/
def comm (ss ps ws qs us : List Int) : List (List Int) := (inBox ss ps ws).filter fun c => decide (picks qs c = us)
theorem comm_none (h1 : BoxOk ss ps ws) (h2 : BoxOk ss qs us) (ok : SizesOk ss) (e : bothR ps ws qs us = none) : comm ss ps ws qs us = [] := by
  obtain ⟨_, hl, _⟩ := ok.facts
  have hc : clash (ps.zip ws) (qs.zip us) = true := by
    cases h : clash (ps.zip ws) (qs.zip us) with
    | true => rfl
    | false =>
      unfold bothR at e
      rw [h] at e
      cases e
  obtain ⟨k, a, b, ha, hb, n⟩ := (clash_iff (keys5 h1 hl)).mp hc
  unfold comm inBox
  rw [List.filter_filter, List.filter_eq_nil_iff]
  intro c _ hq
  rw [Bool.and_eq_true, decide_eq_true_eq, decide_eq_true_eq] at hq
  have q1 := (picks_iff h1.len (rise_nodup h1.asc.rise)).mp hq.2 k a ha
  have q2 := (picks_iff h2.len (rise_nodup h2.asc.rise)).mp hq.1 k b hb
  exact n (q1.symm.trans q2)
theorem comm_some (h1 : BoxOk ss ps ws) (h2 : BoxOk ss qs us) (ok : SizesOk ss) {ys vs : List Int} (e : bothR ps ws qs us = some (ys, vs)) : comm ss ps ws qs us ≠ [] ∧ BoxOk ss ys vs ∧ inBox ss ys vs = comm ss ps ws qs us := by
  obtain ⟨_, hl, _⟩ := ok.facts
  unfold bothR at e
  cases h : clash (ps.zip ws) (qs.zip us) with
  | true =>
    rw [h] at e
    cases e
  | false =>
    rw [h] at e
    have e' : some (unionC ps qs, (unionC ps qs).map (val2 (ps.zip ws) (qs.zip us))) = some (ys, vs) := e
    cases e'
    have eqf : inBox ss (unionC ps qs) ((unionC ps qs).map (val2 (ps.zip ws) (qs.zip us))) = comm ss ps ws qs us := by
      unfold comm inBox
      rw [List.filter_filter]
      refine List.filter_congr fun c _ => ?_
      rw [Bool.eq_iff_iff, Bool.and_eq_true, decide_eq_true_eq, decide_eq_true_eq, decide_eq_true_eq, union_pick h1 h2 hl h]
      exact And.comm
    refine ⟨fun z => ?_, union_box h1 h2 hl, eqf⟩
    rw [← eqf] at z
    have hm : meetC ss ps ws qs us ∈ inBox ss (unionC ps qs) ((unionC ps qs).map (val2 (ps.zip ws) (qs.zip us))) := List.mem_filter.mpr ⟨mem_allC.mpr (meetC_ct h1 h2 ok), decide_eq_true (meetC_in h1 h2 hl)⟩
    rw [z] at hm
    cases hm
theorem unionC_comm (ps qs : List Int) : unionC ps qs = unionC qs ps := by
  unfold unionC
  refine List.filter_congr fun k _ => ?_
  rw [Bool.or_comm]
theorem bothR_comm (h1 : BoxOk ss ps ws) (h2 : BoxOk ss qs us) (hl : ss.length ≤ 5) : bothR qs us ps ws = bothR ps ws qs us := by
  unfold bothR
  have ec : clash (qs.zip us) (ps.zip ws) = clash (ps.zip ws) (qs.zip us) := by
    rw [Bool.eq_iff_iff, clash_iff (keys5 h2 hl), clash_iff (keys5 h1 hl)]
    constructor
    · rintro ⟨k, a, b, ha, hb, n⟩
      exact ⟨k, b, a, hb, ha, n.symm⟩
    · rintro ⟨k, a, b, ha, hb, n⟩
      exact ⟨k, b, a, hb, ha, n.symm⟩
  rw [ec]
  cases h : clash (ps.zip ws) (qs.zip us) with
  | true => rfl
  | false =>
    show some _ = some _
    rw [unionC_comm qs ps]
    congr 2
    refine List.map_congr_left fun k hk => ?_
    cases ha : (ps.zip ws).lookup k with
    | none =>
      cases hb : (qs.zip us).lookup k with
      | none =>
        unfold val2
        rw [ha, hb]
      | some b => rw [val2_A hb, val2_B ha hb]
    | some a =>
      cases hb : (qs.zip us).lookup k with
      | none => rw [val2_A ha, val2_B hb ha]
      | some b => rw [val2_A ha, val2_A hb, no_clash h1 hl h ha hb]
theorem vals_self : ∀ {ps ws : List Int} {B : Prs}, ws.length = ps.length → ps.Nodup → ps.map (val2 (ps.zip ws) B) = ws := by
  intro ps ws B hl hn
  have q : ∀ {ps ws : List Int}, ws.length = ps.length → ∀ A : Prs, (∀ k w, (ps.zip ws).lookup k = some w → A.lookup k = some w) → ps.Nodup → ps.map (val2 A B) = ws := by
    intro ps
    induction ps with
    | nil => intro ws h A _ _; cases ws with
      | nil => rfl
      | cons _ _ => simp at h
    | cons p ps ih =>
      intro ws h A hA hn
      cases ws with
      | nil => simp at h
      | cons w ws =>
        obtain ⟨n1, n2⟩ := List.nodup_cons.mp hn
        have hl : ws.length = ps.length := by simpa using h
        rw [List.map_cons, val2_A (hA p w (by rw [List.zip_cons_cons, lookup_cons, if_pos rfl])), ih hl A (fun k v hv => hA k v ?_) n2]
        have hk : k ∈ ps := by
          have z : k ∈ (ps.zip ws).map (·.1) := List.mem_map.mpr ⟨_, lookup_mem hv, rfl⟩
          rw [zip_keys hl] at z
          exact z
        rw [List.zip_cons_cons, lookup_cons, if_neg fun e => n1 (by rw [show p = k from e]; exact hk)]
        exact hv
  exact q hl _ (fun _ _ h => h) hn
theorem union_self (h1 : BoxOk ss ps ws) (hl : ss.length ≤ 5) (hq : ∀ k ∈ qs, k ∈ ps) : unionC ps qs = ps :=
  rise_eq (unionC_rise _ _) h1.asc.rise fun k => by
    rw [mem_union (h1.in5 hl) (fun p hp => h1.in5 hl p (hq p hp))]
    exact ⟨fun h => h.elim id (hq k), .inl⟩
theorem bothR_self (h1 : BoxOk ss ps ws) (hl : ss.length ≤ 5) : bothR ps ws ps ws = some (ps, ws) := by
  unfold bothR
  have ec : clash (ps.zip ws) (ps.zip ws) = false := by
    cases h : clash (ps.zip ws) (ps.zip ws) with
    | false => rfl
    | true =>
      obtain ⟨k, a, b, ha, hb, n⟩ := (clash_iff (keys5 h1 hl)).mp h
      rw [ha] at hb
      exact absurd (Option.some.inj hb) n
  rw [ec]
  show some _ = some _
  rw [union_self h1 hl fun _ h => h, vals_self h1.len (rise_nodup h1.asc.rise)]
theorem bothR_nil (h1 : BoxOk ss ps ws) (hl : ss.length ≤ 5) : bothR ps ws [] [] = some (ps, ws) := by
  unfold bothR
  have ec : clash (ps.zip ws) (([] : List Int).zip []) = false := by
    cases h : clash (ps.zip ws) (([] : List Int).zip []) with
    | false => rfl
    | true =>
      obtain ⟨k, a, b, ha, hb, n⟩ := (clash_iff (keys5 h1 hl)).mp h
      cases hb
  rw [ec]
  show some _ = some _
  rw [union_self (qs := []) h1 hl (fun _ h => absurd h List.not_mem_nil), vals_self h1.len (rise_nodup h1.asc.rise)]
theorem box_nil : BoxOk ss [] [] := ⟨True.intro, rfl⟩
theorem inBox_nil : inBox ss [] [] = allC ss := by
  unfold inBox
  exact List.filter_eq_self.mpr fun c _ => rfl
end
/-! ### the law k01 -/
theorem lc_filter {H : Hp} {σ : L2.St} {Q : VK} {p : Addr} {xs : List V} {cs : List (List Int)} {ps ws : List Int} {bv : V} {kx kb : Nat} {tp : TE} (htp : ∀ R : VK, R (.ref p) H → tp σ H R) (hp : H p = some (.lst xs)) (hxs : DhAll K H xs (cs.map ctD)) (hb : Dh K H bv (boxD ps ws))
    (hin : ∀ c ∈ cs, InR ps c.length) (hl : ps.length ≤ 1000) (hcl : cs.length ≤ 100000) (hw : ∀ x, wipe ((wipe σ [kx]).set kx (some x)) [kx] = wipe σ [kx]) (hc : ∀ x : V, ((wipe σ [kx]).set kx (some x))[kb]? = some (some bv)) (hx : ∀ x : V, ((wipe σ [kx]).set kx (some x))[kx]? = some (some x))
    (q : ∀ D ys H', H D = none → Same H H' → H' D = some (.lst ys) → DhAll K H' ys ((cs.filter fun c => decide (picks ps c = ws)).map ctD) → Q (.ref D) H') :
    tLc (iList K tp) (gName kx) (tB (tCall (spIsIn K) [] E0 (tCons (tVar kb) (tCons (tVar kx) tNil)))) (tVar kx) [kx] σ H Q := by
  refine htp _ ⟨p, rfl, ⟨xs, SqL.of hp⟩, fun D hD => lc_list (K := K) (xs := xs) (fun i H' => ∃ acc, Same H H' ∧ H' D = some (.lst acc) ∧ DhAll K H' acc (((cs.take i).filter fun c => decide (picks ps c = ws)).map ctD)) ⟨[], same_new hD, upd_same, .nil⟩ (fun i H' _ ⟨_, sm, _⟩ => sm.seq (SqL.of hp)) ?_ ?_⟩
  · rintro i x H' hi ⟨acc, sm, hDl, hacc⟩
    obtain ⟨d, hd, hxd⟩ := hxs.get hi
    obtain ⟨c, hc', rfl⟩ := map_at hd
    refine ⟨hw _, _, hc _, _, hx _, ps, ws, c, _, _, rfl, hb.ext (.of sm), hxd.ext (.of sm), hin c (List.mem_of_getElem? hc'), hl, fun H4 s4 => ⟨_, rfl, ?_⟩⟩
    have sm4 := sm.trans s4
    have e := take_filter (fun c => decide (picks ps c = ws)) hc'
    cases hq : decide (picks ps c = ws) with
    | true =>
      refine iteT ⟨_, hx _, acc, s4 _ _ hDl, ?_, acc ++ [x], Same.put hD sm4, upd_same, ?_⟩
      · have e1 := hacc.length
        rw [List.length_map] at e1
        have e2 : ((cs.take i).filter fun c => decide (picks ps c = ws)).length ≤ (cs.take i).length := List.length_filter_le _ _
        rw [List.length_take] at e2
        exact sz_small (by omega)
      · rw [e, hq, List.map_append]
        exact ((hacc.ext (.of s4)).snoc (hxd.ext (.of sm4))).ext (Ext.put (s4 _ _ hDl))
    | false =>
      refine iteF ⟨acc, sm4, s4 _ _ hDl, ?_⟩
      rw [e, hq]
      simpa using hacc.ext (.of s4)
  · rintro H' ⟨acc, sm, hDl, hacc⟩
    have el := hxs.length
    rw [List.length_map] at el
    rw [el, List.take_length] at hacc
    exact q D acc H' hD sm hDl hacc
/-- a box drawn -/
theorem draw_box {H : Hp} {σ : L2.St} {Q : VK} {h c az ev : Addr} {ss : List Int} {xs : List V} (e1 : σ[1]? = some (some (.ref h))) (e3 : σ[3]? = some (some (.ref az))) (e4 : σ[4]? = some (some (.ref ev))) (hx : HandOk H h c) (ok : SizesOk ss) (hz : SqT K H az (ss.map V.int)) (ne : ev ≠ h)
    (hev : H ev = some (.lst xs)) (hxs : DhAll K H xs ((allC ss).map ctD)) (l0 : 0 < xs.length) (l1 : xs.length ≤ 1024) (q : ∀ v ps ws H', Keep h c H H' → BoxOk ss ps ws → Dh K H' v (boxD ps ws) → Q v H') :
    tCall (spLBox K) [] E0 (tCons (tCall (spPat K) [] E0 (tCons (tVar 1) (tCons (tCB (rLenK K) (tCons (tVar 3) tNil)) tNil))) (tCons (tCall (spSome K) [] E0 (tCons (tVar 1) (tCons (tVar 4) tNil))) tNil)) σ H Q := by
  obtain ⟨_, h5, _⟩ := ok.facts
  refine ⟨_, e1, _, e3, az, _, rfl, .inr hz, h, c, (ss.map V.int).length, rfl, hx, (by rw [List.length_map]; omega), fun v ps H1 k1 asc hp => ?_⟩
  rw [List.length_map] at asc
  refine ⟨_, e1, _, e4, h, c, ev, xs, rfl, k1.hand, ne, k1.rest _ _ ne hev, l0, by omega, fun x H2 hm k2 => ?_⟩
  obtain ⟨d, hd, hxd⟩ := (hxs.ext (Keep.ext hx k1)).mem hm
  obtain ⟨ct, hct, rfl⟩ := List.mem_map.mp hd
  have hct' := mem_allC.mp hct
  have hlen := asc.len (by omega)
  refine ⟨ps, ct, _, _, rfl, hp.ext (Keep.ext k1.hand k2), hxd.ext (Keep.ext k1.hand k2), (by rw [hct'.len]; exact asc.inR), by omega, fun bv H3 s3 hb => q bv ps _ H3 ((k1.trans k2).same s3) (boxOk_picks asc hct') hb⟩
/-- what may be None or a box, compared -/
def optP : Option (List Int × List Int) → PyData
  | none => .none
  | some (a, b) => boxP a b
theorem dp_opt {H : Hp} {v : V} : ∀ {o : Option (List Int × List Int)}, Dh K H v (optD o) → Dp K H v (optP o)
  | none, h => by rw [h.non_inv]; exact .non
  | some (a, b), h => dp_box h
theorem shaped_opt : ∀ o : Option (List Int × List Int), SeqAt.shaped (optP o) = true
  | none => by decide
  | some (a, b) => shaped_box a b
theorem eqv_opt : ∀ o : Option (List Int × List Int), PyData.eqv (optP o) (optP o) = true
  | none => rfl
  | some (a, b) => by
    show PyData.eqv (boxP a b) (boxP a b) = true
    rw [eqv_box]
    simp
theorem eqv_box_refl (a b : List Int) : PyData.eqv (boxP a b) (boxP a b) = true := by
  rw [eqv_box]
  simp
theorem eqv_cts_refl (a : List (List Int)) : PyData.eqv (ctsP a) (ctsP a) = true := by
  rw [eqv_cts]
  simp
/-- whether the box of both agrees with the contents of both -/
theorem meet_cond {H : Hp} {σ : L2.St} {k : Bool → Hp → Prop} {az C : Addr} {mv : V} {zs : List V} {ss ps ws qs us : List Int} (h3 : σ[3]? = some (some (.ref az))) (h11 : σ[11]? = some (some mv)) (h12 : σ[12]? = some (some (.ref C))) (ok : SizesOk ss) (bx1 : BoxOk ss ps ws) (bx2 : BoxOk ss qs us)
    (haz : SqT K H az (ss.map V.int)) (hmv : Dh K H mv (optD (bothR ps ws qs us))) (hC : H C = some (.lst zs)) (hzs : DhAll K H zs ((comm ss ps ws qs us).map ctD)) (q : ∀ H', Same H H' → k false H') :
    tOr (tTest (tOp rNe (tOp (fun x y H Q => y = V.non ∧ Q (V.bl (decide (x = V.non))) H) (tVar 11) (tC V.non)) (tOp (rEqD K) (tVar 12) (tLst tNil))))
      (tAnd (tTest (tOp (fun x y H Q => y = V.non ∧ Q (V.bl !decide (x = V.non)) H) (tVar 11) (tC V.non))) (tTest (tOp (rNeD K) (tCall (spInBox K) [] E0 (tCons (tVar 3) (tCons (tVar 11) tNil))) (tVar 12)))) σ H k := by
  have hl5 := ok.facts.2.1
  refine ⟨_, h11, rfl, _, h12, ⟨by show 0 ≤ sizeLine; decide, fun l nl => ?_⟩⟩
  have s1 : Same H (upd H l (.lst [])) := same_new nl
  refine ⟨ctsP (comm ss ps ws qs us), ctsP [], dp_cts (SqL.of (s1 _ _ hC)) (hzs.ext (.of s1)), dp_cts (cs := []) (SqL.of upd_same) .nil, shaped_cts _, shaped_cts _, ?_⟩
  rw [eqv_cts]
  cases e : bothR ps ws qs us with
  | none =>
    rw [e] at hmv
    rw [hmv.non_inv, comm_none bx1 bx2 ok e]
    refine ⟨rfl, _, rfl, ?_⟩
    refine iteF ?_
    rw [hmv.non_inv] at h11
    refine ⟨_, h11, rfl, _, rfl, ?_⟩
    refine iteF ?_
    exact q _ s1
  | some yv =>
    obtain ⟨ys, vs⟩ := yv
    obtain ⟨n1, bx, ec⟩ := comm_some bx1 bx2 ok e
    rw [e] at hmv
    have hm : Dh K H mv (boxD ys vs) := hmv
    obtain ⟨m, w1, w2, rfl, hmt, _, _⟩ := box_inv hm
    rw [decide_eq_false n1, decide_eq_false (show ¬ V.ref m = V.non from fun z => by cases z)]
    refine ⟨rfl, _, rfl, ?_⟩
    refine iteF ?_
    refine ⟨_, h11, rfl, _, rfl, ?_⟩
    rw [decide_eq_false (show ¬ V.ref m = V.non from fun z => by cases z)]
    refine iteT ?_
    refine ⟨_, h3, _, h11, az, ss, ys, vs, _, rfl, (Ext.of s1).sqT haz, ok, hm.ext (.of s1), bx, fun p xs H2 np s2 hp hx => ?_⟩
    refine ⟨_, h12, ctsP (inBox ss ys vs), ctsP (comm ss ps ws qs us), dp_cts (SqL.of hp) hx, dp_cts (SqL.of ((s1.trans s2) _ _ hC)) (hzs.ext (.of (s1.trans s2))), shaped_cts _, shaped_cts _, _, rfl, ?_⟩
    rw [ec, eqv_cts_refl]
    exact q _ (s1.trans s2)
/-- the box of nothing -/
theorem dh_nil2 {H : Hp} {a b r : Addr} (ha : H a = some (.tup [])) (hb : H b = some (.tup [])) (hr : H r = some (.tup [.ref a, .ref b])) : Dh K H (.ref r) (boxD [] []) :=
  .tup (SqT.of hr) (.cons (.tup (SqT.of ha) .nil) (.cons (.tup (SqT.of hb) .nil) .nil))
theorem last_cond {H : Hp} {σ : L2.St} {k : Bool → Hp → Prop} {az ev : Addr} {bv : V} {xs : List V} {ss ps ws : List Int} (h3 : σ[3]? = some (some (.ref az))) (h7 : σ[7]? = some (some bv)) (h4 : σ[4]? = some (some (.ref ev))) (ok : SizesOk ss) (bx1 : BoxOk ss ps ws)
    (haz : SqT K H az (ss.map V.int)) (hb : Dh K H bv (boxD ps ws)) (hev : H ev = some (.lst xs)) (hxs : DhAll K H xs ((allC ss).map ctD)) (q : ∀ H', Same H H' → k false H') :
    tOr (tTest (tOp (rNeD K) (tCall (spBoth K) [] E0 (tCons (tVar 3) (tCons (tVar 7) (tCons (tTup (tCons (tTup tNil) (tCons (tTup tNil) tNil))) tNil)))) (tVar 7)))
      (tTest (tOp (rNeD K) (tCall (spInBox K) [] E0 (tCons (tVar 3) (tCons (tTup (tCons (tTup tNil) (tCons (tTup tNil) tNil))) tNil))) (tVar 4))) σ H k := by
  have hl5 := ok.facts.2.1
  refine ⟨_, h3, _, h7, ⟨by show 0 ≤ sizeLine; decide, fun a na => ⟨by show 0 ≤ sizeLine; decide, fun b nb => ⟨by show 2 ≤ sizeLine; decide, fun r nr => ?_⟩⟩⟩⟩
  have s1 : Same H (upd H a (.tup [])) := same_new na
  generalize hH1 : upd H a (.tup []) = H1 at *
  have ea : H1 a = some (.tup []) := by rw [← hH1]; exact upd_same
  have s2 : Same H1 (upd H1 b (.tup [])) := same_new nb
  generalize hH2 : upd H1 b (.tup []) = H2 at *
  have eb : H2 b = some (.tup []) := by rw [← hH2]; exact upd_same
  have s3 : Same H2 (upd H2 r (.tup [.ref a, .ref b])) := same_new nr
  generalize hH3 : upd H2 r (.tup [.ref a, .ref b]) = H3 at *
  have er : H3 r = some (.tup [.ref a, .ref b]) := by rw [← hH3]; exact upd_same
  have sA := (s1.trans s2).trans s3
  refine ⟨az, ss, ps, ws, [], [], _, _, rfl, (Ext.of sA).sqT haz, ok, hb.ext (.of sA), bx1, dh_nil2 ((s2.trans s3) _ _ ea) (s3 _ _ eb) er, box_nil, fun v H4 s4 hv => ?_⟩
  rw [bothR_nil bx1 hl5] at hv
  have hv' : Dh K H4 v (boxD ps ws) := hv
  have sB := sA.trans s4
  refine ⟨_, h7, _, _, dp_box hv', dp_box (hb.ext (.of sB)), shaped_box _ _, shaped_box _ _, _, rfl, ?_⟩
  rw [eqv_box_refl]
  refine iteF ?_
  refine ⟨_, h3, ⟨by show 0 ≤ sizeLine; decide, fun a2 na2 => ⟨by show 0 ≤ sizeLine; decide, fun b2 nb2 => ⟨by show 2 ≤ sizeLine; decide, fun r2 nr2 => ?_⟩⟩⟩⟩
  have t1 : Same H4 (upd H4 a2 (.tup [])) := same_new na2
  generalize hG1 : upd H4 a2 (.tup []) = G1 at *
  have fa : G1 a2 = some (.tup []) := by rw [← hG1]; exact upd_same
  have t2 : Same G1 (upd G1 b2 (.tup [])) := same_new nb2
  generalize hG2 : upd G1 b2 (.tup []) = G2 at *
  have fb : G2 b2 = some (.tup []) := by rw [← hG2]; exact upd_same
  have t3 : Same G2 (upd G2 r2 (.tup [.ref a2, .ref b2])) := same_new nr2
  generalize hG3 : upd G2 r2 (.tup [.ref a2, .ref b2]) = G3 at *
  have fr : G3 r2 = some (.tup [.ref a2, .ref b2]) := by rw [← hG3]; exact upd_same
  have sC := sB.trans ((t1.trans t2).trans t3)
  refine ⟨az, ss, [], [], _, rfl, (Ext.of sC).sqT haz, ok, dh_nil2 ((t2.trans t3) _ _ fa) (t3 _ _ fb) fr, box_nil, fun p ys H5 np s5 hp hys => ?_⟩
  rw [inBox_nil] at hys
  have sD := sC.trans s5
  refine ⟨_, h4, ctsP (allC ss), ctsP (allC ss), dp_cts (SqL.of hp) hys, dp_cts (SqL.of (sD _ _ hev)) (hxs.ext (.of sD)), shaped_cts _, shaped_cts _, _, rfl, ?_⟩
  rw [eqv_cts_refl]
  exact q _ sD
def spLaw (K : PySem.W.Frag) : Sp := fun vs H Q _ => ∃ (a : Addr) (ns : List Int), vs = [.ref a] ∧ SqL K H a (ns.map V.int) ∧ ns.length ≤ 63 ∧ ∀ H', Q (.bl true) H'
theorem ok_law (T : Txt K mg) {f : Addr} {fd : FuncData} (F : Fun K "law" "law" s_law f fd) : FnOk P w K mg base CX0 5 f fd ["script"] (spLaw K) := by
  refine F.ok sc_law (fun vs H Q E h => ?_) (fun cdv A outer s H vs Q E hr h => ?_)
  · obtain ⟨_, _, rfl, _⟩ := h
    rfl
  · obtain ⟨a, ns, rfl, hS, hl, q⟩ := h
    refine ⟨_, (pss_cons (ps_set (i := 1) sc_law.nd rfl (.inl rfl) (pe_call (ok_law_hand T) (hr.mono (by decide)) (by rfl) T.g_law_hand T.F_law_hand.kp T.b_law_hand .nil pass0 (pa_cons (pv 0) pa_nil)))
      (pss_cons (ps_for PassesOwn.never rfl (pi_range1 (by rfl) T.z_range (pa_cons pe_int pa_nil)) (pg_name (i := 2) sc_law.nd rfl (.inl rfl)) (pss_cons (ps_set (i := 3) sc_law.nd rfl (.inl rfl) (pe_call (ok_law_sizes T) (hr.mono (by decide)) (by rfl) T.g_law_sizes T.F_law_sizes.kp T.b_law_sizes .nil pass0 (pa_cons (pv 1) pa_nil)))
      (pss_cons (ps_set (i := 4) sc_law.nd rfl (.inl rfl) (pe_call (ok_law_contents T) (hr.mono (by decide)) (by rfl) T.g_law_contents T.F_law_contents.kp T.b_law_contents .nil pass0 (pa_cons (pv 3) pa_nil)))
      (pss_cons (ps_set (i := 5) sc_law.nd rfl (.inl rfl) (pe_call (ok_contents T) (hr.mono (by decide)) (by rfl) T.g_contents T.F_contents.kp T.b_contents .nil pass0 (pa_cons (pv 3) pa_nil)))
      (pss_cons (ps_if (PW.pt (pw_or (pt_cmpR (op_neK K hr.units) (pv 5) (pv 4) (nomark _)) (pw_or1 (pt_not (pt_val (pe_callB (call_isiK' K) (by rfl) T.z_isinstance (by decide +kernel) (pa_cons (pv 5) (pa_cons (pe_bltn (v := .ty "list") (by rfl) T.z_list (by decide +kernel) rfl) pa_nil)))))))) (pss_one (ps_ret pe_bl)) pss_nil)
      (pss_cons (ps_expr (pe_bm0 PySem.F.plainAttrs_list PySem.F.slot_list_clear PySem.F.type_list_clear mt_clear (pv 5)))
      (pss_cons (ps_if (pt_cmpR (op_neK K hr.units) (pe_call (ok_contents T) (hr.mono (by decide)) (by rfl) T.g_contents T.F_contents.kp T.b_contents .nil pass0 (pa_cons (pv 3) pa_nil)) (pv 4) (nomark _)) (pss_one (ps_ret pe_bl)) pss_nil)
      (pss_one (ps_for PassesOwn.never rfl (pi_range1 (by rfl) T.z_range (pa_cons pe_int pa_nil)) (pg_name (i := 6) sc_law.nd rfl (.inl rfl)) (pss_cons (ps_set (i := 7) sc_law.nd rfl (.inr rfl) (pe_call (ok_law_box T) (hr.mono (by decide)) (by rfl) T.g_law_box T.F_law_box.kp T.b_law_box .nil pass0 (pa_cons (pe_call (ok_law_pattern T) (hr.mono (by decide)) (by rfl) T.g_law_pattern T.F_law_pattern.kp T.b_law_pattern .nil pass0 (pa_cons (pv 1) (pa_cons (pe_callB (call_lenK K) (by rfl) T.z_len PySem.boot_len (pa_cons (pv 3) pa_nil)) pa_nil))) (pa_cons (pe_call (ok_law_some T) (hr.mono (by decide)) (by rfl) T.g_law_some T.F_law_some.kp T.b_law_some .nil pass0 (pa_cons (pv 1) (pa_cons (pv 4) pa_nil))) pa_nil))))
      (pss_cons (ps_set (i := 8) sc_law.nd rfl (.inr rfl) (pe_call (ok_law_box T) (hr.mono (by decide)) (by rfl) T.g_law_box T.F_law_box.kp T.b_law_box .nil pass0 (pa_cons (pe_call (ok_law_pattern T) (hr.mono (by decide)) (by rfl) T.g_law_pattern T.F_law_pattern.kp T.b_law_pattern .nil pass0 (pa_cons (pv 1) (pa_cons (pe_callB (call_lenK K) (by rfl) T.z_len PySem.boot_len (pa_cons (pv 3) pa_nil)) pa_nil))) (pa_cons (pe_call (ok_law_some T) (hr.mono (by decide)) (by rfl) T.g_law_some T.F_law_some.kp T.b_law_some .nil pass0 (pa_cons (pv 1) (pa_cons (pv 4) pa_nil))) pa_nil))))
      (pss_cons (ps_set (i := 9) sc_law.nd rfl (.inl rfl) (pe_call (ok_law_some T) (hr.mono (by decide)) (by rfl) T.g_law_some T.F_law_some.kp T.b_law_some .nil pass0 (pa_cons (pv 1) (pa_cons (pv 4) pa_nil))))
      (pss_cons (ps_if (PW.pt (pw_or (pt_cmpR (op_neK K hr.units) (pe_call (ok_box_at T) (hr.mono (by decide)) (by rfl) T.g_box_at T.F_box_at.kp T.b_box_at .nil pass0 (pa_cons (pv 3) (pa_cons (pe_ix (ix_tupK K) (pv 7) pe_int (fun _ _ => rfl)) (pa_cons (pv 9) pa_nil)))) (pe_call (ok_law_box T) (hr.mono (by decide)) (by rfl) T.g_law_box T.F_law_box.kp T.b_law_box .nil pass0 (pa_cons (pe_ix (ix_tupK K) (pv 7) pe_int (fun _ _ => rfl)) (pa_cons (pv 9) pa_nil))) (nomark _)) (pw_or1 (pt_cmpR op_isnot_bl (pe_call (ok_is_box T) hr (by rfl) T.g_is_box T.F_is_box.kp T.b_is_box .nil pass0 (pa_cons (pv 3) (pa_cons (pv 7) pa_nil))) pe_bl (nomark _))))) (pss_one (ps_ret pe_bl)) pss_nil)
      (pss_cons (ps_set (i := 10) sc_law.nd rfl (.inl rfl) (pe_call (ok_in_box T) hr (by rfl) T.g_in_box T.F_in_box.kp T.b_in_box .nil pass0 (pa_cons (pv 3) (pa_cons (pv 7) pa_nil))))
      (pss_cons (ps_if (PW.pt (pw_or (pt_cmpR (op_neK K hr.units) (pv 10) (pe_lc (own := [("one", 13)]) rfl sc_law.nd (pi_listK K (pv 4)) (blkOk_by (N := N_law) (sc := defScope s_law) (by decide +kernel)) (fun _ _ _ _ _ => (pg_name (i := 13) sc_law.nd rfl (.inl rfl))) (fun _ _ _ _ _ => (pts_one (pt_val (pe_call (ok_law_is_in T) (hr.mono (by decide)) (by rfl) T.g_law_is_in T.F_law_is_in.kp T.b_law_is_in .nil pass0 (pa_cons (pv 7) (pa_cons (pv 13) pa_nil)))))) (fun _ _ _ _ _ => (pv 13))) (nomark _)) (pw_or1 (pt_not (pt_val (pe_callB (call_isiK' K) (by rfl) T.z_isinstance (by decide +kernel) (pa_cons (pv 10) (pa_cons (pe_bltn (v := .ty "list") (by rfl) T.z_list (by decide +kernel) rfl) pa_nil)))))))) (pss_one (ps_ret pe_bl)) pss_nil)
      (pss_cons (ps_set (i := 11) sc_law.nd rfl (.inl rfl) (pe_call (ok_both T) hr (by rfl) T.g_both T.F_both.kp T.b_both .nil pass0 (pa_cons (pv 3) (pa_cons (pv 7) (pa_cons (pv 8) pa_nil)))))
      (pss_cons (ps_if (PW.pt (pw_or (pt_cmpR (op_neK K hr.units) (pv 11) (pe_call (ok_law_both T) (hr.mono (by decide)) (by rfl) T.g_law_both T.F_law_both.kp T.b_law_both .nil pass0 (pa_cons (pv 7) (pa_cons (pv 8) pa_nil))) (nomark _)) (pw_or (pt_cmpR (op_neK K hr.units) (pe_call (ok_both T) hr (by rfl) T.g_both T.F_both.kp T.b_both .nil pass0 (pa_cons (pv 3) (pa_cons (pv 8) (pa_cons (pv 7) pa_nil)))) (pv 11) (nomark _)) (pw_or1 (pt_cmpR (op_neK K hr.units) (pe_call (ok_both T) hr (by rfl) T.g_both T.F_both.kp T.b_both .nil pass0 (pa_cons (pv 3) (pa_cons (pv 7) (pa_cons (pv 7) pa_nil)))) (pv 7) (nomark _)))))) (pss_one (ps_ret pe_bl)) pss_nil)
      (pss_cons (ps_setLc (i := 12) (own := [("one", 13)]) rfl sc_law.nd rfl rfl (sw_true rfl rfl rfl (by decide +kernel)) (pi_listK K (pv 10)) (blkOk_by (N := N_law) (sc := defScope s_law) (by decide +kernel)) (fun _ _ _ _ _ => (pg_name (i := 13) sc_law.nd rfl (.inl rfl))) (fun _ _ _ _ _ => (pts_one (pt_val (pe_call (ok_law_is_in T) (hr.mono (by decide)) (by rfl) T.g_law_is_in T.F_law_is_in.kp T.b_law_is_in .nil pass0 (pa_cons (pv 8) (pa_cons (pv 13) pa_nil)))))) (fun _ _ _ _ _ => (pv 13)))
      (pss_cons (ps_if (PW.pt (pw_or (pt_cmpR op_ne (pe_cmpR op_isN (pv 11) pe_non (nomark _)) (pe_cmpR (op_eqK K hr.units) (pv 12) (pe_lst pa_nil) (nomark _)) (nomark _)) (pw_or1 (PW.pt (pw_and (pt_cmpR op_notN (pv 11) pe_non (nomark _)) (pw_and1 (pt_cmpR (op_neK K hr.units) (pe_call (ok_in_box T) hr (by rfl) T.g_in_box T.F_in_box.kp T.b_in_box .nil pass0 (pa_cons (pv 3) (pa_cons (pv 11) pa_nil))) (pv 12) (nomark _)))))))) (pss_one (ps_ret pe_bl)) pss_nil)
      (pss_one (ps_if (PW.pt (pw_or (pt_cmpR (op_neK K hr.units) (pe_call (ok_both T) hr (by rfl) T.g_both T.F_both.kp T.b_both .nil pass0 (pa_cons (pv 3) (pa_cons (pv 7) (pa_cons (pe_tup (pa_cons (pe_tup pa_nil) (pa_cons (pe_tup pa_nil) pa_nil))) pa_nil)))) (pv 7) (nomark _)) (pw_or1 (pt_cmpR (op_neK K hr.units) (pe_call (ok_in_box T) hr (by rfl) T.g_in_box T.F_in_box.kp T.b_in_box .nil pass0 (pa_cons (pv 3) (pa_cons (pe_tup (pa_cons (pe_tup pa_nil) (pa_cons (pe_tup pa_nil) pa_nil))) pa_nil))) (pv 4) (nomark _))))) (pss_one (ps_ret pe_bl)) pss_nil)))))))))))))))))))))
      (pss_one (ps_ret pe_bl)))), ?_⟩
    -- hand = _law_hand(script)
    refine ⟨_, rfl, a, ns, rfl, hS, by omega, fun h c H1 nh s1 hx => ?_⟩
    refine ⟨3, rfl, by decide, by decide, for_range (lo := 0) (n := 3) (fun i σ H' => ∃ y2 y3 y4 y5 y6 y7 y8 y9 y10 y11 y12 y13 : Option V, σ = [some (.ref a), some (.ref h), y2, y3, y4, y5, y6, y7, y8, y9, y10, y11, y12, y13] ∧ HandOk H' h c)
      ⟨none, none, none, none, none, none, none, none, none, none, none, none, rfl, hx⟩ ?_ ?_⟩
    · rintro i σ H' hi ⟨y2, y3, y4, y5, y6, y7, y8, y9, y10, y11, y12, y13, rfl, hx⟩
      -- sizes, every, told
      refine ⟨_, rfl, h, c, rfl, hx, fun sz ss H2 k2 ok hsz => ?_⟩
      obtain ⟨az, rfl, haz⟩ := ct_inv hsz
      obtain ⟨_, h5, _⟩ := ok.facts
      refine ⟨_, rfl, az, ss, rfl, haz, ok, fun ev xs H3 nev s3 hev hxs => ?_⟩
      refine ⟨_, rfl, az, ss, rfl, (Ext.of s3).sqT haz, ok, fun to zs H4 nto s4 hto hzs => ?_⟩
      refine ⟨_, rfl, _, rfl, ctsP (allC ss), ctsP (allC ss), dp_cts (SqL.of hto) hzs, dp_cts (SqL.of (s4 _ _ hev)) (hxs.ext (.of s4)), shaped_cts _, shaped_cts _, _, rfl, ?_⟩
      rw [eqv_cts_refl]
      refine iteF ?_
      refine ⟨_, rfl, _, _, _, _, _, rfl, .ty _, .base (.lst hto), kit_ty (show kitB "list" "list" = some true by decide +kernel), _, rfl, ?_⟩
      refine iteF ?_
      -- told.clear()
      refine ⟨_, rfl, .inl ⟨rfl, _, SqL.of hto⟩, to, zs, rfl, rfl, hto, ?_⟩
      have s5 : Same H3 (upd H4 to (.lst [])) := Same.put nto s4
      generalize upd H4 to (.lst []) = H5 at s5 ⊢
      refine ⟨_, rfl, az, ss, rfl, (Ext.of (s3.trans s5)).sqT haz, ok, fun t2 zs2 H6 nt2 s6 ht2 hzs2 => ⟨_, rfl, ctsP (allC ss), ctsP (allC ss), dp_cts (SqL.of ht2) hzs2, dp_cts (SqL.of ((s5.trans s6) _ _ hev)) (hxs.ext (.of (s5.trans s6))), shaped_cts _, shaped_cts _, _, rfl, ?_⟩⟩
      rw [eqv_cts_refl]
      refine iteF ?_
      have hne : ev ≠ h := (k2.hand.ne nev).1
      have hlen := hxs.length
      rw [List.length_map] at hlen
      have hal := allC_all ok
      have l0 : 0 < xs.length := by
        rw [hlen]
        have hm := mem_allC.mpr (meetC_ct (box_nil (ss := ss)) box_nil ok)
        exact List.length_pos_of_mem hm
      have s36 := s5.trans s6
      refine ⟨5, rfl, by decide, by decide, for_range (lo := 0) (n := 5) (fun j σ H' => ∃ y2 y5 y6 y7 y8 y9 y10 y11 y12 y13 : Option V, σ = [some (.ref a), some (.ref h), y2, some (.ref az), some (.ref ev), y5, y6, y7, y8, y9, y10, y11, y12, y13] ∧ HandOk H' h c ∧ SqT K H' az (ss.map V.int) ∧ H' ev = some (.lst xs) ∧ DhAll K H' xs ((allC ss).map ctD))
        ⟨_, _, _, _, _, _, _, _, _, _, rfl, k2.hand.same (s3.trans s36), (Ext.of (s3.trans s36)).sqT haz, s36 _ _ hev, hxs.ext (.of s36)⟩ ?_ ?_⟩
      · clear hev hxs haz hx hsz hto hzs ht2 hzs2 s3 s4 s5 s6 s36 k2 nev nto nt2 s1 hS nh y2 y3 y4 y5 y6 y7 y8 y9 y10 y11 y12 y13
        rintro j σ H0 hj ⟨y2, y5, y6, y7, y8, y9, y10, y11, y12, y13, rfl, hx, haz, hev, hxs⟩
        -- box, other
        dsimp only [tSeq, tAsg]
        refine draw_box (K := K) rfl rfl rfl hx ok haz hne hev hxs l0 (by omega) fun bv ps ws H1 k1 bx1 hb => ?_
        refine draw_box (K := K) rfl rfl rfl k1.hand ok ((Keep.ext hx k1).sqT haz) hne (k1.rest _ _ hne hev) (hxs.ext (Keep.ext hx k1)) l0 (by omega) fun ov qs us H2 k2 bx2 ho => ?_
        -- content
        have hbo := hb.ext (Keep.ext k1.hand k2)
        have k12 := k1.trans k2
        refine ⟨_, rfl, _, rfl, h, c, ev, xs, rfl, k12.hand, hne, k12.rest _ _ hne hev, l0, by omega, fun cv H3 hm k3 => ?_⟩
        obtain ⟨d, hd, hcv⟩ := (hxs.ext (Keep.ext hx (k12.trans k3))).mem hm
        obtain ⟨ct, hct, rfl⟩ := List.mem_map.mp hd
        have hct' := mem_allC.mp hct
        have kA := k12.trans k3
        have hb := hbo.ext (Keep.ext k12.hand k3)
        have ho := ho.ext (Keep.ext k12.hand k3)
        have haz := (Keep.ext hx kA).sqT haz
        have hxs := hxs.ext (Keep.ext hx kA)
        have hev := kA.rest _ _ hne hev
        have hx := kA.hand
        clear hbo k12 k3 kA k1 k2 hm hd
        have hpl := bx1.asc.len (by omega)
        have hql := bx2.asc.len (by omega)
        obtain ⟨b, w1, w2, rfl, hbt, hw1, hw2⟩ := box_inv hb
        refine ⟨_, rfl, _, rfl, b, _, 0, _, rfl, rfl, hbt, atI_nat (j := 0) rfl, _, rfl, az, ss, ps, ct, _, _, rfl, haz, ok, hw1, bx1.asc, hcv, hct', fun v4 H4 s4 hv4 => ?_⟩
        refine ⟨_, rfl, b, _, 0, _, rfl, rfl, (Ext.of s4).sqT hbt, atI_nat (j := 0) rfl, _, rfl, ps, ct, _, _, rfl, hw1.ext (.of s4), hcv.ext (.of s4), (by rw [hct'.len]; exact bx1.asc.inR), by omega, fun v5 H5 s5 hv5 => ?_⟩
        refine ⟨_, _, dp_box (hv4.ext (.of s5)), dp_box hv5, shaped_box _ _, shaped_box _ _, _, rfl, ?_⟩
        rw [eqv_box_refl]
        refine iteF ?_
        have s35 := s4.trans s5
        refine ⟨_, rfl, _, rfl, az, ss, _, boxD ps ws, rfl, (Ext.of s35).sqT haz, ok, hb.ext (.of s35), fun H6 s6 => ?_⟩
        rw [bx1.isBox]
        refine ⟨_, _, rfl, rfl, _, rfl, ?_⟩
        refine iteF ?_
        -- inside
        have s36 := s35.trans s6
        refine ⟨_, rfl, _, rfl, az, ss, ps, ws, _, rfl, (Ext.of s36).sqT haz, ok, hb.ext (.of s36), bx1, fun pi xi H7 npi s7 hpi hxi => ?_⟩
        have s37 := s36.trans s7
        refine ⟨_, rfl, ?_⟩
        dsimp only [tCB]
        refine lc_filter (K := K) (kx := 13) (kb := 7) (tp := tVar 4) (fun R hR => ⟨_, rfl, hR⟩) (s37 _ _ hev) (hxs.ext (.of s37)) (hb.ext (.of s37)) (fun c hc => by rw [(mem_allC.mp hc).len]; exact bx1.asc.inR) (by omega) (by omega) (fun _ => rfl) (fun _ => rfl) (fun _ => rfl) fun D ys H8 nD s8 hD hys => ?_
        have s38 := s37.trans s8
        refine ⟨ctsP (inBox ss ps ws), ctsP (inBox ss ps ws), dp_cts (SqL.of (s8 _ _ hpi)) (hxi.ext (.of s8)), dp_cts (SqL.of hD) hys, shaped_cts _, shaped_cts _, _, rfl, ?_⟩
        rw [eqv_cts_refl]
        refine iteF ?_
        refine ⟨_, rfl, _, _, _, _, _, rfl, .ty _, .base (.lst (s8 _ _ hpi)), kit_ty (show kitB "list" "list" = some true by decide +kernel), _, rfl, ?_⟩
        refine iteF ?_
        -- meet
        have hl5 := ok.facts.2.1
        refine ⟨_, rfl, _, rfl, _, rfl, az, ss, ps, ws, qs, us, _, _, rfl, (Ext.of s38).sqT haz, ok, hb.ext (.of s38), bx1, ho.ext (.of s38), bx2, fun mv H9 s9 hmv => ?_⟩
        have s39 := s38.trans s9
        refine ⟨_, rfl, _, rfl, _, rfl, ss, ps, ws, qs, us, _, _, rfl, ok, hb.ext (.of s39), bx1, ho.ext (.of s39), bx2, fun v6 H10 s10 hv6 => ?_⟩
        refine ⟨_, _, dp_opt (hmv.ext (.of s10)), dp_opt hv6, shaped_opt _, shaped_opt _, _, rfl, ?_⟩
        rw [eqv_opt]
        refine iteF ?_
        have s3a := s39.trans s10
        refine ⟨_, rfl, _, rfl, _, rfl, az, ss, qs, us, ps, ws, _, _, rfl, (Ext.of s3a).sqT haz, ok, ho.ext (.of s3a), bx2, hb.ext (.of s3a), bx1, fun v7 H11 s11 hv7 => ?_⟩
        rw [bothR_comm bx1 bx2 hl5] at hv7
        have s3b := s3a.trans s11
        refine ⟨_, rfl, _, _, dp_opt hv7, dp_opt (hmv.ext (.of (s10.trans s11))), shaped_opt _, shaped_opt _, _, rfl, ?_⟩
        rw [eqv_opt]
        refine iteF ?_
        refine ⟨_, rfl, _, rfl, _, rfl, az, ss, ps, ws, ps, ws, _, _, rfl, (Ext.of s3b).sqT haz, ok, hb.ext (.of s3b), bx1, hb.ext (.of s3b), bx1, fun v8 H12 s12 hv8 => ?_⟩
        rw [bothR_self bx1 hl5] at hv8
        have s3c := s3b.trans s12
        refine ⟨_, rfl, boxP ps ws, boxP ps ws, dp_box hv8, dp_box (hb.ext (.of s3c)), shaped_box _ _, shaped_box _ _, _, rfl, ?_⟩
        rw [eqv_box_refl]
        refine iteF ?_
        -- common
        have s7c := (((s8.trans s9).trans s10).trans s11).trans s12
        dsimp only [tNext, tSeq, tAsg]
        refine lc_filter (K := K) (kx := 13) (kb := 8) (cs := inBox ss ps ws) (tp := tVar 10) (fun R hR => ⟨_, rfl, hR⟩) (s7c _ _ hpi) (hxi.ext (.of s7c)) (ho.ext (.of s3c)) (fun c hc => by rw [(mem_allC.mp (List.mem_filter.mp hc).1).len]; exact bx2.asc.inR) (by omega) (Nat.le_trans (List.length_filter_le _ _) (by omega)) (fun _ => rfl) (fun _ => rfl) (fun _ => rfl) fun C zs H13 nC s13 hC hzs => ?_
        have s3d := s3c.trans s13
        have hmv' := hmv.ext (.of ((((s10.trans s11).trans s12)).trans s13))
        have hzs : DhAll K H13 zs ((comm ss ps ws qs us).map ctD) := hzs
        refine meet_cond (K := K) rfl rfl rfl ok bx1 bx2 ((Ext.of s3d).sqT haz) hmv' hC hzs fun H14 s14 => ?_
        refine iteF ?_
        have s3e := s3d.trans s14
        refine last_cond (K := K) rfl rfl rfl ok bx1 ((Ext.of s3e).sqT haz) (hb.ext (.of s3e)) (s3e _ _ hev) (hxs.ext (.of s3e)) fun H15 s15 => ?_
        refine iteF ?_
        have s3f := s3e.trans s15
        exact ⟨_, _, _, _, _, _, _, _, _, _, rfl, hx.same s3f, (Ext.of s3f).sqT haz, s3f _ _ hev, hxs.ext (.of s3f)⟩
      · rintro σ H7 ⟨y2, y5, y6, y7, y8, y9, y10, y11, y12, y13, rfl, hx, _⟩
        exact ⟨_, _, _, _, _, _, _, _, _, _, _, _, rfl, hx⟩
    · rintro σ H' ⟨y2, y3, y4, y5, y6, y7, y8, y9, y10, y11, y12, y13, rfl, hx⟩
      exact q H'
end
/-! ### what the top has left, the head -/
theorem all_mk {l : PySem.W.OpenLaw} {w : World} {K : PySem.W.Frag} {h : Heap} {mg : Str → Option Value} {fa f1 f2 f3 f4 f5 f6 f7 f8 f9 f10 f11 f12 f13 f14 f15 f16 f17 f18 f19 f20 f21 f22 f23 : Addr} (X : K.In h) (G : h.Ns mainGlobals mg) (hfa : mg "law" = some (.ref fa))
    {od1 an1 od2 an2 od3 an3 od4 an4 od5 an5 od6 an6 od7 an7 od8 an8 od9 an9 od10 an10 od11 an11 od12 an12 od13 an13 od14 an14 od15 an15 od16 an16 od17 an17 od18 an18 od19 an19 od20 an20 od21 an21 od22 an22 od23 an23 : Option Addr} {sl1 sl2 sl3 sl4 sl5 sl6 sl7 sl8 sl9 sl10 sl11 sl12 sl13 sl14 sl15 sl16 sl17 sl18 sl19 sl20 sl21 sl22 sl23 : Array (Option Value)} {oc1 kV1 dc1 pm1 cd1 ct1 oc2 kV2 dc2 pm2 cd2 ct2 oc3 kV3 dc3 pm3 cd3 ct3 oc4 kV4 dc4 pm4 cd4 ct4 oc5 kV5 dc5 pm5 cd5 ct5 oc6 kV6 dc6 pm6 cd6 ct6 oc7 kV7 dc7 pm7 cd7 ct7 oc8 kV8 dc8 pm8 cd8 ct8 oc9 kV9 dc9 pm9 cd9 ct9 oc10 kV10 dc10 pm10 cd10 ct10 oc11 kV11 dc11 pm11 cd11 ct11 oc12 kV12 dc12 pm12 cd12 ct12 oc13 kV13 dc13 pm13 cd13 ct13 oc14 kV14 dc14 pm14 cd14 ct14 oc15 kV15 dc15 pm15 cd15 ct15 oc16 kV16 dc16 pm16 cd16 ct16 oc17 kV17 dc17 pm17 cd17 ct17 oc18 kV18 dc18 pm18 cd18 ct18 oc19 kV19 dc19 pm19 cd19 ct19 oc20 kV20 dc20 pm20 cd20 ct20 oc21 kV21 dc21 pm21 cd21 ct21 oc22 kV22 dc22 pm22 cd22 ct22 oc23 kV23 dc23 pm23 cd23 ct23 : Value} {t1 t2 t3 t4 : _}
    (a1 : PySem.W.nsIn K mainGlobals "is_whole" = some (some (.ref f1))) (l1 : K.lookup f1 = some ⟨oc1, od1, .func (PySem.W.fnOf "is_whole" "is_whole" (defArgs s_is_whole) (defBody s_is_whole) (defScope s_is_whole) .none kV1 dc1 pm1 an1 cd1 ct1), sl1⟩) (c1 : PySem.W.codeIn K cd1 "is_whole" = true) (k1 : PySem.W.keepIn K (.ref f1) = true)
    (a2 : PySem.W.nsIn K mainGlobals "is_pair" = some (some (.ref f2))) (l2 : K.lookup f2 = some ⟨oc2, od2, .func (PySem.W.fnOf "is_pair" "is_pair" (defArgs s_is_pair) (defBody s_is_pair) (defScope s_is_pair) .none kV2 dc2 pm2 an2 cd2 ct2), sl2⟩) (c2 : PySem.W.codeIn K cd2 "is_pair" = true) (k2 : PySem.W.keepIn K (.ref f2) = true)
    (a3 : PySem.W.nsIn K mainGlobals "is_sizes" = some (some (.ref f3))) (l3 : K.lookup f3 = some ⟨oc3, od3, .func (PySem.W.fnOf "is_sizes" "is_sizes" (defArgs s_is_sizes) (defBody s_is_sizes) (defScope s_is_sizes) .none kV3 dc3 pm3 an3 cd3 ct3), sl3⟩) (c3 : PySem.W.codeIn K cd3 "is_sizes" = true) (k3 : PySem.W.keepIn K (.ref f3) = true)
    (a4 : PySem.W.nsIn K mainGlobals "is_content" = some (some (.ref f4))) (l4 : K.lookup f4 = some ⟨oc4, od4, .func (PySem.W.fnOf "is_content" "is_content" (defArgs s_is_content) (defBody s_is_content) (defScope s_is_content) .none kV4 dc4 pm4 an4 cd4 ct4), sl4⟩) (c4 : PySem.W.codeIn K cd4 "is_content" = true) (k4 : PySem.W.keepIn K (.ref f4) = true)
    (a5 : PySem.W.nsIn K mainGlobals "is_pattern" = some (some (.ref f5))) (l5 : K.lookup f5 = some ⟨oc5, od5, .func (PySem.W.fnOf "is_pattern" "is_pattern" (defArgs s_is_pattern) (defBody s_is_pattern) (defScope s_is_pattern) .none kV5 dc5 pm5 an5 cd5 ct5), sl5⟩) (c5 : PySem.W.codeIn K cd5 "is_pattern" = true) (k5 : PySem.W.keepIn K (.ref f5) = true)
    (a6 : PySem.W.nsIn K mainGlobals "is_box_of" = some (some (.ref f6))) (l6 : K.lookup f6 = some ⟨oc6, od6, .func (PySem.W.fnOf "is_box_of" "is_box_of" (defArgs s_is_box_of) (defBody s_is_box_of) (defScope s_is_box_of) .none kV6 dc6 pm6 an6 cd6 ct6), sl6⟩) (c6 : PySem.W.codeIn K cd6 "is_box_of" = true) (k6 : PySem.W.keepIn K (.ref f6) = true)
    (a7 : PySem.W.nsIn K mainGlobals "all_contents" = some (some (.ref f7))) (l7 : K.lookup f7 = some ⟨oc7, od7, .func (PySem.W.fnOf "all_contents" "all_contents" (defArgs s_all_contents) (defBody s_all_contents) (defScope s_all_contents) .none kV7 dc7 pm7 an7 cd7 ct7), sl7⟩) (c7 : PySem.W.codeIn K cd7 "all_contents" = true) (k7 : PySem.W.keepIn K (.ref f7) = true)
    (a8 : PySem.W.nsIn K mainGlobals "worths_at" = some (some (.ref f8))) (l8 : K.lookup f8 = some ⟨oc8, od8, .func (PySem.W.fnOf "worths_at" "worths_at" (defArgs s_worths_at) (defBody s_worths_at) (defScope s_worths_at) .none kV8 dc8 pm8 an8 cd8 ct8), sl8⟩) (c8 : PySem.W.codeIn K cd8 "worths_at" = true) (k8 : PySem.W.keepIn K (.ref f8) = true)
    (a9 : PySem.W.nsIn K mainGlobals "contents" = some (some (.ref f9))) (l9 : K.lookup f9 = some ⟨oc9, od9, .func (PySem.W.fnOf "contents" "contents" (defArgs s_contents) (defBody s_contents) (defScope s_contents) .none kV9 dc9 pm9 an9 cd9 ct9), sl9⟩) (c9 : PySem.W.codeIn K cd9 "contents" = true) (k9 : PySem.W.keepIn K (.ref f9) = true)
    (a10 : PySem.W.nsIn K mainGlobals "is_box" = some (some (.ref f10))) (l10 : K.lookup f10 = some ⟨oc10, od10, .func (PySem.W.fnOf "is_box" "is_box" (defArgs s_is_box) (defBody s_is_box) (defScope s_is_box) .none kV10 dc10 pm10 an10 cd10 ct10), sl10⟩) (c10 : PySem.W.codeIn K cd10 "is_box" = true) (k10 : PySem.W.keepIn K (.ref f10) = true)
    (a11 : PySem.W.nsIn K mainGlobals "box_at" = some (some (.ref f11))) (l11 : K.lookup f11 = some ⟨oc11, od11, .func (PySem.W.fnOf "box_at" "box_at" (defArgs s_box_at) (defBody s_box_at) (defScope s_box_at) .none kV11 dc11 pm11 an11 cd11 ct11), sl11⟩) (c11 : PySem.W.codeIn K cd11 "box_at" = true) (k11 : PySem.W.keepIn K (.ref f11) = true)
    (a12 : PySem.W.nsIn K mainGlobals "in_box" = some (some (.ref f12))) (l12 : K.lookup f12 = some ⟨oc12, od12, .func (PySem.W.fnOf "in_box" "in_box" (defArgs s_in_box) (defBody s_in_box) (defScope s_in_box) .none kV12 dc12 pm12 an12 cd12 ct12), sl12⟩) (c12 : PySem.W.codeIn K cd12 "in_box" = true) (k12 : PySem.W.keepIn K (.ref f12) = true)
    (a13 : PySem.W.nsIn K mainGlobals "both" = some (some (.ref f13))) (l13 : K.lookup f13 = some ⟨oc13, od13, .func (PySem.W.fnOf "both" "both" (defArgs s_both) (defBody s_both) (defScope s_both) .none kV13 dc13 pm13 an13 cd13 ct13), sl13⟩) (c13 : PySem.W.codeIn K cd13 "both" = true) (k13 : PySem.W.keepIn K (.ref f13) = true)
    (a14 : PySem.W.nsIn K mainGlobals "_law_hand" = some (some (.ref f14))) (l14 : K.lookup f14 = some ⟨oc14, od14, .func (PySem.W.fnOf "_law_hand" "_law_hand" (defArgs s_law_hand) (defBody s_law_hand) (defScope s_law_hand) .none kV14 dc14 pm14 an14 cd14 ct14), sl14⟩) (c14 : PySem.W.codeIn K cd14 "_law_hand" = true) (k14 : PySem.W.keepIn K (.ref f14) = true)
    (a15 : PySem.W.nsIn K mainGlobals "_law_draw" = some (some (.ref f15))) (l15 : K.lookup f15 = some ⟨oc15, od15, .func (PySem.W.fnOf "_law_draw" "_law_draw" (defArgs s_law_draw) (defBody s_law_draw) (defScope s_law_draw) .none kV15 dc15 pm15 an15 cd15 ct15), sl15⟩) (c15 : PySem.W.codeIn K cd15 "_law_draw" = true) (k15 : PySem.W.keepIn K (.ref f15) = true)
    (a16 : PySem.W.nsIn K mainGlobals "_law_some" = some (some (.ref f16))) (l16 : K.lookup f16 = some ⟨oc16, od16, .func (PySem.W.fnOf "_law_some" "_law_some" (defArgs s_law_some) (defBody s_law_some) (defScope s_law_some) .none kV16 dc16 pm16 an16 cd16 ct16), sl16⟩) (c16 : PySem.W.codeIn K cd16 "_law_some" = true) (k16 : PySem.W.keepIn K (.ref f16) = true)
    (a17 : PySem.W.nsIn K mainGlobals "_law_sizes" = some (some (.ref f17))) (l17 : K.lookup f17 = some ⟨oc17, od17, .func (PySem.W.fnOf "_law_sizes" "_law_sizes" (defArgs s_law_sizes) (defBody s_law_sizes) (defScope s_law_sizes) .none kV17 dc17 pm17 an17 cd17 ct17), sl17⟩) (c17 : PySem.W.codeIn K cd17 "_law_sizes" = true) (k17 : PySem.W.keepIn K (.ref f17) = true)
    (a18 : PySem.W.nsIn K mainGlobals "_law_contents" = some (some (.ref f18))) (l18 : K.lookup f18 = some ⟨oc18, od18, .func (PySem.W.fnOf "_law_contents" "_law_contents" (defArgs s_law_contents) (defBody s_law_contents) (defScope s_law_contents) .none kV18 dc18 pm18 an18 cd18 ct18), sl18⟩) (c18 : PySem.W.codeIn K cd18 "_law_contents" = true) (k18 : PySem.W.keepIn K (.ref f18) = true)
    (a19 : PySem.W.nsIn K mainGlobals "_law_pattern" = some (some (.ref f19))) (l19 : K.lookup f19 = some ⟨oc19, od19, .func (PySem.W.fnOf "_law_pattern" "_law_pattern" (defArgs s_law_pattern) (defBody s_law_pattern) (defScope s_law_pattern) .none kV19 dc19 pm19 an19 cd19 ct19), sl19⟩) (c19 : PySem.W.codeIn K cd19 "_law_pattern" = true) (k19 : PySem.W.keepIn K (.ref f19) = true)
    (a20 : PySem.W.nsIn K mainGlobals "_law_box" = some (some (.ref f20))) (l20 : K.lookup f20 = some ⟨oc20, od20, .func (PySem.W.fnOf "_law_box" "_law_box" (defArgs s_law_box) (defBody s_law_box) (defScope s_law_box) .none kV20 dc20 pm20 an20 cd20 ct20), sl20⟩) (c20 : PySem.W.codeIn K cd20 "_law_box" = true) (k20 : PySem.W.keepIn K (.ref f20) = true)
    (a21 : PySem.W.nsIn K mainGlobals "_law_is_in" = some (some (.ref f21))) (l21 : K.lookup f21 = some ⟨oc21, od21, .func (PySem.W.fnOf "_law_is_in" "_law_is_in" (defArgs s_law_is_in) (defBody s_law_is_in) (defScope s_law_is_in) .none kV21 dc21 pm21 an21 cd21 ct21), sl21⟩) (c21 : PySem.W.codeIn K cd21 "_law_is_in" = true) (k21 : PySem.W.keepIn K (.ref f21) = true)
    (a22 : PySem.W.nsIn K mainGlobals "_law_both" = some (some (.ref f22))) (l22 : K.lookup f22 = some ⟨oc22, od22, .func (PySem.W.fnOf "_law_both" "_law_both" (defArgs s_law_both) (defBody s_law_both) (defScope s_law_both) .none kV22 dc22 pm22 an22 cd22 ct22), sl22⟩) (c22 : PySem.W.codeIn K cd22 "_law_both" = true) (k22 : PySem.W.keepIn K (.ref f22) = true)
    (a23 : PySem.W.nsIn K mainGlobals "law" = some (some (.ref f23))) (l23 : K.lookup f23 = some ⟨oc23, od23, .func (PySem.W.fnOf "law" "law" (defArgs s_law) (defBody s_law) (defScope s_law) .none kV23 dc23 pm23 an23 cd23 ct23), sl23⟩) (c23 : PySem.W.codeIn K cd23 "law" = true) (k23 : PySem.W.keepIn K (.ref f23) = true)
    (u1 : PySem.W.nsIn K mainGlobals "MOST_COLUMNS" = some (some (.int 5 t1)))
    (u2 : PySem.W.nsIn K mainGlobals "LEAST_SIZE" = some (some (.int 2 t2)))
    (u3 : PySem.W.nsIn K mainGlobals "MOST_SIZE" = some (some (.int 4 t3)))
    (u4 : PySem.W.nsIn K mainGlobals "MOST_CONTENTS" = some (some (.int 256 t4)))
    (z1 : PySem.W.nsIn K mainGlobals "len" = some none)
    (z2 : PySem.W.nsIn K mainGlobals "isinstance" = some none)
    (z3 : PySem.W.nsIn K mainGlobals "range" = some none)
    (z4 : PySem.W.nsIn K mainGlobals "zip" = some none)
    (z5 : PySem.W.nsIn K mainGlobals "tuple" = some none)
    (z6 : PySem.W.nsIn K mainGlobals "list" = some none)
    (z7 : PySem.W.nsIn K mainGlobals "int" = some none)
    (z8 : PySem.W.nsIn K mainGlobals "bool" = some none)
    (z9 : PySem.W.nsIn K mainGlobals "abs" = some none)
    (z10 : PySem.W.nsIn K mainGlobals "sorted" = some none)
    (z11 : PySem.W.nsIn K mainGlobals "dict" = some none)
    : ∃ fd : FuncData, (∀ (s : Shared) (v : Value), BindsTo s fd ⟨[v], []⟩ [("script", v)]) ∧ ∀ base : Heap, K.In base → base.Ns mainGlobals mg → FnOk l.prog w K mg base CX0 5 fa fd ["script"] (spLaw K) := by
  have e := hfa.symm.trans (PySem.W.mg_of X G a23)
  cases e
  have F1 := fun_mk (st := s_is_whole) l1 c1 k1
  have b1 := F1.binds (ps := ["thing"]) fun _ _ _ _ _ _ us hl => match us, hl with | [_], _ => rfl
  have F2 := fun_mk (st := s_is_pair) l2 c2 k2
  have b2 := F2.binds (ps := ["thing"]) fun _ _ _ _ _ _ us hl => match us, hl with | [_], _ => rfl
  have F3 := fun_mk (st := s_is_sizes) l3 c3 k3
  have b3 := F3.binds (ps := ["thing"]) fun _ _ _ _ _ _ us hl => match us, hl with | [_], _ => rfl
  have F4 := fun_mk (st := s_is_content) l4 c4 k4
  have b4 := F4.binds (ps := ["sizes", "thing"]) fun _ _ _ _ _ _ us hl => match us, hl with | [_, _], _ => rfl
  have F5 := fun_mk (st := s_is_pattern) l5 c5 k5
  have b5 := F5.binds (ps := ["columns", "thing"]) fun _ _ _ _ _ _ us hl => match us, hl with | [_, _], _ => rfl
  have F6 := fun_mk (st := s_is_box_of) l6 c6 k6
  have b6 := F6.binds (ps := ["sizes", "thing"]) fun _ _ _ _ _ _ us hl => match us, hl with | [_, _], _ => rfl
  have F7 := fun_mk (st := s_all_contents) l7 c7 k7
  have b7 := F7.binds (ps := ["sizes"]) fun _ _ _ _ _ _ us hl => match us, hl with | [_], _ => rfl
  have F8 := fun_mk (st := s_worths_at) l8 c8 k8
  have b8 := F8.binds (ps := ["pattern", "content"]) fun _ _ _ _ _ _ us hl => match us, hl with | [_, _], _ => rfl
  have F9 := fun_mk (st := s_contents) l9 c9 k9
  have b9 := F9.binds (ps := ["sizes"]) fun _ _ _ _ _ _ us hl => match us, hl with | [_], _ => rfl
  have F10 := fun_mk (st := s_is_box) l10 c10 k10
  have b10 := F10.binds (ps := ["sizes", "thing"]) fun _ _ _ _ _ _ us hl => match us, hl with | [_, _], _ => rfl
  have F11 := fun_mk (st := s_box_at) l11 c11 k11
  have b11 := F11.binds (ps := ["sizes", "pattern", "content"]) fun _ _ _ _ _ _ us hl => match us, hl with | [_, _, _], _ => rfl
  have F12 := fun_mk (st := s_in_box) l12 c12 k12
  have b12 := F12.binds (ps := ["sizes", "box"]) fun _ _ _ _ _ _ us hl => match us, hl with | [_, _], _ => rfl
  have F13 := fun_mk (st := s_both) l13 c13 k13
  have b13 := F13.binds (ps := ["sizes", "box", "other"]) fun _ _ _ _ _ _ us hl => match us, hl with | [_, _, _], _ => rfl
  have F14 := fun_mk (st := s_law_hand) l14 c14 k14
  have b14 := F14.binds (ps := ["script"]) fun _ _ _ _ _ _ us hl => match us, hl with | [_], _ => rfl
  have F15 := fun_mk (st := s_law_draw) l15 c15 k15
  have b15 := F15.binds (ps := ["hand", "many"]) fun _ _ _ _ _ _ us hl => match us, hl with | [_, _], _ => rfl
  have F16 := fun_mk (st := s_law_some) l16 c16 k16
  have b16 := F16.binds (ps := ["hand", "things"]) fun _ _ _ _ _ _ us hl => match us, hl with | [_, _], _ => rfl
  have F17 := fun_mk (st := s_law_sizes) l17 c17 k17
  have b17 := F17.binds (ps := ["hand"]) fun _ _ _ _ _ _ us hl => match us, hl with | [_], _ => rfl
  have F18 := fun_mk (st := s_law_contents) l18 c18 k18
  have b18 := F18.binds (ps := ["sizes"]) fun _ _ _ _ _ _ us hl => match us, hl with | [_], _ => rfl
  have F19 := fun_mk (st := s_law_pattern) l19 c19 k19
  have b19 := F19.binds (ps := ["hand", "columns"]) fun _ _ _ _ _ _ us hl => match us, hl with | [_, _], _ => rfl
  have F20 := fun_mk (st := s_law_box) l20 c20 k20
  have b20 := F20.binds (ps := ["pattern", "content"]) fun _ _ _ _ _ _ us hl => match us, hl with | [_, _], _ => rfl
  have F21 := fun_mk (st := s_law_is_in) l21 c21 k21
  have b21 := F21.binds (ps := ["box", "content"]) fun _ _ _ _ _ _ us hl => match us, hl with | [_, _], _ => rfl
  have F22 := fun_mk (st := s_law_both) l22 c22 k22
  have b22 := F22.binds (ps := ["box", "other"]) fun _ _ _ _ _ _ us hl => match us, hl with | [_, _], _ => rfl
  have F23 := fun_mk (st := s_law) l23 c23 k23
  let T : Txt K mg := { f_is_whole := f1, d_is_whole := _, F_is_whole := F1, b_is_whole := b1, g_is_whole := PySem.W.mg_of X G a1, f_is_pair := f2, d_is_pair := _, F_is_pair := F2, b_is_pair := b2, g_is_pair := PySem.W.mg_of X G a2, f_is_sizes := f3, d_is_sizes := _, F_is_sizes := F3, b_is_sizes := b3, g_is_sizes := PySem.W.mg_of X G a3, f_is_content := f4, d_is_content := _, F_is_content := F4, b_is_content := b4, g_is_content := PySem.W.mg_of X G a4, f_is_pattern := f5, d_is_pattern := _, F_is_pattern := F5, b_is_pattern := b5, g_is_pattern := PySem.W.mg_of X G a5, f_is_box_of := f6, d_is_box_of := _, F_is_box_of := F6, b_is_box_of := b6, g_is_box_of := PySem.W.mg_of X G a6, f_all_contents := f7, d_all_contents := _, F_all_contents := F7, b_all_contents := b7, g_all_contents := PySem.W.mg_of X G a7, f_worths_at := f8, d_worths_at := _, F_worths_at := F8, b_worths_at := b8, g_worths_at := PySem.W.mg_of X G a8, f_contents := f9, d_contents := _, F_contents := F9, b_contents := b9, g_contents := PySem.W.mg_of X G a9, f_is_box := f10, d_is_box := _, F_is_box := F10, b_is_box := b10, g_is_box := PySem.W.mg_of X G a10, f_box_at := f11, d_box_at := _, F_box_at := F11, b_box_at := b11, g_box_at := PySem.W.mg_of X G a11, f_in_box := f12, d_in_box := _, F_in_box := F12, b_in_box := b12, g_in_box := PySem.W.mg_of X G a12, f_both := f13, d_both := _, F_both := F13, b_both := b13, g_both := PySem.W.mg_of X G a13, f_law_hand := f14, d_law_hand := _, F_law_hand := F14, b_law_hand := b14, g_law_hand := PySem.W.mg_of X G a14, f_law_draw := f15, d_law_draw := _, F_law_draw := F15, b_law_draw := b15, g_law_draw := PySem.W.mg_of X G a15, f_law_some := f16, d_law_some := _, F_law_some := F16, b_law_some := b16, g_law_some := PySem.W.mg_of X G a16, f_law_sizes := f17, d_law_sizes := _, F_law_sizes := F17, b_law_sizes := b17, g_law_sizes := PySem.W.mg_of X G a17, f_law_contents := f18, d_law_contents := _, F_law_contents := F18, b_law_contents := b18, g_law_contents := PySem.W.mg_of X G a18, f_law_pattern := f19, d_law_pattern := _, F_law_pattern := F19, b_law_pattern := b19, g_law_pattern := PySem.W.mg_of X G a19, f_law_box := f20, d_law_box := _, F_law_box := F20, b_law_box := b20, g_law_box := PySem.W.mg_of X G a20, f_law_is_in := f21, d_law_is_in := _, F_law_is_in := F21, b_law_is_in := b21, g_law_is_in := PySem.W.mg_of X G a21, f_law_both := f22, d_law_both := _, F_law_both := F22, b_law_both := b22, g_law_both := PySem.W.mg_of X G a22, u_MOST_COLUMNS := _, k_MOST_COLUMNS := ⟨PySem.W.mg_of X G u1, ⟨_, rfl⟩⟩, u_LEAST_SIZE := _, k_LEAST_SIZE := ⟨PySem.W.mg_of X G u2, ⟨_, rfl⟩⟩, u_MOST_SIZE := _, k_MOST_SIZE := ⟨PySem.W.mg_of X G u3, ⟨_, rfl⟩⟩, u_MOST_CONTENTS := _, k_MOST_CONTENTS := ⟨PySem.W.mg_of X G u4, ⟨_, rfl⟩⟩, z_len := PySem.W.mg_none_of X G z1, z_isinstance := PySem.W.mg_none_of X G z2, z_range := PySem.W.mg_none_of X G z3, z_zip := PySem.W.mg_none_of X G z4, z_tuple := PySem.W.mg_none_of X G z5, z_list := PySem.W.mg_none_of X G z6, z_int := PySem.W.mg_none_of X G z7, z_bool := PySem.W.mg_none_of X G z8, z_abs := PySem.W.mg_none_of X G z9, z_sorted := PySem.W.mg_none_of X G z10, z_dict := PySem.W.mg_none_of X G z11 }
  exact ⟨PySem.W.fnOf "law" "law" (defArgs s_law) (defBody s_law) (defScope s_law) .none kV23 dc23 pm23 an23 cd23 ct23, fun s v => .of_eq rfl, fun base _ _ => ok_law T F23⟩
end Fm
open PySem PySem.W PyProof.Rows
set_option maxHeartbeats 0 in
theorem PySem.Challenge.cw_fairmasks_k01_whole_contents_and_boxes_holds : PySem.Challenge.rw_fairmasks_k01_whole_contents_and_boxes.Holds := by
  w_on; o_law; k_head; (case hw => w_witness2)
  k_fill
  refine L2.walk_of (l := PySem.Challenge.rw_fairmasks_k01_whole_contents_and_boxes) (n := 63) (k := 5) (x := "script") (CX := fun _ => L2.CX0) (sp := fun w => Fm.spLaw _) rfl (by decide) rfl ⟨rfl, by decide, by decide⟩ (fun w h Y => PySem.W.kIn_of Y) ?F (fun _ _ a ns hl _ hS => ⟨a, ns, rfl, hS, hl, fun _ => rfl⟩) (fun _ _ _ _ _ h => h)
  case F =>
    intro w mg fa h KX G hmg
    refine' Fm.all_mk KX G hmg ?a1 ?l1 ?c1 ?k1 ?a2 ?l2 ?c2 ?k2 ?a3 ?l3 ?c3 ?k3 ?a4 ?l4 ?c4 ?k4 ?a5 ?l5 ?c5 ?k5 ?a6 ?l6 ?c6 ?k6 ?a7 ?l7 ?c7 ?k7 ?a8 ?l8 ?c8 ?k8 ?a9 ?l9 ?c9 ?k9 ?a10 ?l10 ?c10 ?k10 ?a11 ?l11 ?c11 ?k11 ?a12 ?l12 ?c12 ?k12 ?a13 ?l13 ?c13 ?k13 ?a14 ?l14 ?c14 ?k14 ?a15 ?l15 ?c15 ?k15 ?a16 ?l16 ?c16 ?k16 ?a17 ?l17 ?c17 ?k17 ?a18 ?l18 ?c18 ?k18 ?a19 ?l19 ?c19 ?k19 ?a20 ?l20 ?c20 ?k20 ?a21 ?l21 ?c21 ?k21 ?a22 ?l22 ?c22 ?k22 ?a23 ?l23 ?c23 ?k23 ?u1 ?u2 ?u3 ?u4 ?z1 ?z2 ?z3 ?z4 ?z5 ?z6 ?z7 ?z8 ?z9 ?z10 ?z11
    (case a1 => k_is); (case l1 => k_is); (case c1 => k_is); (case k1 => k_is)
    (case a2 => k_is); (case l2 => k_is); (case c2 => k_is); (case k2 => k_is)
    (case a3 => k_is); (case l3 => k_is); (case c3 => k_is); (case k3 => k_is)
    (case a4 => k_is); (case l4 => k_is); (case c4 => k_is); (case k4 => k_is)
    (case a5 => k_is); (case l5 => k_is); (case c5 => k_is); (case k5 => k_is)
    (case a6 => k_is); (case l6 => k_is); (case c6 => k_is); (case k6 => k_is)
    (case a7 => k_is); (case l7 => k_is); (case c7 => k_is); (case k7 => k_is)
    (case a8 => k_is); (case l8 => k_is); (case c8 => k_is); (case k8 => k_is)
    (case a9 => k_is); (case l9 => k_is); (case c9 => k_is); (case k9 => k_is)
    (case a10 => k_is); (case l10 => k_is); (case c10 => k_is); (case k10 => k_is)
    (case a11 => k_is); (case l11 => k_is); (case c11 => k_is); (case k11 => k_is)
    (case a12 => k_is); (case l12 => k_is); (case c12 => k_is); (case k12 => k_is)
    (case a13 => k_is); (case l13 => k_is); (case c13 => k_is); (case k13 => k_is)
    (case a14 => k_is); (case l14 => k_is); (case c14 => k_is); (case k14 => k_is)
    (case a15 => k_is); (case l15 => k_is); (case c15 => k_is); (case k15 => k_is)
    (case a16 => k_is); (case l16 => k_is); (case c16 => k_is); (case k16 => k_is)
    (case a17 => k_is); (case l17 => k_is); (case c17 => k_is); (case k17 => k_is)
    (case a18 => k_is); (case l18 => k_is); (case c18 => k_is); (case k18 => k_is)
    (case a19 => k_is); (case l19 => k_is); (case c19 => k_is); (case k19 => k_is)
    (case a20 => k_is); (case l20 => k_is); (case c20 => k_is); (case k20 => k_is)
    (case a21 => k_is); (case l21 => k_is); (case c21 => k_is); (case k21 => k_is)
    (case a22 => k_is); (case l22 => k_is); (case c22 => k_is); (case k22 => k_is)
    (case a23 => k_is); (case l23 => k_is); (case c23 => k_is); (case k23 => k_is)
    (case u1 => k_is); (case u2 => k_is); (case u3 => k_is); (case u4 => k_is)
    (case z1 => k_is); (case z2 => k_is); (case z3 => k_is); (case z4 => k_is)
    (case z5 => k_is); (case z6 => k_is); (case z7 => k_is); (case z8 => k_is)
    (case z9 => k_is); (case z10 => k_is); (case z11 => k_is)
