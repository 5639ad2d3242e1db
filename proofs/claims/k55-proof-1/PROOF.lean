import PyProof.Rows.All
import HandS.AnyAll
import HandS.Conv
import HandS.Deep
import HandS.Dict
import HandS.EndTab
import HandS.Flow
import HandS.ForMost
import HandS.GenList
import HandS.IsInst
import HandS.Iter
import HandS.More
import HandS.Nested
import HandS.RaiseMore
import HandS.RevRange
import HandS.Style
import HandS.TupAny
import HandS.TupLe
import HandS.TupSets
import HandS.Wide
import KE.GoesEnum
import KE.KDictPairs
import KE.KStar
import KE.KeyNested
import PyProof.AutoSeq1
import PySem.Challenge.RW_everytick_k55_forms_of_machines
set_option Elab.async false
set_option linter.all false
set_option maxRecDepth 100000
set_option maxHeartbeats 4000000
/-! Z0: values as trees over a heap of numbered lists and dicts; what a piece of code does as a plain function of them -/
namespace Z
open PySem L2
inductive W where
  | non | bl (b : Bool) | int (i : Int) | str (x : Str) | tup (xs : List W) | frl (xs : List W) | loc (n : Nat) | ty (n : String)
inductive MO where
  | lst (xs : List W) | dic (kvs : List (Key × W)) | dicN (lk : Bool) (kvs : List (W × W)) | ins (C : Addr) (fs : List (Str × W))
/-- the tables of the defs that hold generator expressions -/
class Tabs where
  T : List Addr
/-- the written part, the program, the world, the tables -/
structure KW where
  K : PySem.W.Frag
  P : Program
  w : World
  T : List Addr
instance : Coe KW PySem.W.Frag := ⟨KW.K⟩
abbrev _root_.L2.Cx.kw [Tabs] (X : Cx) : KW := ⟨X.K, X.prog, X.w, Tabs.T⟩
abbrev AH := List MO
abbrev EN := List (Option W)
abbrev ZE := EN → AH → Option (W × AH)
structure Gr (H H' : Hp) (ι ι' : List Addr) : Prop where
  tup : ∀ a xs, H a = some (.tup xs) → H' a = some (.tup xs)
  frz : ∀ a o u, H a = some (.frz o u) → H' a = some (.frz o u)
  pre : ∃ m, ι' = ι ++ m
theorem Gr.refl {H : Hp} {ι : List Addr} : Gr H H ι ι := ⟨fun _ _ h => h, fun _ _ _ h => h, [], by simp⟩
theorem Gr.trans {H H1 H2 : Hp} {i i1 i2 : List Addr} (a : Gr H H1 i i1) (b : Gr H1 H2 i1 i2) : Gr H H2 i i2 := by
  obtain ⟨m, rfl⟩ := a.pre
  obtain ⟨m', rfl⟩ := b.pre
  exact ⟨fun c xs h => b.tup c xs (a.tup c xs h), fun c o u h => b.frz c o u (a.frz c o u h), m ++ m', by rw [List.append_assoc]⟩
theorem Gr.at {H H1 : Hp} {i i1 : List Addr} (g : Gr H H1 i i1) {n : Nat} {a : Addr} (h : i[n]? = some a) : i1[n]? = some a := by
  obtain ⟨m, rfl⟩ := g.pre
  have hl : n < i.length := (List.getElem?_eq_some_iff.mp h).1
  rw [List.getElem?_append_left hl]; exact h
/-- what a value needs to stay -/
structure Gr0 (H H' : Hp) (ι ι' : List Addr) : Prop where
  frt : ∀ a o xs, H a = some (.frz o (.tup xs)) → H' a = some (.frz o (.tup xs))
  frl : ∀ a o xs, H a = some (.frz o (.lst xs)) → H' a = some (.frz o (.lst xs))
  at' : ∀ (n : Nat) (a : Addr), ι[n]? = some a → ι'[n]? = some a
theorem Gr.z {H H1 : Hp} {i i1 : List Addr} (g : Gr H H1 i i1) : Gr0 H H1 i i1 := ⟨fun a o xs h => g.frz a o _ h, fun a o xs h => g.frz a o _ h, fun n a h => g.at h⟩
theorem Gr.sqt {K : PySem.W.Frag} {H H1 : Hp} {i i1 : List Addr} (g : Gr H H1 i i1) {a : Addr} {xs : List V} (h : SqT K H a xs) : SqT K H1 a xs := by
  rcases h with (h | ⟨o, h⟩) | h
  · exact .inl (.inl (g.tup _ _ h))
  · exact .inl (.inr ⟨o, g.frz _ _ _ h⟩)
  · exact .inr h
def FrL (K : PySem.W.Frag) (H : Hp) (a : Addr) (xs : List V) : Prop :=
  (∃ o, H a = some (.frz o (.lst xs))) ∨
    ∃ (o : Obj) (its : Array Value) (n : Nat), K.lookup a = some o ∧ o.cls = .type "list" ∧ o.dict = none ∧ o.data = .seq its n ∧ its.size ≤ sizeLine ∧ Vals xs its.toList
theorem FrL.sql {K : PySem.W.Frag} {H : Hp} {a : Addr} {xs : List V} (h : FrL K H a xs) : SqL K H a xs := by
  rcases h with ⟨o, h⟩ | h
  · exact .inl (.inr ⟨o, h⟩)
  · exact .inr h
theorem Gr0.frL {K : PySem.W.Frag} {H H1 : Hp} {i i1 : List Addr} (g : Gr0 H H1 i i1) {a : Addr} {xs : List V} (h : FrL K H a xs) : FrL K H1 a xs := by
  rcases h with ⟨o, h⟩ | h
  · exact .inl ⟨o, g.frl _ _ _ h⟩
  · exact .inr h
theorem Gr.frl {K : PySem.W.Frag} {H H1 : Hp} {i i1 : List Addr} (g : Gr H H1 i i1) {a : Addr} {xs : List V} (h : FrL K H a xs) : FrL K H1 a xs := g.z.frL h
/-- a tuple that is known as an object without a dict of its own -/
def SqN (K : PySem.W.Frag) (H : Hp) (a : Addr) (xs : List V) : Prop :=
  (∃ o : Obj, H a = some (.frz o (.tup xs)) ∧ o.dict = none) ∨
    ∃ (o : Obj) (its : Array Value) (n : Nat), K.lookup a = some o ∧ o.cls = .type "tuple" ∧ o.dict = none ∧ o.data = .seq its n ∧ its.size ≤ sizeLine ∧ Vals xs its.toList
theorem SqN.sqt {K : PySem.W.Frag} {H : Hp} {a : Addr} {xs : List V} (h : SqN K H a xs) : SqT K H a xs := by
  rcases h with ⟨o, h, _⟩ | ⟨o, its, n, h1, h2, _, h3, h4, h5⟩
  · exact .inl (.inr ⟨o, h⟩)
  · exact .inr ⟨o, its, n, h1, h2, h3, h4, h5⟩
theorem Gr0.sqn {K : PySem.W.Frag} {H H1 : Hp} {i i1 : List Addr} (g : Gr0 H H1 i i1) {a : Addr} {xs : List V} (h : SqN K H a xs) : SqN K H1 a xs := by
  rcases h with ⟨o, h, q⟩ | h
  · exact .inl ⟨o, g.frt _ _ _ h, q⟩
  · exact .inr h
mutual
inductive RW (K : KW) (H : Hp) (ι : List Addr) : V → W → Prop
  | non : RW K H ι .non .non
  | bl (b : Bool) : RW K H ι (.bl b) (.bl b)
  | int (i : Int) : RW K H ι (.int i) (.int i)
  | str (x : Str) : RW K H ι (.str x) (.str x)
  | tup {a : Addr} {xs : List V} {ws : List W} : SqN K H a xs → RWs K H ι xs ws → RW K H ι (.ref a) (.tup ws)
  | frl {a : Addr} {xs : List V} {ws : List W} : FrL K H a xs → RWs K H ι xs ws → RW K H ι (.ref a) (.frl ws)
  | loc {a : Addr} {n : Nat} : ι[n]? = some a → RW K H ι (.ref a) (.loc n)
  | ty (n : String) : RW K H ι (.ty n) (.ty n)
inductive RWs (K : KW) (H : Hp) (ι : List Addr) : List V → List W → Prop
  | nil : RWs K H ι [] []
  | cons {v : V} {vs : List V} {w : W} {ws : List W} : RW K H ι v w → RWs K H ι vs ws → RWs K H ι (v :: vs) (w :: ws)
end
section
variable {K : KW} {H H' : Hp} {ι ι' : List Addr}
mutual
theorem RW.mono (g : Gr0 H H' ι ι') : ∀ (w : W) (v : V), RW K H ι v w → RW K H' ι' v w
  | .non, _, h => by cases h; exact .non
  | .bl b, _, h => by cases h; exact .bl b
  | .int i, _, h => by cases h; exact .int i
  | .str x, _, h => by cases h; exact .str x
  | .tup ws, _, h => by
    cases h with
    | tup hs hw => exact .tup (g.sqn hs) (RWs.mono g ws _ hw)
  | .frl ws, _, h => by
    cases h with
    | frl hs hw => exact .frl (g.frL hs) (RWs.mono g ws _ hw)
  | .loc n, _, h => by
    cases h with
    | loc hs => exact .loc (g.at' _ _ hs)
  | .ty n, _, h => by cases h; exact .ty n
theorem RWs.mono (g : Gr0 H H' ι ι') : ∀ (ws : List W) (vs : List V), RWs K H ι vs ws → RWs K H' ι' vs ws
  | [], _, h => by cases h; exact .nil
  | w :: ws, _, h => by
    cases h with
    | cons h1 h2 => exact .cons (RW.mono g w _ h1) (RWs.mono g ws _ h2)
end
theorem RW.up0 (g : Gr0 H H' ι ι') {w : W} {v : V} (h : RW K H ι v w) : RW K H' ι' v w := RW.mono g w v h
theorem RWs.up0 (g : Gr0 H H' ι ι') {w : List W} {v : List V} (h : RWs K H ι v w) : RWs K H' ι' v w := RWs.mono g w v h
theorem RW.up (g : Gr H H' ι ι') {w : W} {v : V} (h : RW K H ι v w) : RW K H' ι' v w := RW.mono g.z w v h
theorem RWs.up (g : Gr H H' ι ι') {w : List W} {v : List V} (h : RWs K H ι v w) : RWs K H' ι' v w := RWs.mono g.z w v h
theorem RWs.length : ∀ {vs : List V} {ws : List W}, RWs K H ι vs ws → vs.length = ws.length
  | _, _, .nil => rfl
  | _, _, .cons _ h => by simp [RWs.length h]
theorem RWs.get : ∀ {vs : List V} {ws : List W} {i : Nat} {w : W}, RWs K H ι vs ws → ws[i]? = some w → ∃ v, vs[i]? = some v ∧ RW K H ι v w
  | _, _, _, _, .nil, e => by simp at e
  | _, _, 0, _, .cons r _, e => by simp at e; subst e; exact ⟨_, rfl, r⟩
  | _, _, i + 1, w, .cons _ t, e => by
    obtain ⟨u, h1, h2⟩ := RWs.get (i := i) (w := w) t (by simpa using e)
    exact ⟨u, by simpa using h1, h2⟩
theorem RWs.getV : ∀ {vs : List V} {ws : List W} {i : Nat} {v : V}, RWs K H ι vs ws → vs[i]? = some v → ∃ w, ws[i]? = some w ∧ RW K H ι v w
  | _, _, _, _, .nil, e => by simp at e
  | _, _, 0, _, .cons r _, e => by simp at e; subst e; exact ⟨_, rfl, r⟩
  | _, _, i + 1, w, .cons _ t, e => by
    obtain ⟨u, h1, h2⟩ := RWs.getV (i := i) (v := w) t (by simpa using e)
    exact ⟨u, by simpa using h1, h2⟩
theorem RWs.append : ∀ {vs us : List V} {ws xs : List W}, RWs K H ι vs ws → RWs K H ι us xs → RWs K H ι (vs ++ us) (ws ++ xs)
  | _, _, _, _, .nil, s => s
  | _, _, _, _, .cons r t, s => .cons r (RWs.append t s)
theorem RWs.take : ∀ {vs : List V} {ws : List W} (n : Nat), RWs K H ι vs ws → RWs K H ι (vs.take n) (ws.take n)
  | _, _, 0, _ => .nil
  | _, _, _ + 1, .nil => .nil
  | _, _, n + 1, .cons r t => .cons r (RWs.take n t)
theorem RWs.drop : ∀ {vs : List V} {ws : List W} (n : Nat), RWs K H ι vs ws → RWs K H ι (vs.drop n) (ws.drop n)
  | _, _, 0, h => h
  | _, _, _ + 1, .nil => .nil
  | _, _, n + 1, .cons _ t => RWs.drop n t
theorem RWs.set : ∀ {vs : List V} {ws : List W} (n : Nat) {v : V} {w : W}, RWs K H ι vs ws → RW K H ι v w → RWs K H ι (vs.set n v) (ws.set n w)
  | _, _, _, _, _, .nil, _ => .nil
  | _, _, 0, _, _, .cons _ t, r => .cons r t
  | _, _, n + 1, _, _, .cons q t, r => .cons q (RWs.set n t r)
theorem RWs.eraseIdx : ∀ {vs : List V} {ws : List W} (n : Nat), RWs K H ι vs ws → RWs K H ι (vs.eraseIdx n) (ws.eraseIdx n)
  | _, _, _, .nil => .nil
  | _, _, 0, .cons _ t => t
  | _, _, n + 1, .cons q t => .cons q (RWs.eraseIdx n t)
theorem RWs.dropLast : ∀ {vs : List V} {ws : List W}, RWs K H ι vs ws → RWs K H ι vs.dropLast ws.dropLast
  | _, _, .nil => .nil
  | _, _, .cons q .nil => .nil
  | _, _, .cons q (.cons r t) => .cons q (RWs.dropLast (.cons r t))
end
/-- what may change -/
def Hm : HO → Prop
  | .lst _ => True
  | .dK _ => True
  | .ext _ => True
  | .ins _ _ _ => True
  | _ => False
/-! dicts whose keys are tuples of any depth -/
mutual
def keyN : W → Option NestedKey
  | .non => some .none
  | .bl b => some (.num (if b = true then 1 else 0))
  | .int i => some (.num i)
  | .str x => some (.text x)
  | .tup ws => (keyNs ws).map NestedKey.tup
  | _ => none
def keyNs : List W → Option (List NestedKey)
  | [] => some []
  | w :: ws => (keyN w).bind fun k => (keyNs ws).map fun ks => k :: ks
end
abbrev EntN := NestedKey × Addr × Value
def DN (P : Program) (w : World) (a : Addr) (xs : List EntN) : HO := .ext fun h => ∃ o es ep, h.get? a = some o ∧ o.ExactDict ∧ o.data = .dict es ep ∧ es.toList = xs.map (entryOfKey (nestedKind P w))
inductive RN (K : KW) (H : Hp) (ι : List Addr) : List EntN → List (W × W) → Prop
  | nil : RN K H ι [] []
  | cons {k : NestedKey} {b : Addr} {u : Value} {v : V} {kw vw : W} {xs : List EntN} {kvs : List (W × W)} : keyN kw = some k → k.depth ≤ 8 → RW K H ι (.ref b) kw → RelV v u → RW K H ι v vw → RN K H ι xs kvs → RN K H ι ((k, b, u) :: xs) ((kw, vw) :: kvs)
theorem RN.up0 {K : KW} {H H' : Hp} {ι ι' : List Addr} (g : Gr0 H H' ι ι') : ∀ {xs : List EntN} {kvs : List (W × W)}, RN K H ι xs kvs → RN K H' ι' xs kvs
  | _, _, .nil => .nil
  | _, _, .cons a b c d e f => .cons a b (c.up0 g) d (e.up0 g) (RN.up0 g f)
theorem RN.up {K : KW} {H H' : Hp} {ι ι' : List Addr} (g : Gr H H' ι ι') {xs : List EntN} {kvs : List (W × W)} (h : RN K H ι xs kvs) : RN K H' ι' xs kvs := h.up0 g.z
def RO (K : KW) (H : Hp) (ι : List Addr) (a : Addr) : MO → Prop
  | .lst ws => ∃ xs, H a = some (.lst xs) ∧ RWs K H ι xs ws
  | .dic kws => ∃ kvs, H a = some (.dK kvs) ∧ kvs.map (·.1) = kws.map (·.1) ∧ RWs K H ι (kvs.map (·.2)) (kws.map (·.2))
  | .dicN lk kws => ∃ xs, ((lk = false ∧ H a = some (DN K.P K.w a xs)) ∨ (lk = true ∧ ∃ o, H a = some (.frz o (DN K.P K.w a xs)))) ∧ (a == sysModules) = false ∧ (xs.map (·.1)).Nodup ∧ RN K H ι xs kws
  | .ins C fs => ∃ dx vs, H a = some (.ins C dx vs) ∧ vs.map (·.1) = fs.map (·.1) ∧ RWs K H ι (vs.map (·.2)) (fs.map (·.2))
structure RH (K : KW) (H : Hp) (ι : List Addr) (A : AH) : Prop where
  len : ι.length = A.length
  nod : ι.Nodup
  tab : ∀ P ∈ K.T, GxR.TabG H P
  ok : ∀ (n : Nat) (mo : MO) (a : Addr), A[n]? = some mo → ι[n]? = some a → RO K H ι a mo
section
variable {K : KW} {H H' : Hp} {ι ι' : List Addr} {A : AH} {mo : MO} {a p : Addr} {n : Nat} {o : HO}
theorem RO.held : RO K H ι a mo → ∃ u, H a = some u := by
  cases mo with
  | lst ws => rintro ⟨xs, h, _⟩; exact ⟨_, h⟩
  | dic ws => rintro ⟨xs, h, _⟩; exact ⟨_, h⟩
  | dicN lk ws =>
    rintro ⟨xs, ⟨_, h⟩ | ⟨_, o, h⟩, _⟩
    · exact ⟨_, h⟩
    · exact ⟨_, h⟩
  | ins C fs => rintro ⟨dx, vs, h, _⟩; exact ⟨_, h⟩
theorem RO.up0 (g : Gr0 H H' ι ι') (e : H' a = H a) : RO K H ι a mo → RO K H' ι' a mo := by
  cases mo with
  | lst ws => rintro ⟨xs, h, r⟩; exact ⟨xs, e.trans h, r.up0 g⟩
  | dic ws => rintro ⟨xs, h, k, r⟩; exact ⟨xs, e.trans h, k, r.up0 g⟩
  | dicN lk ws =>
    rintro ⟨xs, h, s, n, r⟩
    refine ⟨xs, ?_, s, n, r.up0 g⟩
    rw [e]; exact h
  | ins C fs => rintro ⟨dx, vs, h, k, r⟩; exact ⟨dx, vs, e.trans h, k, r.up0 g⟩
theorem RO.up (g : Gr H H' ι ι') (e : H' a = H a) (h : RO K H ι a mo) : RO K H' ι' a mo := h.up0 g.z e
theorem nodup_at {l : List Addr} (h : l.Nodup) {i j : Nat} (hi : i < l.length) (hj : j < l.length) : l[i] = l[j] ↔ i = j := by
  constructor
  · intro e
    rcases Nat.lt_trichotomy i j with q | q | q
    · exact absurd e (List.pairwise_iff_getElem.mp h i j hi hj q)
    · exact q
    · exact absurd e.symm (List.pairwise_iff_getElem.mp h j i hj hi q)
  · rintro rfl; rfl
theorem RH.addr (r : RH K H ι A) (h : A[n]? = some mo) : ∃ a, ι[n]? = some a := by
  have hl : n < A.length := (List.getElem?_eq_some_iff.mp h).1
  exact ⟨ι[n]'(by rw [r.len]; exact hl), List.getElem?_eq_getElem _⟩
theorem RH.moAt (r : RH K H ι A) (h : ι[n]? = some a) : ∃ mo, A[n]? = some mo := by
  have hl : n < ι.length := (List.getElem?_eq_some_iff.mp h).1
  exact ⟨A[n]'(by rw [← r.len]; exact hl), List.getElem?_eq_getElem _⟩
theorem RH.held (r : RH K H ι A) (h : a ∈ ι) : ∃ u, H a = some u := by
  obtain ⟨n, hn, e⟩ := List.getElem_of_mem h
  have e' : ι[n]? = some a := by rw [List.getElem?_eq_getElem hn, e]
  obtain ⟨mo, hm⟩ := r.moAt e'
  exact (r.ok n mo a hm e').held
theorem RH.fresh (r : RH K H ι A) (h : H p = none) : p ∉ ι := fun hm => by
  obtain ⟨_, e⟩ := r.held hm
  rw [h] at e; cases e
theorem Gr.new (h : H p = none) (o : HO) : Gr H (upd H p o) ι ι := ⟨fun b xs e => by rw [upd_ne (ne_of_none e h)]; exact e, fun b _ u e => by rw [upd_ne (ne_of_none e h)]; exact e, [], by simp⟩
theorem Gr.put (h : ∃ u, H a = some u ∧ Hm u) (o : HO) : Gr H (upd H a o) ι ι := by
  obtain ⟨u, hu, hm⟩ := h
  have ne : ∀ b v, H b = some v → ¬ Hm v → b ≠ a := fun b v e h1 z => by
    subst z
    rw [hu] at e; cases e
    exact h1 hm
  refine ⟨fun b xs e => ?_, fun b oo u e => ?_, [], by simp⟩
  · rw [upd_ne (ne b _ e (fun z => z))]; exact e
  · rw [upd_ne (ne b _ e (fun z => z))]; exact e
/-- a new tuple, or any other new thing beside -/
theorem tab_new (t : ∀ P ∈ K.T, GxR.TabG H P) (h : H p = none) (o : HO) : ∀ P ∈ K.T, GxR.TabG (upd H p o) P := fun P hP => by
  obtain ⟨ps, e, q⟩ := t P hP
  exact ⟨ps, by rw [upd_ne (ne_of_none e h)]; exact e, q⟩
theorem RO.notab (h : RO K H ι a mo) (ps : Array Value) : H a ≠ some (.tbl ps) := by
  cases mo with
  | lst ws => obtain ⟨xs, h, _⟩ := h; rw [h]; exact fun z => by cases z
  | dic ws => obtain ⟨xs, h, _⟩ := h; rw [h]; exact fun z => by cases z
  | dicN lk ws =>
    obtain ⟨xs, ⟨_, h⟩ | ⟨_, o, h⟩, _⟩ := h
    · rw [h]; exact fun z => by cases z
    · rw [h]; exact fun z => by cases z
  | ins C fs => obtain ⟨dx, vs, h, _⟩ := h; rw [h]; exact fun z => by cases z
theorem tab_put (t : ∀ P ∈ K.T, GxR.TabG H P) (h : ∀ ps, H a ≠ some (.tbl ps)) (o : HO) : ∀ P ∈ K.T, GxR.TabG (upd H a o) P := fun P hP => by
  obtain ⟨ps, e, q⟩ := t P hP
  exact ⟨ps, by rw [upd_ne (show P ≠ a from fun z => h ps (by rw [← z]; exact e))]; exact e, q⟩
theorem RH.beside (r : RH K H ι A) (h : H p = none) (o : HO) : RH K (upd H p o) ι A :=
  ⟨r.len, r.nod, tab_new r.tab h o, fun n mo a h1 h2 => (r.ok n mo a h1 h2).up (Gr.new h o) (upd_ne fun z => r.fresh h (z ▸ List.mem_of_getElem? h2))⟩
theorem Gr.grow (h : H p = none) (o : HO) : Gr H (upd H p o) ι (ι ++ [p]) := ⟨(Gr.new (ι := ι) h o).tup, (Gr.new (ι := ι) h o).frz, [p], rfl⟩
theorem RH.alloc (r : RH K H ι A) (h : H p = none) (q : RO K (upd H p o) (ι ++ [p]) p mo) : RH K (upd H p o) (ι ++ [p]) (A ++ [mo]) := by
  refine ⟨by simp [r.len], List.nodup_append.mpr ⟨r.nod, by simp, fun b hb c hc z => ?_⟩, tab_new r.tab h o, fun n m a h1 h2 => ?_⟩
  · rw [List.mem_singleton] at hc; subst hc; subst z; exact r.fresh h hb
  · by_cases hn : n < A.length
    · rw [List.getElem?_append_left hn] at h1
      rw [List.getElem?_append_left (by rw [r.len]; exact hn)] at h2
      exact (r.ok n m a h1 h2).up (Gr.grow h o) (upd_ne fun z => r.fresh h (z ▸ List.mem_of_getElem? h2))
    · rw [List.getElem?_append_right (Nat.le_of_not_lt hn)] at h1
      rw [List.getElem?_append_right (by rw [r.len]; exact Nat.le_of_not_lt hn)] at h2
      rw [r.len] at h2
      have e : n - A.length = 0 := by
        have := (List.getElem?_eq_some_iff.mp h1).1
        simp at this; exact this
      rw [e] at h1 h2
      simp at h1 h2
      subst h1; subst h2; exact q
theorem RH.put0 (r : RH K H ι A) (h : ι[n]? = some a) (g : Gr0 H (upd H a o) ι ι) (q : RO K (upd H a o) ι a mo) : RH K (upd H a o) ι (A.set n mo) := by
  refine ⟨by simp [r.len], r.nod, (by obtain ⟨m0, hm0⟩ := r.moAt h; exact tab_put r.tab (fun ps => (r.ok n m0 a hm0 h).notab ps) o), fun k m b h1 h2 => ?_⟩
  by_cases e : k = n
  · subst e
    have e1 : a = b := Option.some.inj (h.symm.trans h2)
    subst e1
    have hl : k < A.length := by rw [← r.len]; exact (List.getElem?_eq_some_iff.mp h).1
    rw [List.getElem?_set_self hl] at h1
    cases h1; exact q
  · rw [List.getElem?_set_ne (Ne.symm e)] at h1
    have hb : b ≠ a := fun z => by
      subst z
      have l1 := (List.getElem?_eq_some_iff.mp h2)
      have l2 := (List.getElem?_eq_some_iff.mp h)
      obtain ⟨l1, e1⟩ := l1
      obtain ⟨l2, e2⟩ := l2
      exact e ((nodup_at r.nod l1 l2).mp (e1.trans e2.symm))
    exact (r.ok k m b h1 h2).up0 g (upd_ne hb)
theorem RH.put (r : RH K H ι A) (h : ι[n]? = some a) (hh : ∃ u, H a = some u ∧ Hm u) (q : RO K (upd H a o) ι a mo) : RH K (upd H a o) ι (A.set n mo) := r.put0 h (Gr.put hh o).z q
end
/-! ### names -/
def RSt (K : KW) (H : Hp) (ι : List Addr) (σ : St) (E : EN) : Prop := E.length = σ.length ∧ ∀ (i : Nat) (w : W), E[i]? = some (some w) → ∃ v, σ[i]? = some (some v) ∧ RW K H ι v w
section
variable {K : KW} {H H' : Hp} {ι ι' : List Addr} {σ : St} {E : EN} {i : Nat} {v : V} {w : W}
theorem RSt.up0 (g : Gr0 H H' ι ι') (r : RSt K H ι σ E) : RSt K H' ι' σ E := ⟨r.1, fun i w h => let ⟨v, e, q⟩ := r.2 i w h; ⟨v, e, q.up0 g⟩⟩
theorem RSt.up (g : Gr H H' ι ι') (r : RSt K H ι σ E) : RSt K H' ι' σ E := r.up0 g.z
theorem RSt.set (r : RSt K H ι σ E) (q : RW K H ι v w) : RSt K H ι (σ.set i (some v)) (E.set i (some w)) := by
  refine ⟨by simp [r.1], fun k u h => ?_⟩
  by_cases e : i = k
  · subst e
    have hl : i < E.length := by
      have := (List.getElem?_eq_some_iff.mp h).1
      simpa using this
    rw [List.getElem?_set_self hl] at h
    have hu : w = u := Option.some.inj (Option.some.inj h)
    subst hu
    exact ⟨v, by rw [List.getElem?_set_self (by rw [← r.1]; exact hl)], q⟩
  · rw [List.getElem?_set_ne e] at h
    rw [List.getElem?_set_ne e]
    exact r.2 k u h
theorem RSt.wipe1 (r : RSt K H ι σ E) : RSt K H ι (σ.set i none) (E.set i none) := by
  refine ⟨by simp [r.1], fun k u h => ?_⟩
  by_cases e : i = k
  · subst e
    have hl : i < E.length := by
      have := (List.getElem?_eq_some_iff.mp h).1
      simpa using this
    rw [List.getElem?_set_self hl] at h
    cases Option.some.inj h
  · rw [List.getElem?_set_ne e] at h
    rw [List.getElem?_set_ne e]
    exact r.2 k u h
end
/-! ### an expression does f -/
def tZ (K : KW) (f : ZE) : TE := fun σ H Q => ∃ ι E A w A', RSt K H ι σ E ∧ RH K H ι A ∧ f E A = some (w, A') ∧ ∀ v H' ι', Gr H H' ι ι' → RW K H' ι' v w → RH K H' ι' A' → Q v H'
abbrev PZ [Tabs] (X : Cx) (e : Expr) (f : ZE) : Prop := PE X e (tZ X.kw f)
section
variable {X : Cx} {e : Expr} {t t' : TE}
theorem imp (h : PE X e t) (k : ∀ σ H Q, t' σ H Q → t σ H Q) : PE X e t' := ⟨fun pins s σ H Q I q => h.run pins s σ H Q I (k σ H Q q)⟩
end
theorem tZ_go {K : KW} {f : ZE} {σ : St} {H : Hp} {Q : VK} {ι : List Addr} {E : EN} {A A' : AH} {w : W} (r : RSt K H ι σ E) (h : RH K H ι A) (e : f E A = some (w, A')) (q : ∀ v H' ι', Gr H H' ι ι' → RW K H' ι' v w → RH K H' ι' A' → Q v H') : tZ K f σ H Q := ⟨ι, E, A, w, A', r, h, e, q⟩
/-! ### names and constants -/
def zC (w : W) : ZE := fun _ A => some (w, A)
def zV (i : Nat) : ZE := fun E A => match E[i]? with
  | some (some w) => some (w, A)
  | _ => none
section
variable {X : Cx} {pos : Pos}
theorem z_c [Tabs] {e : Expr} {v : V} {w : W} (h : PE X e (tC v)) (r : ∀ H ι, RW X.kw H ι v w) : PZ X e (zC w) := imp h fun σ H Q ⟨ι, E, A, u, A', r1, r2, e1, q⟩ => by
  cases e1; exact q v H ι .refl (r H ι) r2
theorem z_int [Tabs] {i j} : PZ X (.Constant (.int i) j pos) (zC (.int i)) := z_c pe_int fun _ _ => .int i
theorem z_bl [Tabs] {i j} : PZ X (.Constant (.bool i) j pos) (zC (.bl i)) := z_c pe_bl fun _ _ => .bl i
theorem z_non [Tabs] {j} : PZ X (.Constant .none j pos) (zC .non) := z_c pe_non fun _ _ => .non
theorem z_str [Tabs] {i j} : PZ X (.Constant (.str i) j pos) (zC (.str i)) := z_c pe_str fun _ _ => .str i
theorem z_var [Tabs] {e : Expr} {i : Nat} (h : PE X e (tVar i)) : PZ X e (zV i) := imp h fun σ H Q ⟨ι, E, A, u, A', r1, r2, e1, q⟩ => by
  unfold zV at e1
  split at e1
  · rename_i w hw
    cases e1
    obtain ⟨v, e2, rv⟩ := r1.2 i _ hw
    exact ⟨v, e2, q v H ι .refl rv r2⟩
  · cases e1
theorem zv [Tabs] (i : Nat) {x : Str} (hN : X.N[i]? = some x := by rfl) (hv : Vis X.env.scope x := by first | exact Or.inl rfl | exact Or.inr (Or.inl rfl) | exact Or.inr (Or.inr rfl)) (hd : (x == ("__debug__" : Str)) = false := by decide)
    (hcd : (x == ("__classdict__" : Str)) = false := by decide) : PZ X (.Name x pos) (zV i) := z_var (pe_var hN hv hd hcd)
end
/-! ### two values in a row -/
abbrev S2 := W → W → AH → Option (W × AH)
def z2 (s : S2) (f g : ZE) : ZE := fun E A => (f E A).bind fun p => (g E p.2).bind fun q => s p.1 q.1 q.2
/-- by values: the rule r does s -/
def R2Ok (K : KW) (r : R2) (s : S2) : Prop := ∀ H ι A x y u v w A' (Q : VK), RW K H ι x u → RW K H ι y v → RH K H ι A → s u v A = some (w, A') → (∀ z H' ι', Gr H H' ι ι' → RW K H' ι' z w → RH K H' ι' A' → Q z H') → r x y H Q
theorem R2Ok.or {K : KW} {r r' : R2} {s s' : S2} (h : R2Ok K r s) (h' : R2Ok K r' s') : R2Ok K (fun x y H Q => r x y H Q ∨ r' x y H Q) (fun u v A => (s u v A).or (s' u v A)) := by
  intro H ι A x y u v w A' Q h1 h2 h3 h4 q
  cases e : s u v A with
  | none => 
    simp only [e, Option.none_or] at h4
    exact .inr (h' H ι A x y u v w A' Q h1 h2 h3 h4 q)
  | some p => 
    simp only [e, Option.some_or] at h4
    exact .inl (h H ι A x y u v w A' Q h1 h2 h3 (e.trans h4) q)
section
variable {X : Cx} {pos : Pos} {a b : Expr} {f g : ZE}
theorem two [Tabs] {e : Expr} {r : R2} {s : S2} (h : PE X e (tOp r (tZ X.kw f) (tZ X.kw g))) (ok : R2Ok X.kw r s) : PZ X e (z2 s f g) := imp h fun σ H Q ⟨ι, E, A, w, A', r1, r2, e1, q⟩ => by
  unfold z2 at e1
  cases ef : f E A with
  | none => rw [ef] at e1; cases e1
  | some p =>
    rw [ef] at e1
    cases eg : g E p.2 with
    | none => simp only [Option.bind_some, eg, Option.bind_none] at e1; cases e1
    | some z =>
      simp only [Option.bind_some, eg] at e1
      refine tZ_go r1 r2 (ef.trans rfl : f E A = some (p.1, p.2)) fun x H1 ι1 g1 rx rh1 => ?_
      refine tZ_go (r1.up g1) rh1 (eg.trans rfl : g E p.2 = some (z.1, z.2)) fun y H2 ι2 g2 ry rh2 => ?_
      exact ok H2 ι2 z.2 x y p.1 z.1 w A' Q (rx.up g2) ry rh2 e1 fun v H' ι' g3 => q v H' ι' (g1.trans (g2.trans g3))
theorem z_op [Tabs] {op : Operator} {r : R2} {s : S2} (ho : OpR X (binaryOp op) r) (ok : R2Ok X.kw r s) (ha : PZ X a f) (hb : PZ X b g) : PZ X (.BinOp a op b pos) (z2 s f g) := two (pe_op ho ha hb) ok
theorem z_cmp [Tabs] {op : CmpOp} {r : R2} {s : S2} (ho : OpR X (compareOp op) r) (ok : R2Ok X.kw r s) (ha : PZ X a f) (hb : PZ X b g) (hm : behindInMarks op b = false) : PZ X (.Compare a [op] [b] pos) (z2 s f g) := two (pe_cmpR ho ha hb hm) ok
theorem z_ix [Tabs] {r : R2} {s : S2} (ho : IxR X r) (ok : R2Ok X.kw r s) (ha : PZ X a f) (hb : PZ X b g) (hs : PlainIx b) : PZ X (.Subscript a b pos) (z2 s f g) := two (pe_ix ho ha hb hs) ok
end
end Z
set_option Elab.async false
set_option linter.all false
set_option maxRecDepth 100000
set_option maxHeartbeats 4000000
namespace Z
open PySem L2
/-! ### data without places -/
mutual
def toP : W → Option PyData
  | .non => some .none
  | .bl b => some (.bool b)
  | .int i => some (.int i)
  | .str x => some (.str x)
  | .tup ws => (toPs ws).map PyData.tuple
  | .frl ws => (toPs ws).map PyData.list
  | .loc _ => none
  | .ty _ => none
def toPs : List W → Option (List PyData)
  | [] => some []
  | w :: ws => (toP w).bind fun d => (toPs ws).map fun ds => d :: ds
end
def toPA (A : AH) : W → Option PyData
  | .loc n => match A[n]? with
    | some (.lst ws) => (toPs ws).map PyData.list
    | _ => none
  | w => toP w
section
variable {K : KW} {H : Hp} {ι : List Addr} {A : AH}
mutual
theorem RW.dp : ∀ (w : W) (v : V) (d : PyData), RW K H ι v w → toP w = some d → Dp K H v d
  | .non, _, _, h, e => by cases h; cases e; exact .non
  | .bl b, _, _, h, e => by cases h; cases e; exact .bl b
  | .int b, _, _, h, e => by cases h; cases e; exact .int b
  | .str b, _, _, h, e => by cases h; cases e; exact .str b
  | .tup ws, _, d, h, e => by
    cases h with
    | tup hs hw =>
      unfold toP at e
      cases q : toPs ws with
      | none => rw [q] at e; cases e
      | some ds => rw [q] at e; cases e; exact .tup hs.sqt (RWs.dp ws _ ds hw q)
  | .frl ws, _, d, h, e => by
    cases h with
    | frl hs hw =>
      unfold toP at e
      cases q : toPs ws with
      | none => rw [q] at e; cases e
      | some ds => rw [q] at e; cases e; exact .lst hs.sql (RWs.dp ws _ ds hw q)
  | .loc n, _, _, _, e => by cases e
  | .ty n, _, _, _, e => by cases e
theorem RWs.dp : ∀ (ws : List W) (vs : List V) (ds : List PyData), RWs K H ι vs ws → toPs ws = some ds → DpAll K H vs ds
  | [], _, _, h, e => by cases h; cases e; exact .nil
  | w :: ws, _, ds, h, e => by
    cases h with
    | cons h1 h2 =>
      unfold toPs at e
      cases q : toP w with
      | none => rw [q] at e; cases e
      | some d =>
        cases q2 : toPs ws with
        | none => rw [q, q2] at e; cases e
        | some dd => rw [q, q2] at e; cases e; exact .cons (RW.dp w _ d h1 q) (RWs.dp ws _ dd h2 q2)
end
theorem RH.lst (r : RH K H ι A) {n : Nat} {ws : List W} {a : Addr} (h : A[n]? = some (.lst ws)) (hi : ι[n]? = some a) : ∃ xs, H a = some (.lst xs) ∧ RWs K H ι xs ws := r.ok n _ a h hi
theorem toPA_dp (r : RH K H ι A) {w : W} {v : V} {d : PyData} (h : RW K H ι v w) (e : toPA A w = some d) : Dp K H v d := by
  cases h with
  | loc hi =>
    rename_i a n
    unfold toPA at e
    simp only at e
    split at e
    · rename_i ws hws
      obtain ⟨xs, hx, hr⟩ := r.lst hws hi
      cases q : toPs ws with
      | none => rw [q] at e; cases e
      | some ds => rw [q] at e; cases e; exact .lst (SqL.of hx) (RWs.dp ws _ ds hr q)
    · cases e
  | non => exact RW.dp (ι := ι) .non _ d .non e
  | bl b => exact RW.dp (ι := ι) (.bl b) _ d (.bl b) e
  | int b => exact RW.dp (ι := ι) (.int b) _ d (.int b) e
  | str b => exact RW.dp (ι := ι) (.str b) _ d (.str b) e
  | tup a b => exact RW.dp (.tup _) _ d (.tup a b) e
  | frl a b => exact RW.dp (.frl _) _ d (.frl a b) e
  | ty n => cases e
end
/-! ### == and !=, in, is -/
def eqP (A : AH) (u v : W) : Option Bool := (toPA A u).bind fun d => (toPA A v).bind fun e => if SeqAt.shaped d && SeqAt.shaped e then some (PyData.eqv d e) else none
def sEq : S2 := fun u v A => (eqP A u v).map fun b => (.bl b, A)
def sNe : S2 := fun u v A => (eqP A u v).map fun b => (.bl (!b), A)
theorem eqP_some {A : AH} {u v : W} {b : Bool} (h : eqP A u v = some b) : ∃ d e, toPA A u = some d ∧ toPA A v = some e ∧ SeqAt.shaped d = true ∧ SeqAt.shaped e = true ∧ b = PyData.eqv d e := by
  unfold eqP at h
  cases q : toPA A u with
  | none => rw [q] at h; cases h
  | some d =>
    cases q2 : toPA A v with
    | none => rw [q, q2] at h; cases h
    | some e =>
      rw [q, q2] at h
      simp only [Option.bind_some] at h
      split at h
      · rename_i hh
        rw [Bool.and_eq_true] at hh
        cases h
        exact ⟨d, e, rfl, rfl, hh.1, hh.2, rfl⟩
      · cases h
section
variable {K : KW}
theorem ok_eq : R2Ok K (rEqD K) sEq := by
  intro H ι A x y u v w A' Q h1 h2 h3 h4 q
  unfold sEq at h4
  cases e : eqP A u v with
  | none => rw [e] at h4; cases h4
  | some b =>
    rw [e] at h4; cases h4
    obtain ⟨d, e', e1, e2, s1, s2, rfl⟩ := eqP_some e
    exact ⟨d, e', toPA_dp h3 h1 e1, toPA_dp h3 h2 e2, s1, s2, q _ H ι .refl (.bl _) h3⟩
theorem ok_ne : R2Ok K (rNeD K) sNe := by
  intro H ι A x y u v w A' Q h1 h2 h3 h4 q
  unfold sNe at h4
  cases e : eqP A u v with
  | none => rw [e] at h4; cases h4
  | some b =>
    rw [e] at h4; cases h4
    obtain ⟨d, e', e1, e2, s1, s2, rfl⟩ := eqP_some e
    exact ⟨d, e', toPA_dp h3 h1 e1, toPA_dp h3 h2 e2, s1, s2, q _ H ι .refl (.bl _) h3⟩
end
def inP (A : AH) (u v : W) : Option Bool := match toPA A u, toPA A v with
  | some d, some (.list ds) => if SeqAt.shaped d && SeqAt.shaped (.list ds) then some (ds.any fun z => PyData.eqv z d) else none
  | _, _ => none
def sIn : S2 := fun u v A => (inP A u v).map fun b => (.bl b, A)
def sNotIn : S2 := fun u v A => (inP A u v).map fun b => (.bl (!b), A)
theorem inP_some {A : AH} {u v : W} {b : Bool} (h : inP A u v = some b) : ∃ d ds, toPA A u = some d ∧ toPA A v = some (.list ds) ∧ SeqAt.shaped d = true ∧ SeqAt.shaped (.list ds) = true ∧ b = ds.any fun z => PyData.eqv z d := by
  unfold inP at h
  split at h
  · rename_i d ds e1 e2
    split at h
    · rename_i hh
      rw [Bool.and_eq_true] at hh
      cases h
      exact ⟨d, ds, e1, e2, hh.1, hh.2, rfl⟩
    · cases h
  · cases h
section
variable {K : KW}
theorem ok_in : R2Ok K (rInD K) sIn := by
  intro H ι A x y u v w A' Q h1 h2 h3 h4 q
  unfold sIn at h4
  cases e : inP A u v with
  | none => rw [e] at h4; cases h4
  | some b =>
    rw [e] at h4; cases h4
    obtain ⟨d, e', e1, e2, s1, s2, rfl⟩ := inP_some e
    exact ⟨d, e', toPA_dp h3 h1 e1, toPA_dp h3 h2 e2, s1, s2, q _ H ι .refl (.bl _) h3⟩
theorem ok_notIn : R2Ok K (rNotInD K) sNotIn := by
  intro H ι A x y u v w A' Q h1 h2 h3 h4 q
  unfold sNotIn at h4
  cases e : inP A u v with
  | none => rw [e] at h4; cases h4
  | some b =>
    rw [e] at h4; cases h4
    obtain ⟨d, e', e1, e2, s1, s2, rfl⟩ := inP_some e
    exact ⟨d, e', toPA_dp h3 h1 e1, toPA_dp h3 h2 e2, s1, s2, q _ H ι .refl (.bl _) h3⟩
end
/-- a flat x in a tuple of flat items -/
def flatW : W → Option V
  | .non => some .non
  | .bl b => some (.bl b)
  | .int i => some (.int i)
  | .str x => some (.str x)
  | _ => none
def flatWs : List W → Option (List V)
  | [] => some []
  | w :: ws => (flatW w).bind fun v => (flatWs ws).map fun vs => v :: vs
theorem flatW_rw {K : KW} {H : Hp} {ι : List Addr} {v v' : V} {w : W} (h : RW K H ι v w) (e : flatW w = some v') : v = v' ∧ flatV v = true := by
  cases h <;> cases e <;> exact ⟨rfl, rfl⟩
theorem flatWs_rw {K : KW} {H : Hp} {ι : List Addr} : ∀ {ws : List W} {vs vs' : List V}, RWs K H ι vs ws → flatWs ws = some vs' → vs = vs' ∧ vs.all flatV = true
  | [], _, _, h, e => by cases h; cases e; exact ⟨rfl, rfl⟩
  | w :: ws, _, vs', h, e => by
    cases h with
    | cons h1 h2 =>
      unfold flatWs at e
      cases q : flatW w with
      | none => rw [q] at e; cases e
      | some v =>
        cases q2 : flatWs ws with
        | none => rw [q, q2] at e; cases e
        | some vv =>
          rw [q, q2] at e; cases e
          obtain ⟨e1, e2⟩ := flatW_rw h1 q
          obtain ⟨e3, e4⟩ := flatWs_rw h2 q2
          subst e1; subst e3
          exact ⟨rfl, by simp [e2, e4]⟩
def inF (u v : W) : Option Bool := match v with
  | .tup ws => (flatW u).bind fun x => (flatWs ws).map fun xs => inV x xs
  | _ => none
def sInF : S2 := fun u v A => (inF u v).map fun b => (.bl b, A)
def sNotInF : S2 := fun u v A => (inF u v).map fun b => (.bl (!b), A)
theorem inF_some {K : KW} {H : Hp} {ι : List Addr} {u v : W} {x y : V} {b : Bool} (h : inF u v = some b) (h1 : RW K H ι x u) (h2 : RW K H ι y v) : ∃ p xs, y = .ref p ∧ SqT K H p xs ∧ flatV x = true ∧ xs.all flatV = true ∧ b = inV x xs := by
  unfold inF at h
  split at h
  · rename_i ws
    cases h2 with
    | tup hs hw =>
      rename_i a xs
      cases q : flatW u with
      | none => rw [q] at h; cases h
      | some v =>
        cases q2 : flatWs ws with
        | none => rw [q, q2] at h; cases h
        | some vv =>
          rw [q, q2] at h; cases h
          obtain ⟨e1, e2⟩ := flatW_rw h1 q
          obtain ⟨e3, e4⟩ := flatWs_rw hw q2
          subst e1; subst e3
          exact ⟨a, xs, rfl, hs.sqt, e2, e4, rfl⟩
  · cases h
section
variable {K : KW}
theorem ok_inF : R2Ok K (rIn K false) sInF := by
  intro H ι A x y u v w A' Q h1 h2 h3 h4 q
  unfold sInF at h4
  cases e : inF u v with
  | none => rw [e] at h4; cases h4
  | some b =>
    rw [e] at h4; cases h4
    obtain ⟨p, xs, rfl, s1, s2, s3, rfl⟩ := inF_some e h1 h2
    exact ⟨p, xs, rfl, .inr s1, s2, s3, q _ H ι .refl (.bl _) h3⟩
theorem ok_notInF : R2Ok K (rIn K true) sNotInF := by
  intro H ι A x y u v w A' Q h1 h2 h3 h4 q
  unfold sNotInF at h4
  cases e : inF u v with
  | none => rw [e] at h4; cases h4
  | some b =>
    rw [e] at h4; cases h4
    obtain ⟨p, xs, rfl, s1, s2, s3, rfl⟩ := inF_some e h1 h2
    exact ⟨p, xs, rfl, .inr s1, s2, s3, q _ H ι .refl (.bl _) h3⟩
end
/-- is None, is not None -/
def isNonW : W → Bool
  | .non => true
  | _ => false
theorem isNonW_rw {K : KW} {H : Hp} {ι : List Addr} {v : V} {w : W} (h : RW K H ι v w) : decide (v = .non) = isNonW w := by
  cases h <;> rfl
def sIsN : S2 := fun u v A => match v with
  | .non => some (.bl (isNonW u), A)
  | _ => none
def sNotN : S2 := fun u v A => match v with
  | .non => some (.bl (!isNonW u), A)
  | _ => none
section
variable {K : KW}
theorem ok_isN : R2Ok K (fun x y H Q => y = .non ∧ Q (.bl (decide (x = .non))) H) sIsN := by
  intro H ι A x y u v w A' Q h1 h2 h3 h4 q
  cases h2 <;> cases h4
  exact ⟨rfl, by rw [isNonW_rw h1]; exact q _ H ι .refl (.bl _) h3⟩
theorem ok_notN : R2Ok K (fun x y H Q => y = .non ∧ Q (.bl (!decide (x = .non))) H) sNotN := by
  intro H ι A x y u v w A' Q h1 h2 h3 h4 q
  cases h2 <;> cases h4
  exact ⟨rfl, by rw [isNonW_rw h1]; exact q _ H ι .refl (.bl _) h3⟩
/-- ints -/
def sII (C : Int → Int → Bool) (g : Int → Int → W) : S2 := fun u v A => match u, v with
  | .int i, .int j => if C i j then some (g i j, A) else none
  | _, _ => none
theorem ok_II {C : Int → Int → Prop} {Cb : Int → Int → Bool} {g : Int → Int → W} {gv : Int → Int → V} (hC : ∀ i j, Cb i j = true → C i j) (hg : ∀ H ι i j, RW K H ι (gv i j) (g i j)) : R2Ok K (rI C gv) (sII Cb g) := by
  intro H ι A x y u v w A' Q h1 h2 h3 h4 q
  unfold sII at h4
  split at h4
  · rename_i i j
    split at h4
    · rename_i hc
      cases h4; cases h1; cases h2
      exact ⟨i, j, rfl, rfl, hC i j hc, q _ H ι .refl (hg H ι i j) h3⟩
    · cases h4
  · cases h4
theorem ok_I0 {g : Int → Int → W} {gv : Int → Int → V} (hg : ∀ H ι i j, RW K H ι (gv i j) (g i j)) : R2Ok K (rI0 gv) (sII (fun _ _ => true) g) := by
  intro H ι A x y u v w A' Q h1 h2 h3 h4 q
  unfold sII at h4
  split at h4
  · rename_i i j
    rw [if_pos rfl] at h4
    cases h4; cases h1; cases h2
    exact ⟨i, j, rfl, rfl, q _ H ι .refl (hg H ι i j) h3⟩
  · cases h4
end
abbrev sAddI : S2 := sII (fun _ _ => true) fun i j => .int (i + j)
abbrev sSub : S2 := sII (fun _ _ => true) fun i j => .int (i - j)
def mulOkB (i j : Int) : Bool := decide (-(2 ^ 64) < i ∧ i < 2 ^ 64) || decide (-(2 ^ 64) < j ∧ j < 2 ^ 64)
abbrev sMul : S2 := sII mulOkB fun i j => .int (i * j)
abbrev sDiv : S2 := sII (fun _ j => decide (0 < j ∧ j < 2 ^ 64)) fun i j => .int (i / j)
abbrev sMod : S2 := sII (fun _ j => decide (0 < j)) fun i j => .int (i % j)
abbrev sLt : S2 := sII (fun _ _ => true) fun i j => .bl (decide (i < j))
abbrev sLe : S2 := sII (fun _ _ => true) fun i j => .bl (decide (i ≤ j))
abbrev sGt : S2 := sII (fun _ _ => true) fun i j => .bl (decide (j < i))
abbrev sGe : S2 := sII (fun _ _ => true) fun i j => .bl (decide (j ≤ i))
/-- + of texts, tuples, lists -/
def sAddS : S2 := fun u v A => match u, v with
  | .str x, .str y => if x.length + y.length ≤ sizeLine then some (.str (x ++ y), A) else none
  | _, _ => none
def sAddT : S2 := fun u v A => match u, v with
  | .tup x, .tup y => if x.length + y.length ≤ sizeLine then some (.tup (x ++ y), A) else none
  | _, _ => none
def sAddL : S2 := fun u v A => match u, v with
  | .loc m, .loc n => match A[m]?, A[n]? with
    | some (.lst x), some (.lst y) => if x.length + y.length ≤ sizeLine then some (.loc A.length, A ++ [.lst (x ++ y)]) else none
    | _, _ => none
  | _, _ => none
section
variable {K : KW}
theorem ok_addS : R2Ok K (fun x y H Q => ∃ i j, x = .str i ∧ y = .str j ∧ i.length + j.length ≤ sizeLine ∧ Q (.str (i ++ j)) H) sAddS := by
  intro H ι A x y u v w A' Q h1 h2 h3 h4 q
  unfold sAddS at h4
  split at h4
  · rename_i i j
    split at h4
    · rename_i hc
      cases h4; cases h1; cases h2
      exact ⟨i, j, rfl, rfl, hc, q _ H ι .refl (.str _) h3⟩
    · cases h4
  · cases h4
theorem new_tup {H : Hp} {ι : List Addr} {A : AH} {xs : List V} {ws : List W} {p : Addr} {o : Obj} (h3 : RH K H ι A) (hp : H p = none) (ho : o.dict = none) (r : RWs K H ι xs ws) : RW K (upd H p (.frz o (.tup xs))) ι (.ref p) (.tup ws) ∧ RH K (upd H p (.frz o (.tup xs))) ι A ∧ Gr H (upd H p (.frz o (.tup xs))) ι ι :=
  ⟨.tup (.inl ⟨o, upd_same, ho⟩) (r.up (Gr.new hp _)), h3.beside hp _, Gr.new hp _⟩
/-- a new tuple as the object that it is -/
theorem laidN {X : Cx} {pins : List (Addr × Obj)} {σ : St} {H : Hp} {s : Shared} {xs : List V} {its : List Value} {h1 : Heap} {t' : Nat} (I : Inv X pins σ H { s with heap := h1 }) (r : Vals xs its) (hz : xs.length ≤ sizeLine) :
    Inv X pins σ (upd H h1.objs.size (.frz { cls := .type "tuple", data := .seq its.toArray } (.tup xs))) { s with heap := h1.push { cls := .type "tuple", data := .seq its.toArray }, toks := t' } ∧ H h1.objs.size = none :=
  ⟨I.laid (t' := t') (fun b o e => Heap.get?_push_of_some _ e) (Nat.le_refl _) ⟨Heap.get?_push_size _ rfl, hz, its, r, PyProof.Rows.IsTup.new _ _⟩, I.hok.fresh (Nat.le_refl _)⟩
def rCatN (K : PySem.W.Frag) : R2 := fun x y H Q => ∃ a b xs ys, x = .ref a ∧ y = .ref b ∧ SqT K H a xs ∧ SqT K H b ys ∧ xs.length + ys.length ≤ sizeLine ∧
  (xs = [] → Q (.ref b) H) ∧ (xs ≠ [] → ys = [] → Q (.ref a) H) ∧ (xs ≠ [] → ys ≠ [] → ∀ p o, H p = none → o.dict = none → Q (.ref p) (upd H p (.frz o (.tup (xs ++ ys)))))
theorem op_catN {X : Cx} : OpR X (binaryOp .Add) (rCatN X.K) := by
  rintro pins s σ H x y v u Q I rx ry ⟨a, b, xs, ys, rfl, rfl, ha, hb, hz, q0, q1, q2⟩
  cases rx; cases ry
  obtain ⟨i1, r1, p1, _⟩ := I.tuple ha
  obtain ⟨i2, r2, p2, _⟩ := I.tuple hb
  by_cases hx : xs = []
  · subst hx; cases r1
    exact cat_tup0 p1 p2 ⟨.ref b, H, I, rfl, q0 rfl⟩
  · refine HT.cat_tup p1 p2 (fun z => hx (r1.nil_iff.mp z)) (fun z => ⟨.ref a, H, I, rfl, q1 hx (r2.nil_iff.mp z)⟩) (fun z => ?_) (by rw [← r1.length, ← r2.length]; exact hz)
    obtain ⟨J, hf⟩ := laidN (t' := s.toks) (h1 := s.heap) I (r1.append r2) (by rw [List.length_append]; exact hz)
    exact ⟨.ref _, _, J, rfl, q2 hx (fun w => z (r2.nil_iff.mpr w)) _ _ hf rfl⟩
def rSlN (K : PySem.W.Frag) : V → Option Int → Option Int → Hp → VK → Prop := fun x lo hi H Q => ∃ a xs, x = .ref a ∧ SqT K H a xs ∧
  (HT.sIx xs.length 0 lo = 0 ∧ HT.sIx xs.length xs.length hi = xs.length → Q (.ref a) H) ∧ (¬ (HT.sIx xs.length 0 lo = 0 ∧ HT.sIx xs.length xs.length hi = xs.length) → ∀ p o, H p = none → o.dict = none → Q (.ref p) (upd H p (.frz o (.tup (cutV xs lo hi)))))
theorem sl_tupN {X : Cx} : SlR X (rSlN X.K) := by
  rintro pins s σ H x v vl vu lo hi sl Q I rx hs pl pu ⟨a, xs, rfl, hx, q1, q2⟩
  cases rx
  obtain ⟨its, r, ht, hz⟩ := I.tuple hx
  have hl : its.toArray.size = xs.length := by rw [List.size_toArray]; exact r.length.symm
  refine ⟨"tuple", _, PyProof.Rows.slot_tuple_getitem.lookup, ht.typeIs, ?_⟩
  by_cases hw : HT.sIx xs.length 0 lo = 0 ∧ HT.sIx xs.length xs.length hi = xs.length
  · exact getItem_tuple_whole ht hs pl pu (by rw [hl]; exact hw) ⟨.ref a, H, I, rfl, q1 hw⟩
  · refine HT.getItem_tuple_cut ht hs pl pu (by rw [hl]; exact hw) ?_ (by rw [hl]; exact hz)
    rw [hl]
    obtain ⟨J, hf⟩ := laidN (t' := s.toks) (h1 := s.heap) I ((r.drop (HT.sIx xs.length 0 lo)).take (HT.sIx xs.length xs.length hi - HT.sIx xs.length 0 lo)) (Nat.le_trans (cutV_length xs lo hi) hz)
    exact ⟨.ref _, _, J, rfl, q2 hw _ _ hf rfl⟩
theorem call_tupleN {X : Cx} : CallR X (.type "tuple") (fun xs H Q => ∃ p ys, xs = [.ref p] ∧ ((SqL X.K H p ys ∧ ∀ l o, H l = none → o.dict = none → Q (.ref l) (upd H l (.frz o (.tup ys)))) ∨ (SqT X.K H p ys ∧ Q (.ref p) H))) := by
  rintro pins s σ H xs us Q I r ⟨p, ys, rfl, h⟩
  obtain ⟨u, rfl, rx⟩ := vals1 r
  cases rx
  rcases h with ⟨hq, q⟩ | ⟨hq, q⟩
  · obtain ⟨its, r', pl, hz⟩ := I.list hq
    have hl := r'.length
    refine PySem.call_tuple_list pl.isList (fun h' kp => ?_) (by simp only [List.size_toArray]; omega)
    obtain ⟨J, hf⟩ := laidN (t' := s.toks) (h1 := h') (I.kept (t' := s.toks) kp) r' hz
    exact ⟨.ref _, _, J, rfl, q _ _ hf rfl⟩
  · obtain ⟨its, r', pl, hz⟩ := I.tuple hq
    exact call_tuple_same pl ⟨.ref p, H, I, rfl, q⟩
def tTupN (t : TA) : TE := fun σ H Q => t σ H fun xs H1 => xs.length ≤ sizeLine ∧ ∀ p o, H1 p = none → o.dict = none → Q (.ref p) (upd H1 p (.frz o (.tup xs)))
theorem pe_tupN {X : Cx} {es : List Expr} {t : TA} {pos : Pos} {x1} (h : PA X es t) : PE X (.Tuple es x1 pos) (tTupN t) := ⟨fun pins s σ H Q I hq => by
  refine wpAny_Tuple_spliced (thn (h.run pos pins s σ H _ I hq) fun us s1 ⟨xs, H1, I1, r, z, q⟩ => ⟨by rw [← r.length]; exact z, ?_⟩)
  obtain ⟨J, hf⟩ := laidN (t' := s1.toks) (h1 := s1.heap) I1 r z
  exact ⟨.ref _, _, J, rfl, q _ _ hf rfl⟩⟩
theorem new_lst {H : Hp} {ι : List Addr} {A : AH} {xs : List V} {ws : List W} {p : Addr} (h3 : RH K H ι A) (hp : H p = none) (r : RWs K H ι xs ws) :
    RW K (upd H p (.lst xs)) (ι ++ [p]) (.ref p) (.loc A.length) ∧ RH K (upd H p (.lst xs)) (ι ++ [p]) (A ++ [.lst ws]) ∧ Gr H (upd H p (.lst xs)) ι (ι ++ [p]) := by
  have g : Gr H (upd H p (.lst xs)) ι (ι ++ [p]) := Gr.grow hp _
  exact ⟨.loc (by rw [← h3.len]; simp), h3.alloc hp ⟨xs, upd_same, r.up g⟩, g⟩
theorem ok_addT : R2Ok K (rCatN K) sAddT := by
  intro H ι A x y u v w A' Q h1 h2 h3 h4 q
  unfold sAddT at h4
  split at h4
  · rename_i xs ys
    split at h4
    · rename_i hc
      cases h4
      cases h1 with
      | tup a1 b1 =>
        cases h2 with
        | tup a2 b2 =>
          rename_i pa vs pb us
          refine ⟨pa, pb, vs, us, rfl, rfl, a1.sqt, a2.sqt, by rw [b1.length, b2.length]; exact hc, fun e => ?_, fun e1 e2 => ?_, fun e1 e2 p o hp ho => ?_⟩
          · subst e
            cases b1
            exact q _ H ι .refl (.tup a2 b2) h3
          · subst e2
            cases b2
            exact q _ H ι .refl (.tup a1 (by simpa using b1)) h3
          · obtain ⟨x1, x2, x3⟩ := new_tup h3 hp ho (b1.append b2)
            exact q _ _ _ x3 x1 x2
    · cases h4
  · cases h4
theorem ok_addL : R2Ok K rCat sAddL := by
  intro H ι A x y u v w A' Q h1 h2 h3 h4 q
  unfold sAddL at h4
  split at h4
  · split at h4
    · rename_i m n x y e1 e2
      split at h4
      · rename_i hc
        cases h4
        cases h1 with
        | loc i1 =>
          cases h2 with
          | loc i2 =>
            obtain ⟨xs, a1, b1⟩ := h3.lst e1 i1
            obtain ⟨ys, a2, b2⟩ := h3.lst e2 i2
            refine ⟨_, _, xs, ys, rfl, rfl, a1, a2, by rw [b1.length, b2.length]; exact hc, fun p hp => ?_⟩
            obtain ⟨x1, x2, x3⟩ := new_lst h3 hp (b1.append b2)
            exact q _ _ _ x3 x1 x2
      · cases h4
    · cases h4
  · cases h4
end
/-! ### items and slices -/
def sIxL : S2 := fun u v A => match u, v with
  | .loc n, .int i => match A[n]? with
    | some (.lst xs) => (atI xs i).map fun w => (w, A)
    | _ => none
  | .frl xs, .int i => (atI xs i).map fun w => (w, A)
  | _, _ => none
def sIxT : S2 := fun u v A => match u, v with
  | .tup xs, .int i => (atI xs i).map fun w => (w, A)
  | _, _ => none
def sIxS : S2 := fun u v A => match u, v with
  | .str z, .int i => if z.length ≤ sizeLine then (atI z.cps.toList i).map fun c => (.str ⟨#[c]⟩, A) else none
  | _, _ => none
section
variable {K : KW}
theorem atI_rw {H : Hp} {ι : List Addr} {xs : List V} {ws : List W} {i : Int} {w : W} (r : RWs K H ι xs ws) (h : atI ws i = some w) : ∃ v, atI xs i = some v ∧ RW K H ι v w := by
  unfold atI at h ⊢
  rw [r.length]
  cases e : ixN ws.length i with
  | none => rw [e] at h; cases h
  | some j =>
    rw [e] at h
    simp only [Option.bind_some] at h ⊢
    exact r.get h
theorem ok_ixL : R2Ok K (rIxL K) sIxL := by
  intro H ι A x y u v w A' Q h1 h2 h3 h4 q
  unfold sIxL at h4
  split at h4
  · split at h4
    · rename_i n i _ xs e
      cases e2 : atI xs i with
      | none => rw [e2] at h4; cases h4
      | some z =>
        rw [e2] at h4; cases h4
        cases h1 with
        | loc i1 =>
          cases h2
          obtain ⟨vs, a1, b1⟩ := h3.lst e i1
          obtain ⟨v, c1, c2⟩ := atI_rw b1 e2
          exact ⟨_, vs, i, v, rfl, rfl, SqL.of a1, c1, q _ H ι .refl c2 h3⟩
    · cases h4
  · rename_i xs i
    cases e2 : atI xs i with
    | none => rw [e2] at h4; cases h4
    | some z =>
      rw [e2] at h4; cases h4
      cases h1 with
      | frl a1 b1 =>
        cases h2
        obtain ⟨v, c1, c2⟩ := atI_rw b1 e2
        exact ⟨_, _, i, v, rfl, rfl, a1.sql, c1, q _ H ι .refl c2 h3⟩
  · cases h4
theorem ok_ixT : R2Ok K (rIxT K) sIxT := by
  intro H ι A x y u v w A' Q h1 h2 h3 h4 q
  unfold sIxT at h4
  split at h4
  · rename_i xs i
    cases e2 : atI xs i with
    | none => rw [e2] at h4; cases h4
    | some z =>
      rw [e2] at h4; cases h4
      cases h1 with
      | tup a1 b1 =>
        cases h2
        obtain ⟨v, c1, c2⟩ := atI_rw b1 e2
        exact ⟨_, _, i, v, rfl, rfl, a1.sqt, c1, q _ H ι .refl c2 h3⟩
  · cases h4
theorem ok_ixS : R2Ok K rIxS sIxS := by
  intro H ι A x y u v w A' Q h1 h2 h3 h4 q
  unfold sIxS at h4
  split at h4
  · rename_i z i
    split at h4
    · rename_i hz
      cases e2 : atI z.cps.toList i with
      | none => rw [e2] at h4; cases h4
      | some c =>
        rw [e2] at h4; cases h4
        cases h1; cases h2
        exact ⟨z, i, c, rfl, rfl, hz, e2, q _ H ι .refl (.str _) h3⟩
    · cases h4
  · cases h4
end
end Z
set_option Elab.async false
set_option linter.all false
set_option maxRecDepth 100000
set_option maxHeartbeats 4000000
namespace Z
open PySem L2
/-! ### tests -/
abbrev ZB := EN → AH → Option (Bool × AH)
def tZB (K : KW) (f : ZB) : TT := fun σ H Q => ∃ ι E A w A', RSt K H ι σ E ∧ RH K H ι A ∧ f E A = some (w, A') ∧ ∀ H' ι', Gr H H' ι ι' → RH K H' ι' A' → Q w H'
abbrev PTZ [Tabs] (X : Cx) (e : Expr) (f : ZB) : Prop := PT X e (tZB X.kw f)
abbrev PWZ [Tabs] (X : Cx) (e : Expr) (f : ZB) : Prop := PW X e (tZB X.kw f)
section
variable {X : Cx} {e : Expr} {t t' : TT}
theorem impT (h : PT X e t) (k : ∀ σ H Q, t' σ H Q → t σ H Q) : PT X e t' := ⟨fun pins s σ H Q I q => h.run pins s σ H Q I (k σ H Q q)⟩
theorem impW (h : PW X e t) (k : ∀ σ H Q, t' σ H Q → t σ H Q) : PW X e t' := ⟨fun wh pins s σ H Q I q => h.run wh pins s σ H Q I (k σ H Q q)⟩
end
/-- the truth of a value -/
def truW (A : AH) : W → Option Bool
  | .non => some false
  | .bl b => some b
  | .int i => some (i != 0)
  | .str x => if x.length ≤ sizeLine then some ((x.length : Int) != 0) else none
  | .tup ws => some (!ws.isEmpty)
  | .frl ws => some (!ws.isEmpty)
  | .loc n => match A[n]? with
    | some (.lst ws) => some (!ws.isEmpty)
    | some (.dic ws) => some (!ws.isEmpty)
    | _ => none
  | .ty _ => none
theorem RWs.isEmpty {K : KW} {H : Hp} {ι : List Addr} {xs : List V} {ws : List W} (r : RWs K H ι xs ws) : xs.isEmpty = ws.isEmpty := by
  cases r <;> rfl
theorem truW_ok {K : KW} {H : Hp} {ι : List Addr} {A : AH} {v : V} {w : W} {k : Bool} (h3 : RH K H ι A) (h : RW K H ι v w) (e : truW A w = some k) : TruV K v H k := by
  cases h with
  | non => cases e; exact (rfl : false = false)
  | ty n => cases e
  | bl b => cases e; exact (rfl : k = k)
  | int i => cases e; exact (rfl : (i != 0) = (i != 0))
  | str x =>
    simp only [truW] at e
    split at e
    · rename_i hz
      cases e; exact ⟨hz, rfl⟩
    · cases e
  | tup a b => cases e; exact .inr (.inl ⟨_, a.sqt, by rw [b.isEmpty]⟩)
  | frl a b => cases e; exact .inl ⟨_, a.sql, by rw [b.isEmpty]⟩
  | loc i =>
    simp only [truW] at e
    split at e
    · rename_i ws hw
      cases e
      obtain ⟨xs, a1, b1⟩ := h3.lst hw i
      exact .inl ⟨_, SqL.of a1, by rw [b1.isEmpty]⟩
    · rename_i ws hw
      cases e
      obtain ⟨kvs, a1, b1, b2⟩ := (h3.ok _ _ _ hw i : RO K H ι _ (.dic ws))
      refine .inr (.inr ⟨kvs, a1, ?_⟩)
      have : kvs.length = ws.length := by simpa using congrArg List.length b1
      cases kvs <;> cases ws <;> simp_all
    · cases e
def zTru (f : ZE) : ZB := fun E A => (f E A).bind fun p => (truW p.2 p.1).map fun k => (k, p.2)
def zBl (f : ZE) : ZB := fun E A => (f E A).bind fun p => match p.1 with
  | .bl b => some (b, p.2)
  | _ => none
section
variable {X : Cx} {pos : Pos} {a b c : Expr} {f g h : ZE} {rest : List Expr}
theorem zTru_go {K : KW} {f : ZE} {σ : St} {H : Hp} {Q : Bool → Hp → Prop} (q : tZB K (zTru f) σ H Q) : tZ K f σ H fun x H' => ∃ k, TruV K x H' k ∧ Q k H' := by
  obtain ⟨ι, E, A, w, A', r1, r2, e, q⟩ := q
  unfold zTru at e
  cases ef : f E A with
  | none => rw [ef] at e; cases e
  | some p =>
    rw [ef] at e
    simp only [Option.bind_some] at e
    cases et : truW p.2 p.1 with
    | none => rw [et] at e; cases e
    | some k =>
      rw [et] at e; cases e
      exact tZ_go r1 r2 (ef.trans rfl : f E A = some (p.1, p.2)) fun v H' ι' g1 rv rh => ⟨_, truW_ok rh rv et, q H' ι' g1 rh⟩
theorem zt_val [Tabs] (ha : PZ X a f) (he : ∀ whole, isTrue a X.env whole = (do let v ← whole; standAt a.pos; holding [v] (truthy v)) := by intro _; rfl) : PTZ X a (zTru f) := impT (pt_truth ha he) fun σ H Q q => zTru_go q
/-- what two in a row ask -/
theorem two_go {K : KW} {r : R2} {s : S2} (ok : R2Ok K r s) {f g : ZE} {σ : St} {H : Hp} {Q : VK} (h : tZ K (z2 s f g) σ H Q) : tOp r (tZ K f) (tZ K g) σ H Q := by
  obtain ⟨ι, E, A, w, A', r1, r2, e1, q⟩ := h
  unfold z2 at e1
  cases ef : f E A with
  | none => rw [ef] at e1; cases e1
  | some p =>
    rw [ef] at e1
    cases eg : g E p.2 with
    | none => simp only [Option.bind_some, eg, Option.bind_none] at e1; cases e1
    | some z =>
      simp only [Option.bind_some, eg] at e1
      refine tZ_go r1 r2 (ef.trans rfl : f E A = some (p.1, p.2)) fun x H1 ι1 g1 rx rh1 => ?_
      refine tZ_go (r1.up g1) rh1 (eg.trans rfl : g E p.2 = some (z.1, z.2)) fun y H2 ι2 g2 ry rh2 => ?_
      exact ok H2 ι2 z.2 x y p.1 z.1 w A' Q (rx.up g2) ry rh2 e1 fun v H' ι' g3 => q v H' ι' (g1.trans (g2.trans g3))
theorem zBl_go {K : KW} {f : ZE} {σ : St} {H : Hp} {Q : Bool → Hp → Prop} (q : tZB K (zBl f) σ H Q) : tZ K f σ H fun x H' => ∃ k, x = .bl k ∧ Q k H' := by
  obtain ⟨ι, E, A, w, A', r1, r2, e, q⟩ := q
  unfold zBl at e
  cases ef : f E A with
  | none => rw [ef] at e; cases e
  | some p =>
    rw [ef] at e
    simp only [Option.bind_some] at e
    split at e
    · rename_i b hb
      cases e
      exact tZ_go r1 r2 (by rw [ef] : f E A = some (p.1, p.2)) fun v H' ι' g1 rv rh => by
        rw [hb] at rv
        cases rv
        exact ⟨_, rfl, q H' ι' g1 rh⟩
    · cases e
theorem zt_cmp [Tabs] {op : CmpOp} {r : R2} {s : S2} (ho : OpR X (compareOp op) r) (ok : R2Ok X.kw r s) (ha : PZ X a f) (hb : PZ X b g) (hm : behindInMarks op b = false) : PTZ X (.Compare a [op] [b] pos) (zBl (z2 s f g)) :=
  impT (pt_cmpR ho ha hb hm) fun σ H Q q => two_go ok (zBl_go q)
def zChain (s s' : S2) (f g h : ZE) : ZE := fun E A => (f E A).bind fun p => (g E p.2).bind fun q => (s p.1 q.1 q.2).bind fun z => match z.1 with
  | .bl true => (h E z.2).bind fun y => s' q.1 y.1 y.2
  | .bl false => some (.bl false, z.2)
  | _ => none
theorem chain_go {K : KW} {r r' : R2} {s s' : S2} (ok : R2Ok K r s) (ok' : R2Ok K r' s') {f g h : ZE} {σ : St} {H : Hp} {Q : VK} (hh : tZ K (zChain s s' f g h) σ H Q) : tChain r r' (tZ K f) (tZ K g) (tZ K h) σ H Q := by
  obtain ⟨ι, E, A, w, A', r1, r2, e1, q⟩ := hh
  unfold zChain at e1
  cases ef : f E A with
  | none => rw [ef] at e1; cases e1
  | some p =>
    rw [ef] at e1
    simp only [Option.bind_some] at e1
    cases eg : g E p.2 with
    | none => rw [eg] at e1; cases e1
    | some z =>
      rw [eg] at e1
      simp only [Option.bind_some] at e1
      cases es : s p.1 z.1 z.2 with
      | none => rw [es] at e1; cases e1
      | some y =>
        rw [es] at e1
        simp only [Option.bind_some] at e1
        refine tZ_go r1 r2 (ef.trans rfl : f E A = some (p.1, p.2)) fun x H1 ι1 g1 rx rh1 => ?_
        refine tZ_go (r1.up g1) rh1 (eg.trans rfl : g E p.2 = some (z.1, z.2)) fun y' H2 ι2 g2 ry rh2 => ?_
        refine ok H2 ι2 z.2 x y' p.1 z.1 y.1 y.2 _ (rx.up g2) ry rh2 (es.trans rfl) fun v H3 ι3 g3 rv rh3 => ?_
        split at e1
        · rename_i hb
          rw [hb] at rv; cases rv
          refine ⟨true, rfl, ?_⟩
          rw [if_pos rfl]
          cases eh : h E y.2 with
          | none => rw [eh] at e1; cases e1
          | some t =>
            rw [eh] at e1
            simp only [Option.bind_some] at e1
            refine tZ_go ((r1.up g1).up (g2.trans g3)) rh3 (eh.trans rfl : h E y.2 = some (t.1, t.2)) fun x3 H4 ι4 g4 rx3 rh4 => ?_
            exact ok' H4 ι4 t.2 y' x3 z.1 t.1 w A' Q (ry.up (g3.trans g4)) rx3 rh4 e1 fun v H' ι' g5 => q v H' ι' (g1.trans (g2.trans (g3.trans (g4.trans g5))))
        · rename_i hb
          rw [hb] at rv; cases rv
          cases e1
          refine ⟨false, rfl, ?_⟩
          rw [if_neg Bool.false_ne_true]
          exact q _ H3 ι3 (g1.trans (g2.trans g3)) (.bl false) rh3
        · cases e1
theorem z_chain [Tabs] {op op' : CmpOp} {r r' : R2} {s s' : S2} (ho : OpR X (compareOp op) r) (ok : R2Ok X.kw r s) (ho' : OpR X (compareOp op') r') (ok' : R2Ok X.kw r' s') (ha : PZ X a f) (hb : PZ X b g) (hc : PZ X c h)
    (hm : lastMarks [op, op'] [b, c] = false := by with_unfolding_all rfl) : PZ X (.Compare a [op, op'] [b, c] pos) (zChain s s' f g h) := imp (pe_chain ho ho' ha hb hc hm) fun σ H Q q => chain_go ok ok' q
theorem zt_chain [Tabs] {op op' : CmpOp} {r r' : R2} {s s' : S2} (ho : OpR X (compareOp op) r) (ok : R2Ok X.kw r s) (ho' : OpR X (compareOp op') r') (ok' : R2Ok X.kw r' s') (ha : PZ X a f) (hb : PZ X b g) (hc : PZ X c h)
    (hm : lastMarks [op, op'] [b, c] = false := by with_unfolding_all rfl) : PTZ X (.Compare a [op, op'] [b, c] pos) (zBl (zChain s s' f g h)) := impT (pt_chain ho ho' ha hb hc hm) fun σ H Q q => chain_go ok ok' (zBl_go q)
/-! ### not, and, or, if as values -/
def zNot (f : ZB) : ZE := fun E A => (f E A).map fun p => (.bl (!p.1), p.2)
theorem z_not [Tabs] (ha : PZ X a f) : PZ X (.UnaryOp .Not a pos) (zNot (zTru f)) := imp (pe_notT ha) fun σ H Q ⟨ι, E, A, w, A', r1, r2, e, q⟩ => by
  unfold zNot at e
  cases ef : zTru f E A with
  | none => rw [ef] at e; cases e
  | some p =>
    rw [ef] at e; cases e
    exact zTru_go (Q := fun k H' => Q (.bl (!k)) H') ⟨ι, E, A, p.1, p.2, r1, r2, ef, fun H' ι' g1 rh => q _ H' ι' g1 (.bl _) rh⟩
def zAnd (f g : ZE) : ZE := fun E A => (f E A).bind fun p => (truW p.2 p.1).bind fun k => if k = true then g E p.2 else some p
def zOr (f g : ZE) : ZE := fun E A => (f E A).bind fun p => (truW p.2 p.1).bind fun k => if k = true then some p else g E p.2
theorem z_one [Tabs] {op : BoolOp} (ha : PZ X a f) : PZ X (.BoolOp op [a] pos) f := pe_one ha
theorem z_and [Tabs] (ha : PZ X a f) (hb : PZ X (.BoolOp .And (b :: rest) pos) g) : PZ X (.BoolOp .And (a :: b :: rest) pos) (zAnd f g) := imp (pe_andT ha hb) fun σ H Q ⟨ι, E, A, w, A', r1, r2, e, q⟩ => by
  unfold zAnd at e
  cases ef : f E A with
  | none => rw [ef] at e; cases e
  | some p =>
    rw [ef] at e
    simp only [Option.bind_some] at e
    cases et : truW p.2 p.1 with
    | none => rw [et] at e; cases e
    | some k =>
      rw [et] at e
      simp only [Option.bind_some] at e
      refine tZ_go r1 r2 (ef.trans rfl : f E A = some (p.1, p.2)) fun x H1 ι1 g1 rx rh1 => ⟨k, truW_ok rh1 rx et, ?_⟩
      split at e
      · rename_i hk
        rw [if_pos hk]
        exact tZ_go (r1.up g1) rh1 e fun v H' ι' g2 => q v H' ι' (g1.trans g2)
      · rename_i hk
        rw [if_neg hk]
        cases e
        exact q _ H1 ι1 g1 rx rh1
theorem z_or [Tabs] (ha : PZ X a f) (hb : PZ X (.BoolOp .Or (b :: rest) pos) g) : PZ X (.BoolOp .Or (a :: b :: rest) pos) (zOr f g) := imp (pe_orT ha hb) fun σ H Q ⟨ι, E, A, w, A', r1, r2, e, q⟩ => by
  unfold zOr at e
  cases ef : f E A with
  | none => rw [ef] at e; cases e
  | some p =>
    rw [ef] at e
    simp only [Option.bind_some] at e
    cases et : truW p.2 p.1 with
    | none => rw [et] at e; cases e
    | some k =>
      rw [et] at e
      simp only [Option.bind_some] at e
      refine tZ_go r1 r2 (ef.trans rfl : f E A = some (p.1, p.2)) fun x H1 ι1 g1 rx rh1 => ⟨k, truW_ok rh1 rx et, ?_⟩
      split at e
      · rename_i hk
        rw [if_pos hk]
        cases e
        exact q _ H1 ι1 g1 rx rh1
      · rename_i hk
        rw [if_neg hk]
        exact tZ_go (r1.up g1) rh1 e fun v H' ι' g2 => q v H' ι' (g1.trans g2)
end
/-! tests of tests -/
def tzAnd (f g : ZB) : ZB := fun E A => (f E A).bind fun p => if p.1 = true then g E p.2 else some (false, p.2)
def tzOr (f g : ZB) : ZB := fun E A => (f E A).bind fun p => if p.1 = true then some (true, p.2) else g E p.2
def tzNot (f : ZB) : ZB := fun E A => (f E A).map fun p => (!p.1, p.2)
section
variable {X : Cx} {pos : Pos} {a b c : Expr} {f g : ZB} {fe ge : ZE} {rest : List Expr}
theorem tZB_go {K : KW} {f : ZB} {σ : St} {H : Hp} {Q : Bool → Hp → Prop} {ι : List Addr} {E : EN} {A A' : AH} {w : Bool} (r : RSt K H ι σ E) (h : RH K H ι A) (e : f E A = some (w, A')) (q : ∀ H' ι', Gr H H' ι ι' → RH K H' ι' A' → Q w H') : tZB K f σ H Q := ⟨ι, E, A, w, A', r, h, e, q⟩
theorem zt_not [Tabs] (ha : PTZ X a f) : PTZ X (.UnaryOp .Not a pos) (tzNot f) := impT (pt_not ha) fun σ H Q ⟨ι, E, A, w, A', r1, r2, e, q⟩ => by
  unfold tzNot at e
  cases ef : f E A with
  | none => rw [ef] at e; cases e
  | some p =>
    rw [ef] at e; cases e
    exact tZB_go r1 r2 (ef.trans rfl : f E A = some (p.1, p.2)) q
theorem zw_and1 [Tabs] (ha : PTZ X a f) : PWZ X (.BoolOp .And [a] pos) f := pw_and1 ha
theorem zw_or1 [Tabs] (ha : PTZ X a f) : PWZ X (.BoolOp .Or [a] pos) f := pw_or1 ha
theorem zw_and [Tabs] (ha : PTZ X a f) (hb : PWZ X (.BoolOp .And (b :: rest) pos) g) : PWZ X (.BoolOp .And (a :: b :: rest) pos) (tzAnd f g) := impW (pw_and ha hb) fun σ H Q ⟨ι, E, A, w, A', r1, r2, e, q⟩ => by
  unfold tzAnd at e
  cases ef : f E A with
  | none => rw [ef] at e; cases e
  | some p =>
    rw [ef] at e
    simp only [Option.bind_some] at e
    refine tZB_go r1 r2 (ef.trans rfl : f E A = some (p.1, p.2)) fun H1 ι1 g1 rh1 => ?_
    split at e
    · rename_i hk
      rw [if_pos hk]
      exact tZB_go (r1.up g1) rh1 e fun H' ι' g2 => q H' ι' (g1.trans g2)
    · rename_i hk
      rw [if_neg hk]
      cases e
      exact q H1 ι1 g1 rh1
theorem zw_or [Tabs] (ha : PTZ X a f) (hb : PWZ X (.BoolOp .Or (b :: rest) pos) g) : PWZ X (.BoolOp .Or (a :: b :: rest) pos) (tzOr f g) := impW (pw_or ha hb) fun σ H Q ⟨ι, E, A, w, A', r1, r2, e, q⟩ => by
  unfold tzOr at e
  cases ef : f E A with
  | none => rw [ef] at e; cases e
  | some p =>
    rw [ef] at e
    simp only [Option.bind_some] at e
    refine tZB_go r1 r2 (ef.trans rfl : f E A = some (p.1, p.2)) fun H1 ι1 g1 rh1 => ?_
    split at e
    · rename_i hk
      rw [if_pos hk]
      cases e
      exact q H1 ι1 g1 rh1
    · rename_i hk
      rw [if_neg hk]
      exact tZB_go (r1.up g1) rh1 e fun H' ι' g2 => q H' ι' (g1.trans g2)
theorem zw [Tabs] (h : PWZ X a f) : PTZ X a f := h.pt
def zIf (c : ZB) (f g : ZE) : ZE := fun E A => (c E A).bind fun p => if p.1 = true then f E p.2 else g E p.2
theorem z_ifExp [Tabs] {c : Expr} {fc : ZB} (hc : PTZ X c fc) (ha : PZ X a fe) (hb : PZ X b ge) : PZ X (.IfExp c a b pos) (zIf fc fe ge) := imp (pe_ifExp hc ha hb) fun σ H Q ⟨ι, E, A, w, A', r1, r2, e, q⟩ => by
  unfold zIf at e
  cases ef : fc E A with
  | none => rw [ef] at e; cases e
  | some p =>
    rw [ef] at e
    simp only [Option.bind_some] at e
    refine tZB_go r1 r2 (ef.trans rfl : fc E A = some (p.1, p.2)) fun H1 ι1 g1 rh1 => ?_
    split at e
    · rename_i hk
      rw [if_pos hk]
      exact tZ_go (r1.up g1) rh1 e fun v H' ι' g2 => q v H' ι' (g1.trans g2)
    · rename_i hk
      rw [if_neg hk]
      exact tZ_go (r1.up g1) rh1 e fun v H' ι' g2 => q v H' ι' (g1.trans g2)
end
/-! ### lists of expressions -/
abbrev ZA := EN → AH → Option (List W × AH)
def tZA (K : KW) (f : ZA) : TA := fun σ H Q => ∃ ι E A ws A', RSt K H ι σ E ∧ RH K H ι A ∧ f E A = some (ws, A') ∧ ∀ vs H' ι', Gr H H' ι ι' → RWs K H' ι' vs ws → RH K H' ι' A' → Q vs H'
abbrev PAZ [Tabs] (X : Cx) (es : List Expr) (f : ZA) : Prop := PA X es (tZA X.kw f)
def zaNil : ZA := fun _ A => some ([], A)
def zaCons (f : ZE) (g : ZA) : ZA := fun E A => (f E A).bind fun p => (g E p.2).map fun q => (p.1 :: q.1, q.2)
/-- the items of a list or tuple -/
def itemsW (A : AH) : W → Option (List W)
  | .tup ws => some ws
  | .frl ws => some ws
  | .loc n => match A[n]? with
    | some (.lst ws) => some ws
    | _ => none
  | _ => none
def zaStar (f : ZE) (g : ZA) : ZA := fun E A => (f E A).bind fun p => (itemsW p.2 p.1).bind fun ws => (g E p.2).map fun q => (ws ++ q.1, q.2)
theorem itemsW_ok {K : KW} {H : Hp} {ι : List Addr} {A : AH} {v : V} {w : W} {ws : List W} (h3 : RH K H ι A) (h : RW K H ι v w) (e : itemsW A w = some ws) : ∃ p xs, v = .ref p ∧ (SqL K H p xs ∨ SqT K H p xs) ∧ RWs K H ι xs ws := by
  cases h with
  | tup a b => cases e; exact ⟨_, _, rfl, .inr a.sqt, b⟩
  | frl a b => cases e; exact ⟨_, _, rfl, .inl a.sql, b⟩
  | loc i =>
    simp only [itemsW] at e
    split at e
    · rename_i xs hw
      cases e
      obtain ⟨xs, a1, b1⟩ := h3.lst hw i
      exact ⟨_, xs, rfl, .inl (SqL.of a1), b1⟩
    · cases e
  | _ => cases e
def tStar (K : PySem.W.Frag) (ta : TE) (tr : TA) : TA := fun σ H Q => ta σ H fun x H1 => ∃ p ys, x = .ref p ∧ (SqL K H1 p ys ∨ SqT K H1 p ys) ∧ tr σ H1 fun xs H2 => Q (ys ++ xs) H2
section
variable {X : Cx} {e : Expr} {es : List Expr} {te : TE} {t : TA} {p pos : Pos}
open PySem.W in
theorem pa_star (ha : PE X e te) (hr : PA X es t) (hs : starEach (.Starred e p :: es) X.env = (true, eval e X.env) :: starEach es X.env := by rfl) : PA X (.Starred e p :: es) (tStar X.K te t) := by
  refine ⟨fun pos pins s σ H Q I h => ?_⟩
  refine items_star (thn (ha.run pins s σ H _ I h) fun u s1 ⟨x, H1, I1, r1, a, ys, ex, hq, q1⟩ => ?_) hs
  subst ex
  cases r1
  have fin : ∀ (T : String) (o : Obj) (its : List Value) (n : Nat), (T = "list" ∨ T = "tuple") → s1.heap.get? a = some o → o.cls = .type T → o.data = .seq its.toArray n → Vals ys its → its.toArray.size ≤ sizeLine →
      StarOf (model X.prog X.w) X.A X.xe (.ref a) (fun here s₂ => wpAny (model X.prog X.w) X.A (spliced (backTo pos (starEach es X.env))) (fun vs s₃ => AP X pins σ Q (here ++ vs) s₃) X.xe s₂) s1 := by
    intro T o its n hT D hc hd rv hz
    have z : wpAny (model X.prog X.w) X.A (collect (.ref a)) (fun here s₂ => wpAny (model X.prog X.w) X.A (spliced (backTo pos (starEach es X.env))) (fun vs s₃ => AP X pins σ Q (here ++ vs) s₃) X.xe s₂) X.xe s1 := by
      refine wpAny_collect_seq a hT D hc hd (fun h' hk => ?_) hz
      have I2 : Inv X pins σ H1 { s1 with heap := h' } := I1.kept (t' := s1.toks) hk
      exact thn (hr.run pos pins _ σ H1 _ I2 q1) fun us s2 ⟨xs, H2, I3, r2, q2⟩ => ⟨ys ++ xs, H2, I3, by simpa using rv.append r2, q2⟩
    have hT' : s1.TypeIs (.ref a) T := ⟨o, D, hc⟩
    unfold StarOf notIterableAtAll
    rcases hT with rfl | rfl
    · exact wpAny_bind (wpAny_specialOf hT' PySem.F.slot_list_iter.lookup (wpAny_pure ⟨rfl, z⟩))
    · exact wpAny_bind (wpAny_specialOf hT' PySem.F.slot_tuple_iter.lookup (wpAny_pure ⟨rfl, z⟩))
  rcases hq with hq | hq
  · obtain ⟨its, rv, ⟨o, n, ho, hc, _, hd⟩, hz⟩ := I1.list hq
    exact fin "list" o its n (.inl rfl) ho hc hd rv (by have := rv.length; simp; omega)
  · obtain ⟨its, rv, ⟨o, ho, hc, n, hd⟩, hz⟩ := I1.tuple hq
    exact fin "tuple" o its n (.inr rfl) ho hc hd rv (by have := rv.length; simp; omega)
end
theorem tZA_go {K : KW} {f : ZA} {σ : St} {H : Hp} {Q : List V → Hp → Prop} {ι : List Addr} {E : EN} {A A' : AH} {ws : List W} (r : RSt K H ι σ E) (h : RH K H ι A) (e : f E A = some (ws, A')) (q : ∀ vs H' ι', Gr H H' ι ι' → RWs K H' ι' vs ws → RH K H' ι' A' → Q vs H') : tZA K f σ H Q := ⟨ι, E, A, ws, A', r, h, e, q⟩
section
variable {X : Cx} {e : Expr} {es : List Expr} {f : ZE} {g : ZA} {pos p : Pos}
theorem impA {t t' : TA} (h : PA X es t) (k : ∀ σ H Q, t' σ H Q → t σ H Q) : PA X es t' := ⟨fun pos pins s σ H Q I q => h.run pos pins s σ H Q I (k σ H Q q)⟩
theorem za_nil [Tabs] : PAZ X [] zaNil := impA pa_nil fun σ H Q ⟨ι, E, A, w, A', r1, r2, e, q⟩ => by
  cases e; exact q [] H ι .refl .nil r2
theorem za_cons [Tabs] (ha : PZ X e f) (hr : PAZ X es g) (hs : starEach (e :: es) X.env = (false, eval e X.env) :: starEach es X.env := by rfl) : PAZ X (e :: es) (zaCons f g) := impA (pa_cons ha hr hs) fun σ H Q ⟨ι, E, A, w, A', r1, r2, e1, q⟩ => by
  unfold zaCons at e1
  cases ef : f E A with
  | none => rw [ef] at e1; cases e1
  | some p =>
    rw [ef] at e1
    simp only [Option.bind_some] at e1
    cases eg : g E p.2 with
    | none => rw [eg] at e1; cases e1
    | some z =>
      rw [eg] at e1; cases e1
      refine tZ_go r1 r2 (ef.trans rfl : f E A = some (p.1, p.2)) fun x H1 ι1 g1 rx rh1 => ?_
      exact tZA_go (r1.up g1) rh1 (eg.trans rfl : g E p.2 = some (z.1, z.2)) fun xs H2 ι2 g2 rxs rh2 => q _ H2 ι2 (g1.trans g2) (.cons (rx.up g2) rxs) rh2
theorem za_star [Tabs] (ha : PZ X e f) (hr : PAZ X es g) (hs : starEach (.Starred e p :: es) X.env = (true, eval e X.env) :: starEach es X.env := by rfl) : PAZ X (.Starred e p :: es) (zaStar f g) := impA (pa_star ha hr hs) fun σ H Q ⟨ι, E, A, w, A', r1, r2, e1, q⟩ => by
  unfold zaStar at e1
  cases ef : f E A with
  | none => rw [ef] at e1; cases e1
  | some p =>
    rw [ef] at e1
    simp only [Option.bind_some] at e1
    cases ei : itemsW p.2 p.1 with
    | none => rw [ei] at e1; cases e1
    | some ws =>
      rw [ei] at e1
      simp only [Option.bind_some] at e1
      cases eg : g E p.2 with
      | none => rw [eg] at e1; cases e1
      | some z =>
        rw [eg] at e1; cases e1
        refine tZ_go r1 r2 (ef.trans rfl : f E A = some (p.1, p.2)) fun x H1 ι1 g1 rx rh1 => ?_
        obtain ⟨a, xs, rfl, hq, rxs⟩ := itemsW_ok rh1 rx ei
        refine ⟨a, xs, rfl, hq, ?_⟩
        exact tZA_go (r1.up g1) rh1 (eg.trans rfl : g E p.2 = some (z.1, z.2)) fun ys H2 ι2 g2 rys rh2 => q _ H2 ι2 (g1.trans g2) ((rxs.up g2).append rys) rh2
/-! ### displays -/
def zTup (g : ZA) : ZE := fun E A => (g E A).bind fun p => if p.1.length ≤ sizeLine then some (.tup p.1, p.2) else none
def zLst (g : ZA) : ZE := fun E A => (g E A).bind fun p => if p.1.length ≤ sizeLine then some (.loc p.2.length, p.2 ++ [.lst p.1]) else none
theorem z_tup [Tabs] {x1} (h : PAZ X es g) : PZ X (.Tuple es x1 pos) (zTup g) := imp (pe_tupN h) fun σ H Q ⟨ι, E, A, w, A', r1, r2, e1, q⟩ => by
  unfold zTup at e1
  cases eg : g E A with
  | none => rw [eg] at e1; cases e1
  | some z =>
    rw [eg] at e1
    simp only [Option.bind_some] at e1
    split at e1
    · rename_i hz
      cases e1
      refine tZA_go r1 r2 (eg.trans rfl : g E A = some (z.1, z.2)) fun ys H2 ι2 g2 rys rh2 => ⟨by rw [rys.length]; exact hz, fun p o hp ho => ?_⟩
      obtain ⟨x1, x2, x3⟩ := new_tup rh2 hp ho rys
      exact q _ _ _ (g2.trans x3) x1 x2
    · cases e1
theorem z_lst [Tabs] (h : PAZ X es g) : PZ X (.List es pos) (zLst g) := imp (pe_lst h) fun σ H Q ⟨ι, E, A, w, A', r1, r2, e1, q⟩ => by
  unfold zLst at e1
  cases eg : g E A with
  | none => rw [eg] at e1; cases e1
  | some z =>
    rw [eg] at e1
    simp only [Option.bind_some] at e1
    split at e1
    · rename_i hz
      cases e1
      refine tZA_go r1 r2 (eg.trans rfl : g E A = some (z.1, z.2)) fun ys H2 ι2 g2 rys rh2 => ⟨by rw [rys.length]; exact hz, fun p hp => ?_⟩
      obtain ⟨x1, x2, x3⟩ := new_lst rh2 hp rys
      exact q _ _ _ (g2.trans x3) x1 x2
    · cases e1
end
/-! ### calls -/
abbrev ZF := List W → AH → Option (W × AH)
def spZ (K : KW) (n : Nat) (F : ZF) : Sp := fun vs H Q _ => vs.length = n ∧ ∃ ι ws A w A', RWs K H ι vs ws ∧ RH K H ι A ∧ F ws A = some (w, A') ∧ ∀ v H' ι', Gr H H' ι ι' → RW K H' ι' v w → RH K H' ι' A' → Q v H'
def zCall (n : Nat) (F : ZF) (g : ZA) : ZE := fun E A => (g E A).bind fun p => if p.1.length = n then F p.1 p.2 else none
section
variable {X : Cx} {e : Expr} {es : List Expr} {g : ZA} {pos p : Pos} {k n : Nat} {f : Addr} {fd : FuncData} {ps : List Str} {x : Str} {F : ZF}
theorem z_call [Tabs] (G : FnOk X.prog X.w X.K X.mg X.base CX0 k f fd ps (spZ X.kw n F)) (hr : Room k X.A) (hg : Gl X x) (hm : X.mg x = some (.ref f)) (hk : PySem.W.keepIn X.K (.ref f) = true) (hb : Binds X.K fd ps []) (ha : PAZ X (e :: es) g)
    (t : PE X (.Call (.Name x p) (e :: es) [] pos) (tCall (spZ X.kw n F) [] E0 (tZA X.kw g))) : PZ X (.Call (.Name x p) (e :: es) [] pos) (zCall n F g) := imp t fun σ H Q ⟨ι, E, A, w, A', r1, r2, e1, q⟩ => by
  unfold zCall at e1
  cases eg : g E A with
  | none => rw [eg] at e1; cases e1
  | some z =>
    rw [eg] at e1
    simp only [Option.bind_some] at e1
    split at e1
    · rename_i hz
      refine tZA_go r1 r2 (eg.trans rfl : g E A = some (z.1, z.2)) fun ys H2 ι2 g2 rys rh2 => ?_
      refine ⟨by rw [List.append_nil, rys.length]; exact hz, ι2, z.1, z.2, w, A', by rw [List.append_nil]; exact rys, rh2, e1, fun v H' ι' g3 => q v H' ι' (g2.trans g3)⟩
    · cases e1
end
end Z
set_option Elab.async false
set_option linter.all false
set_option maxRecDepth 100000
set_option maxHeartbeats 4000000
namespace Z
open PySem L2
/-! ### slices -/
abbrev ZO := EN → AH → Option (Option Int × AH)
def tZO (K : KW) (f : ZO) : TO := fun σ H Q => ∃ ι E A o A', RSt K H ι σ E ∧ RH K H ι A ∧ f E A = some (o, A') ∧ ∀ H' ι', Gr H H' ι ι' → RH K H' ι' A' → Q o H'
abbrev POZ [Tabs] (X : Cx) (e : Option Expr) (f : ZO) : Prop := PO X e (tZO X.kw f)
def zoNone : ZO := fun _ A => some (none, A)
def zoSome (f : ZE) : ZO := fun E A => (f E A).bind fun p => match p.1 with
  | .int i => some (some i, p.2)
  | _ => none
theorem impO {X : Cx} {e : Option Expr} {t t' : TO} (h : PO X e t) (k : ∀ σ H Q, t' σ H Q → t σ H Q) : PO X e t' := ⟨fun pins s σ H Q I q => h.run pins s σ H Q I (k σ H Q q)⟩
theorem zo_none [Tabs] {X : Cx} : POZ X none zoNone := impO po_none fun σ H Q ⟨ι, E, A, w, A', r1, r2, e, q⟩ => by
  cases e; exact q H ι .refl r2
theorem zo_some [Tabs] {X : Cx} {e : Expr} {f : ZE} (h : PZ X e f) : POZ X (some e) (zoSome f) := impO (po_some h) fun σ H Q ⟨ι, E, A, w, A', r1, r2, e, q⟩ => by
  unfold zoSome at e
  cases ef : f E A with
  | none => rw [ef] at e; cases e
  | some p =>
    rw [ef] at e
    simp only [Option.bind_some] at e
    split at e
    · rename_i i hi
      cases e
      refine tZ_go r1 r2 (by rw [ef] : f E A = some (p.1, p.2)) fun x H1 ι1 g1 rx rh1 => ?_
      rw [hi] at rx; cases rx
      exact ⟨i, rfl, q H1 ι1 g1 rh1⟩
    · cases e
def cutW (xs : List W) (lo hi : Option Int) : List W := (xs.drop (HT.sIx xs.length 0 lo)).take (HT.sIx xs.length xs.length hi - HT.sIx xs.length 0 lo)
abbrev S3 := W → Option Int → Option Int → AH → Option (W × AH)
def sSlT : S3 := fun u lo hi A => match u with
  | .tup ws => some (.tup (cutW ws lo hi), A)
  | _ => none
def sSlL : S3 := fun u lo hi A => match u with
  | .loc n => match A[n]? with
    | some (.lst ws) => some (.loc A.length, A ++ [.lst (cutW ws lo hi)])
    | _ => none
  | .frl ws => some (.loc A.length, A ++ [.lst (cutW ws lo hi)])
  | _ => none
def sSlS : S3 := fun u lo hi A => match u with
  | .str z => if z.length ≤ sizeLine then some (.str (cutS z lo hi), A) else none
  | _ => none
def R3Ok (K : KW) (r : V → Option Int → Option Int → Hp → VK → Prop) (s : S3) : Prop := ∀ H ι A x u lo hi w A' (Q : VK), RW K H ι x u → RH K H ι A → s u lo hi A = some (w, A') → (∀ z H' ι', Gr H H' ι ι' → RW K H' ι' z w → RH K H' ι' A' → Q z H') → r x lo hi H Q
section
variable {K : KW} {H : Hp} {ι : List Addr}
theorem cut_rw {xs : List V} {ws : List W} {lo hi : Option Int} (r : RWs K H ι xs ws) : RWs K H ι (cutV xs lo hi) (cutW ws lo hi) := by
  unfold cutV cutW
  rw [r.length]
  exact (r.drop _).take _
theorem ok_slT : R3Ok K (rSlN K) sSlT := by
  intro H ι A x u lo hi w A' Q h1 h3 h4 q
  unfold sSlT at h4
  split at h4
  · cases h4
    cases h1 with
    | tup a b =>
      rename_i ws p xs
      refine ⟨p, xs, rfl, a.sqt, fun ⟨e1, e2⟩ => ?_, fun _ p' o hp ho => ?_⟩
      · refine q _ H ι .refl (.tup a ?_) h3
        unfold cutW
        rw [b.length] at e1 e2
        rw [e1, e2]
        simpa using b
      · obtain ⟨x1, x2, x3⟩ := new_tup h3 hp ho (cut_rw (lo := lo) (hi := hi) b)
        exact q _ _ _ x3 x1 x2
  · cases h4
theorem ok_slL : R3Ok K (rSlL K) sSlL := by
  intro H ι A x u lo hi w A' Q h1 h3 h4 q
  unfold sSlL at h4
  split at h4
  · split at h4
    · rename_i n _ ws e
      cases h4
      cases h1 with
      | loc i1 =>
        obtain ⟨xs, a1, b1⟩ := h3.lst e i1
        refine ⟨_, xs, rfl, SqL.of a1, fun p' hp => ?_⟩
        obtain ⟨x1, x2, x3⟩ := new_lst h3 hp (cut_rw (lo := lo) (hi := hi) b1)
        exact q _ _ _ x3 x1 x2
    · cases h4
  · cases h4
    cases h1 with
    | frl a b =>
      refine ⟨_, _, rfl, a.sql, fun p' hp => ?_⟩
      obtain ⟨x1, x2, x3⟩ := new_lst h3 hp (cut_rw (lo := lo) (hi := hi) b)
      exact q _ _ _ x3 x1 x2
  · cases h4
theorem ok_slS : R3Ok K rSlS sSlS := by
  intro H ι A x u lo hi w A' Q h1 h3 h4 q
  unfold sSlS at h4
  split at h4
  · split at h4
    · rename_i hz
      cases h4; cases h1
      exact ⟨_, rfl, hz, q _ H ι .refl (.str _) h3⟩
    · cases h4
  · cases h4
end
def z3 (s : S3) (f : ZE) (lo hi : ZO) : ZE := fun E A => (f E A).bind fun p => (lo E p.2).bind fun q => (hi E q.2).bind fun z => s p.1 q.1 z.1 z.2
theorem z_sl [Tabs] {X : Cx} {e : Expr} {lo hi : Option Expr} {p2 pos : Pos} {r : V → Option Int → Option Int → Hp → VK → Prop} {s : S3} {f : ZE} {fl fh : ZO} (hr : SlR X r) (ok : R3Ok X.kw r s) (he : PZ X e f) (hl : POZ X lo fl) (hu : POZ X hi fh) :
    PZ X (.Subscript e (.Slice lo hi none p2) pos) (z3 s f fl fh) := imp (pe_slice hr he hl hu) fun σ H Q ⟨ι, E, A, w, A', r1, r2, e1, q⟩ => by
  unfold z3 at e1
  cases ef : f E A with
  | none => rw [ef] at e1; cases e1
  | some p =>
    rw [ef] at e1
    simp only [Option.bind_some] at e1
    cases el : fl E p.2 with
    | none => rw [el] at e1; cases e1
    | some z =>
      rw [el] at e1
      simp only [Option.bind_some] at e1
      cases eh : fh E z.2 with
      | none => rw [eh] at e1; cases e1
      | some y =>
        rw [eh] at e1
        simp only [Option.bind_some] at e1
        refine tZ_go r1 r2 (ef.trans rfl : f E A = some (p.1, p.2)) fun x H1 ι1 g1 rx rh1 => ?_
        refine ⟨ι1, E, p.2, z.1, z.2, r1.up g1, rh1, el.trans rfl, fun H2 ι2 g2 rh2 => ?_⟩
        refine ⟨ι2, E, z.2, y.1, y.2, (r1.up g1).up g2, rh2, eh.trans rfl, fun H3 ι3 g3 rh3 => ?_⟩
        exact ok H3 ι3 y.2 x p.1 z.1 y.1 w A' Q (rx.up (g2.trans g3)) rh3 e1 fun v H' ι' g4 => q v H' ι' (g1.trans (g2.trans (g3.trans g4)))
/-! ### built-ins -/
abbrev SN := List W → AH → Option (W × AH)
def RNOk (K : KW) (r : List V → Hp → VK → Prop) (s : SN) : Prop := ∀ H ι A xs us w A' (Q : VK), RWs K H ι xs us → RH K H ι A → s us A = some (w, A') → (∀ z H' ι', Gr H H' ι ι' → RW K H' ι' z w → RH K H' ι' A' → Q z H') → r xs H Q
def zB (s : SN) (g : ZA) : ZE := fun E A => (g E A).bind fun p => s p.1 p.2
theorem zB_go {K : KW} {r : List V → Hp → VK → Prop} {s : SN} {g : ZA} (ok : RNOk K r s) {σ : St} {H : Hp} {Q : VK} (h : tZ K (zB s g) σ H Q) : tCB r (tZA K g) σ H Q := by
  obtain ⟨ι, E, A, w, A', r1, r2, e1, q⟩ := h
  unfold zB at e1
  cases eg : g E A with
  | none => rw [eg] at e1; cases e1
  | some z =>
    rw [eg] at e1
    simp only [Option.bind_some] at e1
    refine tZA_go r1 r2 (eg.trans rfl : g E A = some (z.1, z.2)) fun ys H2 ι2 g2 rys rh2 => ?_
    exact ok H2 ι2 z.2 ys z.1 w A' Q rys rh2 e1 fun v H' ι' g3 => q v H' ι' (g2.trans g3)
section
variable {X : Cx} {x : Str} {p pos : Pos} {e : Expr} {es : List Expr} {g : ZA} {id T : String} {r : List V → Hp → VK → Prop} {s : SN}
theorem z_bi [Tabs] (hc : CallR X (.builtin id) r) (ok : RNOk X.kw r s) (hg : Gl X x) (hm : X.mg x = none) (hv : bootBuiltins x = some (.builtin id)) (ha : PAZ X (e :: es) g) (hn : x ≠ "__name__" := by decide) (hdb : (x == ("__debug__" : Str)) = false := by decide)
    (he : starEach (e :: es) X.env = (false, eval e X.env) :: starEach es X.env := by rfl) (hpl : (backTo pos (starEach es X.env)).any (·.1) = false := by rfl) : PZ X (.Call (.Name x p) (e :: es) [] pos) (zB s g) :=
  imp (pe_callB hc hg hm hv ha hn hdb he hpl) fun σ H Q q => zB_go ok q
theorem z_ty [Tabs] (hc : CallR X (.type T) r) (ok : RNOk X.kw r s) (hg : Gl X x) (hm : X.mg x = none) (hv : bootBuiltins x = some (.type T)) (ha : PAZ X (e :: es) g) (hn : x ≠ "__name__" := by decide) (hdb : (x == ("__debug__" : Str)) = false := by decide)
    (he : starEach (e :: es) X.env = (false, eval e X.env) :: starEach es X.env := by rfl) (hpl : (backTo pos (starEach es X.env)).any (·.1) = false := by rfl) : PZ X (.Call (.Name x p) (e :: es) [] pos) (zB s g) :=
  imp (pe_callTy hc hg hm hv ha hn hdb he hpl) fun σ H Q q => zB_go ok q
theorem z_ty0 [Tabs] (hc : CallR X (.type T) r) (ok : RNOk X.kw r s) (hg : Gl X x) (hm : X.mg x = none) (hv : bootBuiltins x = some (.type T)) (hn : x ≠ "__name__" := by decide) (hdb : (x == ("__debug__" : Str)) = false := by decide) :
    PZ X (.Call (.Name x p) [] [] pos) (zB s zaNil) := imp (pe_callTy0 hc hg hm hv hn hdb) fun σ H Q ⟨ι, E, A, w, A', r1, r2, e1, q⟩ => ok H ι A [] [] w A' Q .nil r2 e1 q
/-- a call of an own def -/
theorem z_fn [Tabs] {k n : Nat} {f : Addr} {fd : FuncData} {ps : List Str} {F : ZF} (G : FnOk X.prog X.w X.K X.mg X.base CX0 k f fd ps (spZ X.kw n F)) (hr : Room k X.A) (hg : Gl X x) (hm : X.mg x = some (.ref f)) (hk : PySem.W.keepIn X.K (.ref f) = true) (hb : Binds X.K fd ps []) (ha : PAZ X (e :: es) g)
    (hdb : (x == ("__debug__" : Str)) = false := by decide) (he : starEach (e :: es) X.env = (false, eval e X.env) :: starEach es X.env := by rfl) (hpl : (backTo pos (starEach es X.env)).any (·.1) = false := by rfl) : PZ X (.Call (.Name x p) (e :: es) [] pos) (zCall n F g) :=
  z_call G hr hg hm hk hb ha (pe_call G hr hg hm hk hb .nil pass0 ha hdb he hpl)
end
section
variable {K : KW}
def sLen : SN := fun us A => match us with
  | [.str z] => if z.length ≤ sizeLine then some (.int z.length, A) else none
  | [w] => (itemsW A w).map fun ws => (.int ws.length, A)
  | _ => none
theorem ok_len : RNOk K (fun xs H Q => ∃ x n, xs = [x] ∧ LenV K x H n ∧ Q (.int n) H) sLen := by
  intro H ι A xs us w A' Q h1 h3 h4 q
  unfold sLen at h4
  split at h4
  · split at h4
    · rename_i hz
      cases h4
      cases h1 with
      | cons a b => cases b; cases a; exact ⟨_, _, rfl, ⟨hz, rfl⟩, q _ H ι .refl (.int _) h3⟩
    · cases h4
  · rename_i u _ 
    cases e : itemsW A u with
    | none => rw [e] at h4; cases h4
    | some ws =>
      rw [e] at h4; cases h4
      cases h1 with
      | cons a b =>
        cases b
        obtain ⟨p, ys, rfl, hq, rr⟩ := itemsW_ok h3 a e
        refine ⟨_, ys.length, rfl, ?_, by rw [rr.length]; exact q _ H ι .refl (.int _) h3⟩
        rcases hq with hq | hq
        · exact .inl ⟨ys, hq, rfl⟩
        · exact .inr ⟨ys, hq, rfl⟩
  · cases h4
def sInt : SN := fun us A => match us with
  | [.int i] => some (.int i, A)
  | [.bl k] => some (.int (if k then 1 else 0), A)
  | _ => none
theorem ok_int : RNOk K (fun xs H Q => (∃ i, xs = [.int i] ∧ Q (.int i) H) ∨ ∃ k, xs = [.bl k] ∧ Q (.int (if k then 1 else 0)) H) sInt := by
  intro H ι A xs us w A' Q h1 h3 h4 q
  unfold sInt at h4
  split at h4
  · cases h4
    cases h1 with
    | cons a b => cases b; cases a; exact .inl ⟨_, rfl, q _ H ι .refl (.int _) h3⟩
  · cases h4
    cases h1 with
    | cons a b => cases b; cases a; exact .inr ⟨_, rfl, q _ H ι .refl (.int _) h3⟩
  · cases h4
def sAbs : SN := fun us A => match us with
  | [.int i] => some (.int (if i < 0 then -i else i), A)
  | _ => none
theorem ok_abs : RNOk K (fun xs H Q => ∃ i, xs = [.int i] ∧ Q (.int (if i < 0 then -i else i)) H) sAbs := by
  intro H ι A xs us w A' Q h1 h3 h4 q
  unfold sAbs at h4
  split at h4
  · cases h4
    cases h1 with
    | cons a b => cases b; cases a; exact ⟨_, rfl, q _ H ι .refl (.int _) h3⟩
  · cases h4
def sStrI : SN := fun us A => match us with
  | [.int i] => if i.natAbs.log2 < 1920 then some (.str (toString i), A) else none
  | _ => none
theorem ok_strI : RNOk K (fun xs H Q => ∃ i, xs = [.int i] ∧ i.natAbs.log2 < 1920 ∧ Q (.str (toString i)) H) sStrI := by
  intro H ι A xs us w A' Q h1 h3 h4 q
  unfold sStrI at h4
  split at h4
  · split at h4
    · rename_i hz
      cases h4
      cases h1 with
      | cons a b => cases b; cases a; exact ⟨_, rfl, hz, q _ H ι .refl (.str _) h3⟩
    · cases h4
  · cases h4
def sStrS : SN := fun us A => match us with
  | [.str i] => some (.str i, A)
  | _ => none
theorem ok_strS : RNOk K (fun xs H Q => ∃ a, xs = [.str a] ∧ Q (.str a) H) sStrS := by
  intro H ι A xs us w A' Q h1 h3 h4 q
  unfold sStrS at h4
  split at h4
  · cases h4
    cases h1 with
    | cons a b => cases b; cases a; exact ⟨_, rfl, q _ H ι .refl (.str _) h3⟩
  · cases h4
def sList : SN := fun us A => match us with
  | [w] => (itemsW A w).map fun ws => (.loc A.length, A ++ [.lst ws])
  | _ => none
theorem ok_list : RNOk K (fun xs H Q => ∃ p ys, xs = [.ref p] ∧ (SqL K H p ys ∨ SqT K H p ys) ∧ ∀ l, H l = none → Q (.ref l) (upd H l (.lst ys))) sList := by
  intro H ι A xs us w A' Q h1 h3 h4 q
  unfold sList at h4
  split at h4
  · rename_i u
    cases e : itemsW A u with
    | none => rw [e] at h4; cases h4
    | some ws =>
      rw [e] at h4; cases h4
      cases h1 with
      | cons a b =>
        cases b
        obtain ⟨p, ys, rfl, hq, rr⟩ := itemsW_ok h3 a e
        refine ⟨p, ys, rfl, hq, fun l hl => ?_⟩
        obtain ⟨x1, x2, x3⟩ := new_lst h3 hl rr
        exact q _ _ _ x3 x1 x2
  · cases h4
def sTuple : SN := fun us A => match us with
  | [.tup ws] => some (.tup ws, A)
  | [.loc n] => match A[n]? with
    | some (.lst ws) => some (.tup ws, A)
    | _ => none
  | [.frl ws] => some (.tup ws, A)
  | _ => none
theorem ok_tuple : RNOk K (fun xs H Q => ∃ p ys, xs = [.ref p] ∧ ((SqL K H p ys ∧ ∀ l o, H l = none → o.dict = none → Q (.ref l) (upd H l (.frz o (.tup ys)))) ∨ (SqT K H p ys ∧ Q (.ref p) H))) sTuple := by
  intro H ι A xs us w A' Q h1 h3 h4 q
  unfold sTuple at h4
  split at h4
  · cases h4
    cases h1 with
    | cons a b =>
      cases b
      cases a with
      | tup c d => exact ⟨_, _, rfl, .inr ⟨c.sqt, q _ H ι .refl (.tup c d) h3⟩⟩
  · split at h4
    · rename_i n _ ws e
      cases h4
      cases h1 with
      | cons a b =>
        cases b
        cases a with
        | loc i =>
          obtain ⟨ys, a1, b1⟩ := h3.lst e i
          refine ⟨_, ys, rfl, .inl ⟨SqL.of a1, fun l o hl ho => ?_⟩⟩
          obtain ⟨x1, x2, x3⟩ := new_tup h3 hl ho b1
          exact q _ _ _ x3 x1 x2
    · cases h4
  · cases h4
    cases h1 with
    | cons a b =>
      cases b
      cases a with
      | frl c d =>
        refine ⟨_, _, rfl, .inl ⟨c.sql, fun l o hl ho => ?_⟩⟩
        obtain ⟨x1, x2, x3⟩ := new_tup h3 hl ho d
        exact q _ _ _ x3 x1 x2
  · cases h4
/-- isinstance with a built-in type -/
def tyW (A : AH) : W → Option String
  | .non => some "NoneType"
  | .bl _ => some "bool"
  | .int _ => some "int"
  | .str _ => some "str"
  | .tup _ => some "tuple"
  | .frl _ => some "list"
  | .loc n => match A[n]? with
    | some (.lst _) => some "list"
    | some (.dic _) => some "dict"
    | _ => none
  | .ty _ => none
theorem tyW_ok {H : Hp} {ι : List Addr} {A : AH} {v : V} {w : W} {T : String} (h3 : RH K H ι A) (h : RW K H ι v w) (e : tyW A w = some T) : TyX K H v (.type T) := by
  cases h with
  | non => cases e; exact .base .non
  | bl b => cases e; exact .base (.bl b)
  | int b => cases e; exact .base (.int b)
  | str b => cases e; exact .base (.str b)
  | ty b => cases e
  | tup a b =>
    cases e
    rcases a with ⟨o, a, _⟩ | ⟨o, its, n, a, c, _⟩
    · exact .fTuple a
    · exact .kTuple a c
  | frl a b =>
    cases e
    rcases a with ⟨o, a⟩ | ⟨o, its, n, a, c, _⟩
    · exact .base (.frz a)
    · exact .kList a c
  | loc i =>
    simp only [tyW] at e
    split at e
    · rename_i ws hw
      cases e
      obtain ⟨xs, a1, b1⟩ := h3.lst hw i
      exact .base (.lst a1)
    · rename_i ws hw
      cases e
      obtain ⟨kvs, a1, b1, b2⟩ := (h3.ok _ _ _ hw i : RO K H ι _ (.dic ws))
      exact .base (.dK a1)
    · cases e
def sIsi : SN := fun us A => match us with
  | [w, .ty n] => (tyW A w).bind fun t => (kitB t n).map fun b => (.bl b, A)
  | _ => none
theorem ok_isi : RNOk K (rIsi K) sIsi := by
  intro H ι A xs us w A' Q h1 h3 h4 q
  unfold sIsi at h4
  split at h4
  · rename_i u n
    cases e : tyW A u with
    | none => rw [e] at h4; cases h4
    | some t =>
      rw [e] at h4
      simp only [Option.bind_some] at h4
      cases e2 : kitB t n with
      | none => rw [e2] at h4; cases h4
      | some b =>
        rw [e2] at h4; cases h4
        cases h1 with
        | cons a c =>
          cases c with
          | cons c d =>
            cases d; cases c
            exact ⟨_, _, _, _, b, rfl, .ty n, tyW_ok h3 a e, kit_ty e2, q _ H ι .refl (.bl _) h3⟩
  · cases h4
end
theorem z_tyname [Tabs] {X : Cx} {x : Str} {n : String} {pos : Pos} (hg : Gl X x) (hm : X.mg x = none) (hv : bootBuiltins x = some (.type n)) (hn : x ≠ "__name__" := by decide) (hd : (x == ("__debug__" : Str)) = false := by decide) : PZ X (.Name x pos) (zC (.ty n)) :=
  z_c (pe_bltn (v := .ty n) hg hm hv rfl hn hd) fun _ _ => .ty n
/-! ### methods -/
abbrev SM := W → List W → AH → Option (W × AH)
def RMOk (K : KW) (T : String) (r : V → List V → Hp → VK → Prop) (s : SM) (ok : W → AH → Prop) : Prop :=
  (∀ H ι A x u, RW K H ι x u → RH K H ι A → ok u A → tyV K T x H) ∧
  ∀ H ι A x u xs us w A' (Q : VK), RW K H ι x u → RWs K H ι xs us → RH K H ι A → s u us A = some (w, A') → (∀ z H' ι', Gr H H' ι ι' → RW K H' ι' z w → RH K H' ι' A' → Q z H') → r x xs H Q
/-- receiver, a test of its type, the arguments, the method -/
def zM (tst : W → AH → Bool) (s : SM) (f : ZE) (g : ZA) : ZE := fun E A => (f E A).bind fun p => if tst p.1 p.2 = true then (g E p.2).bind fun q => s p.1 q.1 q.2 else none
theorem zM_go {K : KW} {T : String} {r : V → List V → Hp → VK → Prop} {s : SM} {tst : W → AH → Bool} {f : ZE} {g : ZA} (ok : RMOk K T r s (fun u A => tst u A = true)) {σ : St} {H : Hp} {Q : VK} (h : tZ K (zM tst s f g) σ H Q) : tBM K T r (tZ K f) (tZA K g) σ H Q := by
  obtain ⟨ι, E, A, w, A', r1, r2, e1, q⟩ := h
  unfold zM at e1
  cases ef : f E A with
  | none => rw [ef] at e1; cases e1
  | some p =>
    rw [ef] at e1
    simp only [Option.bind_some] at e1
    split at e1
    · rename_i ht
      cases eg : g E p.2 with
      | none => rw [eg] at e1; cases e1
      | some z =>
        rw [eg] at e1
        simp only [Option.bind_some] at e1
        refine tZ_go r1 r2 (ef.trans rfl : f E A = some (p.1, p.2)) fun x H1 ι1 g1 rx rh1 => ⟨ok.1 H1 ι1 p.2 x p.1 rx rh1 ht, ?_⟩
        refine tZA_go (r1.up g1) rh1 (eg.trans rfl : g E p.2 = some (z.1, z.2)) fun ys H2 ι2 g2 rys rh2 => ?_
        exact ok.2 H2 ι2 z.2 x p.1 ys z.1 w A' Q (rx.up g2) rys rh2 e1 fun v H' ι' g3 => q v H' ι' (g1.trans (g2.trans g3))
    · cases e1
theorem zM0_go {K : KW} {T : String} {r : V → List V → Hp → VK → Prop} {s : SM} {tst : W → AH → Bool} {f : ZE} (ok : RMOk K T r s (fun u A => tst u A = true)) {σ : St} {H : Hp} {Q : VK} (h : tZ K (zM tst s f zaNil) σ H Q) : tBM0 K T r (tZ K f) σ H Q := by
  obtain ⟨ι, E, A, w, A', r1, r2, e1, q⟩ := h
  unfold zM at e1
  cases ef : f E A with
  | none => rw [ef] at e1; cases e1
  | some p =>
    rw [ef] at e1
    simp only [Option.bind_some] at e1
    split at e1
    · rename_i ht
      simp only [zaNil, Option.bind_some] at e1
      refine tZ_go r1 r2 (ef.trans rfl : f E A = some (p.1, p.2)) fun x H1 ι1 g1 rx rh1 => ⟨ok.1 H1 ι1 p.2 x p.1 rx rh1 ht, ?_⟩
      exact ok.2 H1 ι1 p.2 x p.1 [] [] w A' Q rx .nil rh1 e1 fun v H' ι' g3 => q v H' ι' (g1.trans g3)
    · cases e1
section
variable {X : Cx} {o e : Expr} {es : List Expr} {f : ZE} {g : ZA} {name : Str} {apos cpos : Pos} {T id : String} {r : V → List V → Hp → VK → Prop} {s : SM} {tst : W → AH → Bool}
theorem z_m [Tabs] (pa : PlainAttrs T) (slot : Slot T name id) (hty : typeOf (.builtin id) = pure (.type "method_descriptor")) (hm : MtR X id r) (ok : RMOk X.kw T r s (fun u A => tst u A = true)) (ho : PZ X o f) (ha : PAZ X (e :: es) g)
    (hbase : attributeBase o name X.env (eval o X.env) = eval o X.env := by rfl)
    (hfew : ((backTo cpos (starEach (e :: es) X.env)).all (fun x => !x.1) && (backToKw cpos (keywordEach [] X.env)).all (fun x => x.1.isSome)
      && decide ((e :: es).length + ([] : List Keyword).length + (if ([] : List Keyword).isEmpty then 0 else 1) < 30)) = true := by rfl)
    (hline : (apos.endLine == cpos.line) = true := by rfl) (hs : starEach (e :: es) X.env = (false, eval e X.env) :: starEach es X.env := by rfl) (hplain : (backTo cpos (starEach es X.env)).any (·.1) = false := by rfl) :
    PZ X (.Call (.Attribute o name apos) (e :: es) [] cpos) (zM tst s f g) := imp (pe_bm pa slot hty hm ho ha hbase hfew hline hs hplain) fun σ H Q q => zM_go ok q
theorem z_m0 [Tabs] (pa : PlainAttrs T) (slot : Slot T name id) (hty : typeOf (.builtin id) = pure (.type "method_descriptor")) (hm : MtR X id r) (ok : RMOk X.kw T r s (fun u A => tst u A = true)) (ho : PZ X o f)
    (hbase : attributeBase o name X.env (eval o X.env) = eval o X.env := by rfl) (hline : (apos.endLine == cpos.line) = true := by rfl) :
    PZ X (.Call (.Attribute o name apos) [] [] cpos) (zM tst s f zaNil) := imp (pe_bm0 pa slot hty hm ho hbase hline) fun σ H Q q => zM0_go ok q
end
def isLstB (u : W) (A : AH) : Bool := match u with
  | .loc n => match A[n]? with
    | some (.lst _) => true
    | _ => false
  | _ => false
theorem isLst_ok {K : KW} : ∀ H ι A x u, RW K H ι x u → RH K H ι A → isLstB u A = true → tyV K "list" x H := by
  intro H ι A x u h1 h3 h
  unfold isLstB at h
  split at h
  · split at h
    · rename_i n _ ws e
      cases h1 with
      | loc i =>
        obtain ⟨ys, a1, b1⟩ := h3.lst e i
        exact .inl ⟨rfl, ys, SqL.of a1⟩
    · cases h
  · cases h
theorem RH.setL {K : KW} {H : Hp} {ι : List Addr} {A : AH} {n : Nat} {a : Addr} {xs : List V} {ws ws' : List W} {ys : List V} (h3 : RH K H ι A) (hi : ι[n]? = some a) (hx : H a = some (.lst ys)) (r : RWs K H ι xs ws) :
    RH K (upd H a (.lst xs)) ι (A.set n (.lst ws)) ∧ Gr H (upd H a (.lst xs)) ι ι := by
  have g : Gr H (upd H a (.lst xs)) ι ι := Gr.put ⟨_, hx, trivial⟩ _
  exact ⟨h3.put hi ⟨_, hx, trivial⟩ ⟨xs, upd_same, r.up g⟩, g⟩
def sAppend : SM := fun u us A => match u, us with
  | .loc n, [w] => match A[n]? with
    | some (.lst ws) => if ws.length < sizeLine then some (.non, A.set n (.lst (ws ++ [w]))) else none
    | _ => none
  | _, _ => none
theorem ok_append {K : KW} : RMOk K "list" rAppend sAppend (fun u A => isLstB u A = true) := by
  refine ⟨isLst_ok, ?_⟩
  intro H ι A x u xs us w A' Q h1 h2 h3 h4 q
  unfold sAppend at h4
  split at h4
  · split at h4
    · rename_i n w _ ws e
      split at h4
      · rename_i hz
        cases h4
        cases h1 with
        | loc i =>
          cases h2 with
          | cons a b =>
            cases b
            obtain ⟨ys, a1, b1⟩ := h3.lst e i
            obtain ⟨x2, x3⟩ := h3.setL (ws' := ws) i a1 (b1.append (.cons a .nil))
            exact ⟨_, ys, _, rfl, rfl, a1, by rw [b1.length]; exact hz, q _ _ _ x3 .non x2⟩
      · cases h4
    · cases h4
  · cases h4
def sExtend : SM := fun u us A => match u, us with
  | .loc n, [.loc m] => match A[n]?, A[m]? with
    | some (.lst ws), some (.lst zs) => if ws.length + zs.length ≤ sizeLine then some (.non, A.set n (.lst (ws ++ zs))) else none
    | _, _ => none
  | _, _ => none
theorem ok_extend {K : KW} : RMOk K "list" rExtend sExtend (fun u A => isLstB u A = true) := by
  refine ⟨isLst_ok, ?_⟩
  intro H ι A x u xs us w A' Q h1 h2 h3 h4 q
  unfold sExtend at h4
  split at h4
  · split at h4
    · rename_i n m _ _ ws zs e e2
      split at h4
      · rename_i hz
        cases h4
        cases h1 with
        | loc i =>
          cases h2 with
          | cons a b =>
            cases b
            cases a with
            | loc i2 =>
              obtain ⟨ys, a1, b1⟩ := h3.lst e i
              obtain ⟨us, a2, b2⟩ := h3.lst e2 i2
              obtain ⟨x2, x3⟩ := h3.setL (ws' := ws) i a1 (b1.append b2)
              exact ⟨_, _, ys, us, rfl, rfl, a1, a2, by rw [b1.length, b2.length]; exact hz, q _ _ _ x3 .non x2⟩
      · cases h4
    · cases h4
  · cases h4
def sPop : SM := fun u us A => match u, us with
  | .loc n, [] => match A[n]? with
    | some (.lst ws) => (ws[ws.length - 1]?).map fun w => (w, A.set n (.lst ws.dropLast))
    | _ => none
  | _, _ => none
theorem ok_pop {K : KW} : RMOk K "list" rPop sPop (fun u A => isLstB u A = true) := by
  refine ⟨isLst_ok, ?_⟩
  intro H ι A x u xs us w A' Q h1 h2 h3 h4 q
  unfold sPop at h4
  split at h4
  · split at h4
    · rename_i n _ ws e
      cases e2 : ws[ws.length - 1]? with
      | none => rw [e2] at h4; cases h4
      | some z =>
        rw [e2] at h4; cases h4
        cases h1 with
        | loc i =>
          cases h2
          obtain ⟨ys, a1, b1⟩ := h3.lst e i
          obtain ⟨x2, x3⟩ := h3.setL (ws' := ws) i a1 b1.dropLast
          obtain ⟨v, c1, c2⟩ := b1.get e2
          exact ⟨_, ys, v, rfl, rfl, a1, by rw [b1.length]; exact c1, q _ _ _ x3 (c2.up x3) x2⟩
    · cases h4
  · cases h4
def sPopAt : SM := fun u us A => match u, us with
  | .loc n, [.int i] => match A[n]? with
    | some (.lst ws) => if -(2 ^ 63) ≤ i ∧ i < 2 ^ 63 then (PySem.seqIndex? i ws.length).bind fun k => (ws[k]?).map fun w => (w, A.set n (.lst (ws.eraseIdx k))) else none
    | _ => none
  | _, _ => none
theorem ok_popAt {K : KW} : RMOk K "list" rPopAt sPopAt (fun u A => isLstB u A = true) := by
  refine ⟨isLst_ok, ?_⟩
  intro H ι A x u xs us w A' Q h1 h2 h3 h4 q
  unfold sPopAt at h4
  split at h4
  · split at h4
    · rename_i n j _ ws e
      split at h4
      · rename_i hj
        cases e3 : PySem.seqIndex? j ws.length with
        | none => rw [e3] at h4; cases h4
        | some k =>
          rw [e3] at h4
          simp only [Option.bind_some] at h4
          cases e2 : ws[k]? with
          | none => rw [e2] at h4; cases h4
          | some z =>
            rw [e2] at h4; cases h4
            cases h1 with
            | loc i =>
              cases h2 with
              | cons a b =>
                cases b; cases a
                obtain ⟨ys, a1, b1⟩ := h3.lst e i
                obtain ⟨x2, x3⟩ := h3.setL (ws' := ws) i a1 (b1.eraseIdx k)
                obtain ⟨v, c1, c2⟩ := b1.get e2
                exact ⟨_, ys, j, k, v, rfl, rfl, a1, hj.1, hj.2, by rw [b1.length]; exact e3, c1, q _ _ _ x3 (c2.up x3) x2⟩
      · cases h4
    · cases h4
  · cases h4
def sInsert : SM := fun u us A => match u, us with
  | .loc n, [.int i, w] => match A[n]? with
    | some (.lst ws) => if ws.length < sizeLine ∧ 0 ≤ i ∧ i < 2 ^ 63 then some (.non, A.set n (.lst (ws.take i.toNat ++ [w] ++ ws.drop i.toNat))) else none
    | _ => none
  | _, _ => none
theorem ok_insert {K : KW} : RMOk K "list" (fun x vs H Q => ∃ (l : Addr) (xs : List V) (i : Int) (y : V), x = .ref l ∧ vs = [.int i, y] ∧ H l = some (.lst xs) ∧ xs.length < sizeLine ∧ 0 ≤ i ∧ i < 2 ^ 63 ∧
    Q .non (upd H l (.lst (xs.take i.toNat ++ [y] ++ xs.drop i.toNat)))) sInsert (fun u A => isLstB u A = true) := by
  refine ⟨isLst_ok, ?_⟩
  intro H ι A x u xs us w A' Q h1 h2 h3 h4 q
  unfold sInsert at h4
  split at h4
  · split at h4
    · rename_i n j w _ ws e
      split at h4
      · rename_i hj
        cases h4
        cases h1 with
        | loc i =>
          cases h2 with
          | cons a b =>
            cases b with
            | cons b c =>
              cases c; cases a
              obtain ⟨ys, a1, b1⟩ := h3.lst e i
              obtain ⟨x2, x3⟩ := h3.setL (ws' := ws) i a1 (((b1.take j.toNat).append (.cons b .nil)).append (b1.drop j.toNat))
              exact ⟨_, ys, j, _, rfl, rfl, a1, by rw [b1.length]; exact hj.1, hj.2.1, hj.2.2, q _ _ _ x3 .non x2⟩
      · cases h4
    · cases h4
  · cases h4
end Z
set_option Elab.async false
set_option linter.all false
set_option maxRecDepth 100000
set_option maxHeartbeats 4000000
namespace Z
open PySem L2
/-! ### targets: names, tuples of targets -/
inductive Tg where
  | name (i : Nat) | tup (ts : List Tg)
mutual
def gOf (K : PySem.W.Frag) : Tg → TG
  | .name i => gName i
  | .tup ts => gTup K ts.length (gsOf K ts)
def gsOf (K : PySem.W.Frag) : List Tg → TGs
  | [] => gNil
  | t :: ts => gCons (gOf K t) (gsOf K ts)
end
mutual
def asg : Tg → W → EN → Option EN
  | .name i, w, E => some (E.set i (some w))
  | .tup ts, w, E => match w with
    | .tup ws => asgs ts ws E
    | _ => none
def asgs : List Tg → List W → EN → Option EN
  | [], [], E => some E
  | t :: ts, w :: ws, E => (asg t w E).bind fun E1 => asgs ts ws E1
  | _, _, _ => none
end
mutual
def slotsT : Tg → List Nat
  | .name i => [i]
  | .tup ts => slotsTs ts
def slotsTs : List Tg → List Nat
  | [] => []
  | t :: ts => slotsT t ++ slotsTs ts
end
theorem asgs_len : ∀ {ts : List Tg} {ws : List W} {E E' : EN}, asgs ts ws E = some E' → ws.length = ts.length
  | [], [], _, _, _ => rfl
  | [], _ :: _, _, _, h => by simp [asgs] at h
  | _ :: _, [], _, _, h => by simp [asgs] at h
  | t :: ts, w :: ws, E, E', h => by
    unfold asgs at h
    cases e : asg t w E with
    | none => rw [e] at h; cases h
    | some E1 =>
      rw [e] at h
      simp only [Option.bind_some] at h
      simp [asgs_len h]
theorem set_none_some {σ : St} {i : Nat} {v : Option V} : (σ.set i v).set i none = σ.set i none := by simp
theorem wipe_set {σ : St} {i : Nat} {v : Option V} : ∀ {vs : List Nat}, i ∈ vs → wipe (σ.set i v) vs = wipe σ vs
  | [], h => by cases h
  | u :: us, h => by
    by_cases e : i ∈ us
    · show (wipe (σ.set i v) us).set u none = (wipe σ us).set u none
      rw [wipe_set e]
    · have hu : i = u := by
        rcases List.mem_cons.mp h with z | z
        · exact z
        · exact absurd z e
      subst hu
      have sw : ∀ (ks : List Nat) (τ : St), i ∉ ks → wipe (τ.set i v) ks = (wipe τ ks).set i v := by
        intro ks
        induction ks with
        | nil => intro τ _; rfl
        | cons k r ih =>
          intro τ hk
          simp only [List.mem_cons, not_or] at hk
          show (wipe (τ.set i v) r).set k none = ((wipe τ r).set k none).set i v
          rw [ih τ hk.2, List.set_comm _ _ (fun z => hk.1 z)]
      show (wipe (σ.set i v) us).set i none = (wipe σ us).set i none
      rw [sw us σ e]
      exact set_none_some
section
variable {K : KW} {H : Hp} {ι : List Addr}
mutual
theorem asg_go : ∀ (t : Tg) {v : V} {w : W} {σ : St} {E E' : EN} {Q : St → Hp → Prop}, RSt K H ι σ E → RW K H ι v w → asg t w E = some E' → (∀ σ', RSt K H ι σ' E' → (∀ vs, (∀ i ∈ slotsT t, i ∈ vs) → wipe σ' vs = wipe σ vs) → Q σ' H) → gOf K t v σ H Q
  | .name i, v, w, σ, E, E', Q, r, rw', e, q => by
    unfold asg at e
    cases e
    unfold gOf
    exact q _ (r.set rw') fun vs hs => wipe_set (hs i (by simp [slotsT]))
  | .tup ts, v, w, σ, E, E', Q, r, rw', e, q => by
    unfold asg at e
    cases rw' with
    | tup a b =>
      rename_i p xs ws
      simp only at e
      have hl := asgs_len e
      unfold gOf
      refine ⟨p, xs, rfl, a.sqt, by rw [b.length]; exact hl, ?_⟩
      exact asgs_go ts r b e fun σ' r' hs => q σ' r' fun vs hv => hs vs (by simpa [slotsT] using hv)
    | _ => cases e
theorem asgs_go : ∀ (ts : List Tg) {xs : List V} {ws : List W} {σ : St} {E E' : EN} {Q : St → Hp → Prop}, RSt K H ι σ E → RWs K H ι xs ws → asgs ts ws E = some E' → (∀ σ', RSt K H ι σ' E' → (∀ vs, (∀ i ∈ slotsTs ts, i ∈ vs) → wipe σ' vs = wipe σ vs) → Q σ' H) → gsOf K ts xs σ H Q
  | [], xs, ws, σ, E, E', Q, r, rs, e, q => by
    cases rs with
    | nil =>
      unfold asgs at e; cases e
      unfold gsOf
      exact ⟨rfl, q σ r fun _ _ => rfl⟩
    | cons _ _ => simp [asgs] at e
  | t :: ts, xs, ws, σ, E, E', Q, r, rs, e, q => by
    cases rs with
    | nil => simp [asgs] at e
    | cons r1 r2 =>
      unfold asgs at e
      rename_i v vs w ws
      cases ea : asg t w E with
      | none => rw [ea] at e; cases e
      | some E1 =>
        rw [ea] at e
        simp only [Option.bind_some] at e
        unfold gsOf
        refine ⟨_, _, rfl, ?_⟩
        refine asg_go t r r1 ea fun σ1 r' h1 => ?_
        refine asgs_go ts r' r2 e fun σ2 r'' h2 => q σ2 r'' fun us hu => ?_
        rw [h2 us (fun i hi => hu i (by simp [slotsTs, hi])), h1 us (fun i hi => hu i (by simp [slotsTs, hi]))]
end
end
/-! ### statements -/
inductive Out where
  | nx (E : EN) | rt (w : W) | bk (E : EN) | ct (E : EN)
abbrev ZS := EN → AH → Option (Out × AH)
def fin (K : KW) (D : Ends) (H : Hp) (ι : List Addr) : Out → Prop
  | .nx E => ∀ σ, RSt K H ι σ E → D.nx σ H
  | .rt w => ∀ v, RW K H ι v w → D.rt v H
  | .bk E => ∀ σ, RSt K H ι σ E → D.bk σ H
  | .ct E => ∀ σ, RSt K H ι σ E → D.ct σ H
def tZS (K : KW) (g : ZS) : TS := fun D σ H => ∃ ι E A o A', RSt K H ι σ E ∧ RH K H ι A ∧ g E A = some (o, A') ∧ ∀ H' ι', Gr H H' ι ι' → RH K H' ι' A' → fin K D H' ι' o
abbrev PSZ [Tabs] (X : Cx) (st : Stmt) (g : ZS) : Prop := PS X st (tZS X.kw g)
abbrev PSsZ [Tabs] (X : Cx) (st : List Stmt) (g : ZS) : Prop := PSs X st (tZS X.kw g)
theorem impS {X : Cx} {e : Stmt} {t t' : TS} (h : PS X e t) (k : ∀ D σ H, t' D σ H → t D σ H) : PS X e t' := ⟨fun pins s σ H D I q => h.run pins s σ H D I (k D σ H q)⟩
theorem impSs {X : Cx} {e : List Stmt} {t t' : TS} (h : PSs X e t) (k : ∀ D σ H, t' D σ H → t D σ H) : PSs X e t' := ⟨fun pins s σ H D I q => h.run pins s σ H D I (k D σ H q)⟩
theorem tZS_go {K : KW} {g : ZS} {σ : St} {H : Hp} {D : Ends} {ι : List Addr} {E : EN} {A A' : AH} {o : Out} (r : RSt K H ι σ E) (h : RH K H ι A) (e : g E A = some (o, A')) (q : ∀ H' ι', Gr H H' ι ι' → RH K H' ι' A' → fin K D H' ι' o) : tZS K g D σ H := ⟨ι, E, A, o, A', r, h, e, q⟩
def zsSkip : ZS := fun E A => some (.nx E, A)
def zsBreak : ZS := fun E A => some (.bk E, A)
def zsCont : ZS := fun E A => some (.ct E, A)
def zsSeq (g h : ZS) : ZS := fun E A => (g E A).bind fun p => match p.1 with
  | .nx E1 => h E1 p.2
  | o => some (o, p.2)
def zsDrop (f : ZE) : ZS := fun E A => (f E A).map fun p => (.nx E, p.2)
def zsRet (f : ZE) : ZS := fun E A => (f E A).map fun p => (.rt p.1, p.2)
def zsRetN : ZS := fun _ A => some (.rt .non, A)
def zsIf (c : ZB) (g h : ZS) : ZS := fun E A => (c E A).bind fun p => if p.1 = true then g E p.2 else h E p.2
def zsAsg (f : ZE) (t : Tg) : ZS := fun E A => (f E A).bind fun p => (asg t p.1 E).map fun E' => (.nx E', p.2)
section
variable {X : Cx} {pos : Pos} {e : Expr} {f : ZE} {st : Stmt} {rest a b : List Stmt} {g h : ZS}
theorem zs_nil [Tabs] : PSsZ X [] zsSkip := impSs pss_nil fun D σ H ⟨ι, E, A, o, A', r1, r2, e, q⟩ => by
  cases e; exact q H ι .refl r2 σ r1
theorem zs_pass [Tabs] : PSZ X (.Pass pos) zsSkip := impS ps_pass fun D σ H ⟨ι, E, A, o, A', r1, r2, e, q⟩ => by
  cases e; exact q H ι .refl r2 σ r1
theorem zs_break [Tabs] : PSZ X (.Break pos) zsBreak := impS ps_break fun D σ H ⟨ι, E, A, o, A', r1, r2, e, q⟩ => by
  cases e; exact q H ι .refl r2 σ r1
theorem zs_cont [Tabs] : PSZ X (.Continue pos) zsCont := impS ps_continue fun D σ H ⟨ι, E, A, o, A', r1, r2, e, q⟩ => by
  cases e; exact q H ι .refl r2 σ r1
theorem zs_one [Tabs] (h1 : PSZ X st g) : PSsZ X [st] g := pss_one h1
theorem zs_cons [Tabs] (h1 : PSZ X st g) (h2 : PSsZ X rest h) : PSsZ X (st :: rest) (zsSeq g h) := impSs (pss_cons h1 h2) fun D σ H ⟨ι, E, A, o, A', r1, r2, e, q⟩ => by
  unfold zsSeq at e
  cases eg : g E A with
  | none => rw [eg] at e; cases e
  | some p =>
    rw [eg] at e
    simp only [Option.bind_some] at e
    refine tZS_go r1 r2 (eg.trans rfl : g E A = some (p.1, p.2)) fun H1 ι1 g1 rh1 => ?_
    obtain ⟨o1, A1⟩ := p
    cases o1 with
    | nx E1 => exact fun σ1 rs1 => tZS_go rs1 rh1 e fun H' ι' g2 => q H' ι' (g1.trans g2)
    | rt w => cases e; exact q H1 ι1 g1 rh1
    | bk E1 => cases e; exact q H1 ι1 g1 rh1
    | ct E1 => cases e; exact q H1 ι1 g1 rh1
theorem zs_expr [Tabs] (he : PZ X e f) (hs : swapsWith e none pos.line X.env = pure false := by rfl) : PSZ X (.Expr e pos) (zsDrop f) := impS (ps_expr he hs) fun D σ H ⟨ι, E, A, o, A', r1, r2, e, q⟩ => by
  unfold zsDrop at e
  cases ef : f E A with
  | none => rw [ef] at e; cases e
  | some p =>
    rw [ef] at e; cases e
    exact tZ_go r1 r2 (ef.trans rfl : f E A = some (p.1, p.2)) fun v H1 ι1 g1 _ rh1 => q H1 ι1 g1 rh1 σ (r1.up g1)
theorem zs_ret [Tabs] (he : PZ X e f) : PSZ X (.Return (some e) pos) (zsRet f) := impS (ps_ret he) fun D σ H ⟨ι, E, A, o, A', r1, r2, e, q⟩ => by
  unfold zsRet at e
  cases ef : f E A with
  | none => rw [ef] at e; cases e
  | some p =>
    rw [ef] at e; cases e
    exact tZ_go r1 r2 (ef.trans rfl : f E A = some (p.1, p.2)) fun v H1 ι1 g1 rv rh1 => q H1 ι1 g1 rh1 v rv
theorem zs_retN [Tabs] : PSZ X (.Return none pos) zsRetN := impS ps_retN fun D σ H ⟨ι, E, A, o, A', r1, r2, e, q⟩ => by
  cases e; exact q H ι .refl r2 .non .non
theorem zs_if [Tabs] {c : Expr} {fc : ZB} (hc : PTZ X c fc) (ha : PSsZ X a g) (hb : PSsZ X b h) : PSZ X (.If c a b pos) (zsIf fc g h) := impS (ps_if hc ha hb) fun D σ H ⟨ι, E, A, o, A', r1, r2, e, q⟩ => by
  unfold zsIf at e
  cases ef : fc E A with
  | none => rw [ef] at e; cases e
  | some p =>
    rw [ef] at e
    simp only [Option.bind_some] at e
    refine tZB_go r1 r2 (ef.trans rfl : fc E A = some (p.1, p.2)) fun H1 ι1 g1 rh1 => ?_
    split at e
    · rename_i hk
      rw [if_pos hk]
      exact tZS_go (r1.up g1) rh1 e fun H' ι' g2 => q H' ι' (g1.trans g2)
    · rename_i hk
      rw [if_neg hk]
      exact tZS_go (r1.up g1) rh1 e fun H' ι' g2 => q H' ι' (g1.trans g2)
theorem asg_ok {K : KW} {f : ZE} {t : Tg} {D : Ends} {σ : St} {H : Hp} (h : tZS K (zsAsg f t) D σ H) : tAsg (tZ K f) (gOf K t) D σ H := by
  obtain ⟨ι, E, A, o, A', r1, r2, e, q⟩ := h
  unfold zsAsg at e
  cases ef : f E A with
  | none => rw [ef] at e; cases e
  | some p =>
    rw [ef] at e
    simp only [Option.bind_some] at e
    cases ea : asg t p.1 E with
    | none => rw [ea] at e; cases e
    | some E1 =>
      rw [ea] at e; cases e
      exact tZ_go r1 r2 (ef.trans rfl : f E A = some (p.1, p.2)) fun v H1 ι1 g1 rv rh1 => asg_go t (r1.up g1) rv ea fun σ' r' _ => q H1 ι1 g1 rh1 σ' r'
theorem zs_set [Tabs] {i : Nat} {x : Str} {pos' : Pos} (hN : X.N.Nodup) (hi : X.N[i]? = some x) (hx : Loc X.env.scope x) (he : PZ X e f) (hs : swapsWith e (some (.Name x pos')) pos.line X.env = pure false := by rfl) (hf : X.fn x = true ∨ X.env.scope.names.lookup x = some .local := by first | exact .inl rfl | exact .inr rfl | assumption) :
    PSZ X (.Assign [.Name x pos'] e pos) (zsAsg f (.name i)) := impS (ps_set hN hi hx he hs hf) fun D σ H q => asg_ok q
theorem zs_asg [Tabs] {tg : Expr} {t : Tg} (he : PZ X e f) (hg : PG X tg (gOf X.K t)) (hs : swapsWithSole [tg] e pos.line X.env = pure false := by rfl) (hw : swappedStores [tg] e X.env = pure none := by rfl)
    (h1 : (assignEach [tg] X.env).map (·.2) = [assign tg X.env] := by rfl) : PSZ X (.Assign [tg] e pos) (zsAsg f t) := impS (ps_asg he hg hs hw h1) fun D σ H q => asg_ok q
end
/-! l[i] = e -/
def ixW (n : Nat) (i : Int) : Option Nat := ixN n i
def zsPut (f fo fi : ZE) : ZS := fun E A => (f E A).bind fun p => (fo E p.2).bind fun q => (fi E q.2).bind fun z => match q.1, z.1 with
  | .loc n, .int i => match z.2[n]? with
    | some (.lst ws) => (ixN ws.length i).map fun j => (.nx E, z.2.set n (.lst (ws.set j p.1)))
    | _ => none
  | _, _ => none
theorem zs_put [Tabs] {X : Cx} {pos spos : Pos} {e o i : Expr} {f fo fi : ZE} (he : PZ X e f) (ho : PZ X o fo) (hi : PZ X i fi)
    (t : PS X (.Assign [.Subscript o i spos] e pos) (tAsg (tZ X.kw f) (gSub (tZ X.kw fo) (tZ X.kw fi) rSetL))) : PSZ X (.Assign [.Subscript o i spos] e pos) (zsPut f fo fi) := impS t fun D σ H ⟨ι, E, A, oo, A', r1, r2, e, q⟩ => by
  unfold zsPut at e
  cases ef : f E A with
  | none => rw [ef] at e; cases e
  | some p =>
    rw [ef] at e
    simp only [Option.bind_some] at e
    cases eo : fo E p.2 with
    | none => rw [eo] at e; cases e
    | some z =>
      rw [eo] at e
      simp only [Option.bind_some] at e
      cases ei : fi E z.2 with
      | none => rw [ei] at e; cases e
      | some y =>
        rw [ei] at e
        simp only [Option.bind_some] at e
        refine tZ_go r1 r2 (ef.trans rfl : f E A = some (p.1, p.2)) fun v H1 ι1 g1 rv rh1 => ?_
        refine tZ_go (r1.up g1) rh1 (by rw [eo] : fo E p.2 = some (z.1, z.2)) fun vo H2 ι2 g2 ro rh2 => ?_
        refine tZ_go ((r1.up g1).up g2) rh2 (by rw [ei] : fi E z.2 = some (y.1, y.2)) fun vi H3 ι3 g3 ri rh3 => ?_
        split at e
        · rename_i n j hz hy
          split at e
          · rename_i _ ws hws
            cases ej : ixN ws.length j with
            | none => rw [ej] at e; cases e
            | some k =>
              rw [ej] at e; cases e
              rw [hz] at ro
              rw [hy] at ri
              cases ro with
              | loc i1 =>
                cases ri
                have i2 := g3.at i1
                obtain ⟨xs, a1, b1⟩ := rh3.lst hws i2
                obtain ⟨x2, x3⟩ := rh3.setL (ws' := ws) i2 a1 (b1.set k ((rv.up g2).up g3))
                have g4 := g1.trans (g2.trans (g3.trans x3))
                exact ⟨_, xs, j, k, rfl, rfl, a1, by rw [b1.length]; exact ej, q _ _ g4 x2 σ (r1.up g4)⟩
          · cases e
        · cases e
/-! ### what is walked -/
inductive Src where
  | fix (ws : List W) | lst (n : Nat)
def itemsS (A : AH) : Src → Option (List W)
  | .fix ws => some ws
  | .lst n => match A[n]? with
    | some (.lst ws) => some ws
    | _ => none
abbrev ZI := EN → AH → Option (Src × AH)
def Wk (K : KW) (J : It) (H0 : Hp) (ι0 : List Addr) (sc : Src) : Prop := ∀ (H : Hp) (ι : List Addr) (A : AH) (ws : List W) (i : Nat), Gr H0 H ι0 ι → RH K H ι A → itemsS A sc = some ws →
  (∀ w, ws[i]? = some w → J.go i H ∧ ∀ x H', J.yld i H x H' → ∃ ι', Gr H H' ι ι' ∧ RH K H' ι' A ∧ RW K H' ι' x w) ∧ (ws.length ≤ i → J.stop i H)
def tZI (K : KW) (f : ZI) : TI := fun σ H R => ∃ ι E A sc A', RSt K H ι σ E ∧ RH K H ι A ∧ f E A = some (sc, A') ∧ ∀ J H' ι', Gr H H' ι ι' → RH K H' ι' A' → Wk K J H' ι' sc → R J H'
abbrev PIZ [Tabs] (X : Cx) (tg e : Expr) (f : ZI) : Prop := PI X tg e (tZI X.kw f)
theorem impI {X : Cx} {tg e : Expr} {t t' : TI} (h : PI X tg e t) (k : ∀ σ H R, t' σ H R → t σ H R) : PI X tg e t' := ⟨fun pins s σ H R I q => h.run pins s σ H R I (k σ H R q)⟩
theorem pi_or {X : Cx} {tg e : Expr} {t t' : TI} (h : PI X tg e t) (h' : PI X tg e t') : PI X tg e (fun σ H R => t σ H R ∨ t' σ H R) := ⟨fun pins s σ H R I q => q.elim (h.run pins s σ H R I) (h'.run pins s σ H R I)⟩
theorem wk_list {K : KW} {H0 : Hp} {ι0 : List Addr} {a : Addr} {n : Nat} (hi : ι0[n]? = some a) : Wk K (Itl K a) H0 ι0 (.lst n) := by
  intro H ι A ws i g r e
  unfold itemsS at e
  simp only at e
  split at e
  · rename_i xs hx
    cases e
    obtain ⟨vs, a1, b1⟩ := r.lst hx (g.at hi)
    refine ⟨fun w hw => ?_, fun hl => ⟨vs, SqL.of a1, by rw [b1.length]; exact hl⟩⟩
    obtain ⟨v, c1, c2⟩ := b1.get hw
    refine ⟨⟨vs, v, SqL.of a1, c1⟩, fun x H' ⟨e1, e2⟩ => ?_⟩
    subst e1
    have := (e2 vs (SqL.of a1)).symm.trans c1
    cases this
    exact ⟨ι, .refl, r, c2⟩
  · cases e
/-- no list is read in two ways -/
theorem wk_frl {K : KW} {H0 : Hp} {ι0 : List Addr} {a : Addr} {vs : List V} {ws : List W} (h : FrL K H0 a vs) (b : RWs K H0 ι0 vs ws) : Wk K (Itl K a) H0 ι0 (.fix ws) := by
  intro H ι A ws' i g r e
  cases e
  have h1 := g.frl h
  have b1 := b.up g
  refine ⟨fun w hw => ?_, fun hl => ⟨vs, h1.sql, by rw [b1.length]; exact hl⟩⟩
  obtain ⟨v, c1, c2⟩ := b1.get hw
  refine ⟨⟨vs, v, h1.sql, c1⟩, fun x H' ⟨e1, e2⟩ => ?_⟩
  subst e1
  have := (e2 vs h1.sql).symm.trans c1
  cases this
  exact ⟨ι, .refl, r, c2⟩
theorem wk_tup {K : KW} {H0 : Hp} {ι0 : List Addr} {a : Addr} {vs : List V} {ws : List W} (h : SqT K H0 a vs) (b : RWs K H0 ι0 vs ws) : Wk K (Itt K a) H0 ι0 (.fix ws) := by
  intro H ι A ws' i g r e
  cases e
  have h1 := g.sqt h
  have b1 := b.up g
  refine ⟨fun w hw => ?_, fun hl => ⟨vs, h1, by rw [b1.length]; exact hl⟩⟩
  obtain ⟨v, c1, c2⟩ := b1.get hw
  refine ⟨⟨vs, v, h1, c1⟩, fun x H' ⟨e1, e2⟩ => ?_⟩
  subst e1
  have := (e2 vs h1).symm.trans c1
  cases this
  exact ⟨ι, .refl, r, c2⟩
def ziSeq (f : ZE) : ZI := fun E A => (f E A).bind fun p => match p.1 with
  | .tup ws => some (.fix ws, p.2)
  | .frl ws => some (.fix ws, p.2)
  | .loc n => match p.2[n]? with
    | some (.lst _) => some (.lst n, p.2)
    | _ => none
  | _ => none
theorem zi_seq [Tabs] {X : Cx} {tg e : Expr} {f : ZE} (h : PZ X e f) : PIZ X tg e (ziSeq f) := impI (pi_or (pi_list h) (pi_tup h)) fun σ H R ⟨ι, E, A, sc, A', r1, r2, e, q⟩ => by
  unfold ziSeq at e
  cases ef : f E A with
  | none => rw [ef] at e; cases e
  | some p =>
    rw [ef] at e
    simp only [Option.bind_some] at e
    obtain ⟨w, A1⟩ := p
    cases w with
    | tup ws =>
      cases e
      exact .inr (tZ_go r1 r2 ef fun v H1 ι1 g1 rv rh1 => by
        cases rv with
        | tup a b => exact ⟨_, rfl, ⟨_, a.sqt⟩, q _ H1 ι1 g1 rh1 (wk_tup a.sqt b)⟩)
    | frl ws =>
      cases e
      exact .inl (tZ_go r1 r2 ef fun v H1 ι1 g1 rv rh1 => by
        cases rv with
        | frl a b => exact ⟨_, rfl, ⟨_, a.sql⟩, q _ H1 ι1 g1 rh1 (wk_frl a b)⟩)
    | loc n =>
      simp only at e
      split at e
      · rename_i ws hw
        cases e
        exact .inl (tZ_go r1 r2 ef fun v H1 ι1 g1 rv rh1 => by
          cases rv with
          | loc i =>
            obtain ⟨vs, a1, b1⟩ := rh1.lst hw i
            exact ⟨_, rfl, ⟨vs, SqL.of a1⟩, q _ H1 ι1 g1 rh1 (wk_list i)⟩)
      · cases e
    | _ => cases e
def rngW (lo : Int) (n : Nat) : List W := (List.range n).map fun i => .int (lo + (i : Nat))
theorem rngW_len {lo : Int} {n : Nat} : (rngW lo n).length = n := by unfold rngW; simp
theorem rngW_get {lo : Int} {n i : Nat} {w : W} (h : (rngW lo n)[i]? = some w) : i < n ∧ w = .int (lo + (i : Nat)) := by
  unfold rngW at h
  rw [List.getElem?_map] at h
  cases e : (List.range n)[i]? with
  | none => rw [e] at h; cases h
  | some j =>
    rw [e] at h
    obtain ⟨hl, ej⟩ := List.getElem?_eq_some_iff.mp e
    rw [List.getElem_range] at ej
    subst ej
    cases h
    exact ⟨by simpa using hl, rfl⟩
theorem wk_rng {K : KW} {H0 : Hp} {ι0 : List Addr} {lo : Int} {n : Nat} : Wk K (Itr lo n) H0 ι0 (.fix (rngW lo n)) := by
  intro H ι A ws' i g r e
  cases e
  refine ⟨fun w hw => ?_, fun hl => by rw [rngW_len] at hl; exact hl⟩
  obtain ⟨h1, rfl⟩ := rngW_get hw
  exact ⟨h1, fun x H' ⟨e1, e2⟩ => by subst e1; subst e2; exact ⟨ι, .refl, r, .int _⟩⟩
def ziRng1 (g : ZA) : ZI := fun E A => (g E A).bind fun p => match p.1 with
  | [.int j] => if -(2 ^ 62) ≤ j ∧ j < 2 ^ 62 then some (.fix (rngW 0 j.toNat), p.2) else none
  | _ => none
theorem zi_rng1 [Tabs] {X : Cx} {tg a : Expr} {g : ZA} {p pos : Pos} (hg : Gl X "range") (hm : X.mg "range" = none) (ha : PAZ X [a] g) (hs : starEach [a] X.env = [(false, eval a X.env)] := by rfl) : PIZ X tg (.Call (.Name "range" p) [a] [] pos) (ziRng1 g) := impI (pi_range1 hg hm ha hs) fun σ H R ⟨ι, E, A, sc, A', r1, r2, e, q⟩ => by
  unfold ziRng1 at e
  cases eg : g E A with
  | none => rw [eg] at e; cases e
  | some z =>
    rw [eg] at e
    simp only [Option.bind_some] at e
    split at e
    · rename_i j hj
      split at e
      · rename_i hb
        cases e
        refine tZA_go r1 r2 (by rw [eg] : g E A = some (z.1, z.2)) fun ys H2 ι2 g2 rys rh2 => ?_
        rw [hj] at rys
        cases rys with
        | cons c d =>
          cases c; cases d
          exact ⟨j, rfl, hb.1, hb.2, q _ H2 ι2 g2 rh2 wk_rng⟩
      · cases e
    · cases e
def ziRng2 (g : ZA) : ZI := fun E A => (g E A).bind fun p => match p.1 with
  | [.int i, .int j] => if (-(2 ^ 62) ≤ i ∧ i < 2 ^ 62 ∧ -(2 ^ 62) ≤ j ∧ j < 2 ^ 62) then some (.fix (rngW i (j - i).toNat), p.2) else none
  | _ => none
/-! ### for -/
def loopS (sc : Src) (t : Tg) (body : ZS) : Nat → Nat → EN → AH → Option (Out × AH)
  | 0, i, E, A => (itemsS A sc).bind fun ws => if ws.length ≤ i then some (.nx E, A) else none
  | k + 1, i, E, A => (itemsS A sc).bind fun ws => match ws[i]? with
    | none => some (.nx E, A)
    | some w => (asg t w E).bind fun E1 => (body E1 A).bind fun p => match p.1 with
      | .nx E2 => loopS sc t body k (i + 1) E2 p.2
      | .ct E2 => loopS sc t body k (i + 1) E2 p.2
      | .bk E2 => some (.nx E2, p.2)
      | .rt w => some (.rt w, p.2)
def lenS (A : AH) (sc : Src) : Nat := ((itemsS A sc).getD []).length
def zsFor (iter : ZI) (t : Tg) (body : ZS) : ZS := fun E A => (iter E A).bind fun p => loopS p.1 t body (lenS p.2 p.1) 0 E p.2
theorem zs_for [Tabs] {X : Cx} {pos : Pos} {tg iter : Expr} {body : List Stmt} {f : ZI} {t : Tg} {g : ZS} (hp : PassesOwn (model X.prog X.w) X.A X.env X.xe) (hc : X.calm = true) (hi : PIZ X tg iter f) (hg : PG X tg (gOf X.K t)) (hb : PSsZ X body g)
    (hs : ∀ x, foldedSetIterable iter X.env x = pure x := by intro _; rfl) : PSZ X (.For tg iter body [] pos) (zsFor f t g) := impS (ps_for hp hc hi hg hb hs) fun D σ H ⟨ι, E, A, o, A', r1, r2, e, q⟩ => by
  unfold zsFor at e
  cases ef : f E A with
  | none => rw [ef] at e; cases e
  | some p =>
    rw [ef] at e
    simp only [Option.bind_some] at e
    obtain ⟨sc, A1⟩ := p
    refine ⟨ι, E, A, sc, A1, r1, r2, ef, fun J H1 ι1 g1 rh1 wk => ?_⟩
    refine ⟨fun i m σ2 H2 => ∃ ι2 E2 A2, Gr H1 H2 ι1 ι2 ∧ RSt X.kw H2 ι2 σ2 E2 ∧ RH X.kw H2 ι2 A2 ∧ loopS sc t g m i E2 A2 = some (o, A'), ⟨_, ι1, E, A1, .refl, r1.up g1, rh1, e⟩, ?_⟩
    rintro i m σ2 H2 ⟨ι2, E2, A2, g2, rs2, rh2, e2⟩
    cases m with
    | zero =>
      unfold loopS at e2
      cases ei : itemsS A2 sc with
      | none => rw [ei] at e2; cases e2
      | some ws =>
        rw [ei] at e2
        simp only [Option.bind_some] at e2
        split at e2
        · rename_i hl
          cases e2
          exact .inl ⟨(wk H2 ι2 _ ws i g2 rh2 ei).2 hl, q H2 ι2 (g1.trans g2) rh2 σ2 rs2⟩
        · cases e2
    | succ m =>
      unfold loopS at e2
      cases ei : itemsS A2 sc with
      | none => rw [ei] at e2; cases e2
      | some ws =>
        rw [ei] at e2
        simp only [Option.bind_some] at e2
        split at e2
        · rename_i hl
          cases e2
          exact .inl ⟨(wk H2 ι2 _ ws i g2 rh2 ei).2 (List.getElem?_eq_none_iff.mp hl), q H2 ι2 (g1.trans g2) rh2 σ2 rs2⟩
        · rename_i w hw
          obtain ⟨go, yl⟩ := (wk H2 ι2 A2 ws i g2 rh2 ei).1 w hw
          refine .inr ⟨go, fun σ3 H3 => ∃ ι3 E3 A3, Gr H1 H3 ι1 ι3 ∧ RSt X.kw H3 ι3 σ3 E3 ∧ RH X.kw H3 ι3 A3 ∧ loopS sc t g m (i + 1) E3 A3 = some (o, A'), fun σ' H' hh => ⟨m, Nat.lt_succ_self m, hh⟩, fun x H3 hy => ?_⟩
          obtain ⟨ι3, g3, rh3, rx⟩ := yl x H3 hy
          cases ea : asg t w E2 with
          | none => rw [ea] at e2; cases e2
          | some E3 =>
            rw [ea] at e2
            simp only [Option.bind_some] at e2
            refine asg_go t (rs2.up g3) rx ea fun σ4 rs4 _ => ?_
            cases eg : g E3 A2 with
            | none => rw [eg] at e2; cases e2
            | some y =>
              rw [eg] at e2
              simp only [Option.bind_some] at e2
              obtain ⟨oo, A4⟩ := y
              refine tZS_go rs4 rh3 eg fun H5 ι5 g5 rh5 => ?_
              have gg := g2.trans (g3.trans g5)
              cases oo with
              | nx E5 => exact fun σ6 rs6 => ⟨ι5, E5, A4, gg, rs6, rh5, e2⟩
              | ct E5 => exact fun σ6 rs6 => ⟨ι5, E5, A4, gg, rs6, rh5, e2⟩
              | bk E5 => cases e2; exact fun σ6 rs6 => q H5 ι5 (g1.trans gg) rh5 σ6 rs6
              | rt w => cases e2; exact fun v rv => q H5 ι5 (g1.trans gg) rh5 v rv
/-! ### while -/
def loopW (c : ZB) (body : ZS) : Nat → EN → AH → Option (Out × AH)
  | 0, _, _ => none
  | k + 1, E, A => (c E A).bind fun p => if p.1 = true then (body E p.2).bind fun q => match q.1 with
      | .nx E2 => loopW c body k E2 q.2
      | .ct E2 => loopW c body k E2 q.2
      | .bk E2 => some (.nx E2, q.2)
      | .rt w => some (.rt w, q.2)
    else some (.nx E, p.2)
def zsWhile (m : EN → AH → Nat) (c : ZB) (body : ZS) : ZS := fun E A => loopW c body (m E A) E A
theorem zs_while [Tabs] {X : Cx} {pos : Pos} {c : Expr} {body : List Stmt} {fc : ZB} {g : ZS} (m : EN → AH → Nat) (hp : PassesOwn (model X.prog X.w) X.A X.env X.xe) (hc : PTZ X c fc) (hb : PSsZ X body g) : PSZ X (.While c body [] pos) (zsWhile m fc g) := impS (ps_while hp hc hb) fun D σ H ⟨ι, E, A, o, A', r1, r2, e, q⟩ => by
  unfold zsWhile at e
  refine ⟨fun m σ2 H2 => ∃ ι2 E2 A2, Gr H H2 ι ι2 ∧ RSt X.kw H2 ι2 σ2 E2 ∧ RH X.kw H2 ι2 A2 ∧ loopW fc g m E2 A2 = some (o, A'), ⟨_, ι, E, A, .refl, r1, r2, e⟩, ?_⟩
  rintro m σ2 H2 ⟨ι2, E2, A2, g2, rs2, rh2, e2⟩
  cases m with
  | zero => cases e2
  | succ m =>
    unfold loopW at e2
    cases ec : fc E2 A2 with
    | none => rw [ec] at e2; cases e2
    | some p =>
      rw [ec] at e2
      simp only [Option.bind_some] at e2
      refine tZB_go rs2 rh2 (ec.trans rfl : fc E2 A2 = some (p.1, p.2)) fun H3 ι3 g3 rh3 => ?_
      split at e2
      · rename_i hk
        rw [if_pos hk]
        refine ⟨fun σ3 H3 => ∃ ι3 E3 A3, Gr H H3 ι ι3 ∧ RSt X.kw H3 ι3 σ3 E3 ∧ RH X.kw H3 ι3 A3 ∧ loopW fc g m E3 A3 = some (o, A'), fun σ' H' hh => ⟨m, Nat.lt_succ_self m, hh⟩, ?_⟩
        cases eg : g E2 p.2 with
        | none => rw [eg] at e2; cases e2
        | some y =>
          rw [eg] at e2
          simp only [Option.bind_some] at e2
          obtain ⟨oo, A4⟩ := y
          refine tZS_go (rs2.up g3) rh3 eg fun H5 ι5 g5 rh5 => ?_
          have gg := g2.trans (g3.trans g5)
          cases oo with
          | nx E5 => exact fun σ6 rs6 => ⟨ι5, E5, A4, gg, rs6, rh5, e2⟩
          | ct E5 => exact fun σ6 rs6 => ⟨ι5, E5, A4, gg, rs6, rh5, e2⟩
          | bk E5 => cases e2; exact fun σ6 rs6 => q H5 ι5 gg rh5 σ6 rs6
          | rt w => cases e2; exact fun v rv => q H5 ι5 gg rh5 v rv
      · rename_i hk
        rw [if_neg hk]
        cases e2
        exact q H3 ι3 (g2.trans g3) rh3 σ2 (rs2.up g3)
end Z
set_option Elab.async false
set_option linter.all false
set_option maxRecDepth 100000
set_option maxHeartbeats 4000000
namespace Z
open PySem L2
/-! ### list comprehensions -/
def wipeE (E : EN) : List Nat → EN
  | [] => E
  | v :: vs => (wipeE E vs).set v none
theorem RSt.wipe {K : KW} {H : Hp} {ι : List Addr} {σ : St} {E : EN} (r : RSt K H ι σ E) : ∀ vs : List Nat, RSt K H ι (wipe σ vs) (wipeE E vs)
  | [] => r
  | v :: vs => (RSt.wipe r vs).wipe1
def loopC (sc : Src) (t : Tg) (tst : ZB) (elt : ZE) (D : Nat) (Ew : EN) : Nat → Nat → AH → Option AH
  | 0, i, A => (itemsS A sc).bind fun ws => if ws.length ≤ i then some A else none
  | k + 1, i, A => (itemsS A sc).bind fun ws => match ws[i]? with
    | none => some A
    | some w => (asg t w Ew).bind fun E1 => (tst E1 A).bind fun p => if p.1 = true then (elt E1 p.2).bind fun q => match q.2[D]? with
        | some (.lst acc) => if acc.length < sizeLine then loopC sc t tst elt D Ew k (i + 1) (q.2.set D (.lst (acc ++ [q.1]))) else none
        | _ => none
      else loopC sc t tst elt D Ew k (i + 1) p.2
def zLc (iter : ZI) (t : Tg) (tst : ZB) (elt : ZE) (vs : List Nat) : ZE := fun E A => (iter E A).bind fun p =>
  (loopC p.1 t tst elt p.2.length (wipeE E vs) (lenS p.2 p.1) 0 (p.2 ++ [.lst []])).map fun A' => (.loc p.2.length, A')
def ztYes : ZB := fun _ A => some (true, A)
theorem zts_nil [Tabs] {X : Cx} : PTs X [] (tZB X.kw ztYes) := ⟨fun pins s σ H Q I ⟨ι, E, A, w, A', r1, r2, e, q⟩ => by
  cases e; exact pts_nil.run pins s σ H Q I (q H ι .refl r2)⟩
theorem zts_one [Tabs] {X : Cx} {c : Expr} {f : ZB} (h : PTZ X c f) : PTs X [c] (tZB X.kw f) := pts_one h
theorem wipe_wipe (vs : List Nat) (σ : St) : wipe (wipe σ vs) vs = wipe σ vs := by
  have ww : ∀ (ks : List Nat) (τ : St), (∀ i ∈ ks, i ∈ vs) → ∀ i : Nat, (wipe (wipe τ vs) ks)[i]? = (wipe τ vs)[i]? := by
    intro ks
    induction ks with
    | nil => intro τ _ i; rfl
    | cons k r ih =>
      intro τ hk i
      show ((wipe (wipe τ vs) r).set k none)[i]? = _
      by_cases e : k = i
      · subst e
        have hnone : ∀ (us : List Nat) (τ : St), k ∈ us → ∀ v, (wipe τ us)[k]? = some v → v = none := by
          intro us τ hk v hv
          cases v with
          | none => rfl
          | some y => exact absurd hk (wipe_some hv).2
        by_cases hlt : k < (wipe (wipe τ vs) r).length
        · rw [List.getElem?_set_self hlt]
          have hlt2 : k < (wipe τ vs).length := by rw [wipe_length] at hlt; exact hlt
          rw [List.getElem?_eq_getElem hlt2, hnone vs τ (hk k List.mem_cons_self) _ (List.getElem?_eq_getElem hlt2)]
        · have hlt2 : ¬ k < (wipe τ vs).length := by rw [wipe_length] at hlt; exact hlt
          rw [List.getElem?_eq_none (by simpa using hlt), List.getElem?_eq_none (Nat.le_of_not_lt hlt2)]
      · rw [List.getElem?_set_ne e]
        exact ih τ (fun j hj => hk j (List.mem_cons_of_mem _ hj)) i
  exact List.ext_getElem? (ww vs σ fun _ h => h)
theorem lc_go {K : KW} {f : ZI} {t : Tg} {tst : ZB} {elt : ZE} {vs : List Nat} (hv : ∀ i ∈ slotsT t, i ∈ vs) {σ : St} {H : Hp} {Q : VK} (h : tZ K (zLc f t tst elt vs) σ H Q) : tLc (tZI K f) (gOf K t) (tZB K tst) (tZ K elt) vs σ H Q := by
  obtain ⟨ι, E, A, w, A', r1, r2, e, q⟩ := h
  unfold zLc at e
  cases ef : f E A with
  | none => rw [ef] at e; cases e
  | some p =>
    rw [ef] at e
    simp only [Option.bind_some] at e
    obtain ⟨sc, A1⟩ := p
    simp only at e
    cases el : loopC sc t tst elt A1.length (wipeE E vs) (lenS A1 sc) 0 (A1 ++ [.lst []]) with
    | none => rw [el] at e; cases e
    | some A9 =>
      rw [el] at e; cases e
      refine ⟨ι, E, A, sc, A1, r1, r2, ef, fun J H1 ι1 g1 rh1 wk D hD => ?_⟩
      have hl : ι1.length = A1.length := rh1.len
      obtain ⟨x1, x2, x3⟩ := new_lst rh1 hD .nil
      refine ⟨fun i m H2 => ∃ ι2 A2, Gr (upd H1 D (.lst [])) H2 (ι1 ++ [D]) ι2 ∧ RH K H2 ι2 A2 ∧ loopC sc t tst elt A1.length (wipeE E vs) m i A2 = some A', ⟨_, ι1 ++ [D], A1 ++ [.lst []], .refl, x2, el⟩, ?_⟩
      rintro i m H2 ⟨ι2, A2, g2, rh2, e2⟩
      have gg : Gr H1 H2 ι1 ι2 := x3.trans g2
      have hDat : ι2[A1.length]? = some D := g2.at (by rw [← hl]; simp)
      have rs2 : RSt K H2 ι2 (wipe σ vs) (wipeE E vs) := (r1.up (g1.trans gg)).wipe vs
      cases m with
      | zero =>
        unfold loopC at e2
        cases ei : itemsS A2 sc with
        | none => rw [ei] at e2; cases e2
        | some ws =>
          rw [ei] at e2
          simp only [Option.bind_some] at e2
          split at e2
          · rename_i hl2
            cases e2
            exact .inl ⟨(wk H2 ι2 _ ws i gg rh2 ei).2 hl2, q _ H2 ι2 (g1.trans gg) (.loc hDat) rh2⟩
          · cases e2
      | succ m =>
        unfold loopC at e2
        cases ei : itemsS A2 sc with
        | none => rw [ei] at e2; cases e2
        | some ws =>
          rw [ei] at e2
          simp only [Option.bind_some] at e2
          split at e2
          · rename_i hl2
            cases e2
            exact .inl ⟨(wk H2 ι2 _ ws i gg rh2 ei).2 (List.getElem?_eq_none_iff.mp hl2), q _ H2 ι2 (g1.trans gg) (.loc hDat) rh2⟩
          · rename_i w hw
            obtain ⟨go, yl⟩ := (wk H2 ι2 A2 ws i gg rh2 ei).1 w hw
            refine .inr ⟨go, fun H3 => ∃ ι3 A3, Gr (upd H1 D (.lst [])) H3 (ι1 ++ [D]) ι3 ∧ RH K H3 ι3 A3 ∧ loopC sc t tst elt A1.length (wipeE E vs) m (i + 1) A3 = some A', fun H' hh => ⟨m, Nat.lt_succ_self m, hh⟩, fun x H3 hy => ?_⟩
            obtain ⟨ι3, g3, rh3, rx⟩ := yl x H3 hy
            cases ea : asg t w (wipeE E vs) with
            | none => rw [ea] at e2; cases e2
            | some E3 =>
              rw [ea] at e2
              simp only [Option.bind_some] at e2
              refine asg_go t (rs2.up g3) rx ea fun σ4 rs4 hwp => ⟨?_, ?_⟩
              · rw [hwp vs hv]
                exact wipe_wipe vs σ
              · cases et : tst E3 A2 with
                | none => rw [et] at e2; cases e2
                | some z =>
                  rw [et] at e2
                  simp only [Option.bind_some] at e2
                  refine tZB_go rs4 rh3 (by rw [et] : tst E3 A2 = some (z.1, z.2)) fun H5 ι5 g5 rh5 => ?_
                  split at e2
                  · rename_i hb
                    rw [if_pos hb]
                    cases ee : elt E3 z.2 with
                    | none => rw [ee] at e2; cases e2
                    | some y =>
                      rw [ee] at e2
                      simp only [Option.bind_some] at e2
                      refine tZ_go (rs4.up g5) rh5 (by rw [ee] : elt E3 z.2 = some (y.1, y.2)) fun v H6 ι6 g6 rv rh6 => ?_
                      split at e2
                      · rename_i acc hacc
                        split at e2
                        · rename_i hz
                          have hD6 : ι6[A1.length]? = some D := g6.at (g5.at (g3.at hDat))
                          obtain ⟨vs6, a6, b6⟩ := rh6.lst hacc hD6
                          obtain ⟨y2, y3⟩ := rh6.setL (ws' := acc) hD6 a6 (b6.append (.cons rv .nil))
                          exact ⟨vs6, a6, by rw [b6.length]; exact hz, ι6, _, g2.trans (g3.trans (g5.trans (g6.trans y3))), y2, e2⟩
                        · cases e2
                      · cases e2
                  · rename_i hb
                    rw [if_neg hb]
                    exact ⟨ι5, _, g2.trans (g3.trans g5), rh5, e2⟩
section
variable {X : Cx} {elt tg iter : Expr} {ifs : List Expr} {scope : Scope} {own : List (Str × Nat)} {pos spos : Pos} {f : ZI} {t : Tg} {tst : ZB} {fe : ZE}
theorem z_lc [Tabs] (own : List (Str × Nat)) (hv : ∀ i ∈ slotsT t, i ∈ own.map (·.2)) (hc : X.calm = true) (hN : X.N.Nodup) (hi : PIZ X tg iter f) (ok : BlkOk X.N X.env.scope scope own)
    (hg : ∀ (s : Shared) (H : Hp) (C : Addr) (cl : List (Str × Addr)) (fp : List Addr), PG (X.blk s H scope (compEnvC scope cl C X.env) fp) tg (gOf X.K t))
    (ht : ∀ (s : Shared) (H : Hp) (C : Addr) (cl : List (Str × Addr)) (fp : List Addr), PTs (X.blk s H scope (compEnvC scope cl C X.env) fp) ifs (tZB X.kw tst))
    (he : ∀ (s : Shared) (H : Hp) (C : Addr) (cl : List (Str × Addr)) (fp : List Addr), PE (X.blk s H scope (compEnvC scope cl C X.env) fp) elt (tZ X.kw fe)) (hs : ∀ x, foldedSetIterable iter X.env x = pure x := by intro _; rfl) :
    PZ X (.ListComp elt [⟨tg, iter, ifs, 0⟩] scope pos) (zLc f t tst fe (own.map (·.2))) := imp (pe_lc hc hN hi ok hg ht he hs) fun σ H Q q => lc_go hv q
theorem zs_setLc [Tabs] (own : List (Str × Nat)) {i : Nat} {y : Str} {py : Pos} (hv : ∀ i ∈ slotsT t, i ∈ own.map (·.2)) (hc : X.calm = true) (hN : X.N.Nodup) (hy : X.N[i]? = some y) (hyl : X.env.scope.names.lookup y = some .local)
    (hsw : swapsWith (.ListComp elt [⟨tg, iter, ifs, 0⟩] scope pos) (some (.Name y py)) spos.line X.env = pure true) (hi : PIZ X tg iter f) (ok : BlkOk X.N X.env.scope scope own)
    (hg : ∀ (s : Shared) (H : Hp) (C : Addr) (cl : List (Str × Addr)) (fp : List Addr), PG (X.blk s H scope (compEnvC scope cl C X.env) fp) tg (gOf X.K t))
    (ht : ∀ (s : Shared) (H : Hp) (C : Addr) (cl : List (Str × Addr)) (fp : List Addr), PTs (X.blk s H scope (compEnvC scope cl C X.env) fp) ifs (tZB X.kw tst))
    (he : ∀ (s : Shared) (H : Hp) (C : Addr) (cl : List (Str × Addr)) (fp : List Addr), PE (X.blk s H scope (compEnvC scope cl C X.env) fp) elt (tZ X.kw fe)) (hs : ∀ x, foldedSetIterable iter X.env x = pure x := by intro _; rfl) :
    PSZ X (.Assign [.Name y py] (.ListComp elt [⟨tg, iter, ifs, 0⟩] scope pos) spos) (zsAsg (zLc f t tst fe (own.map (·.2))) (.name i)) := impS (ps_setLc hc hN hy hyl hsw hi ok hg ht he hs) fun D σ H q => by
  obtain ⟨ι, E, A, o, A', r1, r2, e, q⟩ := q
  unfold zsAsg at e
  cases ef : zLc f t tst fe (own.map (·.2)) E A with
  | none => rw [ef] at e; cases e
  | some p =>
    rw [ef] at e
    simp only [Option.bind_some, asg, Option.map_some] at e
    cases e
    exact lc_go hv (tZ_go r1 r2 (by rw [ef] : zLc f t tst fe (own.map (·.2)) E A = some (p.1, p.2)) fun v H1 ι1 g1 rv rh1 => q H1 ι1 g1 rh1 _ ((r1.up g1).set rv))
end
/-! ### defs -/
def start0 (N : Nat) (ws : List W) : EN := ws.map some ++ List.replicate (N - ws.length) none
def defZ (N n : Nat) (g : ZS) : ZF := fun ws A => if ws.length = n then (g (start0 N ws) A).bind fun p => match p.1 with
    | .rt w => some (w, p.2)
    | .nx _ => some (.non, p.2)
    | _ => none
  else none
theorem RSt.start {K : KW} {H : Hp} {ι : List Addr} {N : List Str} {vs : List V} {ws : List W} (r : RWs K H ι vs ws) : RSt K H ι (L2.start N vs) (start0 N.length ws) := by
  have hl := r.length
  refine ⟨by unfold L2.start start0; simp [hl], fun i w h => ?_⟩
  unfold start0 at h
  unfold L2.start
  by_cases hi : i < ws.length
  · rw [List.getElem?_append_left (by simpa using hi), List.getElem?_map] at h
    cases e : ws[i]? with
    | none => rw [e] at h; cases h
    | some u =>
      rw [e] at h
      cases h
      obtain ⟨v, e1, e2⟩ := r.get e
      exact ⟨v, by rw [List.getElem?_append_left (by simpa [hl] using hi), List.getElem?_map, e1]; rfl, e2⟩
  · rw [List.getElem?_append_right (by simpa using hi)] at h
    have h2 := List.mem_of_getElem? h
    have h3 := List.eq_of_mem_replicate h2
    cases h3
section
variable {P : Program} {w : World} {K : PySem.W.Frag} {mg : Str → Option Value} {base : Heap} {x qual : Str} {st : Stmt} {f : Addr} {fd : FuncData} {N ps : List Str} {k : Nat}
theorem z_def [Tabs] (F : Fun K x qual st f fd) (S : FnScope N ps (defScope st)) (g : ZS)
    (hbody : ∀ (cdv : Value) (A : Around) (outer : List Env) (s : Shared) (H : Hp) (E : XK), Room k (A.deeper (PyProof.Rows.envOfC qual (defScope st) s.heap.objs.size f cdv)) → PSsZ (cxOf CX0 P w K mg base N qual (defScope st) f cdv A outer s H E).nox (defBody st) g) :
    FnOk P w K mg base CX0 (k + 1) f fd ps (spZ ⟨K, P, w, Tabs.T⟩ ps.length (defZ N.length ps.length g)) := by
  refine F.ok S (fun vs H Q E h => h.1) fun cdv A outer s H vs Q E hr h => ⟨_, hbody cdv A outer s H E hr, ?_⟩
  obtain ⟨hl, ι, ws, A0, w0, A', rs, rh, e, q⟩ := h
  unfold defZ at e
  rw [if_pos (by rw [← rs.length]; exact hl)] at e
  cases eg : g (start0 N.length ws) A0 with
  | none => rw [eg] at e; cases e
  | some p =>
    rw [eg] at e
    simp only [Option.bind_some] at e
    obtain ⟨o, A1⟩ := p
    refine tZS_go (RSt.start rs) rh eg fun H' ι' g1 rh1 => ?_
    cases o with
    | rt u => cases e; exact fun v rv => q v H' ι' g1 rv rh1
    | nx E1 => cases e; exact fun σ _ => q .non H' ι' g1 .non rh1
    | bk E1 => cases e
    | ct E1 => cases e
/-- a promise by another function -/
theorem z_ref [Tabs] {n : Nat} {F F' : ZF} (G : FnOk P w K mg base CX0 k f fd ps (spZ ⟨K, P, w, Tabs.T⟩ n F))
    (h : ∀ (H : Hp) (ι : List Addr) (ws : List W) (A : AH) (vs : List V) (w1 : W) (A1 : AH), RWs ⟨K, P, w, Tabs.T⟩ H ι vs ws → RH ⟨K, P, w, Tabs.T⟩ H ι A → F' ws A = some (w1, A1) → ∃ w0 A0, F ws A = some (w0, A0) ∧
      ∀ v H' ι', Gr H H' ι ι' → RW ⟨K, P, w, Tabs.T⟩ H' ι' v w0 → RH ⟨K, P, w, Tabs.T⟩ H' ι' A0 → ∃ ι'', Gr H H' ι ι'' ∧ RW ⟨K, P, w, Tabs.T⟩ H' ι'' v w1 ∧ RH ⟨K, P, w, Tabs.T⟩ H' ι'' A1) : FnOk P w K mg base CX0 k f fd ps (spZ ⟨K, P, w, Tabs.T⟩ n F') :=
  G.imp fun vs H Q E ⟨hl, ι, ws, A, w1, A1, rs, rh, e, q⟩ => by
    obtain ⟨w0, A0, e0, k0⟩ := h H ι ws A vs w1 A1 rs rh e
    refine ⟨hl, ι, ws, A, w0, A0, rs, rh, e0, fun v H' ι' g rv rh' => ?_⟩
    obtain ⟨ι'', g2, rv2, rh2⟩ := k0 v H' ι' g rv rh'
    exact q v H' ι'' g2 rv2 rh2
end
/-! ### what is new may be forgotten -/
mutual
def lowW (n : Nat) : W → Bool
  | .loc k => decide (k < n)
  | .tup ws => lowWs n ws
  | .frl ws => lowWs n ws
  | _ => true
def lowWs (n : Nat) : List W → Bool
  | [] => true
  | w :: ws => lowW n w && lowWs n ws
end
def lowMO (n : Nat) : MO → Bool
  | .lst ws => lowWs n ws
  | .dic kvs => lowWs n (kvs.map (·.2))
  | .dicN _ kvs => lowWs n (kvs.map (·.1)) && lowWs n (kvs.map (·.2))
  | .ins _ fs => lowWs n (fs.map (·.2))
section
variable {K : KW} {H : Hp} {ι m : List Addr}
mutual
theorem RW.low : ∀ (w : W) {v : V}, RW K H (ι ++ m) v w → lowW ι.length w = true → RW K H ι v w
  | .non, _, h, _ => by cases h; exact .non
  | .bl b, _, h, _ => by cases h; exact .bl b
  | .int b, _, h, _ => by cases h; exact .int b
  | .str b, _, h, _ => by cases h; exact .str b
  | .ty b, _, h, _ => by cases h; exact .ty b
  | .tup ws, _, h, e => by
    cases h with
    | tup a b => exact .tup a (RWs.low ws b (by simpa [lowW] using e))
  | .frl ws, _, h, e => by
    cases h with
    | frl a b => exact .frl a (RWs.low ws b (by simpa [lowW] using e))
  | .loc k, _, h, e => by
    cases h with
    | loc a =>
      have hk : k < ι.length := by simpa [lowW] using e
      rw [List.getElem?_append_left hk] at a
      exact .loc a
theorem RWs.low : ∀ (ws : List W) {vs : List V}, RWs K H (ι ++ m) vs ws → lowWs ι.length ws = true → RWs K H ι vs ws
  | [], _, h, _ => by cases h; exact .nil
  | w :: ws, _, h, e => by
    cases h with
    | cons a b =>
      simp only [lowWs, Bool.and_eq_true] at e
      exact .cons (RW.low w a e.1) (RWs.low ws b e.2)
end
mutual
theorem RW.isLow : ∀ (w : W) {v : V}, RW K H ι v w → lowW ι.length w = true
  | .non, _, _ => rfl
  | .bl b, _, _ => rfl
  | .int b, _, _ => rfl
  | .str b, _, _ => rfl
  | .ty b, _, _ => rfl
  | .tup ws, _, h => by
    cases h with
    | tup a b => simpa [lowW] using RWs.isLow ws b
  | .frl ws, _, h => by
    cases h with
    | frl a b => simpa [lowW] using RWs.isLow ws b
  | .loc k, _, h => by
    cases h with
    | loc a => simpa [lowW] using (List.getElem?_eq_some_iff.mp a).1
theorem RWs.isLow : ∀ (ws : List W) {vs : List V}, RWs K H ι vs ws → lowWs ι.length ws = true
  | [], _, _ => rfl
  | w :: ws, _, h => by
    cases h with
    | cons a b => simp only [lowWs, Bool.and_eq_true]; exact ⟨RW.isLow w a, RWs.isLow ws b⟩
end
theorem RN.isLow : ∀ {xs : List EntN} {kvs : List (W × W)}, RN K H ι xs kvs → (lowWs ι.length (kvs.map (·.1)) && lowWs ι.length (kvs.map (·.2))) = true
  | _, _, .nil => rfl
  | _, _, .cons _ _ c _ e f => by
    have ih := RN.isLow f
    rw [Bool.and_eq_true] at ih
    simp only [List.map_cons, lowWs, RW.isLow _ c, RW.isLow _ e, ih.1, ih.2, Bool.and_self]
theorem RN.low : ∀ {xs : List EntN} {kvs : List (W × W)}, RN K H (ι ++ m) xs kvs → (lowWs ι.length (kvs.map (·.1)) && lowWs ι.length (kvs.map (·.2))) = true → RN K H ι xs kvs
  | _, _, .nil, _ => .nil
  | _, _, .cons a b c d e f, h => by
    simp only [List.map_cons, lowWs, Bool.and_eq_true] at h
    exact .cons a b (RW.low _ c h.1.1) d (RW.low _ e h.2.1) (RN.low f (by rw [Bool.and_eq_true]; exact ⟨h.1.2, h.2.2⟩))
theorem RO.isLow {a : Addr} : ∀ {mo : MO}, RO K H ι a mo → lowMO ι.length mo = true
  | .lst ws, ⟨xs, _, r⟩ => RWs.isLow ws r
  | .dic kvs, ⟨xs, _, _, r⟩ => RWs.isLow _ r
  | .dicN lk kvs, ⟨xs, _, _, _, r⟩ => RN.isLow r
  | .ins C fs, ⟨dx, vs, _, _, r⟩ => RWs.isLow _ r
theorem RO.low {a : Addr} : ∀ {mo : MO}, RO K H (ι ++ m) a mo → lowMO ι.length mo = true → RO K H ι a mo
  | .lst ws, ⟨xs, h, r⟩, e => ⟨xs, h, RWs.low ws r e⟩
  | .dic kvs, ⟨xs, h, k, r⟩, e => ⟨xs, h, k, RWs.low _ r e⟩
  | .dicN lk kvs, ⟨xs, h, k, nd, r⟩, e => ⟨xs, h, k, nd, RN.low r e⟩
  | .ins C fs, ⟨dx, vs, h, k, r⟩, e => ⟨dx, vs, h, k, RWs.low _ r e⟩
theorem RH.isLow {A : AH} (r : RH K H ι A) : ∀ mo ∈ A, lowMO A.length mo = true := fun mo hm => by
  obtain ⟨n, hn, e⟩ := List.getElem_of_mem hm
  have e' : A[n]? = some mo := by rw [List.getElem?_eq_getElem hn, e]
  obtain ⟨a, ha⟩ := r.addr e'
  have := (r.ok n mo a e' ha).isLow
  rw [← r.len]; exact this
/-- the new objects forgotten -/
theorem RH.cut {A G : AH} (r : RH K H (ι ++ m) (A ++ G)) (hl : ι.length = A.length) (hw : ∀ mo ∈ A, lowMO A.length mo = true) : RH K H ι A :=
  ⟨hl, (List.nodup_append.mp r.nod).1, r.tab, fun n mo a h1 h2 => by
    have h3 := r.ok n mo a (by rw [List.getElem?_append_left (List.getElem?_eq_some_iff.mp h1).1]; exact h1) (by rw [List.getElem?_append_left (List.getElem?_eq_some_iff.mp h2).1]; exact h2)
    exact h3.low (by rw [hl]; exact hw mo (List.mem_of_getElem? h1))⟩
end
/-- the answer is data (or old), new objects but nothing of them is left -/
theorem ref_data {K : KW} {H H' : Hp} {ι ι' : List Addr} {A A1 G : AH} {v : V} {w : W} (rh : RH K H ι A) (hn : A1.length = A.length) (hA : ∀ mo ∈ A1, lowMO A1.length mo = true) (hw : lowW A1.length w = true) (g : Gr H H' ι ι') (rv : RW K H' ι' v w) (r : RH K H' ι' (A1 ++ G)) :
    ∃ ι'', Gr H H' ι ι'' ∧ RW K H' ι'' v w ∧ RH K H' ι'' A1 := by
  obtain ⟨m, rfl⟩ := g.pre
  have hl : ι.length = A1.length := rh.len.trans hn.symm
  exact ⟨ι, ⟨g.tup, g.frz, [], by simp⟩, RW.low w rv (by rw [hl]; exact hw), r.cut hl hA⟩
/-- the answer is a new list, the others but it are forgotten -/
theorem ref_list {K : KW} {H H' : Hp} {ι ι' : List Addr} {A A1 G1 G2 : AH} {mo : MO} {v : V} (rh : RH K H ι A) (hn : A1.length = A.length) (hA : ∀ mo ∈ A1, lowMO A1.length mo = true) (hw : lowMO A1.length mo = true) (g : Gr H H' ι ι')
    (rv : RW K H' ι' v (.loc (A1.length + G1.length))) (r : RH K H' ι' (A1 ++ G1 ++ [mo] ++ G2)) :
    ∃ ι'', Gr H H' ι ι'' ∧ RW K H' ι'' v (.loc A1.length) ∧ RH K H' ι'' (A1 ++ [mo]) := by
  obtain ⟨m, rfl⟩ := g.pre
  have hl : ι.length = A1.length := rh.len.trans hn.symm
  cases rv with
  | loc ha =>
    rename_i a
    have r1 : RH K H' ι A1 := by
      rw [List.append_assoc, List.append_assoc] at r
      exact r.cut hl hA
    have hmo : (A1 ++ G1 ++ [mo] ++ G2)[A1.length + G1.length]? = some mo := by
      rw [List.getElem?_append_left (by simp), List.getElem?_append_right (by simp)]
      simp
    have ro := r.ok _ mo a hmo ha
    have ro' : RO K H' ι a mo := ro.low (by rw [hl]; exact hw)
    have hna : a ∉ ι := fun hm => by
      obtain ⟨j, hj, ej⟩ := List.getElem_of_mem hm
      have hlen := (List.getElem?_eq_some_iff.mp ha)
      obtain ⟨h1, h2⟩ := hlen
      have h3 : (ι ++ m)[j]'(by simp; omega) = a := by rw [List.getElem_append_left hj]; exact ej
      have := (nodup_at r.nod (by simp; omega) h1).mp (h3.trans h2.symm)
      omega
    refine ⟨ι ++ [a], ⟨g.tup, g.frz, [a], rfl⟩, .loc (by rw [← hl]; simp), ⟨by simp [hl], ?_, r.tab, fun n m' b h1 h2 => ?_⟩⟩
    · refine List.nodup_append.mpr ⟨(List.nodup_append.mp r.nod).1, by simp, fun b hb c hc z => ?_⟩
      rw [List.mem_singleton] at hc; subst hc; subst z; exact hna hb
    · have gup : Gr H' H' ι (ι ++ [a]) := ⟨fun _ _ h => h, fun _ _ _ h => h, [a], rfl⟩
      by_cases hlt : n < A1.length
      · rw [List.getElem?_append_left hlt] at h1
        rw [List.getElem?_append_left (by omega)] at h2
        exact (r1.ok n m' b h1 h2).up gup rfl
      · rw [List.getElem?_append_right (Nat.le_of_not_lt hlt)] at h1
        rw [List.getElem?_append_right (by omega)] at h2
        have e0 : n - A1.length = 0 := by
          have := (List.getElem?_eq_some_iff.mp h1).1
          simp at this; exact this
        rw [hl] at h2
        rw [e0] at h1 h2
        simp at h1 h2
        subst h1; subst h2
        exact ro'.up gup rfl
end Z
set_option Elab.async false
set_option linter.all false
set_option maxRecDepth 100000
set_option maxHeartbeats 4000000
namespace Z
open PySem L2
/-! ### unions -/
section
variable {X : Cx}
abbrev rAddU (K : PySem.W.Frag) : R2 := fun x y H Q => rI0 (fun i j => .int (i + j)) x y H Q ∨ (fun x y H Q => (fun x y H Q => ∃ i j, x = .str i ∧ y = .str j ∧ i.length + j.length ≤ sizeLine ∧ Q (.str (i ++ j)) H) x y H Q ∨ (fun x y H Q => rCatN K x y H Q ∨ rCat x y H Q) x y H Q) x y H Q
def sAdd : S2 := fun u v A => (sAddI u v A).or ((sAddS u v A).or ((sAddT u v A).or (sAddL u v A)))
theorem op_addU : OpR X (binaryOp .Add) (rAddU X.K) := op_add.or (op_add_str.or (op_catN.or op_cat))
theorem ok_addU {K : KW} : R2Ok K (rAddU K) sAdd := (ok_I0 fun _ _ _ _ => .int _).or (ok_addS.or (ok_addT.or ok_addL))
theorem ok_sub {K : KW} : R2Ok K (rI0 fun i j => .int (i - j)) sSub := ok_I0 fun _ _ _ _ => .int _
abbrev rMulU : R2 := fun x y H Q => ∃ i j, x = .int i ∧ y = .int j ∧ mulOkB i j = true ∧ Q (.int (i * j)) H
theorem op_mulU : OpR X (binaryOp .Mult) rMulU := by
  intro pins s σ H x y v u Q I rx ry ⟨i, j, e1, e2, hc, q⟩
  refine op_mul pins s σ H x y v u Q I rx ry ⟨i, j, e1, e2, ?_, q⟩
  unfold mulOkB at hc
  rw [Bool.or_eq_true, decide_eq_true_eq, decide_eq_true_eq] at hc
  exact hc
theorem ok_mul {K : KW} : R2Ok K rMulU sMul := by
  intro H ι A x y u v w A' Q h1 h2 h3 h4 q
  unfold sMul sII at h4
  split at h4
  · rename_i i j
    split at h4
    · rename_i hc
      cases h4; cases h1; cases h2
      exact ⟨i, j, rfl, rfl, hc, q _ H ι .refl (.int _) h3⟩
    · cases h4
  · cases h4
theorem ok_div {K : KW} : R2Ok K (rI CDivW fun i j => .int (i / j)) sDiv := ok_II (fun i j h => by
  rw [decide_eq_true_eq] at h
  exact wide_div (b := 64) h.1 (by omega) (by decide) (by decide)) fun _ _ _ _ => .int _
theorem ok_mod {K : KW} : R2Ok K (rI (fun _ j => 0 < j) fun i j => .int (i % j)) sMod := ok_II (fun i j h => of_decide_eq_true h) fun _ _ _ _ => .int _
theorem ok_lt {K : KW} : R2Ok K (rI0 fun i j => .bl (decide (i < j))) sLt := ok_I0 fun _ _ _ _ => .bl _
theorem ok_le {K : KW} : R2Ok K (rI0 fun i j => .bl (decide (i ≤ j))) sLe := ok_I0 fun _ _ _ _ => .bl _
theorem ok_gt {K : KW} : R2Ok K (rI0 fun i j => .bl (decide (j < i))) sGt := ok_I0 fun _ _ _ _ => .bl _
theorem ok_ge {K : KW} : R2Ok K (rI0 fun i j => .bl (decide (j ≤ i))) sGe := ok_I0 fun _ _ _ _ => .bl _
abbrev rIxU (K : PySem.W.Frag) : R2 := fun x y H Q => rIxT K x y H Q ∨ (fun x y H Q => rIxL K x y H Q ∨ rIxS x y H Q) x y H Q
def sIx : S2 := fun u v A => (sIxT u v A).or ((sIxL u v A).or (sIxS u v A))
theorem ix_U : IxR X (rIxU X.K) := ix_tup.or (ix_list.or ix_str)
theorem ok_ix {K : KW} : R2Ok K (rIxU K) sIx := ok_ixT.or (ok_ixL.or ok_ixS)
theorem R3Ok.or {K : KW} {r r' : V → Option Int → Option Int → Hp → VK → Prop} {s s' : S3} (h : R3Ok K r s) (h' : R3Ok K r' s') : R3Ok K (fun x l u H Q => r x l u H Q ∨ r' x l u H Q) (fun u l m A => (s u l m A).or (s' u l m A)) := by
  intro H ι A x u lo hi w A' Q h1 h3 h4 q
  cases e : s u lo hi A with
  | none =>
    simp only [e, Option.none_or] at h4
    exact .inr (h' H ι A x u lo hi w A' Q h1 h3 h4 q)
  | some p =>
    simp only [e, Option.some_or] at h4
    exact .inl (h H ι A x u lo hi w A' Q h1 h3 (e.trans h4) q)
abbrev rSlU (K : PySem.W.Frag) : V → Option Int → Option Int → Hp → VK → Prop := fun x l u H Q => rSlN K x l u H Q ∨ (fun x l u H Q => rSlL K x l u H Q ∨ rSlS x l u H Q) x l u H Q
def sSl : S3 := fun u l m A => (sSlT u l m A).or ((sSlL u l m A).or (sSlS u l m A))
theorem sl_U : SlR X (rSlU X.K) := sl_tupN.or (sl_list.or sl_str)
theorem ok_sl {K : KW} : R3Ok K (rSlU K) sSl := ok_slT.or (ok_slL.or ok_slS)
abbrev rInU (K : PySem.W.Frag) : R2 := fun x y H Q => rIn K false x y H Q ∨ rInD K x y H Q
def sInU : S2 := fun u v A => (sInF u v A).or (sIn u v A)
theorem op_inU (hu : X.A.units + 65 < cLine) : OpR X (compareOp .In) (rInU X.K) := op_in_seq.or (op_inD hu)
theorem ok_inU {K : KW} : R2Ok K (rInU K) sInU := ok_inF.or ok_in
abbrev rNotInU (K : PySem.W.Frag) : R2 := fun x y H Q => rIn K true x y H Q ∨ rNotInD K x y H Q
def sNotInU : S2 := fun u v A => (sNotInF u v A).or (sNotIn u v A)
theorem op_notInU (hu : X.A.units + 65 < cLine) : OpR X (compareOp .NotIn) (rNotInU X.K) := op_notIn_seq.or (op_notInD hu)
theorem ok_notInU {K : KW} : R2Ok K (rNotInU K) sNotInU := ok_notInF.or ok_notIn
theorem CallR_or {f : Value} {r r' : List V → Hp → VK → Prop} (h : CallR X f r) (h' : CallR X f r') : CallR X f (fun xs H Q => r xs H Q ∨ r' xs H Q) := by
  intro pins s σ H xs us Q I rx q
  rcases q with q | q
  · exact h pins s σ H xs us Q I rx q
  · exact h' pins s σ H xs us Q I rx q
theorem RNOk.or {K : KW} {r r' : List V → Hp → VK → Prop} {s s' : SN} (h : RNOk K r s) (h' : RNOk K r' s') : RNOk K (fun xs H Q => r xs H Q ∨ r' xs H Q) (fun us A => (s us A).or (s' us A)) := by
  intro H ι A xs us w A' Q h1 h3 h4 q
  cases e : s us A with
  | none =>
    simp only [e, Option.none_or] at h4
    exact .inr (h' H ι A xs us w A' Q h1 h3 h4 q)
  | some p =>
    simp only [e, Option.some_or] at h4
    exact .inl (h H ι A xs us w A' Q h1 h3 (e.trans h4) q)
def sStr : SN := fun us A => (sStrI us A).or (sStrS us A)
theorem ok_str {K : KW} : RNOk K (fun xs H Q => (fun xs H Q => ∃ i, xs = [.int i] ∧ i.natAbs.log2 < 1920 ∧ Q (.str (toString i)) H) xs H Q ∨ (fun xs H Q => ∃ a, xs = [.str a] ∧ Q (.str a) H) xs H Q) sStr := ok_strI.or ok_strS
end
theorem hu65 {A : Around} {k : Nat} (hr : Room k A) : A.units + 65 < cLine := by have := hr.un; omega
/-! ### lists of a range -/
section
variable {X : Cx} {a : Expr} {f : ZE} {p pos p2 pos2 : Pos}
def zListRg (f : ZE) : ZE := fun E A => (f E A).bind fun q => match q.1 with
  | .int n => if n < 16777216 ∧ -(2 ^ 62) ≤ n then some (.loc q.2.length, q.2 ++ [.lst (rngW 0 n.toNat)]) else none
  | _ => none
theorem rg_rw {K : KW} {H : Hp} {ι : List Addr} (lo : Int) : ∀ (l : List Nat), RWs K H ι (l.map fun i => V.int (lo + (i : Nat))) (l.map fun i => W.int (lo + (i : Nat)))
  | [] => .nil
  | i :: l => .cons (.int _) (rg_rw lo l)
theorem z_listRg [Tabs] (hc : X.calm = true) (hg : Gl X "list") (hm : X.mg "list" = none) (hg2 : Gl X "range") (hm2 : X.mg "range" = none) (ha : PZ X a f) (na : starEach [.Call (.Name "range" p2) [a] [] pos2] X.env = (false, eval (.Call (.Name "range" p2) [a] [] pos2) X.env) :: starEach [] X.env := by rfl)
    (na2 : starEach [a] X.env = (false, eval a X.env) :: starEach [] X.env := by rfl) : PZ X (.Call (.Name "list" p) [.Call (.Name "range" p2) [a] [] pos2] [] pos) (zListRg f) := imp (pe_listRg hc hg hm (prg_1 hg2 hm2 ha na2) na) fun σ H Q ⟨ι, E, A, w, A', r1, r2, e, q⟩ => by
  unfold zListRg at e
  cases ef : f E A with
  | none => rw [ef] at e; cases e
  | some p =>
    rw [ef] at e
    simp only [Option.bind_some] at e
    split at e
    · rename_i n hn
      split at e
      · rename_i hb
        cases e
        refine tZ_go r1 r2 (by rw [ef] : f E A = some (p.1, p.2)) fun v H1 ι1 g1 rv rh1 => ?_
        rw [hn] at rv; cases rv
        refine ⟨n, rfl, ⟨by omega, by omega, by omega, by omega, by omega⟩, fun q' hq' => ?_⟩
        have rr : RWs X.kw H1 ι1 (rgV 0 n) (rngW 0 n.toNat) := by
          unfold rgV rngW
          rw [Int.sub_zero]
          exact rg_rw 0 _
        obtain ⟨x1, x2, x3⟩ := new_lst rh1 hq' rr
        exact q _ _ _ (g1.trans x3) x1 x2
      · cases e
    · cases e
/-- n - 1, .., 0 -/
def revW (n : Nat) : List W := (List.range n).map fun i => .int ((n : Int) - 1 - (i : Nat))
def ziRev (f : ZE) : ZI := fun E A => (f E A).bind fun q => match q.1 with
  | .int n => if -(2 ^ 62) ≤ n ∧ n < 2 ^ 62 then some (.fix (revW n.toNat), q.2) else none
  | _ => none
theorem revW_len {n : Nat} : (revW n).length = n := by unfold revW; simp
theorem revW_get {n i : Nat} {w : W} (h : (revW n)[i]? = some w) : i < n ∧ w = .int ((n : Int) - 1 - (i : Nat)) := by
  unfold revW at h
  rw [List.getElem?_map] at h
  cases e : (List.range n)[i]? with
  | none => rw [e] at h; cases h
  | some j =>
    rw [e] at h
    obtain ⟨hl, ej⟩ := List.getElem?_eq_some_iff.mp e
    rw [List.getElem_range] at ej
    subst ej
    cases h
    exact ⟨by simpa using hl, rfl⟩
theorem zi_rev [Tabs] {tg : Expr} (hg : Gl X "reversed") (hm : X.mg "reversed" = none) (hg2 : Gl X "range") (hm2 : X.mg "range" = none) (ha : PZ X a f) (na : starEach [.Call (.Name "range" p2) [a] [] pos2] X.env = (false, eval (.Call (.Name "range" p2) [a] [] pos2) X.env) :: starEach [] X.env := by rfl)
    (na2 : starEach [a] X.env = (false, eval a X.env) :: starEach [] X.env := by rfl) : PIZ X tg (.Call (.Name "reversed" p) [.Call (.Name "range" p2) [a] [] pos2] [] pos) (ziRev f) := impI (pi_revR hg hm (prg_1 hg2 hm2 ha na2) na) fun σ H R ⟨ι, E, A, sc, A', r1, r2, e, q⟩ => by
  unfold ziRev at e
  cases ef : f E A with
  | none => rw [ef] at e; cases e
  | some p =>
    rw [ef] at e
    simp only [Option.bind_some] at e
    split at e
    · rename_i n hn
      split at e
      · rename_i hb
        cases e
        refine tZ_go r1 r2 (by rw [ef] : f E A = some (p.1, p.2)) fun v H1 ι1 g1 rv rh1 => ?_
        rw [hn] at rv; cases rv
        refine ⟨n, rfl, by omega, by omega, hb.1, hb.2, q _ H1 ι1 g1 rh1 ?_⟩
        rw [Int.sub_zero]
        intro H ι A ws' i g r e
        cases e
        refine ⟨fun w hw => ?_, fun hl => by rw [revW_len] at hl; exact hl⟩
        obtain ⟨h1, rfl⟩ := revW_get hw
        exact ⟨h1, fun x H' ⟨e1, e2⟩ => by
          subst e1; subst e2
          refine ⟨ι, .refl, r, ?_⟩
          have e9 : (0 : Int) + ((n.toNat : Nat) : Int) - 1 + (i : Nat) * (-1) = ((n.toNat : Nat) : Int) - 1 - (i : Nat) := by omega
          rw [e9]
          exact .int _⟩
      · cases e
    · cases e
end
/-! ### dicts by ints and texts -/
def keyW : W → Option Key
  | .int i => some (.inl i)
  | .str x => some (.inr x)
  | _ => none
theorem keyW_rw {K : KW} {H : Hp} {ι : List Addr} {v : V} {w : W} {k : Key} (h : RW K H ι v w) (e : keyW w = some k) : v = kV k := by
  cases h <;> cases e <;> rfl
def valW (kvs : List (Key × W)) (k : Key) : Option W := (kvs.find? fun kv => decide (kv.1 = k)).map (·.2)
def putW (kvs : List (Key × W)) (k : Key) (v : W) : List (Key × W) :=
  if (kvs.any fun kv => decide (kv.1 = k)) = true then kvs.map (fun kv => if kv.1 = k then (kv.1, v) else kv) else kvs ++ [(k, v)]
section
variable {K : KW} {H : Hp} {ι : List Addr}
theorem val_rw {k : Key} : ∀ {kvs : List (Key × V)} {kws : List (Key × W)}, kvs.map (·.1) = kws.map (·.1) → RWs K H ι (kvs.map (·.2)) (kws.map (·.2)) → (valV kvs k = none ∧ valW kws k = none) ∨ ∃ v w, valV kvs k = some v ∧ valW kws k = some w ∧ RW K H ι v w
  | [], [], _, _ => .inl ⟨rfl, rfl⟩
  | [], _ :: _, h, _ => by simp at h
  | _ :: _, [], h, _ => by simp at h
  | (a, v) :: r, (b, w) :: s, h, hr => by
    simp only [List.map_cons, List.cons.injEq] at h
    obtain ⟨rfl, h⟩ := h
    cases hr with
    | cons h1 h2 =>
      by_cases e : a = k
      · right
        exact ⟨v, w, by simp [valV, e], by simp [valW, e], h1⟩
      · have ih := val_rw (k := k) h h2
        have e1 : valV ((a, v) :: r) k = valV r k := by simp [valV, List.find?_cons, e]
        have e2 : valW ((a, w) :: s) k = valW s k := by simp [valW, List.find?_cons, e]
        rw [e1, e2]; exact ih
theorem put_rw {k : Key} {v : V} {w : W} (hv : RW K H ι v w) {kvs : List (Key × V)} {kws : List (Key × W)} (h : kvs.map (·.1) = kws.map (·.1)) (hr : RWs K H ι (kvs.map (·.2)) (kws.map (·.2))) :
    (putK kvs k v).map (·.1) = (putW kws k w).map (·.1) ∧ RWs K H ι ((putK kvs k v).map (·.2)) ((putW kws k w).map (·.2)) := by
  have ha : (kvs.any fun kv => decide (kv.1 = k)) = (kws.any fun kv => decide (kv.1 = k)) := by
    have e1 : (kvs.any fun kv => decide (kv.1 = k)) = (kvs.map (·.1)).any fun x => decide (x = k) := by rw [List.any_map]; rfl
    have e2 : (kws.any fun kv => decide (kv.1 = k)) = (kws.map (·.1)).any fun x => decide (x = k) := by rw [List.any_map]; rfl
    rw [e1, e2, h]
  unfold putK putW
  rw [ha]
  split
  · clear ha
    have m : ∀ {kvs : List (Key × V)} {kws : List (Key × W)}, kvs.map (·.1) = kws.map (·.1) → RWs K H ι (kvs.map (·.2)) (kws.map (·.2)) →
        (kvs.map (fun kv => if kv.1 = k then (kv.1, v) else kv)).map (·.1) = (kws.map (fun kv => if kv.1 = k then (kv.1, w) else kv)).map (·.1) ∧
        RWs K H ι ((kvs.map (fun kv => if kv.1 = k then (kv.1, v) else kv)).map (·.2)) ((kws.map (fun kv => if kv.1 = k then (kv.1, w) else kv)).map (·.2)) := by
      intro kvs
      induction kvs with
      | nil =>
        intro kws h hr
        cases kws with
        | nil => exact ⟨rfl, .nil⟩
        | cons _ _ => simp at h
      | cons p r ih =>
        intro kws h hr
        cases kws with
        | nil => simp at h
        | cons p' s =>
          obtain ⟨a, x⟩ := p
          obtain ⟨b, y⟩ := p'
          simp only [List.map_cons, List.cons.injEq] at h
          obtain ⟨rfl, h⟩ := h
          cases hr with
          | cons h1 h2 =>
            obtain ⟨i1, i2⟩ := ih h h2
            by_cases e : a = k
            · simp only [List.map_cons, e, if_true]
              exact ⟨by simpa using i1, .cons hv i2⟩
            · simp only [List.map_cons, e, if_false]
              exact ⟨by simpa using i1, .cons h1 i2⟩
    exact m h hr
  · simp only [List.map_append, List.map_cons, List.map_nil, h]
    exact ⟨trivial, hr.append (.cons hv .nil)⟩
end
def zDict0 : ZE := fun _ A => some (.loc A.length, A ++ [.dic []])
section
variable {X : Cx} {pos spos : Pos} {o i e value : Expr} {fo fi fv : ZE}
theorem z_dict0 [Tabs] : PZ X (.Dict [] [] pos) zDict0 := imp pe_dnewK fun σ H Q ⟨ι, E, A, w, A', r1, r2, e, q⟩ => by
  cases e
  intro p hp
  have g : Gr H (upd H p (.dK [])) ι (ι ++ [p]) := Gr.grow hp _
  exact q _ _ _ g (.loc (by rw [← r2.len]; simp)) (r2.alloc hp ⟨[], upd_same, rfl, .nil⟩)
/-- d[k] -/
def sDGet : S2 := fun u v A => match u with
  | .loc n => match A[n]?, keyW v with
    | some (.dic kvs), some k => (valW kvs k).map fun w => (w, A)
    | _, _ => none
  | _ => none
theorem z_dget [Tabs] (hu : X.A.units + 1 < cLine) (ho : PZ X o fo) (hi : PZ X i fi) (hs : NoSl i) : PZ X (.Subscript o i pos) (z2 sDGet fo fi) := imp (pe_dget hu ho hi hs) fun σ H Q h => by
  have ok : R2Ok X.kw (fun x y H Q => ∃ a v, x = .ref a ∧ DGet H a y (some v) ∧ Q v H) sDGet := by
    intro H ι A x y u v w A' Q h1 h2 h3 h4 q
    unfold sDGet at h4
    split at h4
    · split at h4
      · rename_i n _ _ kws k e1 e2
        cases ev : valW kws k with
        | none => rw [ev] at h4; cases h4
        | some z =>
          rw [ev] at h4; cases h4
          cases h1 with
          | loc hi =>
            obtain ⟨kvs, a1, b1, b2⟩ := (h3.ok _ _ _ e1 hi : RO X.kw H ι _ (.dic kws))
            have e3 := keyW_rw h2 e2
            subst e3
            rcases val_rw (k := k) b1 b2 with ⟨c1, c2⟩ | ⟨v', w', c1, c2, c3⟩
            · rw [ev] at c2; cases c2
            · rw [ev] at c2; cases c2
              refine ⟨_, v', rfl, ?_, q v' H ι .refl c3 h3⟩
              rw [← c1]; exact DGet.k a1
      · cases h4
    · cases h4
  exact two_go ok h
/-- d.get(k) -/
def sDGet1 : S2 := fun u v A => match u with
  | .loc n => match A[n]?, keyW v with
    | some (.dic kvs), some k => some ((valW kvs k).getD .non, A)
    | _, _ => none
  | _ => none
/-- k in d -/
def sDIn : S2 := fun v u A => match u with
  | .loc n => match A[n]?, keyW v with
    | some (.dic kvs), some k => some (.bl (valW kvs k).isSome, A)
    | _, _ => none
  | _ => none
theorem ok_din {K : KW} : R2Ok K (fun y x H Q => ∃ a o, x = .ref a ∧ DGet H a y o ∧ Q (.bl o.isSome) H) sDIn := by
  intro H ι A x y u v w A' Q h1 h2 h3 h4 q
  unfold sDIn at h4
  split at h4
  · split at h4
    · rename_i n _ _ kws k e1 e2
      cases h4
      cases h2 with
      | loc hi =>
        obtain ⟨kvs, a1, b1, b2⟩ := (h3.ok _ _ _ e1 hi : RO K H ι _ (.dic kws))
        have e3 := keyW_rw h1 e2
        subst e3
        refine ⟨_, valV kvs k, rfl, DGet.k a1, ?_⟩
        rcases val_rw (k := k) b1 b2 with ⟨c1, c2⟩ | ⟨v', w', c1, c2, c3⟩
        · rw [c1]; rw [c2] at q; exact q _ H ι .refl (.bl _) h3
        · rw [c1]; rw [c2] at q; exact q _ H ι .refl (.bl _) h3
    · cases h4
  · cases h4
theorem zt_din [Tabs] (hu : X.A.units + 1 < cLine) (hi : PZ X i fi) (ho : PZ X o fo) (h1 : behindInMarks .In o = false := by rfl) : PTZ X (.Compare i [.In] [o] pos) (zBl (z2 sDIn fi fo)) := impT (pt_cmp (pc_din hu hi ho) h1) fun σ H Q q => two_go ok_din (zBl_go q)
theorem z_din [Tabs] (hu : X.A.units + 1 < cLine) (hi : PZ X i fi) (ho : PZ X o fo) (h1 : behindInMarks .In o = false := by rfl) : PZ X (.Compare i [.In] [o] pos) (z2 sDIn fi fo) := imp (pe_cmp (pc_din hu hi ho) h1) fun σ H Q q => two_go ok_din q
/-- d[k] = v -/
def zsDPut (fv fo fi : ZE) : ZS := fun E A => (fv E A).bind fun p => (fo E p.2).bind fun q => (fi E q.2).bind fun z => match q.1, keyW z.1 with
  | .loc n, some k => match z.2[n]? with
    | some (.dic kvs) => if kvs.length < sizeLine then some (.nx E, z.2.set n (.dic (putW kvs k p.1))) else none
    | _ => none
  | _, _ => none
theorem zs_dput [Tabs] (hu : X.A.units + 1 < cLine) (ho : PZ X o fo) (hi : PZ X i fi) (hv : PZ X value fv) (hs : swapsWith value (some (.Subscript o i spos)) pos.line X.env = pure false := by rfl) : PSZ X (.Assign [.Subscript o i spos] value pos) (zsDPut fv fo fi) := impS (ps_dput hu ho hi hv hs) fun D σ H ⟨ι, E, A, oo, A', r1, r2, e, q⟩ => by
  unfold zsDPut at e
  cases ef : fv E A with
  | none => rw [ef] at e; cases e
  | some p =>
    rw [ef] at e
    simp only [Option.bind_some] at e
    cases eo : fo E p.2 with
    | none => rw [eo] at e; cases e
    | some z =>
      rw [eo] at e
      simp only [Option.bind_some] at e
      cases ei : fi E z.2 with
      | none => rw [ei] at e; cases e
      | some y =>
        rw [ei] at e
        simp only [Option.bind_some] at e
        refine tZ_go r1 r2 (ef.trans rfl : fv E A = some (p.1, p.2)) fun v H1 ι1 g1 rv rh1 => ?_
        refine tZ_go (r1.up g1) rh1 (by rw [eo] : fo E p.2 = some (z.1, z.2)) fun vo H2 ι2 g2 ro rh2 => ?_
        refine tZ_go ((r1.up g1).up g2) rh2 (by rw [ei] : fi E z.2 = some (y.1, y.2)) fun vi H3 ι3 g3 ri rh3 => ?_
        split at e
        · rename_i n k hz hy
          split at e
          · rename_i _ kws hws
            split at e
            · rename_i hlen
              cases e
              rw [hz] at ro
              have e3 := keyW_rw ri hy
              subst e3
              cases ro with
              | loc i1 =>
                have i2 := g3.at i1
                obtain ⟨kvs, a1, b1, b2⟩ := (rh3.ok _ _ _ hws i2 : RO X.kw H3 ι3 _ (.dic kws))
                obtain ⟨c1, c2⟩ := put_rw (k := k) ((rv.up g2).up g3) b1 b2
                have g5 : Gr H3 (upd H3 _ (.dK (putK kvs k v))) ι3 ι3 := Gr.put ⟨_, a1, trivial⟩ _
                have x2 : RH X.kw (upd H3 _ (.dK (putK kvs k v))) ι3 (y.2.set n (.dic (putW kws k p.1))) := rh3.put i2 ⟨_, a1, trivial⟩ ⟨_, upd_same, c1, c2.up g5⟩
                have g4 := g1.trans (g2.trans (g3.trans g5))
                have hl : kvs.length = kws.length := by simpa using congrArg List.length b1
                exact ⟨_, _, rfl, DPut.k a1 (by rw [hl]; exact hlen), q _ _ g4 x2 σ (r1.up g4)⟩
            · cases e
          · cases e
        · cases e
end
/-! sorted(d) of text keys -/
def insS (x : Str) : List Str → List Str
  | [] => [x]
  | y :: r => if decide (x.cps.toList < y.cps.toList) = true then x :: y :: r else y :: insS x r
def sortS : List Str → List Str
  | [] => []
  | x :: r => insS x (sortS r)
/-! ### list stores -/
theorem zs_putL [Tabs] {X : Cx} {pos spos : Pos} {e o i : Expr} {f fo fi : ZE} (he : PZ X e f) (ho : PZ X o fo) (hi : PZ X i fi)
    (ha : ∀ v, assign (.Subscript o i spos) X.env v = (do
      let ov ← holding [v] (eval o X.env)
      let iv ← holding [v, ov] (eval i X.env)
      standAt spos
      holding [v, ov, iv] (setItem ov iv v)
      release [v, ov, iv] []) := by intro _; rfl)
    (hs : swapsWithSole [.Subscript o i spos] e pos.line X.env = pure false := by rfl) (hw : swappedStores [.Subscript o i spos] e X.env = pure none := by rfl)
    (h1 : (assignEach [.Subscript o i spos] X.env).map (·.2) = [assign (.Subscript o i spos) X.env] := by rfl) : PSZ X (.Assign [.Subscript o i spos] e pos) (zsPut f fo fi) := zs_put he ho hi (ps_asg he (pg_sub ho hi set_list ha) hs hw h1)
/-! ### what is called -/
structure Cal [Tabs] (P : Program) (w : World) (K : PySem.W.Frag) (mg : Str → Option Value) (base : Heap) (k : Nat) (x : Str) (n : Nat) (F : ZF) : Prop where
  ex : ∃ f fd ps, FnOk P w K mg base CX0 k f fd ps (spZ ⟨K, P, w, Tabs.T⟩ n F) ∧ mg x = some (.ref f) ∧ PySem.W.keepIn K (.ref f) = true ∧ Binds K fd ps []
theorem Cal.mono [Tabs] {P : Program} {w : World} {K : PySem.W.Frag} {mg : Str → Option Value} {base : Heap} {j k : Nat} {x : Str} {n : Nat} {F : ZF} (c : Cal P w K mg base j x n F) (h : j ≤ k) : Cal P w K mg base k x n F :=
  let ⟨f, fd, ps, g, r⟩ := c.ex; ⟨f, fd, ps, g.mono h, r⟩
theorem z_cal [Tabs] {X : Cx} {x : Str} {p pos : Pos} {e : Expr} {es : List Expr} {g : ZA} {k n : Nat} {F : ZF} (G : Cal X.prog X.w X.K X.mg X.base k x n F) (hr : Room k X.A) (hg : Gl X x) (ha : PAZ X (e :: es) g)
    (hdb : (x == ("__debug__" : Str)) = false := by decide) (he : starEach (e :: es) X.env = (false, eval e X.env) :: starEach es X.env := by rfl) (hpl : (backTo pos (starEach es X.env)).any (·.1) = false := by rfl) : PZ X (.Call (.Name x p) (e :: es) [] pos) (zCall n F g) :=
  let ⟨_, _, _, G, hm, hk, hb⟩ := G.ex; z_fn G hr hg hm hk hb ha hdb he hpl
/-- the built-in names are what they were -/
structure Blt (mg : Str → Option Value) : Prop where
  len : mg "len" = none
  int : mg "int" = none
  abs : mg "abs" = none
  str : mg "str" = none
  list : mg "list" = none
  tuple : mg "tuple" = none
  dict : mg "dict" = none
  range : mg "range" = none
  reversed : mg "reversed" = none
  enumerate : mg "enumerate" = none
  isinstance : mg "isinstance" = none
  sorted : mg "sorted" = none
  all : mg "all" = none
  any : mg "any" = none
  set : mg "set" = none
  bool : mg "bool" = none
theorem bt_len : bootBuiltins "len" = some (.builtin "len") := by decide +kernel
theorem bt_abs : bootBuiltins "abs" = some (.builtin "abs") := by decide +kernel
theorem bt_isinstance : bootBuiltins "isinstance" = some (.builtin "isinstance") := by decide +kernel
theorem bt_sorted : bootBuiltins "sorted" = some (.builtin "sorted") := by decide +kernel
theorem bt_bool : bootBuiltins "bool" = some (.type "bool") := by decide +kernel
theorem bt_int : bootBuiltins "int" = some (.type "int") := by decide +kernel
theorem bt_str : bootBuiltins "str" = some (.type "str") := by decide +kernel
theorem bt_list : bootBuiltins "list" = some (.type "list") := by decide +kernel
theorem bt_tuple : bootBuiltins "tuple" = some (.type "tuple") := by decide +kernel
theorem bt_dict : bootBuiltins "dict" = some (.type "dict") := by decide +kernel
end Z
set_option Elab.async false
set_option linter.all false
set_option maxRecDepth 100000
set_option maxHeartbeats 4000000
namespace Z
open PySem L2
section
variable {X : Cx} {pos : Pos} {a : Expr} {f : ZE}
def powOkB (i j : Int) : Bool := decide (0 ≤ j ∧ j ≤ 1000000 ∧ i.natAbs < 2 ^ 64)
abbrev sPow : S2 := sII powOkB fun i j => .int (i ^ j.toNat)
theorem ok_pow {K : KW} : R2Ok K (rI CPow fun i j => .int (i ^ j.toNat)) sPow := ok_II (fun i j h => by
  unfold powOkB at h
  rw [decide_eq_true_eq] at h
  exact h) fun _ _ _ _ => .int _
def zNeg (f : ZE) : ZE := fun E A => (f E A).bind fun p => match p.1 with
  | .int i => some (.int (-i), p.2)
  | _ => none
theorem z_neg [Tabs] (ha : PZ X a f) : PZ X (.UnaryOp .USub a pos) (zNeg f) := imp (pe_un un_neg ha) fun σ H Q ⟨ι, E, A, w, A', r1, r2, e, q⟩ => by
  unfold zNeg at e
  cases ef : f E A with
  | none => rw [ef] at e; cases e
  | some p =>
    rw [ef] at e
    simp only [Option.bind_some] at e
    split at e
    · rename_i i hi
      cases e
      refine tZ_go r1 r2 (by rw [ef] : f E A = some (p.1, p.2)) fun x H1 ι1 g1 rx rh1 => ?_
      rw [hi] at rx; cases rx
      exact ⟨i, rfl, q _ H1 ι1 g1 (.int _) rh1⟩
    · cases e
end
/-! ### text in a dict of the module -/
structure GIn (K : PySem.W.Frag) (w : World) (mg : Str → Option Value) (x : Str) (keys : List Str) : Prop where
  ex : ∃ d es n, mg x = some (.ref d) ∧ KDict K w d es n ∧ ∀ z : Str, ∃ r, PySem.W.nsIn K d z = some r ∧ r.isSome = decide (z ∈ keys)
def zGIn (keys : List Str) (f : ZE) : ZE := fun E A => (f E A).bind fun p => match p.1 with
  | .str z => some (.bl (decide (z ∈ keys)), p.2)
  | _ => none
section
variable {X : Cx} {pos pos2 : Pos} {a : Expr} {f : ZE} {x : Str} {keys : List Str}
theorem gin_go {K : KW} {d : Addr} (hz : ∀ z : Str, ∃ r, PySem.W.nsIn K d z = some r ∧ r.isSome = decide (z ∈ keys)) {σ : St} {H : Hp} {Q : VK} (h : tZ K (zGIn keys f) σ H Q) :
    tOp (fun x y H Q => ∃ (z : Str) (r : Option Value), x = .str z ∧ y = .ref d ∧ PySem.W.nsIn K d z = some r ∧ Q (.bl r.isSome) H) (tZ K f) (tC (.ref d)) σ H Q := by
  obtain ⟨ι, E, A, w, A', r1, r2, e, q⟩ := h
  unfold zGIn at e
  cases ef : f E A with
  | none => rw [ef] at e; cases e
  | some p =>
    rw [ef] at e
    simp only [Option.bind_some] at e
    split at e
    · rename_i z hi
      cases e
      refine tZ_go r1 r2 (by rw [ef] : f E A = some (p.1, p.2)) fun x H1 ι1 g1 rx rh1 => ?_
      rw [hi] at rx; cases rx
      obtain ⟨r, e1, e2⟩ := hz z
      exact ⟨z, r, rfl, rfl, e1, by rw [e2]; exact q _ H1 ι1 g1 (.bl _) rh1⟩
    · cases e
theorem z_gin [Tabs] (G : GIn X.K X.w X.mg x keys) (hg : Gl X x) (ha : PZ X a f) (hd : (x == ("__debug__" : Str)) = false := by decide) (hm : behindInMarks .In (.Name x pos2) = false := by rfl) : PZ X (.Compare a [.In] [.Name x pos2] pos) (zGIn keys f) :=
  let ⟨d, es, n, m, D, hz⟩ := G.ex
  imp (pe_cmpR (op_in_kd D) ha (pe_glob (v := .ref d) hg m rfl hd) hm) fun σ H Q q => gin_go hz q
theorem zt_gin [Tabs] (G : GIn X.K X.w X.mg x keys) (hg : Gl X x) (ha : PZ X a f) (hd : (x == ("__debug__" : Str)) = false := by decide) (hm : behindInMarks .In (.Name x pos2) = false := by rfl) : PTZ X (.Compare a [.In] [.Name x pos2] pos) (zBl (zGIn keys f)) :=
  let ⟨d, es, n, m, D, hz⟩ := G.ex
  impT (pt_cmpR (op_in_kd D) ha (pe_glob (v := .ref d) hg m rfl hd) hm) fun σ H Q q => gin_go hz (zBl_go q)
end
/-! ### l.index of flat items -/
def idxF (v : V) : List V → Option Nat
  | [] => none
  | x :: r => if eqV x v = true then some 0 else (idxF v r).map (· + 1)
theorem idxF_some {v : V} : ∀ {l : List V} {j : Nat}, idxF v l = some j → (∃ z, l[j]? = some z ∧ eqV z v = true) ∧ ∀ (m : Nat) (z : V), m < j → l[m]? = some z → eqV z v = false
  | [], _, h => by cases h
  | x :: r, j, h => by
    unfold idxF at h
    split at h
    · rename_i hx
      cases h
      exact ⟨⟨x, rfl, hx⟩, fun m z hm => absurd hm (Nat.not_lt_zero m)⟩
    · rename_i hx
      cases e : idxF v r with
      | none => rw [e] at h; cases h
      | some k =>
        rw [e] at h; cases h
        obtain ⟨⟨z, h1, h2⟩, h3⟩ := idxF_some e
        refine ⟨⟨z, by simpa using h1, h2⟩, fun m z' hm hz => ?_⟩
        cases m with
        | zero => simp at hz; subst hz; simpa using hx
        | succ m => exact h3 m z' (Nat.lt_of_succ_lt_succ hm) (by simpa using hz)
def sIndex : SM := fun u us A => match u, us with
  | .loc n, [w] => match A[n]? with
    | some (.lst ws) => (flatW w).bind fun v => (flatWs ws).bind fun vs => (idxF v vs).map fun j => (.int j, A)
    | _ => none
  | _, _ => none
theorem ok_index {K : KW} : RMOk K "list" (rIndex K) sIndex (fun u A => isLstB u A = true) := by
  refine ⟨isLst_ok, ?_⟩
  intro H ι A x u xs us w A' Q h1 h2 h3 h4 q
  unfold sIndex at h4
  split at h4
  · split at h4
    · rename_i n w _ ws e
      cases ew : flatW w with
      | none => rw [ew] at h4; cases h4
      | some v =>
        rw [ew] at h4
        simp only [Option.bind_some] at h4
        cases ev : flatWs ws with
        | none => rw [ev] at h4; cases h4
        | some vs =>
          rw [ev] at h4
          simp only [Option.bind_some] at h4
          cases ej : idxF v vs with
          | none => rw [ej] at h4; cases h4
          | some j =>
            rw [ej] at h4; cases h4
            cases h1 with
            | loc i =>
              cases h2 with
              | cons a b =>
                cases b
                obtain ⟨ys, a1, b1⟩ := h3.lst e i
                obtain ⟨e1, f1⟩ := flatW_rw a ew
                obtain ⟨e2, f2⟩ := flatWs_rw b1 ev
                subst e1; subst e2
                obtain ⟨⟨z, k1, k2⟩, k3⟩ := idxF_some ej
                exact ⟨_, ys, _, j, z, rfl, rfl, SqL.of a1, f1, f2, k1, k2, k3, q _ H ι .refl (.int _) h3⟩
    · cases h4
  · cases h4
end Z
set_option Elab.async false
set_option linter.all false
set_option maxRecDepth 100000
set_option maxHeartbeats 4000000
namespace Z
open PySem L2
/-! ### dicts by nested tuples -/
def DNat (K : KW) (H : Hp) (a : Addr) (xs : List EntN) : Prop := H a = some (DN K.P K.w a xs) ∨ ∃ o, H a = some (.frz o (DN K.P K.w a xs))
section
variable {X : Cx} {pins : List (Addr × Obj)} {σ : St} {H : Hp} {s : Shared} {ι : List Addr}
mutual
theorem RW.nested [Tabs] (I : Inv X pins σ H s) : ∀ (w : W) {v : V} {k : NestedKey} {u : Value}, RW X.kw H ι v w → keyN w = some k → RelV v u → NestedIs s.heap k u
  | .non, _, _, _, h, e, r => by cases h; cases e; cases r; exact .none
  | .bl b, _, _, _, h, e, r => by cases h; cases e; cases r; exact .bool rfl
  | .int i, _, _, _, h, e, r => by cases h; cases e; obtain ⟨t, rfl⟩ := r; exact .int _ _
  | .str x, _, _, _, h, e, r => by cases h; cases e; obtain ⟨t, rfl⟩ := r; exact .text _ _
  | .tup ws, _, _, _, h, e, r => by
    cases h with
    | tup a b =>
      cases r
      simp only [keyN] at e
      cases ek : keyNs ws with
      | none => rw [ek] at e; cases e
      | some ks =>
        rw [ek] at e; cases e
        obtain ⟨its, rv, ⟨o, ho, hc, n, hd⟩, _⟩ := I.tuple a.sqt
        exact .tup ho hc hd (RWs.nested I ws b ek rv)
  | .frl ws, _, _, _, _, e, _ => by cases e
  | .loc n, _, _, _, _, e, _ => by cases e
  | .ty n, _, _, _, _, e, _ => by cases e
theorem RWs.nested [Tabs] (I : Inv X pins σ H s) : ∀ (ws : List W) {vs : List V} {ks : List NestedKey} {us : List Value}, RWs X.kw H ι vs ws → keyNs ws = some ks → Vals vs us → NestedAll s.heap ks us
  | [], _, _, _, h, e, r => by cases h; cases e; cases r; exact .nil
  | w :: ws, _, _, _, h, e, r => by
    cases h with
    | cons a b =>
      cases r with
      | cons r1 r2 =>
        simp only [keyNs] at e
        cases ek : keyN w with
        | none => rw [ek] at e; cases e
        | some k =>
          cases es : keyNs ws with
          | none => rw [ek, es] at e; cases e
          | some ks =>
            rw [ek, es] at e; cases e
            exact .cons (RW.nested I w a ek r1) (RWs.nested I ws b es r2)
end
theorem RN.all [Tabs] (I : Inv X pins σ H s) : ∀ {xs : List EntN} {kvs : List (W × W)}, RN X.kw H ι xs kvs → ∀ x ∈ xs, (nestedKind X.prog X.w).is s.heap x.1 x.2.1
  | _, _, .nil, x, hx => by cases hx
  | _, _, .cons a b c d e f, x, hx => by
    rcases List.mem_cons.mp hx with z | z
    · subst z; exact ⟨RW.nested I _ c a rfl, b⟩
    · exact RN.all I f x z
theorem dn_ent [Tabs] (I : Inv X pins σ H s) {a : Addr} {xs : List EntN} (h : DNat X.kw H a xs) : ∃ o es ep, s.heap.get? a = some o ∧ o.ExactDict ∧ o.data = .dict es ep ∧ es.toList = xs.map (entryOfKey (nestedKind X.prog X.w)) := by
  rcases h with h | ⟨o, h⟩
  · exact (I.hok a _ h).1
  · exact (I.hok a _ h).2.1
theorem dn_at [Tabs] (I : Inv X pins σ H s) {a : Addr} {xs : List EntN} {kvs : List (W × W)} (h : DNat X.kw H a xs) (nd : (xs.map (·.1)).Nodup) (r : RN X.kw H ι xs kvs) : s.heap.DictOfH (nestedKind X.prog X.w) a xs := by
  obtain ⟨o, es, ep, h1, h2, h3, h4⟩ := dn_ent I h
  exact ⟨o, es, ep, h1, h2, h3, h4, RN.all I r, nd⟩
theorem dn_new {P : Program} {w : World} {H : Hp} {h : Heap} {a : Addr} {xs : List EntN} (q : ∃ o es ep, h.get? a = some o ∧ o.ExactDict ∧ o.data = .dict es ep ∧ es.toList = xs.map (entryOfKey (nestedKind P w))) : ObjOk P w H h a (DN P w a xs) := by
  have ⟨o, _, _, ho, _⟩ := q
  exact ⟨q, ⟨o, ho⟩, fun h1 h2 p k => by
    obtain ⟨o, es, ep, h1, h2⟩ := p
    exact ⟨o, es, ep, k o h1, h2⟩⟩
end
def hasN (kvs : List (W × W)) (k : NestedKey) : Bool := kvs.any fun kv => decide (keyN kv.1 = some k)
def valN (kvs : List (W × W)) (k : NestedKey) : Option W := (kvs.find? fun kv => decide (keyN kv.1 = some k)).map (·.2)
def putN (kvs : List (W × W)) (kw : W) (k : NestedKey) (v : W) : List (W × W) :=
  if (valN kvs k).isSome = true then kvs.map (fun kv => if keyN kv.1 = some k then (kv.1, v) else kv) else kvs ++ [(kw, v)]
section
variable {K : KW} {H : Hp} {ι : List Addr}
theorem RN.val {k : NestedKey} : ∀ {xs : List EntN} {kvs : List (W × W)}, RN K H ι xs kvs → (atKey xs k = none ∧ valN kvs k = none) ∨ ∃ p v w, atKey xs k = some p ∧ valN kvs k = some w ∧ RelV v p.2 ∧ RW K H ι v w
  | _, _, .nil => .inl ⟨rfl, rfl⟩
  | _, _, .cons (k := k') (b := b) (u := u) (v := v) (kw := kw) (vw := vw) (xs := xs) (kvs := kvs) a1 a2 a3 a4 a5 f => by
    by_cases e : k' = k
    · right
      subst e
      exact ⟨(b, u), v, vw, by simp [atKey], by simp [valN, a1], a4, a5⟩
    · have ih := RN.val (k := k) f
      have e1 : atKey ((k', b, u) :: xs) k = atKey xs k := by simp [atKey, List.find?_cons, e]
      have e2 : valN ((kw, vw) :: kvs) k = valN kvs k := by
        have : ¬ keyN kw = some k := by rw [a1]; intro z; exact e (Option.some.inj z)
        simp [valN, List.find?_cons, this]
      rw [e1, e2]; exact ih
theorem RN.put {k : NestedKey} {b : Addr} {u : Value} {v : V} {kw vw : W} {xs : List EntN} {kvs : List (W × W)} (r : RN K H ι xs kvs) (hk : keyN kw = some k) (hd : k.depth ≤ 8) (rk : RW K H ι (.ref b) kw) (rv : RelV v u) (rw' : RW K H ι v vw) : RN K H ι (storedH xs k b u) (putN kvs kw k vw) := by
  have hs : (atKey xs k).isSome = (valN kvs k).isSome := by
    rcases r.val (k := k) with ⟨e1, e2⟩ | ⟨p, v, w, e1, e2, _⟩
    · rw [e1, e2]; rfl
    · rw [e1, e2]; rfl
  unfold storedH putN
  rw [hs]
  split
  · rename_i hx
    clear hs hx
    induction r with
    | nil => exact .nil
    | @cons k' b' u' v' kw' vw' xs kvs a1 a2 a3 a4 a5 f ih =>
      by_cases e : k' = k
      · subst e
        simp only [List.map_cons, putAt, a1, if_true]
        exact .cons a1 a2 a3 rv rw' ih
      · have : ¬ keyN kw' = some k := by rw [a1]; intro z; exact e (Option.some.inj z)
        simp only [List.map_cons, putAt, e, this, if_false]
        exact .cons a1 a2 a3 a4 a5 ih
  · rename_i hx
    clear hs hx
    induction r with
    | nil => exact .cons hk hd rk rv rw' .nil
    | cons a1 a2 a3 a4 a5 f ih =>
      rw [List.cons_append, List.cons_append]
      exact .cons a1 a2 a3 a4 a5 ih
theorem RN.length : ∀ {xs : List EntN} {kvs : List (W × W)}, RN K H ι xs kvs → xs.length = kvs.length
  | _, _, .nil => rfl
  | _, _, .cons _ _ _ _ _ f => by simp [RN.length f]
end
theorem nd_stored {xs : List EntN} {k : NestedKey} {b : Addr} {u : Value} (nd : (xs.map (·.1)).Nodup) : ((storedH xs k b u).map (·.1)).Nodup := by
  unfold storedH
  split
  · rw [keys_map_putAt]; exact nd
  · rename_i h
    rw [List.map_append]
    refine List.nodup_append.mpr ⟨nd, by simp, fun c hc d hd z => ?_⟩
    simp at hd
    subst hd; subst z
    obtain ⟨x, hx, e⟩ := List.mem_map.mp hc
    apply h
    simp only [atKey, Option.isSome_map]
    rw [List.find?_isSome]
    exact ⟨x, hx, by simp [e]⟩
def isTupW : W → Bool
  | .tup _ => true
  | _ => false
/-- {} -/
def zNew : ZE := fun _ A => some (.loc A.length, A ++ [.dicN false []])
section
variable {X : Cx} {pos spos : Pos} {o i e value : Expr} {fo fi fv : ZE} {td ty tv : TE}
theorem pe_dnewN : PE X (.Dict [] [] pos) (fun _ H Q => ∀ p, H p = none → (p == sysModules) = false → Q (.ref p) (upd H p (DN X.prog X.w p []))) := ⟨fun pins s σ H Q I h =>
  wpAny_Dict_empty ⟨.ref s.heap.objs.size, _, I.laid (a := s.heap.objs.size) (o := DN X.prog X.w s.heap.objs.size []) (t' := s.toks) (fun _ _ q => Heap.get?_push_of_some _ q) (Nat.le_refl _)
    (dn_new ⟨_, #[], 0, Heap.get?_push_size _ rfl, ⟨rfl, rfl, rfl⟩, rfl, rfl⟩), rfl, h _ (I.hok.fresh (Nat.le_refl _)) (beq_eq_false_iff_ne.mpr (Nat.ne_of_gt I.big))⟩⟩
theorem z_new [Tabs] : PZ X (.Dict [] [] pos) zNew := imp pe_dnewN fun σ H Q ⟨ι, E, A, w, A', r1, r2, e, q⟩ => by
  cases e
  intro p hp hs
  have g : Gr H (upd H p (DN X.prog X.w p [])) ι (ι ++ [p]) := Gr.grow hp _
  exact q _ _ _ g (.loc (by rw [← r2.len]; simp)) (r2.alloc hp ⟨[], .inl ⟨rfl, upd_same⟩, hs, List.nodup_nil, .nil⟩)
/-- d[k] of such -/
def rNGet (K : KW) : R2 := fun x y H Q => ∃ (ι : List Addr) (a b : Addr) (xs : List EntN) (kvs : List (W × W)) (k : NestedKey) (kw : W) (p : Addr × Value) (v : V), x = .ref a ∧ y = .ref b ∧ DNat K H a xs ∧ (xs.map (·.1)).Nodup ∧ RN K H ι xs kvs ∧ RW K H ι (.ref b) kw ∧ keyN kw = some k ∧ k.depth ≤ 8 ∧
  atKey xs k = some p ∧ RelV v p.2 ∧ Q v H
theorem pe_nget [Tabs] (hu : X.A.units + 65 < cLine) (ho : PE X o td) (hi : PE X i ty) (hs : NoSl i) : PE X (.Subscript o i pos) (tOp (rNGet X.kw) td ty) := by
  refine ⟨fun pins s σ H Q I h => ?_⟩
  refine subD_of PySem.F.slot_dict_getitem.lookup hs (thn (ho.run pins s σ H _ I h) fun u s1 ⟨x, H1, I1, rx, q1⟩ => thn (hi.run pins s1 σ H1 _ I1 q1) fun iv s2 ⟨y, H2, I2, ry, ι, a, b, xs, kvs, k, kw, p, v, ex, ey, hd, nd, rn, rk, ek, hdp, hp, rv, q⟩ => ?_)
  subst ex; subst ey
  obtain rfl : u = Value.ref a := rx
  obtain rfl : iv = Value.ref b := ry
  have D := dn_at I2 hd nd rn
  refine ⟨D.typeIs, wpAny_getItem_heap (knd := nestedKind X.prog X.w) (show X.A.units + 1 + 8 < cLine by omega) ⟨RW.nested I2 kw rk ek rfl, hdp⟩ D hp ⟨v, H2, I2.tok _, rv, q⟩⟩
def sNGet : S2 := fun u v A => match u with
  | .loc n => match A[n]?, keyN v with
    | some (.dicN _ kvs), some k => if isTupW v = true ∧ k.depth ≤ 8 then (valN kvs k).map fun w => (w, A) else none
    | _, _ => none
  | _ => none
theorem RO.dn {K : KW} {H : Hp} {ι : List Addr} {a : Addr} {lk : Bool} {kws : List (W × W)} (h : RO K H ι a (.dicN lk kws)) : ∃ xs, DNat K H a xs ∧ (a == sysModules) = false ∧ (xs.map (·.1)).Nodup ∧ RN K H ι xs kws := by
  obtain ⟨xs, h1 | h1, h2, h3, h4⟩ := h
  · exact ⟨xs, .inl h1.2, h2, h3, h4⟩
  · exact ⟨xs, .inr h1.2, h2, h3, h4⟩
theorem tup_ref {K : KW} {H : Hp} {ι : List Addr} {v : V} {w : W} (h : RW K H ι v w) (e : isTupW w = true) : ∃ b, v = .ref b := by
  cases h <;> first | exact ⟨_, rfl⟩ | cases e
theorem ok_nget {K : KW} : R2Ok K (rNGet K) sNGet := by
  intro H ι A x y u v w A' Q h1 h2 h3 h4 q
  unfold sNGet at h4
  split at h4
  · split at h4
    · rename_i n _ _ lk kws k e1 e2
      split at h4
      · rename_i ht
        cases ev : valN kws k with
        | none => rw [ev] at h4; cases h4
        | some z =>
          rw [ev] at h4; cases h4
          cases h1 with
          | loc hi =>
            obtain ⟨xs, hd, _, nd, rn⟩ := (h3.ok _ _ _ e1 hi).dn
            obtain ⟨b, rfl⟩ := tup_ref h2 ht.1
            rcases rn.val (k := k) with ⟨c1, c2⟩ | ⟨p, v', w', c1, c2, c3, c4⟩
            · rw [ev] at c2; cases c2
            · rw [ev] at c2; cases c2
              exact ⟨ι, _, b, xs, kws, k, _, p, v', rfl, rfl, hd, nd, rn, h2, e2, ht.2, c1, c3, q v' H ι .refl c4 h3⟩
      · cases h4
    · cases h4
  · cases h4
theorem z_nget [Tabs] (hu : X.A.units + 65 < cLine) (ho : PZ X o fo) (hi : PZ X i fi) (hs : NoSl i) : PZ X (.Subscript o i pos) (z2 sNGet fo fi) := imp (pe_nget hu ho hi hs) fun σ H Q q => two_go ok_nget q
/-- d.get(k) -/
def rNGet1 (K : KW) : R2 := fun x y H Q => ∃ (ι : List Addr) (a b : Addr) (xs : List EntN) (kvs : List (W × W)) (k : NestedKey) (kw : W) (v : V), x = .ref a ∧ y = .ref b ∧ (a == sysModules) = false ∧ DNat K H a xs ∧ (xs.map (·.1)).Nodup ∧ RN K H ι xs kvs ∧ RW K H ι (.ref b) kw ∧ keyN kw = some k ∧ k.depth ≤ 8 ∧
  RelV v (((atKey xs k).map (·.2)).getD .none) ∧ Q v H
variable {apos cpos : Pos}
theorem pe_nget1 [Tabs] (hu : X.A.units + 65 < cLine) (ho : PE X o td) (he : PE X e ty) (m : M1 X o "get" apos e cpos) : PE X (.Call (.Attribute o "get" apos) [e] [] cpos) (fun σ H Q => td σ H fun x H1 => (∃ a xs, x = .ref a ∧ DNat X.kw H1 a xs ∧ (a == sysModules) = false) ∧ ty σ H1 fun y H2 => rNGet1 X.kw x y H2 Q) := by
  refine ⟨fun pins s σ H Q I h => ?_⟩
  refine wpAny_Call_method m.base m.few m.line PySem.F.plainAttrs_dict PySem.F.slot_dict_get PySem.F.type_dict_get (thn (ho.run pins s σ H _ I h) fun u s1 ⟨x, H1, I1, rx, ⟨a, xs0, ex, hd0, hns⟩, q1⟩ => ?_)
  subst ex
  obtain rfl : u = Value.ref a := rx
  obtain ⟨ob, es, ep, g1, g2, _⟩ := dn_ent I1 hd0
  refine ⟨⟨ob, g1, g2.1⟩, fun c ec => ?_, ?_⟩
  · cases ec
    exact ⟨ob, g1, g2.2.1⟩
  rw [m.trees]
  refine wpAny_dict_get1_heap (knd := nestedKind X.prog X.w) (show X.A.units + 1 + 8 < cLine by omega) hns (thn (he.run pins s1 σ H1 _ I1 q1) fun iv s2 ⟨y, H2, I2, ry, ι, a', b, xs, kvs, k, kw, v, e1, ey, _, hd, nd, rn, rk, ek, hdp, rv, q⟩ => ?_)
  cases e1
  subst ey
  obtain rfl : iv = Value.ref b := ry
  exact ⟨b, k, xs, rfl, ⟨RW.nested I2 kw rk ek rfl, hdp⟩, dn_at I2 hd nd rn, v, H2, I2.tok _, rv, q⟩
def isDN (u : W) (A : AH) : Bool := match u with
  | .loc n => match A[n]? with
    | some (.dicN _ _) => true
    | _ => false
  | _ => false
def sNGet1 : S2 := fun u v A => match u with
  | .loc n => match A[n]?, keyN v with
    | some (.dicN _ kvs), some k => if isTupW v = true ∧ k.depth ≤ 8 then some ((valN kvs k).getD .non, A) else none
    | _, _ => none
  | _ => none
theorem ok_nget1 {K : KW} : R2Ok K (rNGet1 K) sNGet1 := by
  intro H ι A x y u v w A' Q h1 h2 h3 h4 q
  unfold sNGet1 at h4
  split at h4
  · split at h4
    · rename_i n _ _ lk kws k e1 e2
      split at h4
      · rename_i ht
        cases h4
        cases h1 with
        | loc hi =>
          obtain ⟨xs, hd, hns, nd, rn⟩ := (h3.ok _ _ _ e1 hi).dn
          obtain ⟨b, rfl⟩ := tup_ref h2 ht.1
          rcases rn.val (k := k) with ⟨c1, c2⟩ | ⟨p, v', w', c1, c2, c3, c4⟩
          · refine ⟨ι, _, b, xs, kws, k, _, .non, rfl, rfl, hns, hd, nd, rn, h2, e2, ht.2, by rw [c1]; rfl, ?_⟩
            rw [c2] at q; exact q _ H ι .refl .non h3
          · refine ⟨ι, _, b, xs, kws, k, _, v', rfl, rfl, hns, hd, nd, rn, h2, e2, ht.2, by rw [c1]; exact c3, ?_⟩
            rw [c2] at q; exact q _ H ι .refl c4 h3
      · cases h4
    · cases h4
  · cases h4
def zNGet1 (f g : ZE) : ZE := fun E A => (f E A).bind fun p => if isDN p.1 p.2 = true then (g E p.2).bind fun q => sNGet1 p.1 q.1 q.2 else none
theorem isDN_ok {K : KW} {H : Hp} {ι : List Addr} {A : AH} {x : V} {u : W} (h1 : RW K H ι x u) (h3 : RH K H ι A) (e : isDN u A = true) : ∃ a xs, x = .ref a ∧ DNat K H a xs ∧ (a == sysModules) = false := by
  unfold isDN at e
  split at e
  · split at e
    · rename_i n _ lk kws e1
      cases h1 with
      | loc hi =>
        obtain ⟨xs, hd, hns, nd, rn⟩ := (h3.ok _ _ _ e1 hi).dn
        exact ⟨_, xs, rfl, hd, hns⟩
    · cases e
  · cases e
theorem z_nget1 [Tabs] (hu : X.A.units + 65 < cLine) (ho : PZ X o fo) (he : PZ X e fi) (m : M1 X o "get" apos e cpos := by exact ⟨rfl, rfl, rfl, rfl⟩) : PZ X (.Call (.Attribute o "get" apos) [e] [] cpos) (zNGet1 fo fi) := imp (pe_nget1 hu ho he m) fun σ H Q ⟨ι, E, A, w, A', r1, r2, e, q⟩ => by
  unfold zNGet1 at e
  cases ef : fo E A with
  | none => rw [ef] at e; cases e
  | some p =>
    rw [ef] at e
    simp only [Option.bind_some] at e
    split at e
    · rename_i ht
      cases eg : fi E p.2 with
      | none => rw [eg] at e; cases e
      | some z =>
        rw [eg] at e
        simp only [Option.bind_some] at e
        refine tZ_go r1 r2 (ef.trans rfl : fo E A = some (p.1, p.2)) fun x H1 ι1 g1 rx rh1 => ⟨isDN_ok rx rh1 ht, ?_⟩
        refine tZ_go (r1.up g1) rh1 (by rw [eg] : fi E p.2 = some (z.1, z.2)) fun y H2 ι2 g2 ry rh2 => ?_
        exact ok_nget1 H2 ι2 z.2 x y p.1 z.1 w A' Q (rx.up g2) ry rh2 e fun v H' ι' g3 => q v H' ι' (g1.trans (g2.trans g3))
    · cases e
/-- d[k] = v -/
def sNPutT (K : KW) (td ty tv : TE) : TS := fun D σ H => tv σ H fun v H1 => td σ H1 fun x H2 => ty σ H2 fun y H3 => ∃ (ι : List Addr) (a b : Addr) (xs : List EntN) (kvs : List (W × W)) (k : NestedKey) (kw : W), x = .ref a ∧ y = .ref b ∧ H3 a = some (DN K.P K.w a xs) ∧ (xs.map (·.1)).Nodup ∧ RN K H3 ι xs kvs ∧
  RW K H3 ι (.ref b) kw ∧ keyN kw = some k ∧ k.depth ≤ 8 ∧ xs.length ≤ sizeLine ∧ ∀ u, RelV v u → D.nx σ (upd H3 a (DN K.P K.w a (storedH xs k b u)))
theorem ps_nput [Tabs] (hu : X.A.units + 65 < cLine) (ho : PE X o td) (hi : PE X i ty) (hv : PE X value tv) (hs : swapsWith value (some (.Subscript o i spos)) pos.line X.env = pure false) : PS X (.Assign [.Subscript o i spos] value pos) (sNPutT X.kw td ty tv) := by
  refine ⟨fun pins s σ H D I h => ?_⟩
  refine wpAny_Assign_Subscript (thn (hv.run pins s σ H _ I h) fun r s1 ⟨v, H1, I1, rv, q1⟩ => thn (ho.run pins s1 σ H1 _ I1 q1) fun u s2 ⟨x, H2, I2, rx, q2⟩ => thn (hi.run pins s2 σ H2 _ I2 q2) fun iv s3 ⟨y, H3, I3, ry, ι, a, b, xs, kvs, k, kw, ex, ey, hd, nd, rn, rk, ek, hdp, hz, q⟩ => ?_) hs
  subst ex; subst ey
  obtain rfl : u = Value.ref a := rx
  obtain rfl : iv = Value.ref b := ry
  refine wpAny_setItem_heap (knd := nestedKind X.prog X.w) (hsz := hz) (show X.A.units + 1 + 8 < cLine by omega) ⟨RW.nested I3 kw rk ek rfl, hdp⟩ (dn_at I3 (.inl hd) nd rn) fun h' dd' hsb => ?_
  obtain ⟨q', es, ep, hq, h2, h3, h4, _, h5⟩ := dd'
  exact ⟨σ, upd H3 a (DN X.prog X.w a (storedH xs k b r)), I3.write (e := a) (t' := s3.toks + (nestedKind X.prog X.w).draws k) (by rw [hd]; trivial) (.inl rfl) (fun c u hc hu => (hsb.2 c hc).trans hu) ⟨q', hq⟩ (dn_new ⟨q', es, ep, hq, h2, h3, h4⟩), q r rv⟩
def zsNPut (fv fo fi : ZE) : ZS := fun E A => (fv E A).bind fun p => (fo E p.2).bind fun q => (fi E q.2).bind fun z => match q.1, keyN z.1 with
  | .loc n, some k => match z.2[n]? with
    | some (.dicN false kvs) => if isTupW z.1 = true ∧ k.depth ≤ 8 ∧ kvs.length ≤ sizeLine then some (.nx E, z.2.set n (.dicN false (putN kvs z.1 k p.1))) else none
    | _ => none
  | _, _ => none
theorem zs_nput [Tabs] (hu : X.A.units + 65 < cLine) (ho : PZ X o fo) (hi : PZ X i fi) (hv : PZ X value fv) (hs : swapsWith value (some (.Subscript o i spos)) pos.line X.env = pure false := by rfl) : PSZ X (.Assign [.Subscript o i spos] value pos) (zsNPut fv fo fi) := impS (ps_nput hu ho hi hv hs) fun D σ H ⟨ι, E, A, oo, A', r1, r2, e, q⟩ => by
  unfold zsNPut at e
  cases ef : fv E A with
  | none => rw [ef] at e; cases e
  | some p =>
    rw [ef] at e
    simp only [Option.bind_some] at e
    cases eo : fo E p.2 with
    | none => rw [eo] at e; cases e
    | some z =>
      rw [eo] at e
      simp only [Option.bind_some] at e
      cases ei : fi E z.2 with
      | none => rw [ei] at e; cases e
      | some y =>
        rw [ei] at e
        simp only [Option.bind_some] at e
        refine tZ_go r1 r2 (ef.trans rfl : fv E A = some (p.1, p.2)) fun v H1 ι1 g1 rv rh1 => ?_
        refine tZ_go (r1.up g1) rh1 (by rw [eo] : fo E p.2 = some (z.1, z.2)) fun vo H2 ι2 g2 ro rh2 => ?_
        refine tZ_go ((r1.up g1).up g2) rh2 (by rw [ei] : fi E z.2 = some (y.1, y.2)) fun vi H3 ι3 g3 ri rh3 => ?_
        split at e
        · rename_i n k hz hy
          split at e
          · rename_i _ kws hws
            split at e
            · rename_i hlen
              cases e
              rw [hz] at ro
              cases ro with
              | loc i1 =>
                rename_i aa
                have i2 : ι3[n]? = some aa := g3.at i1
                obtain ⟨xs, h1 | h1, h2, h3, h4⟩ := rh3.ok _ _ _ hws i2
                · obtain ⟨b, rfl⟩ := tup_ref ri hlen.1
                  refine ⟨ι3, _, b, xs, kws, k, y.1, rfl, rfl, h1.2, h3, h4, ri, hy, hlen.2.1, by rw [h4.length]; exact hlen.2.2, fun u ru => ?_⟩
                  have g5 : Gr H3 (upd H3 aa (DN X.prog X.w aa (storedH xs k b u))) ι3 ι3 := Gr.put ⟨_, h1.2, trivial⟩ _
                  have x2 : RH X.kw (upd H3 aa (DN X.prog X.w aa (storedH xs k b u))) ι3 (y.2.set n (.dicN false (putN kws y.1 k p.1))) := rh3.put (mo := .dicN false (putN kws y.1 k p.1)) i2 ⟨_, h1.2, trivial⟩ ⟨storedH xs k b u, .inl ⟨rfl, upd_same⟩, h2, nd_stored h3, (h4.put hy hlen.2.1 ri ru ((rv.up g2).up g3)).up g5⟩
                  have g4 := g1.trans (g2.trans (g3.trans g5))
                  exact q _ _ g4 x2 σ (r1.up g4)
                · cases h1.1
            · cases e
          · cases e
        · cases e
end
end Z
set_option Elab.async false
set_option linter.all false
set_option maxRecDepth 100000
set_option maxHeartbeats 4000000
namespace Z
open PySem L2
/-! ### for .. in a dict by nested tuples, which is locked meanwhile -/
def ItkN (P : Program) (w : World) (d : Addr) (o : Obj) (xs : List EntN) : It :=
  ⟨fun i H => H d = some (.frz o (DN P w d xs)) ∧ i < xs.length, fun i H x H' => H' = H ∧ ∃ k b u, xs[i]? = some (k, b, u) ∧ x = .ref b, fun i H => H d = some (.frz o (DN P w d xs)) ∧ xs.length ≤ i⟩
theorem dn_frz {X : Cx} {pins : List (Addr × Obj)} {σ : St} {H : Hp} {s : Shared} (I : Inv X pins σ H s) {d : Addr} {o : Obj} {xs : List EntN} (h : H d = some (.frz o (DN X.prog X.w d xs))) :
    s.heap.get? d = some o ∧ o.ExactDict ∧ ∃ es ep, o.data = .dict es ep ∧ es.size = xs.length ∧ ∀ (i : Nat) (x : EntN), xs[i]? = some x → ∃ en : DictEntry, es[i]? = some en ∧ en.key = .ref x.2.1 := by
  obtain ⟨h1, ⟨o', es, ep, e1, e2, e3, e4⟩, _⟩ := I.hok d _ h
  rw [h1] at e1
  cases e1
  refine ⟨h1, e2, es, ep, e3, ?_, fun i x hx => ?_⟩
  · have := congrArg List.length e4
    simpa using this
  · have h5 : es.toList[i]? = (xs.map (entryOfKey (nestedKind X.prog X.w)))[i]? := by rw [e4]
    rw [List.getElem?_map, hx, Array.getElem?_toList] at h5
    exact ⟨_, h5, rfl⟩
theorem turn_keysN {P : Program} {w : World} {K : PySem.W.Frag} {tg : Expr} {d : Addr} {o : Obj} {es : Array DictEntry} {ep : Nat} {xs : List EntN} (it : Addr) (hod : o.data = .dict es ep) : Turn P w K tg (ItkN P w d o xs) [it] it (fun i h => h.IsKeyIter it d i xs.length ep) where
  mem := by simp
  obj := fun i h st b hb => by
    have e : b = it := by simpa using hb
    subst e
    obtain ⟨oi, e, c, dd⟩ := st
    exact ⟨oi, e, fun v z => by rw [dd] at z; cases z⟩
  keep := fun i h h' st k => st.at fun oi e => k it (by simp) oi e
  item := by
    intro X hP hw hK hc i pins s σ H E I hf st hg
    subst hP hw hK
    obtain ⟨hd, hi⟩ := hg
    obtain ⟨f0, f1, f2, f3, f4, f5⟩ := hf it (by simp)
    obtain ⟨hgd, hx, es', ep', hdt, hsz, ent⟩ := dn_frz I hd
    obtain ⟨rfl, rfl⟩ : es = es' ∧ ep = ep' := by
      have e := hod.symm.trans hdt
      injection e with a b
      exact ⟨a, b⟩
    obtain ⟨⟨k, b, v⟩, hkv⟩ : ∃ p, xs[i]? = some p := ⟨xs[i], List.getElem?_eq_getElem hi⟩
    obtain ⟨en, hen, hkey⟩ := ent i _ hkv
    refine next_key_item st hgd hdt hsz hen fun h' st' sb => ?_
    have I1 : Inv X pins σ H { s with heap := h' } := I.turned (t' := s.toks) (fun b ob hb e => (sb.2 b hb).trans e) f0 f1 f3 f4 f5
    obtain ⟨oi, e, c, dd⟩ := id st'
    exact ⟨en.key, rfl, go_of (s := { s with heap := h' }) e c dd (by decide) ⟨.ref b, H, I1, hkey, ⟨rfl, k, b, v, hkv, rfl⟩, st', fun b hb => (hf b hb).1⟩⟩
  done := by
    intro X hP hw hK hc i pins s σ H E I hf st hg
    subst hP hw hK
    obtain ⟨hd, hi⟩ := hg
    obtain ⟨f0, f1, f2, f3, f4, f5⟩ := hf it (by simp)
    obtain ⟨hgd, hx, es', ep', hdt, hsz, ent⟩ := dn_frz I hd
    obtain ⟨rfl, rfl⟩ : es = es' ∧ ep = ep' := by
      have e := hod.symm.trans hdt
      injection e with a b
      exact ⟨a, b⟩
    exact next_key_end (I.ok.hd hc) st hgd hdt hsz hi fun h' eb => ⟨rfl, I.turned (t' := s.toks) (fun b ob hb e => eb b ob hb e) f0 f1 f3 f4 f5⟩
  self := fun A i s Q E st h => by
    refine wpAny_pyIter_slot st.typeIs F.slot_dict_keyiterator_iter (wpAny_call_entry F.slot_dict_keyiterator_iter st.typeIs F.entry_dict_keyiterator_iter ?_ (F.args_dict_keyiterator_iter_1 _))
    show wpAny _ _ (ret (.ref it)) _ _ s
    exact wpAny_pure ⟨_, rfl, "dict_keyiterator", _, st.typeIs, F.slot_dict_keyiterator_next.lookup, h⟩
def iKeysN (K : KW) (td : TE) : TI := fun σ H R => td σ H fun x H1 => ∃ d o xs, x = .ref d ∧ (d == sysModules) = false ∧ H1 d = some (.frz o (DN K.P K.w d xs)) ∧ R (ItkN K.P K.w d o xs) H1
theorem pi_keysN [Tabs] {X : Cx} {tg e : Expr} {td : TE} (he : PE X e td) : PI X tg e (iKeysN X.kw td) := by
  refine ⟨fun pins s σ H R I h => ?_⟩
  refine thn (he.run pins s σ H _ I h) fun u s1 ⟨x, H1, I1, rx, d, o, xs, ex, hs, hd, q⟩ => ?_
  subst ex
  obtain rfl : u = Value.ref d := rx
  obtain ⟨hgd, hx, es, ep, hdt, hsz, ent⟩ := dn_frz I1 hd
  refine iter_keys hs hgd hx hdt (pi_one (tk := s1.toks) I1 _ (turn_keysN _ hdt) ⟨_, Heap.get?_push_size _ rfl, rfl, ?_⟩ q)
  rw [hsz] <;> rfl
theorem RN.get {K : KW} {H : Hp} {ι : List Addr} : ∀ {xs : List EntN} {kvs : List (W × W)} {i : Nat} {w : W}, RN K H ι xs kvs → (kvs.map (·.1))[i]? = some w → ∃ k b u, xs[i]? = some (k, b, u) ∧ RW K H ι (.ref b) w
  | _, _, _, _, .nil, e => by simp at e
  | _, _, 0, _, .cons a b c d e' f, e => by simp at e; subst e; exact ⟨_, _, _, rfl, c⟩
  | _, _, i + 1, w, .cons a b c d e' f, e => by
    obtain ⟨k, b, u, h1, h2⟩ := RN.get (i := i) (w := w) f (by simpa using e)
    exact ⟨k, b, u, by simpa using h1, h2⟩
theorem wk_keysN {K : KW} {H0 : Hp} {ι0 : List Addr} {d : Addr} {o : Obj} {xs : List EntN} {kvs : List (W × W)} (h : H0 d = some (.frz o (DN K.P K.w d xs))) (r : RN K H0 ι0 xs kvs) : Wk K (ItkN K.P K.w d o xs) H0 ι0 (.fix (kvs.map (·.1))) := by
  intro H ι A ws i g rh e
  cases e
  have hl := r.length
  refine ⟨fun w hw => ?_, fun hl' => ⟨g.frz _ _ _ h, by rw [List.length_map] at hl'; rw [hl]; exact hl'⟩⟩
  obtain ⟨k, b, u, e1, e2⟩ := (r.up g).get hw
  refine ⟨⟨g.frz _ _ _ h, (List.getElem?_eq_some_iff.mp e1).1⟩, fun x H' ⟨q1, k', b', u', q2, q3⟩ => ?_⟩
  subst q1; subst q3
  rw [e1] at q2
  cases q2
  exact ⟨ι, .refl, rh, e2⟩
def ziN (f : ZE) : ZI := fun E A => (f E A).bind fun p => match p.1 with
  | .loc n => match p.2[n]? with
    | some (.dicN true kvs) => some (.fix (kvs.map (·.1)), p.2)
    | _ => none
  | _ => none
theorem zi_N [Tabs] {X : Cx} {tg e : Expr} {f : ZE} (h : PZ X e f) : PIZ X tg e (ziN f) := impI (pi_keysN h) fun σ H R ⟨ι, E, A, sc, A', r1, r2, e, q⟩ => by
  unfold ziN at e
  cases ef : f E A with
  | none => rw [ef] at e; cases e
  | some p =>
    rw [ef] at e
    simp only [Option.bind_some] at e
    split at e
    · rename_i n hn
      split at e
      · rename_i kvs hk
        cases e
        refine tZ_go r1 r2 (by rw [ef] : f E A = some (p.1, p.2)) fun v H1 ι1 g1 rv rh1 => ?_
        rw [hn] at rv
        cases rv with
        | loc hi =>
          obtain ⟨xs, h1, h2, h3, h4⟩ := rh1.ok _ _ _ hk hi
          rcases h1 with h1 | ⟨_, o, h1⟩
          · cases h1.1
          · exact ⟨_, o, xs, rfl, h2, h1, q _ H1 ι1 g1 rh1 (wk_keysN h1 h4)⟩
      · cases e
    · cases e
def zsForN (i : Nat) (t : Tg) (body : ZS) : ZS := fun E A => match E[i]? with
  | some (some (.loc n)) => match A[n]? with
    | some (.dicN false kvs) => (zsFor (ziN (zV i)) t body E (A.set n (.dicN true kvs))).bind fun p => match p.2[n]? with
      | some (.dicN true kvs') => some (p.1, p.2.set n (.dicN false kvs'))
      | _ => none
    | _ => none
  | _ => none
theorem lock_gr {H : Hp} {ι : List Addr} {d : Addr} {φ : Heap → Prop} {o : HO} (h : H d = some (.ext φ)) : Gr H (upd H d o) ι ι := Gr.put ⟨_, h, trivial⟩ o
theorem unlock_gr0 {H : Hp} {ι : List Addr} {d : Addr} {φ : Heap → Prop} {od : Obj} {o : HO} (h : H d = some (.frz od (.ext φ))) : Gr0 H (upd H d o) ι ι :=
  ⟨fun a ob xs e => by rw [upd_ne (fun z => by rw [z, h] at e; cases e)]; exact e, fun a ob xs e => by rw [upd_ne (fun z => by rw [z, h] at e; cases e)]; exact e, fun _ _ e => e⟩
theorem relock_gr {H H1 H' : Hp} {ι ι' : List Addr} {d : Addr} {φ : Heap → Prop} {o1 o : HO} (h : H d = some (.ext φ)) (e1 : H1 = upd H d o1) (g : Gr H1 H' ι ι') : Gr H (upd H' d o) ι ι' := by
  subst e1
  refine ⟨fun a xs e => ?_, fun a ob u e => ?_, g.pre⟩
  · have ne : a ≠ d := fun z => by rw [z, h] at e; cases e
    rw [upd_ne ne]
    exact g.tup a xs (by rw [upd_ne ne]; exact e)
  · have ne : a ≠ d := fun z => by rw [z, h] at e; cases e
    rw [upd_ne ne]
    exact g.frz a ob u (by rw [upd_ne ne]; exact e)
theorem zs_forN [Tabs] {X : Cx} {pos : Pos} {tg iter : Expr} {body : List Stmt} {i : Nat} {t : Tg} {g : ZS} (hp : PassesOwn (model X.prog X.w) X.A X.env X.xe) (hc : X.calm = true) (hi : PZ X iter (zV i)) (hg : PG X tg (gOf X.K t)) (hb : PSsZ X body g)
    (hs : ∀ x, foldedSetIterable iter X.env x = pure x := by intro _; rfl) : PSZ X (.For tg iter body [] pos) (zsForN i t g) := impS (ps_lock (zs_for hp hc (zi_N hi) hg hb hs)) fun D σ H ⟨ι, E, A, o, A', r1, r2, e, q⟩ => by
  unfold zsForN at e
  split at e
  · rename_i n hn
    split at e
    · rename_i kvs hk
      cases ef : zsFor (ziN (zV i)) t g E (A.set n (.dicN true kvs)) with
      | none => rw [ef] at e; cases e
      | some p =>
        rw [ef] at e
        simp only [Option.bind_some] at e
        split at e
        · rename_i kvs' hk'
          cases e
          obtain ⟨v, ev, rv⟩ := r1.2 i _ hn
          cases rv with
          | loc hi' =>
            rename_i d
            obtain ⟨xs, h1, h2, h3, h4⟩ := r2.ok _ _ _ hk hi'
            rcases h1 with ⟨_, h1⟩ | h1
            · have hnl : n < A.length := (List.getElem?_eq_some_iff.mp hk).1
              refine ⟨d, DN X.prog X.w d xs, h1, trivial, fun od => ?_⟩
              have g1 : Gr H (upd H d (.frz od (DN X.prog X.w d xs))) ι ι := lock_gr h1
              have rh1 : RH X.kw (upd H d (.frz od (DN X.prog X.w d xs))) ι (A.set n (.dicN true kvs)) := r2.put0 hi' g1.z ⟨xs, .inr ⟨rfl, od, upd_same⟩, h2, h3, h4.up g1⟩
              refine tZS_go (r1.up g1) rh1 (by rw [ef] : _ = some (p.1, p.2)) fun H' ι' g2 rh2 => ?_
              have hd' : H' d = some (.frz od (DN X.prog X.w d xs)) := g2.frz _ _ _ upd_same
              have hi2 : ι'[n]? = some d := g2.at hi'
              obtain ⟨xs', k1, k2, k3, k4⟩ := rh2.ok _ _ _ hk' hi2
              have g0 : Gr0 H' (upd H' d (DN X.prog X.w d xs)) ι' ι' := unlock_gr0 hd'
              have gg : Gr H (upd H' d (DN X.prog X.w d xs)) ι ι' := relock_gr h1 rfl g2
              have rh3 : RH X.kw (upd H' d (DN X.prog X.w d xs)) ι' (p.2.set n (.dicN false kvs')) := by
                rcases k1 with k1 | ⟨_, o', k1⟩
                · cases k1.1
                · have e9 : (DN X.prog X.w d xs) = (DN X.prog X.w d xs') := by
                    have := hd'.symm.trans k1
                    injection this with this
                    injection this
                  exact rh2.put0 hi2 g0 ⟨xs', .inl ⟨rfl, by rw [upd_same, e9]⟩, k2, k3, k4.up0 g0⟩
              have f := q _ ι' gg rh3
              obtain ⟨o1, A1⟩ := p
              cases o1 with
              | nx E2 => exact fun σ' rs => ⟨hd', f σ' (rs.up0 g0)⟩
              | bk E2 => exact fun σ' rs => ⟨hd', f σ' (rs.up0 g0)⟩
              | ct E2 => exact fun σ' rs => ⟨hd', f σ' (rs.up0 g0)⟩
              | rt w => exact fun v rv => ⟨hd', f v (rv.up0 g0)⟩
            · cases h1.1
        · cases e
    · cases e
  · cases e
end Z
set_option Elab.async false
set_option linter.all false
set_option maxRecDepth 100000
set_option maxHeartbeats 4000000
namespace PySem
open Sem (wp)
theorem meets_enumerate_tuple {v : Value} {o : Obj} {H : Heap → Prop} (B : Begins v o H) :
    Meets (Builtin.«enumerate.__new__» ⟨[.type "enumerate", v], []⟩) (fun _ R s => H s.heap ∧
      R (.ok (.ret (.ref (s.heap.push o).objs.size))) { s with heap := (s.heap.push o).push { cls := .type "enumerate", data := .fields #[.none, .bool false, .ref s.heap.objs.size, rawInt 0, .none, .none] } }) :=
  .of_wp fun prog w A R s h => by
    obtain ⟨hp, g, d, tk, os⟩ := s; obtain ⟨h1, h⟩ := h
    have hsub := sub_enumerate
    have q1 : ∀ {A' : Around} {E : Value → Shared → Prop} {Q : Value → Shared → Prop}, Q (.ref hp.objs.size) ⟨hp.push o, g, d, tk, os⟩ → wpAny (model prog w) A' (pyIter v) Q E ⟨hp, g, d, tk, os⟩ :=
      fun q => B.iter prog w _ _ ⟨hp, g, d, tk, os⟩ _ h1 q
    wp_walk using q1
    refine wpAny_stack_any fun st => wpAny_pure ?_
    split
    · rename_i c _ _ _ _ _
      cases (c == Value.type "enumerate")
      · wp_walk using q1
        exact ⟨_, rfl, h⟩
      · wp_walk using q1
        exact ⟨_, rfl, h⟩
    · wp_walk using q1
      exact ⟨_, rfl, h⟩
theorem enum1_begins {prog : Program} {w : World} {A : Around} {E : Value → Shared → Prop} {s : Shared} {v : Value} {o : Obj} {H : Heap → Prop} {Q : Value → Shared → Prop} (B : Begins v o H) (h1 : H s.heap)
    (h : ∀ h', IsEnum h' (s.heap.objs.size + 1) s.heap.objs.size 0 .none → h'.get? s.heap.objs.size = some o → h'.objs.size = s.heap.objs.size + 2 →
      (∀ b o, s.heap.get? b = some o → h'.get? b = some o) → Q (.ref (s.heap.objs.size + 1)) { s with heap := h' }) :
    wpAny (model prog w) A (call (.type "enumerate") [v]) Q E s := by
  refine callType_new F.called_enumerate (by decide) (F.typeCall_enumerate_1 _) (F.newCall_enumerate_1 _) (fun obj => F.args_object_init_2 obj _) F.entry_enumerate_new
    (meets_enumerate_tuple B) ⟨h1, ?_⟩
  have hz : (s.heap.push o).objs.size = s.heap.objs.size + 1 := Heap.size_push ..
  show _ ∧ _
  rw [hz]
  have he : IsEnum ((s.heap.push o).push { cls := .type "enumerate", data := .fields #[.none, .bool false, .ref s.heap.objs.size, rawInt 0, .none, .none] }) (s.heap.objs.size + 1) s.heap.objs.size 0 .none := by
    have := Heap.get?_push_size (s.heap.push o) (o := { cls := .type "enumerate", data := .fields #[.none, .bool false, .ref s.heap.objs.size, rawInt 0, .none, .none] }) rfl
    rw [hz] at this; exact this
  refine ⟨⟨_, he, rfl⟩, h _ he (Heap.get?_push_of_some _ (Heap.get?_push_size _ B.free)) (by rw [Heap.size_push, hz]) fun b o x => Heap.get?_push_of_some _ (Heap.get?_push_of_some _ x)⟩
end PySem
namespace Z
open PySem L2
/-- the tuple at a, each item in a new pair -/
def IteT (K : PySem.W.Frag) (a : Addr) : It :=
  ⟨fun i H => ∃ (xs : List V) (x : V), SqT K H a xs ∧ xs[i]? = some x, fun i H v H' => ∃ T o x, v = .ref T ∧ H T = none ∧ o.dict = none ∧ H' = upd H T (.frz o (.tup [.int (i : Nat), x])) ∧ ∀ xs, SqT K H a xs → xs[i]? = some x, fun i H => ∃ xs : List V, SqT K H a xs ∧ xs.length ≤ i⟩
theorem turn_enumT {P : Program} {w : World} {K : PySem.W.Frag} {elts : List Expr} {kk : Nat} {tpos : Pos} (a e it : Addr) :
    Turn P w K (.Tuple elts kk tpos) (IteT K a) [e, it] e (fun i h => (∃ old, IsEnum h e it ((i : Nat) : Int) old) ∧ h.IsTupleIter it a i ∧ e ≠ it) where
  mem := by simp
  obj := fun i h st b hb => by
    obtain ⟨⟨old, he⟩, ⟨o, ho, hc, hd⟩, _⟩ := st
    have e' : b = e ∨ b = it := by simpa using hb
    rcases e' with z | z
    · rw [z]; exact ⟨_, he, fun v q => nomatch q⟩
    · rw [z]; exact ⟨o, ho, fun v q => by rw [hd] at q; cases q⟩
  keep := fun i h h' st k => let ⟨⟨old, he⟩, hi, hne⟩ := st; ⟨⟨old, k e (by simp) _ he⟩, hi.at fun o q => k it (by simp) o q, hne⟩
  item := by
    intro X hP hw hK hc i pins s σ H E I hf st hg
    subst hP hw hK
    obtain ⟨⟨old, he⟩, hit, hne⟩ := st
    obtain ⟨xs, x, hq, hx⟩ := hg
    obtain ⟨its, rv, p, hz⟩ := I.tuple hq
    obtain ⟨u, hu, ru⟩ := rv.get hx
    have hel : e < s.heap.objs.size := Heap.lt_size he
    have hil : it < s.heap.objs.size := by obtain ⟨_, q, _⟩ := hit; exact Heap.lt_size q
    have hae : a ≠ it := by
      intro z
      obtain ⟨o1, e1, c1, _⟩ := hit
      obtain ⟨o2, e2, c2, _⟩ := p
      rw [z, e1] at e2
      cases e2
      rw [c1] at c2
      injection c2 with c2
      revert c2; decide
    have hea : e ∉ ([it, a] : List Addr) := by
      intro z
      have z' : e = it ∨ e = a := by simpa using z
      rcases z' with z | z
      · exact hne z
      · obtain ⟨o2, e2, c2, _⟩ := p
        rw [← z] at e2
        have e1 := he.symm.trans e2
        cases e1
        have c3 := c2
        injection c3 with c3
        revert c3; decide
    refine wpAny_pyNext_enum_itemD (Draws.tuple (A := X.A.in1) (show X.A.in1.handled = none from I.ok.hd hc) it a hae its.toArray) he ⟨hit, p⟩ (by rw [List.size_toArray]; exact (List.getElem?_eq_some_iff.mp hu).1) hne hea fun u' h' tk hu' ho ⟨hit', _⟩ hT hsz hk => ?_
    obtain rfl : u = u' := by
      rw [List.getElem?_toArray, hu] at hu'
      exact Option.some.inj hu'
    refine ⟨_, rfl, wpAny_letOwnedTupleGo_enum (s := { s with heap := h', toks := tk + 1 }) ho fun h'' he' sb => ?_⟩
    have hT2 : h''.get? s.heap.objs.size = some { cls := .type "tuple", data := .seq #[.int i tk, u] } := (sb.2 _ (Nat.ne_of_gt hel)).trans hT
    have new : ObjOk X.prog X.w (upd H s.heap.objs.size (.frz { cls := .type "tuple", data := .seq #[.int i tk, u] } (.tup [.int (i : Nat), x]))) h'' s.heap.objs.size (.frz { cls := .type "tuple", data := .seq #[.int i tk, u] } (.tup [.int (i : Nat), x])) :=
      ⟨hT2, by show 2 ≤ sizeLine; decide, [.int i tk, u], .cons ⟨_, rfl⟩ (.cons ru .nil), ⟨_, hT2, rfl, _, rfl⟩⟩
    have I1 : Inv X pins σ (upd H s.heap.objs.size (.frz { cls := .type "tuple", data := .seq #[.int i tk, u] } (.tup [.int (i : Nat), x]))) { s with heap := h'', toks := tk + 1 } :=
      I.turnedNew (ch := [e, it]) (fun b ob hb q => (sb.2 b (fun z => hb (by simp [z]))).trans (hk b ob (fun z => hb (by simp [z])) (fun z => hb (by simp [z])) q)) hf (Nat.le_refl _) new
    refine ⟨.ref s.heap.objs.size, _, I1, rfl, ⟨_, _, x, rfl, I.hok.fresh (Nat.le_refl _), rfl, rfl, fun ys hy => by rw [I.tuple_inj hy hq]; exact hx⟩, ⟨⟨u, ?_⟩, hit'.at fun o q => (sb.2 it (Ne.symm hne)).trans q, hne⟩, fun b hb => ?_⟩
    · have e1 : ((i + 1 : Nat) : Int) = (i : Int) + 1 := by omega
      rw [e1]; exact he'
    · have hb' : b < s.heap.objs.size := by
        have e' : b = e ∨ b = it := by simpa using hb
        rcases e' with z | z
        · rw [z]; exact hel
        · rw [z]; exact hil
      rw [upd_ne (Nat.ne_of_lt hb')]
      exact (hf b hb).1
  done := by
    intro X hP hw hK hc i pins s σ H E I hf st hg
    subst hP hw hK
    obtain ⟨⟨old, he⟩, hit, hne⟩ := st
    obtain ⟨xs, hq, hx⟩ := hg
    obtain ⟨its, rv, p, hz⟩ := I.tuple hq
    obtain ⟨f0, f1, f2, f3, f4, f5⟩ := hf it (by simp)
    have hl := rv.length
    have hT : s.TypeIs (.ref e) "enumerate" := ⟨_, he, rfl⟩
    unfold pyNext
    refine wpAny_bind (wpAny_attempt (wpAny_callSpecial?_slot (name := Str.ofString "__next__") hT F.slot_enumerate_next
      (wpAny_call_entry F.slot_enumerate_next hT F.entry_enumerate_next ?_ (F.args_enumerate_next_1 _))))
    show wpAny _ _ (field (.ref e) 2 >>= _) _ _ _
    refine wpAny_bind (wpAny_field he rfl (x := .ref it) rfl ?_)
    refine wpAny_bind (wpAny_nextOf_tuple_end (I.ok.hd hc) hit p (by simp; omega) fun h' x he' hx' => ?_)
    obtain ⟨o, ho, hc'⟩ := hx'
    refine wpAny_bind (wpAny_isInstance (T := "StopIteration") (b := true) ⟨o, ho, hc'⟩ isSubtype_stop ?_)
    exact wpAny_pure ⟨rfl, I.turned (t' := s.toks) (fun b o hb q => he' b o hb q) f0 f1 f3 f4 f5⟩
  self := fun A i s Q E st h => let ⟨⟨_, he⟩, _⟩ := st; wpAny_pyIter_enum he h
def iEnumT (K : PySem.W.Frag) (ta : TA) : TI := fun σ H R => ta σ H fun vs H1 => ∃ a xs, vs = [.ref a] ∧ SqT K H1 a xs ∧ R (IteT K a) H1
theorem pi_enumT {X : Cx} {e : Expr} {ta : TA} {p pos tpos : Pos} {elts : List Expr} {kk : Nat} (hg : Gl X "enumerate") (hm : X.mg "enumerate" = none) (ha : PA X [e] ta) (hs : starEach [e] X.env = [(false, eval e X.env)] := by rfl) :
    PI X (.Tuple elts kk tpos) (.Call (.Name "enumerate" p) [e] [] pos) (iEnumT X.K ta) := by
  refine ⟨fun pins s σ H R I h => ?_⟩
  refine PyProof.Rows.Call_ (ld_blt I hg hm PyProof.Rows.boot_enumerate (PyProof.Rows.callWith_type1 (thn (ha.run pos pins s σ H _ I h) fun us s1 ⟨vs, H1, I1, r1, q1⟩ => ?_) hs rfl))
  obtain ⟨a, xs, ex, hq, q⟩ := q1
  subst ex
  cases r1 with
  | cons r rr =>
    cases rr
    cases r
    obtain ⟨its, rv, p', hz⟩ := I1.tuple hq
    refine enum1_begins (begins_tuple a its.toArray) p' fun h' he hit hsz hk => wpAny_pyIter_enum he ?_
    have I2 : Inv X pins σ H1 { s1 with heap := h' } := I1.kept (t' := s1.toks) hk
    refine ⟨s1.heap.objs.size + 1, [s1.heap.objs.size + 1, s1.heap.objs.size], _, _, H1, rfl, I2, turn_enumT a (s1.heap.objs.size + 1) s1.heap.objs.size, ⟨⟨.none, he⟩, ⟨_, hit, rfl, rfl⟩, Nat.succ_ne_self _⟩, fun b hb => ?_, q⟩
    have e' : b = s1.heap.objs.size + 1 ∨ b = s1.heap.objs.size := by simpa using hb
    have hle : s1.heap.objs.size ≤ b := by
      rcases e' with z | z
      · rw [z]; exact Nat.le_add_right _ _
      · rw [z]; exact Nat.le_refl _
    exact I1.fpOk hle (I1.hok.fresh hle)
def enumW (ws : List W) : List W := ws.zipIdx.map fun p => .tup [.int (p.2 : Nat), p.1]
theorem enumW_len {ws : List W} : (enumW ws).length = ws.length := by simp [enumW]
theorem enumW_get {ws : List W} {i : Nat} {w : W} (h : (enumW ws)[i]? = some w) : ∃ x, ws[i]? = some x ∧ w = .tup [.int (i : Nat), x] := by
  unfold enumW at h
  rw [List.getElem?_map, List.getElem?_zipIdx] at h
  cases e : ws[i]? with
  | none => rw [e] at h; cases h
  | some x => rw [e] at h; cases h; exact ⟨x, rfl, by simp⟩
theorem wk_enumT {K : KW} {H0 : Hp} {ι0 : List Addr} {a : Addr} {vs : List V} {ws : List W} (h : SqT K H0 a vs) (b : RWs K H0 ι0 vs ws) : Wk K (IteT K a) H0 ι0 (.fix (enumW ws)) := by
  intro H ι A ws' i g r e
  cases e
  have h1 := g.sqt h
  have b1 := b.up g
  refine ⟨fun w hw => ?_, fun hl => ⟨vs, h1, by rw [b1.length]; rw [enumW_len] at hl; exact hl⟩⟩
  obtain ⟨y, hy, rfl⟩ := enumW_get hw
  obtain ⟨v, c1, c2⟩ := b1.get hy
  refine ⟨⟨vs, v, h1, c1⟩, fun x H' ⟨T, o, z, e1, e2, e3, e4, e5⟩ => ?_⟩
  subst e1; subst e4
  have := (e5 vs h1).symm.trans c1
  cases this
  obtain ⟨x1, x2, x3⟩ := new_tup r e2 e3 (.cons (.int ((i : Nat) : Int)) (.cons c2 .nil))
  exact ⟨ι, x3, x2, x1⟩
def ziEnum (f : ZE) : ZI := fun E A => (f E A).bind fun p => match p.1 with
  | .tup ws => some (.fix (enumW ws), p.2)
  | _ => none
theorem zi_enum [Tabs] {X : Cx} {e : Expr} {f : ZE} {p pos tpos : Pos} {elts : List Expr} {kk : Nat} (hg : Gl X "enumerate") (hm : X.mg "enumerate" = none) (h : PZ X e f) (hs : starEach [e] X.env = [(false, eval e X.env)] := by rfl) :
    PIZ X (.Tuple elts kk tpos) (.Call (.Name "enumerate" p) [e] [] pos) (ziEnum f) := impI (pi_enumT hg hm (za_cons h za_nil hs) hs) fun σ H R ⟨ι, E, A, sc, A', r1, r2, e, q⟩ => by
  unfold ziEnum at e
  cases ef : f E A with
  | none => rw [ef] at e; cases e
  | some p =>
    rw [ef] at e
    simp only [Option.bind_some] at e
    split at e
    · rename_i ws hw
      cases e
      refine tZA_go r1 r2 (by simp [zaCons, zaNil, ef] : zaCons f zaNil E A = some ([p.1], p.2)) fun ys H1 ι1 g1 rys rh1 => ?_
      rw [hw] at rys
      cases rys with
      | cons c d =>
        cases d
        cases c with
        | tup a b => exact ⟨_, _, rfl, a.sqt, q _ H1 ι1 g1 rh1 (wk_enumT a.sqt b)⟩
    · cases e
end Z
set_option Elab.async false
set_option linter.all false
set_option maxRecDepth 100000
set_option maxHeartbeats 4000000
namespace Z
open PySem L2
/-! ### dict(t) of a tuple of pairs -/
section
variable {X : Cx} {pins : List (Addr × Obj)} {σ : St} {H : Hp} {s : Shared}
theorem seq_n (I : Inv X pins σ H s) {a : Addr} {xs : List V} (h : SqN X.K H a xs) : ∃ its : List Value, Vals xs its ∧ PlainSeq "tuple" s.heap a its.toArray ∧ xs.length ≤ sizeLine := by
  obtain ⟨its, r, ⟨o, ho, hc, n, hd⟩, hz⟩ := I.tuple h.sqt
  refine ⟨its, r, ⟨o, n, ho, hc, ?_, hd⟩, hz⟩
  rcases h with ⟨o', h', hn⟩ | ⟨o', its', n', hk, _, hn, _⟩
  · obtain ⟨h1, _⟩ := I.hok a _ h'
    rw [ho] at h1; cases h1
    exact hn
  · have := I.kIn a o' hk
    rw [ho] at this; cases this
    exact hn
theorem pairs_of2 (I : Inv X pins σ H s) : ∀ {ps : List Addr} {kvs : List (Key × V)}, Paired (fun p kv => SqT X.K H p [kV kv.1, kv.2]) ps kvs →
    ∃ (vps : List (Value × Value)) (prs : List (Key × Value)), KV kvs prs ∧ vps.length = ps.length ∧ prs.length = ps.length ∧ ∀ (j : Nat) (b : Addr), ps[j]? = some b → ∃ k u v, vps[j]? = some (u, v) ∧ prs[j]? = some (k, v) ∧ PyProof.Rows.IsTup s.heap b #[u, v] ∧ keyIs k u = true
  | _, _, .nil => ⟨[], [], .nil, rfl, rfl, fun j q e => by simp at e⟩
  | _, _, .cons (a := p) (b := kv) h t => by
    obtain ⟨vps, prs, r, h1, h2, hp⟩ := pairs_of2 I t
    obtain ⟨its, rv, ht, _⟩ := I.tuple h
    obtain ⟨u, y, ei, ru, ry⟩ := vals2 rv
    subst ei
    refine ⟨(u, y) :: vps, (kv.1, y) :: prs, .cons ⟨rfl, ry⟩ r, by simp [h1], by simp [h2], fun j b e => ?_⟩
    cases j with
    | zero =>
      have e' : p = b := Option.some.inj e
      subst e'
      exact ⟨kv.1, u, y, rfl, rfl, ht, kV_is (P := X.prog) (w := X.w) ru⟩
    | succ j =>
      obtain ⟨k, u', v', e1, e2, e3⟩ := hp j b (by simpa using e)
      exact ⟨k, u', v', by simpa using e1, by simpa using e2, e3⟩
theorem call_dictT (hcalm : X.calm = true) : CallR X (.type "dict") (fun xs H Q => ∃ (a : Addr) (ps : List Addr) (kvs : List (Key × V)), xs = [.ref a] ∧ SqN X.K H a (ps.map V.ref) ∧ Paired (fun p kv => SqT X.K H p [kV kv.1, kv.2]) ps kvs ∧
    ∀ p, H p = none → Q (.ref p) (upd H p (.dK (mergeK [] kvs)))) := by
  intro pins s σ H xs us Q I r q
  obtain ⟨a, ps, kvs, ex, hq, hp, q⟩ := q
  subst ex
  obtain ⟨u, eu, rx⟩ := vals1 r
  subst eu
  cases rx
  obtain ⟨its, rv, pl, hz⟩ := seq_n I hq
  have ei := refs_at rv
  subst ei
  rw [List.length_map] at hz
  obtain ⟨vps, prs, rel, hl1, hl2, hpr⟩ := pairs_of2 I hp
  have geti : ∀ j, j < ps.length → ∃ b, ps[j]? = some b := fun j hj => ⟨ps[j], List.getElem?_eq_getElem hj⟩
  have pi : PairItems s.heap (ps.map Value.ref).toArray (fun j => ps.getD j 0) vps := by
    refine ⟨by simp [hl1], fun j k v e => ?_⟩
    have hj : j < ps.length := by rw [← hl1]; exact (List.getElem?_eq_some_iff.mp e).1
    obtain ⟨b, hb⟩ := geti j hj
    obtain ⟨k', u', v', e1, e2, e3, _⟩ := hpr j b hb
    rw [e] at e1; cases e1
    refine ⟨by simp [hb, List.getD_eq_getElem?_getD], .inl ?_⟩
    have : ps.getD j 0 = b := by simp [List.getD_eq_getElem?_getD, hb]
    simp only [this]
    exact e3
  refine PySem.call_dict_pairs (knd := mixKind X.prog X.w) (kvs := prs) (PairArg.tuple a (ps.map Value.ref).toArray (fun j => ps.getD j 0) vps) (I.ok.hd hcalm) ⟨pl, pi⟩ ⟨by rw [hl1, hl2], fun i key v e => ?_⟩ (by rw [hl1]; exact hz) fun h' tk hd' k => ?_
  · have e' : vps[i]? = some (key, v) := e
    have hj : i < ps.length := by rw [← hl1]; exact (List.getElem?_eq_some_iff.mp e').1
    obtain ⟨b, hb⟩ := geti i hj
    obtain ⟨k', u', v', e1, e2, e3, e4⟩ := hpr i b hb
    rw [e'] at e1; cases e1
    exact ⟨k', e2, e4⟩
  · have hm : (s.heap.objs.size == sysModules) = false := beq_eq_false_iff_ne.mpr (Nat.ne_of_gt I.big)
    have hlen : (mergeK [] kvs).length ≤ sizeLine := by
      refine Nat.le_trans (length_mergeK kvs []) ?_
      rw [List.length_nil, Nat.zero_add, rel.length, hl2]
      exact hz
    exact ⟨.ref s.heap.objs.size, upd H s.heap.objs.size (.dK (mergeK [] kvs)), I.laid (t' := tk) (fun b o e => k b o (fun z => nomatch z) e) (Nat.le_refl _) (show ObjOk X.prog X.w _ _ _ (.dK (mergeK [] kvs)) from ⟨hlen, hm, merged [] prs, KV.merge rel .nil, hd'⟩), rfl, q _ (I.hok.fresh (Nat.le_refl _))⟩
end
def pairsW : List W → Option (List (Key × W))
  | [] => some []
  | .tup [k, v] :: r => (keyW k).bind fun kk => (pairsW r).map fun l => (kk, v) :: l
  | _ => none
def mergeW (kvs more : List (Key × W)) : List (Key × W) := more.foldl (fun acc kv => putW acc kv.1 kv.2) kvs
section
variable {K : KW} {H : Hp} {ι : List Addr}
theorem pairs_rw : ∀ {ws : List W} {vs : List V} {kws : List (Key × W)}, RWs K H ι vs ws → pairsW ws = some kws → ∃ ps kvs, vs = ps.map V.ref ∧ Paired (fun p (kv : Key × V) => SqT K H p [kV kv.1, kv.2]) ps kvs ∧ kvs.map (·.1) = kws.map (·.1) ∧ RWs K H ι (kvs.map (·.2)) (kws.map (·.2))
  | [], _, _, r, e => by
    cases r; cases e
    exact ⟨[], [], rfl, .nil, rfl, .nil⟩
  | .tup [k, v] :: r, _, _, rr, e => by
    cases rr with
    | cons r1 r2 =>
      unfold pairsW at e
      cases ek : keyW k with
      | none => rw [ek] at e; cases e
      | some kk =>
        cases ep : pairsW r with
        | none => rw [ek, ep] at e; cases e
        | some l =>
          rw [ek, ep] at e; cases e
          obtain ⟨ps, kvs, h1, h2, h3, h4⟩ := pairs_rw r2 ep
          cases r1 with
          | tup a b =>
            cases b with
            | cons b1 b2 =>
              cases b2 with
              | cons b2 b3 =>
                cases b3
                have := keyW_rw b1 ek
                subst this
                exact ⟨_ :: ps, (kk, _) :: kvs, by rw [h1, List.map_cons], .cons a.sqt h2, by simp [h3], .cons b2 h4⟩
theorem merge_rw : ∀ {more : List (Key × V)} {mws : List (Key × W)} {kvs : List (Key × V)} {kws : List (Key × W)}, more.map (·.1) = mws.map (·.1) → RWs K H ι (more.map (·.2)) (mws.map (·.2)) → kvs.map (·.1) = kws.map (·.1) → RWs K H ι (kvs.map (·.2)) (kws.map (·.2)) →
    (mergeK kvs more).map (·.1) = (mergeW kws mws).map (·.1) ∧ RWs K H ι ((mergeK kvs more).map (·.2)) ((mergeW kws mws).map (·.2))
  | [], [], _, _, _, _, h1, h2 => ⟨h1, h2⟩
  | [], _ :: _, _, _, h, _, _, _ => by simp at h
  | _ :: _, [], _, _, h, _, _, _ => by simp at h
  | (a, v) :: r, (b, w) :: s, kvs, kws, h, hr, h1, h2 => by
    simp only [List.map_cons, List.cons.injEq] at h
    obtain ⟨rfl, h⟩ := h
    cases hr with
    | cons c1 c2 =>
      obtain ⟨d1, d2⟩ := put_rw (k := a) c1 h1 h2
      have z := merge_rw (more := r) (mws := s) h c2 d1 d2
      exact z
end
def sDict : SN := fun us A => match us with
  | [.tup ws] => (pairsW ws).map fun kvs => (.loc A.length, A ++ [.dic (mergeW [] kvs)])
  | _ => none
theorem ok_dict {K : KW} : RNOk K (fun xs H Q => ∃ (a : Addr) (ps : List Addr) (kvs : List (Key × V)), xs = [.ref a] ∧ SqN K H a (ps.map V.ref) ∧ Paired (fun p kv => SqT K H p [kV kv.1, kv.2]) ps kvs ∧
    ∀ p, H p = none → Q (.ref p) (upd H p (.dK (mergeK [] kvs)))) sDict := by
  intro H ι A xs us w A' Q h1 h3 h4 q
  unfold sDict at h4
  split at h4
  · rename_i ws
    cases ep : pairsW ws with
    | none => rw [ep] at h4; cases h4
    | some kws =>
      rw [ep] at h4; cases h4
      cases h1 with
      | cons c d =>
        cases d
        cases c with
        | tup a b =>
          obtain ⟨ps, kvs, rfl, e2, e3, e4⟩ := pairs_rw b ep
          refine ⟨_, ps, kvs, rfl, a, e2, fun p hp => ?_⟩
          obtain ⟨m1, m2⟩ := merge_rw (kvs := []) (kws := []) e3 e4 rfl .nil
          have g : Gr H (upd H p (.dK (mergeK [] kvs))) ι (ι ++ [p]) := Gr.grow hp _
          exact q _ _ _ g (.loc (by rw [← h3.len]; simp)) (h3.alloc hp ⟨_, upd_same, m1, m2.up g⟩)
  · cases h4
/-! ### sorted(d) of a dict by texts -/
def leS (x y : Str) : Prop := ¬ y.cps.toList < x.cps.toList
theorem leS_trans {x y z : Str} (h1 : leS x y) (h2 : leS y z) : leS x z := by
  unfold leS at *
  rw [List.not_lt] at *
  exact List.le_trans h1 h2
theorem leS_anti {x y : Str} (h1 : leS x y) (h2 : leS y x) : x = y := by
  unfold leS at *
  rw [List.not_lt] at *
  have := List.le_antisymm h1 h2
  cases x; cases y
  simpa using this
theorem rising_pw : ∀ (l : List Str) (p : Str), PyProof.Rows.risingS p l = true → (p :: l).Pairwise leS
  | [], p, _ => by simp
  | x :: r, p, h => by
    simp only [PyProof.Rows.risingS, Bool.and_eq_true, Bool.not_eq_true', PyProof.Rows.ltCps_eq, decide_eq_false_iff_not] at h
    have ih := rising_pw r x h.2
    refine List.pairwise_cons.mpr ⟨fun y hy => ?_, ih⟩
    rcases List.mem_cons.mp hy with z | z
    · rw [z]; exact h.1
    · exact leS_trans h.1 ((List.pairwise_cons.mp ih).1 y z)
theorem sorted_pw : ∀ (l : List Str), PyProof.Rows.sortedS l = true → l.Pairwise leS
  | [], _ => .nil
  | x :: r, h => rising_pw r x h
theorem insS_perm (x : Str) : ∀ l : List Str, (insS x l).Perm (x :: l)
  | [] => .refl _
  | y :: r => by
    unfold insS
    split
    · exact .refl _
    · exact ((insS_perm x r).cons y).trans (.swap x y r)
theorem sortS_perm : ∀ l : List Str, (sortS l).Perm l
  | [] => .refl _
  | x :: r => (insS_perm x (sortS r)).trans ((sortS_perm r).cons x)
theorem insS_pw (x : Str) : ∀ l : List Str, l.Pairwise leS → (insS x l).Pairwise leS
  | [], _ => by simp [insS]
  | y :: r, h => by
    unfold insS
    obtain ⟨h1, h2⟩ := List.pairwise_cons.mp h
    split
    · rename_i hx
      rw [decide_eq_true_eq] at hx
      have hxy : leS x y := fun z => by
        exact absurd (List.lt_trans hx z) (List.lt_irrefl _)
      refine List.pairwise_cons.mpr ⟨fun z hz => ?_, h⟩
      rcases List.mem_cons.mp hz with e | e
      · rw [e]; exact hxy
      · exact leS_trans hxy (h1 z e)
    · rename_i hx
      rw [decide_eq_true_eq] at hx
      refine List.pairwise_cons.mpr ⟨fun z hz => ?_, insS_pw x r h2⟩
      rcases List.mem_cons.mp ((insS_perm x r).mem_iff.mp hz) with e | e
      · rw [e]; exact hx
      · exact h1 z e
theorem sortS_pw : ∀ l : List Str, (sortS l).Pairwise leS
  | [] => .nil
  | x :: r => insS_pw x _ (sortS_pw r)
theorem sortS_uniq {ys ks : List Str} (h1 : ys.Perm ks) (h2 : PyProof.Rows.sortedS ys = true) : ys = sortS ks :=
  List.Perm.eq_of_pairwise (fun a b _ _ => leS_anti) (sorted_pw ys h2) (sortS_pw ks) (h1.trans (sortS_perm ks).symm)
def textKeys : List Key → Option (List Str)
  | [] => some []
  | .inr x :: r => (textKeys r).map fun l => x :: l
  | .inl _ :: _ => none
theorem textKeys_ok : ∀ {l : List Key} {ks : List Str}, textKeys l = some ks → l = ks.map Sum.inr
  | [], _, e => by cases e; rfl
  | .inr x :: r, _, e => by
    unfold textKeys at e
    cases h : textKeys r with
    | none => rw [h] at e; cases e
    | some l => rw [h] at e; cases e; simp [textKeys_ok h]
  | .inl _ :: _, _, e => by cases e
def sSorted : SN := fun us A => match us with
  | [.loc n] => match A[n]? with
    | some (.dic kvs) => (textKeys (kvs.map (·.1))).bind fun ks => if ks.length < 64 then some (.loc A.length, A ++ [.lst ((sortS ks).map .str)]) else none
    | _ => none
  | _ => none
theorem strs_rw {K : KW} {H : Hp} {ι : List Addr} : ∀ l : List Str, RWs K H ι (l.map V.str) (l.map W.str)
  | [] => .nil
  | x :: r => .cons (.str x) (strs_rw r)
theorem ok_sortedD {K : KW} : RNOk K (fun xs H Q => ∃ (a : Addr) (kvs : List (Key × V)) (ks : List Str), xs = [.ref a] ∧ Rd H a (.dK kvs) ∧ kvs.map (·.1) = ks.map Sum.inr ∧ ks.length < 64 ∧
    ∀ ys p, ys.Perm ks → PyProof.Rows.sortedS ys = true → H p = none → Q (.ref p) (upd H p (.lst (ys.map V.str)))) sSorted := by
  intro H ι A xs us w A' Q h1 h3 h4 q
  unfold sSorted at h4
  split at h4
  · split at h4
    · rename_i n _ kws hk
      cases et : textKeys (kws.map (·.1)) with
      | none => rw [et] at h4; cases h4
      | some ks =>
        rw [et] at h4
        simp only [Option.bind_some] at h4
        split at h4
        · rename_i hl
          cases h4
          cases h1 with
          | cons c d =>
            cases d
            cases c with
            | loc hi =>
              obtain ⟨kvs, a1, b1, b2⟩ := (h3.ok _ _ _ hk hi : RO K H ι _ (.dic kws))
              refine ⟨_, kvs, ks, rfl, .inl a1, by rw [b1]; exact textKeys_ok et, hl, fun ys p e1 e2 hp => ?_⟩
              have e3 := sortS_uniq e1 e2
              subst e3
              obtain ⟨x1, x2, x3⟩ := new_lst h3 hp (strs_rw (K := K) (H := H) (ι := ι) (sortS ks))
              exact q _ _ _ x3 x1 x2
        · cases h4
    · cases h4
  · cases h4
end Z
namespace Z
open PySem L2
/-! ### while, with as many turns as it takes -/
theorem loopW_mono {c : ZB} {g : ZS} : ∀ {k E A r}, loopW c g k E A = some r → ∀ {m}, k ≤ m → loopW c g m E A = some r
  | 0, _, _, _, h, _, _ => by cases h
  | k + 1, E, A, r, h, m, hm => by
    cases m with
    | zero => omega
    | succ m =>
      unfold loopW at h ⊢
      cases ec : c E A with
      | none => rw [ec] at h; cases h
      | some p =>
        rw [ec] at h
        simp only [Option.bind_some] at h ⊢
        split
        · rename_i hk
          rw [if_pos hk] at h
          cases eg : g E p.2 with
          | none => rw [eg] at h; cases h
          | some q =>
            rw [eg] at h
            simp only [Option.bind_some] at h ⊢
            obtain ⟨o, A1⟩ := q
            cases o with
            | nx E2 => exact loopW_mono h (by omega)
            | ct E2 => exact loopW_mono h (by omega)
            | bk E2 => exact h
            | rt w => exact h
        · rename_i hk
          rw [if_neg hk] at h
          exact h
open Classical in
noncomputable def turnsW (c : ZB) (g : ZS) (E : EN) (A : AH) : Nat := if h : ∃ k, (loopW c g k E A).isSome = true then choose h else 0
noncomputable def zsWh (c : ZB) (g : ZS) : ZS := zsWhile (turnsW c g) c g
theorem zsWh_of {c : ZB} {g : ZS} {k : Nat} {E : EN} {A : AH} {r : Out × AH} (h : loopW c g k E A = some r) : zsWh c g E A = some r := by
  unfold zsWh zsWhile turnsW
  have ex : ∃ k, (loopW c g k E A).isSome = true := ⟨k, by rw [h]; rfl⟩
  rw [dif_pos ex]
  have hs := Classical.choose_spec ex
  obtain ⟨r', hr⟩ := Option.isSome_iff_exists.mp hs
  rw [hr]
  rcases Nat.le_total k (Classical.choose ex) with hle | hle
  · exact hr.symm.trans (loopW_mono h hle)
  · exact (loopW_mono hr hle).symm.trans h
theorem zs_wh [Tabs] {X : Cx} {pos : Pos} {c : Expr} {body : List Stmt} {fc : ZB} {g : ZS} (hp : PassesOwn (model X.prog X.w) X.A X.env X.xe) (hc : PTZ X c fc) (hb : PSsZ X body g) : PSZ X (.While c body [] pos) (zsWh fc g) := zs_while _ hp hc hb
end Z
set_option Elab.async false
set_option linter.all false
set_option maxRecDepth 100000
set_option maxHeartbeats 4000000
/-! Z12: any and all of a generator expression whose element may call defs -/
namespace GX
open PySem PySem.Spec PyProof.Rows L2 GenW GxR
theorem over_start {A : Around} {elt target iter : Expr} {scope : Scope} {pos : Pos} {it acc : Value} {env : Env} : A.over (.compStart (.GeneratorExp elt [⟨target, iter, [], 0⟩] scope pos) 0 it acc env) [] = A.deeper env := by
  first
    | rfl
    | (obtain ⟨hd, d, fr, gs, u⟩ := A; simp [Around.over, Around.deeper, marksOver, frameCount, unitsOf, envsOf, guardsOf, pushEnvs, pushGuards, Code.envs, Code.env?, Code.isFrame, Code.guards, Code.isGuard, Code.weight, Code.frames, Code.isCreation, Code.isCaller, Code.cUnits])
theorem over_loop {A : Around} {elt target iter : Expr} {scope : Scope} {pos : Pos} {it acc : Value} {env : Env} : A.over (.compLoop (.GeneratorExp elt [⟨target, iter, [], 0⟩] scope pos) 0 it acc env) [] = A.deeper env := by
  first
    | rfl
    | (obtain ⟨hd, d, fr, gs, u⟩ := A; simp [Around.over, Around.deeper, marksOver, frameCount, unitsOf, envsOf, guardsOf, pushEnvs, pushGuards, Code.envs, Code.env?, Code.isFrame, Code.guards, Code.isGuard, Code.weight, Code.frames, Code.isCreation, Code.isCaller, Code.cUnits])
/-- the generator's frame: N its names, then the captured ones -/
def gcx (X : Cx) (N : List Str) (scope : Scope) (C : Addr) (code : Value) (s4 : Shared) (H2 : Hp) (fp : List Addr) (pn : List (Addr × Obj)) : Cx where
  prog := X.prog
  w := X.w
  K := X.K
  mg := X.mg
  base := X.base
  A := X.A.in1.in1.deeper (genEnv scope (cloFrom X.env.cells scope.names []) C code builtinsNs X.env)
  N := N
  s_0 := s4
  H_0 := H2
  env := genEnv scope (cloFrom X.env.cells scope.names []) C code builtinsNs X.env
  outer := X.stack
  stack := genEnv scope (cloFrom X.env.cells scope.names []) C code builtinsNs X.env :: X.stack
  ex := fp
  fn := fun _ => false
  calm := true
  pn := pn
  xe := fun _ _ => False
/-- the scope of a generator expression: own names N0 behind ".0", captured names fr -/
structure GSc (N0 fr : List Str) (sc : Scope) : Prop where
  kind : sc.kind = .function
  co : sc.isCoroutine = false
  nocell : ∀ y ∈ sc.names, y.2 ≠ .cell
  dot : sc.names.lookup (".0" : Str) = some NameKind.local
  free : ∀ y ∈ sc.names, y.2 = .free → y.1 ∈ fr
  frk : ∀ x ∈ fr, sc.names.lookup x = some .free
  nodot : (".0" : Str) ∉ N0 ++ fr
  loc : ∀ x ∈ N0, sc.names.lookup x = some .local
section
variable {X : Cx} {tg iter elt : Expr} {scope : Scope} {gpos : Pos} {pins : List (Addr × Obj)}
/-- what the consumer sees at the end, or where it stops -/
def Done (X : Cx) (fp : List Addr) (s4 : Shared) (H2 : Hp) (Q : Hp → Prop) (s1 : Shared) : Prop :=
  ∃ H', s1.os = s4.os ∧ AllBare s1.gens ∧ Un (frs X.stack) fp H2 H' s4.heap s1.heap ∧ HOk X.prog X.w H' s1.heap ∧ Q H'
def GRx (X : Cx) (fp : List Addr) (s4 : Shared) (H2 : Hp) (Qe : Hp → Prop) (a : Addr) (g : Nat) : GenEnd := fun _ _ r s1 =>
  ((r = .ok (.ret .none) ∨ r = .ok .next) ∧ Done X fp s4 H2 Qe s1) ∨ ∃ e, r = .error e ∧ False
def GYx (X : Cx) (fp : List Addr) (s4 : Shared) (H2 : Hp) (Qs : Hp → Prop) (sv : Bool) (a : Addr) (g : Nat) : Protocol := fun _ _ v s1 kap =>
  ∃ b, v = .bool b ∧ s1.heap.IsGen a g ∧ s1.heap.NoLimit ∧ AllBare s1.gens ∧ (b = sv → Done X fp s4 H2 Qs s1) ∧ (b ≠ sv → ∀ s', s'.heap = s1.heap → s'.os = s1.os → AllBare s'.gens → kap (.send .none) s')
/-- the loop in the generator's frame -/
theorem seg_loop {N : List Str} {C a it : Addr} {go : Obj} {code : Value} {s4 : Shared} {H2 : Hp} {fp : List Addr} {tn : Nat → Heap → Prop} {J : It} {g : Nat} {sv : Bool} {Qe Qs : Hp → Prop} {gt : TG} {te : TE} {σ : L2.St} {acc : Value}
    {W : Nat → Nat → L2.St → Hp → Prop}
    (Y : Cx) (hY : Y = gcx X N scope C code s4 H2 fp [(a, go)]) (hgen : ∀ h : Heap, h.get? a = some go → h.IsGen a g)
    (T : Turn X.prog X.w X.K tg J fp it tn) (hg : PG Y tg gt) (he : PE Y elt te) (hco : scope.isCoroutine = false)
    (turn : ∀ m i σ H, W m i σ H → (J.stop i H ∧ Qe H) ∨ (J.go i H ∧ ∃ m', m = m' + 1 ∧ ∀ x H3, J.yld i H x H3 → gt x σ H3 fun σ4 H4 => te σ4 H4 fun v H5 => ∃ b, v = .bl b ∧ (b = sv → Qs H5) ∧ (b ≠ sv → W m' (i + 1) σ4 H5))) :
    ∀ (m i : Nat) (σ : L2.St) (H : Hp) (s₀ s : Shared), Inv Y [] σ H s → (∀ b ∈ fp, H b = none) → tn i s.heap → W m i σ H →
      (∀ b ∈ fp, FpOk Y [] H b) →
      Seg (model X.prog X.w) X.A.in1.in1 (GRx X fp s4 H2 Qe a g) (GYx X fp s4 H2 Qs sv a g) m s₀
        (.compLoop (.GeneratorExp elt [⟨tg, iter, [], 0⟩] scope gpos) 0 (.ref it) .none Y.env)
        ((model X.prog X.w).den (.compLoop (.GeneratorExp elt [⟨tg, iter, [], 0⟩] scope gpos) 0 (.ref it) .none Y.env)) [] s := by
  have yp : Y.prog = X.prog := by rw [hY]; rfl
  have yw : Y.w = X.w := by rw [hY]; rfl
  have yk : Y.K = X.K := by rw [hY]; rfl
  have yc : Y.calm = true := by rw [hY]; rfl
  have yA : X.A.in1.in1.deeper Y.env = Y.A := by rw [hY]; rfl
  have yx : ∀ {α : Type} {P : Prop} (e : Value) (s : Shared), Y.xe e s → P := fun e s h => by rw [hY] at h; exact False.elim h
  have ysc : Y.env.scope = scope := by rw [hY]; rfl
  have done : ∀ {σ H s} {Q : Hp → Prop}, Inv Y [] σ H s → Q H → Done X fp s4 H2 Q s := fun {σ H s Q} I q => by
    have u := I.base
    have o := I.os
    have k := I.hok
    rw [hY] at u o k
    exact ⟨H, o, I.bare, u, k, q⟩
  intro m
  induction m with
  | zero =>
    intro i σ H s₀ s I hfn hst w hf
    rcases turn 0 i σ H w with ⟨hs, q⟩ | ⟨_, m', h, _⟩
    · show Seg _ _ _ _ _ s₀ _ ((compTurn (.GeneratorExp elt [⟨tg, iter, [], 0⟩] scope gpos) 0 (.ref it) .none Y.env).onRaise (leaving Y.env)) [] s
      rw [compTurn_gen, Sem.onRaise_eq_wrap]
      refine seg_bind_wrap (wpAny_standAt ?_)
      refine seg_bind_wrap ?_
      rw [over_loop, yA]
      have z := T.done Y yp yw yk yc i [] s σ H (fun _ _ => False) I hf hst hs
      refine wpAny_mono z (fun r s1 ⟨hr, I1⟩ => ?_) fun _ _ e => e.elim
      subst hr
      exact seg_end (.ok .next) (.inl ⟨.inr rfl, done I1 q⟩)
    · cases h
  | succ m ih =>
    intro i σ H s₀ s I hfn hst w hf
    rcases turn (m + 1) i σ H w with ⟨hs, q⟩ | ⟨hgo, m', hm, w'⟩
    · show Seg _ _ _ _ _ s₀ _ ((compTurn (.GeneratorExp elt [⟨tg, iter, [], 0⟩] scope gpos) 0 (.ref it) .none Y.env).onRaise (leaving Y.env)) [] s
      rw [compTurn_gen, Sem.onRaise_eq_wrap]
      refine seg_bind_wrap (wpAny_standAt ?_)
      refine seg_bind_wrap ?_
      rw [over_loop, yA]
      have z := T.done Y yp yw yk yc i [] s σ H (fun _ _ => False) I hf hst hs
      refine wpAny_mono z (fun r s1 ⟨hr, I1⟩ => ?_) fun _ _ e => e.elim
      subst hr
      exact seg_end (.ok .next) (.inl ⟨.inr rfl, done I1 q⟩)
    · obtain rfl : m = m' := by omega
      show Seg _ _ _ _ _ s₀ _ ((compTurn (.GeneratorExp elt [⟨tg, iter, [], 0⟩] scope gpos) 0 (.ref it) .none Y.env).onRaise (leaving Y.env)) [] s
      rw [compTurn_gen, Sem.onRaise_eq_wrap]
      refine seg_bind_wrap (wpAny_standAt ?_)
      refine seg_bind_wrap ?_
      rw [over_loop, yA]
      have z := T.item Y yp yw yk yc i [] s σ H (fun _ _ => False) I hf hst hgo
      refine wpAny_mono z (fun r s1 ⟨u, hr, h1⟩ => ?_) fun _ _ e => e.elim
      subst hr
      refine seg_bind_wrap ?_
      rw [over_loop, yA]
      refine wpAny_mono h1 (fun _ s2 ⟨x, H3, I3, rx, hy, hst3, hf3⟩ => ?_) fun _ _ e => e.elim
      have stat : ∀ {H' : Hp}, (∀ b ∈ fp, H' b = none) → ∀ b ∈ fp, FpOk Y [] H' b := fun hn b hb => ⟨hn b hb, (hf b hb).2⟩
      have I3' := I3.pinned (stat hf3) (T.obj _ _ hst3)
      refine seg_bind_wrap ?_
      rw [over_loop, yA]
      have z2 := hg.run _ s2 σ H3 x u _ I3' rx (w' x H3 hy)
      rw [yp, yw] at z2
      refine wpAny_mono z2 (fun _ s3 ⟨σ4, H4, I4, q4⟩ => ?_) fun e s e' => yx (α := Unit) e s e'
      simp only [List.forIn_nil]
      refine seg_bind_wrap (wpAny_pure ?_)
      simp only [if_true]
      have hyo : ∀ v, yieldOut Y.env v = yieldValue v := fun v => by simp only [yieldOut, ysc, hco, Bool.false_eq_true, if_false]
      simp only [hyo]
      rw [Sem.bind_eq_wrap', Sem.bind_eq_wrap', Sem.wrap_wrap, Sem.wrap_wrap]
      refine seg_wrap ?_
      rw [over_loop, yA]
      have z3 := he.run _ s3 σ4 H4 _ I4 q4
      rw [yp, yw] at z3
      refine wpAny_mono z3 (fun v s5 ⟨y, H5, I5, ry, b, ey, q5, q6⟩ => ?_) fun e s e' => yx (α := Unit) e s e'
      subst ey
      obtain rfl : v = Value.bool b := ry
      have I5u : Inv Y [] σ4 H5 s5 := I5.unpinned
      have hgo5 : s5.heap.get? a = some go := (I5.pin (a, go) (by rw [hY]; simp [gcx])).1
      have pin5 : ∀ b ∈ fp, ∀ o, s2.heap.get? b = some o → s5.heap.get? b = some o ∧ H5 b = none := fun b hb o e => by
        have z := I5.pin (b, o) (List.mem_append_right _ (List.mem_append_right _ (mem_pinsAt hb e)))
        exact ⟨z.1, z.2.1⟩
      refine seg_at (seg_yield rfl rfl rfl ⟨b, rfl, hgen _ hgo5, I5.nolimit, I5.bare, fun hb => done I5u (q5 hb), fun hb s'' e1 e2 e3 => ?_⟩)
      have J5 : Inv Y [] σ4 H5 s'' := I5u.call' (s' := s'') (ch := []) e2 (by rw [e1]; exact Un.refl) (by rw [e1]; exact I5u.hok) e3 (fun b hb => absurd hb (by simp))
      have hf5 : ∀ b ∈ fp, H5 b = none := fun b hb => by
        obtain ⟨o, e, _⟩ := T.obj _ _ hst3 b hb
        exact (pin5 b hb o e).2
      exact seg_again rfl (ih (i + 1) σ4 H5 s'' s'' J5 hf5 (by rw [e1]; exact T.keep _ _ _ hst3 fun b hb o e => (pin5 b hb o e).1) (q6 hb) (stat hf5))
theorem seg_start {N : List Str} {C a it : Addr} {go : Obj} {code : Value} {s4 : Shared} {H2 : Hp} {fp : List Addr} {tn : Nat → Heap → Prop} {J : It} {g : Nat} {sv : Bool} {Qe Qs : Hp → Prop} {gt : TG} {te : TE} {σ : L2.St}
    {W : Nat → Nat → L2.St → Hp → Prop}
    (Y : Cx) (hY : Y = gcx X N scope C code s4 H2 fp [(a, go)]) (hgen : ∀ h : Heap, h.get? a = some go → h.IsGen a g)
    (T : Turn X.prog X.w X.K tg J fp it tn) (hg : PG Y tg gt) (he : PE Y elt te) (hco : scope.isCoroutine = false)
    (turn : ∀ m i σ H, W m i σ H → (J.stop i H ∧ Qe H) ∨ (J.go i H ∧ ∃ m', m = m' + 1 ∧ ∀ x H3, J.yld i H x H3 → gt x σ H3 fun σ4 H4 => te σ4 H4 fun v H5 => ∃ b, v = .bl b ∧ (b = sv → Qs H5) ∧ (b ≠ sv → W m' (i + 1) σ4 H5)))
    (m : Nat) (H : Hp) (s₀ s : Shared) (I : Inv Y [] σ H s) (hfn : ∀ b ∈ fp, H b = none) (hst : tn 0 s.heap) (w : W m 0 σ H) (hf : ∀ b ∈ fp, FpOk Y [] H b) :
      Seg (model X.prog X.w) X.A.in1.in1 (GRx X fp s4 H2 Qe a g) (GYx X fp s4 H2 Qs sv a g) m s₀
        (.compStart (.GeneratorExp elt [⟨tg, iter, [], 0⟩] scope gpos) 0 (.ref it) .none Y.env)
        ((model X.prog X.w).den (.compStart (.GeneratorExp elt [⟨tg, iter, [], 0⟩] scope gpos) 0 (.ref it) .none Y.env)) [] s := by
  have loop := seg_loop (iter := iter) (gpos := gpos) (acc := .none) (σ := σ) Y hY hgen T hg he hco turn m 0 σ H s₀ s I hfn hst w hf
  show Seg _ _ _ _ _ s₀ _ ((compStart (.GeneratorExp elt [⟨tg, iter, [], 0⟩] scope gpos) 0 (.ref it) .none Y.env).onRaise (leaving Y.env)) [] s
  unfold compStart
  rw [Sem.onRaise_eq_wrap]
  show Seg _ _ _ _ _ s₀ _ ((ask >>= _).wrap _ _ _ _) [] s
  refine seg_bind_wrap (wpAny_askSetting ?_)
  split
  · exact seg_again rfl loop
  · first
      | exact seg_bind_wrap (wpAny_rule (seg_bind_wrap (wpAny_standAt (seg_bind_wrap (T.self _ 0 s _ _ hst (seg_again rfl loop))))))
      | (refine seg_bind_wrap (wpAny_rule ?_); show Seg _ _ _ _ _ s₀ _ ((standAt iter.pos >>= _).wrap _ _ _ _) [] s; exact seg_bind_wrap (wpAny_standAt (seg_bind_wrap (T.self _ 0 s _ _ hst (seg_again rfl loop)))))
theorem Done.set {fp : List Addr} {s4 : Shared} {H2 : Hp} {Q : Hp → Prop} {s1 : Shared} {g : Nat} {x : GenState} (d : Done X fp s4 H2 Q s1) (hx : x.bare = true) : Done X fp s4 H2 Q (s1.setGen g x) := by
  obtain ⟨H', a, b, c, e, f⟩ := d
  exact ⟨H', a, allBare_setGen b hx, c, e, f⟩
theorem Done.grow {fp : List Addr} {s4 : Shared} {H2 : Hp} {Q : Hp → Prop} {s1 : Shared} {h' : Heap} (d : Done X fp s4 H2 Q s1) (hk : ∀ b o, s1.heap.get? b = some o → h'.get? b = some o) : Done X fp s4 H2 Q { s1 with heap := h' } := by
  obtain ⟨H', a, b, c, e, f⟩ := d
  exact ⟨H', a, b, c.trans (Un.kept hk), e.kept hk, f⟩
theorem loop_all {fp : List Addr} {s4 : Shared} {H2 : Hp} {Qe Qs : Hp → Prop} {a : Addr} {g : Nat} {R : Result → Shared → Prop} (hh : X.A.handled = none) (hd : X.A.depth < recursionLimit)
    (hend : ∀ s', Done X fp s4 H2 Qe s' → R (.ok (.ret (.bool true))) s') (hstop : ∀ s', Done X fp s4 H2 Qs s' → R (.ok (.ret (.bool false))) s') :
    ∀ (m : Nat) (s : Shared), s.heap.IsGen a g → s.heap.NoLimit →
      (∃ gs, s.gens[g]? = some gs ∧ gs.Goes (model X.prog X.w) X.A.in1.in1 (GRx X fp s4 H2 Qe a g) (GYx X fp s4 H2 Qs false a g) m (.send .none) (s.setGen g .running)) →
      codeAny (model X.prog X.w) X.A (.builtin "all.loop" ⟨[.ref a], []⟩) R s := by
  have goes : ∀ {gs : GenState} {B : Around} {n : Nat} {r : Resume} {s : Shared}, gs.Goes (model X.prog X.w) B (GRx X fp s4 H2 Qe a g) (GYx X fp s4 H2 Qs false a g) n r s →
      gs.Goes (model X.prog X.w) B (fun n s₀ r s1 => ((r = .ok (.ret .none) ∨ r = .ok .next) ∧ Done X fp s4 H2 Qe s1) ∨ ∃ e, r = .error e ∧ False) (GYx X fp s4 H2 Qs false a g) n r s := fun h => h
  intro m
  induction m with
  | zero =>
    intro s hg hl ⟨gs, hgs, hgo⟩
    refine codeAny_builtin F.entry_all_loop ?_
    rw [Around.under_plainId F.plain_all_loop _]
    show wpAny _ X.A.in1 (pyNext (.ref a) >>= _) _ _ s
    refine wpAny_bind (next_genG (A := X.A.in1) (Er := fun _ _ => False) hh hl hd hg hgs (goes hgo) (fun v s₁ gs' hbare hv => ?_) (fun s₁ hp h' hk => ?_) fun e s₁ he => he.elim)
    · obtain ⟨b, rfl, h1, h2, h3, h4, h5⟩ := hv
      refine wpAny_bind (wpAny_holding (wpAny_truthy_bool ?_))
      refine wpAny_bind (wpAny_letGo ?_)
      cases b with
      | true => exact (h5 (by simp) s₁ rfl rfl h3).elim
      | false =>
        simp only [Bool.false_eq_true, if_false]
        exact wpAny_bind (wpAny_rule (wpAny_pure (hstop _ ((h4 rfl).set hbare))))
    · refine wpAny_bind (wpAny_rule (wpAny_pure ?_))
      exact hend _ ((hp.set (g := g) rfl).grow hk)
  | succ m ih =>
    intro s hg hl ⟨gs, hgs, hgo⟩
    have hgl : g < s.gens.size := (Array.getElem?_eq_some_iff.mp hgs).1
    refine codeAny_builtin F.entry_all_loop ?_
    rw [Around.under_plainId F.plain_all_loop _]
    show wpAny _ X.A.in1 (pyNext (.ref a) >>= _) _ _ s
    refine wpAny_bind (wpAny_gsz (n := g + 1) hgl (next_genG (A := X.A.in1) (Er := fun _ _ => False) hh hl hd hg hgs (goes hgo) (fun v s₁ gs' hbare hv => ?_) (fun s₁ hp h' hk => ?_) fun e s₁ he => he.elim))
    · intro hsz
      obtain ⟨b, rfl, h1, h2, h3, h4, h5⟩ := hv
      refine wpAny_bind (wpAny_holding (wpAny_truthy_bool ?_))
      refine wpAny_bind (wpAny_letGo ?_)
      cases b with
      | true =>
        simp only [if_true]
        have hsz1 : g < s₁.gens.size := by
          have q : (s₁.setGen g gs').gens.size = s₁.gens.size := setGen_size _ _ _
          have hsz' : g + 1 ≤ (s₁.setGen g gs').gens.size := hsz
          omega
        exact wpAny_pure ⟨plainId_quiet F.plain_all_loop _, ih (s₁.setGen g gs') h1 h2 ⟨gs', setGen_at hsz1, h5 (by simp) _ rfl rfl (allBare_setGen (allBare_setGen h3 hbare) rfl)⟩⟩
      | false =>
        simp only [Bool.false_eq_true, if_false]
        exact wpAny_bind (wpAny_rule (wpAny_pure (hstop _ ((h4 rfl).set hbare))))
    · intro _
      refine wpAny_bind (wpAny_rule (wpAny_pure ?_))
      exact hend _ ((hp.set (g := g) rfl).grow hk)
theorem loop_any {fp : List Addr} {s4 : Shared} {H2 : Hp} {Qe Qs : Hp → Prop} {a : Addr} {g : Nat} {R : Result → Shared → Prop} (hh : X.A.handled = none) (hd : X.A.depth < recursionLimit)
    (hend : ∀ s', Done X fp s4 H2 Qe s' → R (.ok (.ret (.bool false))) s') (hstop : ∀ s', Done X fp s4 H2 Qs s' → R (.ok (.ret (.bool true))) s') :
    ∀ (m : Nat) (s : Shared), s.heap.IsGen a g → s.heap.NoLimit →
      (∃ gs, s.gens[g]? = some gs ∧ gs.Goes (model X.prog X.w) X.A.in1.in1 (GRx X fp s4 H2 Qe a g) (GYx X fp s4 H2 Qs true a g) m (.send .none) (s.setGen g .running)) →
      codeAny (model X.prog X.w) X.A (.builtin "any.loop" ⟨[.ref a], []⟩) R s := by
  have goes : ∀ {gs : GenState} {B : Around} {n : Nat} {r : Resume} {s : Shared}, gs.Goes (model X.prog X.w) B (GRx X fp s4 H2 Qe a g) (GYx X fp s4 H2 Qs true a g) n r s →
      gs.Goes (model X.prog X.w) B (fun n s₀ r s1 => ((r = .ok (.ret .none) ∨ r = .ok .next) ∧ Done X fp s4 H2 Qe s1) ∨ ∃ e, r = .error e ∧ False) (GYx X fp s4 H2 Qs true a g) n r s := fun h => h
  intro m
  induction m with
  | zero =>
    intro s hg hl ⟨gs, hgs, hgo⟩
    refine codeAny_builtin F.entry_any_loop ?_
    rw [Around.under_plainId F.plain_any_loop _]
    show wpAny _ X.A.in1 (pyNext (.ref a) >>= _) _ _ s
    refine wpAny_bind (next_genG (A := X.A.in1) (Er := fun _ _ => False) hh hl hd hg hgs (goes hgo) (fun v s₁ gs' hbare hv => ?_) (fun s₁ hp h' hk => ?_) fun e s₁ he => he.elim)
    · obtain ⟨b, rfl, h1, h2, h3, h4, h5⟩ := hv
      refine wpAny_bind (wpAny_holding (wpAny_truthy_bool ?_))
      refine wpAny_bind (wpAny_letGo ?_)
      cases b with
      | false => exact (h5 (by simp) s₁ rfl rfl h3).elim
      | true =>
        simp only [if_true]
        exact wpAny_bind (wpAny_rule (wpAny_pure (hstop _ ((h4 rfl).set hbare))))
    · refine wpAny_bind (wpAny_rule (wpAny_pure ?_))
      exact hend _ ((hp.set (g := g) rfl).grow hk)
  | succ m ih =>
    intro s hg hl ⟨gs, hgs, hgo⟩
    have hgl : g < s.gens.size := (Array.getElem?_eq_some_iff.mp hgs).1
    refine codeAny_builtin F.entry_any_loop ?_
    rw [Around.under_plainId F.plain_any_loop _]
    show wpAny _ X.A.in1 (pyNext (.ref a) >>= _) _ _ s
    refine wpAny_bind (wpAny_gsz (n := g + 1) hgl (next_genG (A := X.A.in1) (Er := fun _ _ => False) hh hl hd hg hgs (goes hgo) (fun v s₁ gs' hbare hv => ?_) (fun s₁ hp h' hk => ?_) fun e s₁ he => he.elim))
    · intro hsz
      obtain ⟨b, rfl, h1, h2, h3, h4, h5⟩ := hv
      refine wpAny_bind (wpAny_holding (wpAny_truthy_bool ?_))
      refine wpAny_bind (wpAny_letGo ?_)
      cases b with
      | false =>
        simp only [Bool.false_eq_true, if_false]
        have hsz1 : g < s₁.gens.size := by
          have q : (s₁.setGen g gs').gens.size = s₁.gens.size := setGen_size _ _ _
          have hsz' : g + 1 ≤ (s₁.setGen g gs').gens.size := hsz
          omega
        exact wpAny_pure ⟨plainId_quiet F.plain_any_loop _, ih (s₁.setGen g gs') h1 h2 ⟨gs', setGen_at hsz1, h5 (by simp) _ rfl rfl (allBare_setGen (allBare_setGen h3 hbare) rfl)⟩⟩
      | true =>
        simp only [if_true]
        exact wpAny_bind (wpAny_rule (wpAny_pure (hstop _ ((h4 rfl).set hbare))))
    · intro _
      refine wpAny_bind (wpAny_rule (wpAny_pure ?_))
      exact hend _ ((hp.set (g := g) rfl).grow hk)
/-- the names' values where the generator begins -/
def startG (n : Nat) (σ : L2.St) (cap : List Nat) : L2.St := List.replicate n none ++ cap.map fun j => (σ[j]?).join
/-- the captured names: where they stand in the def's own row -/
structure Caps (X : Cx) (fr : List Str) (cap : List Nat) : Prop where
  len : cap.length = fr.length
  at' : ∀ (k j : Nat) (y : Str), fr[k]? = some y → cap[k]? = some j → X.N[j]? = some y
  kind : ∀ y ∈ fr, X.env.kindOf y = some .cell ∨ X.env.kindOf y = some .free
theorem closes {fr : List Str} {cap : List Nat} {N0 : List Str} {σ : L2.St} {H : Hp} {s : Shared} (I : Inv X pins σ H s) (S : GSc N0 fr scope) (C : Caps X fr cap) : ∀ y ∈ scope.names, y.2 = .free → ∃ c, X.env.cells.lookup y.1 = some c :=
  fun y hy e => I.ok.has y.1 (C.kind y.1 (S.free y hy e))
theorem inv_gen {N0 fr : List Str} {cap : List Nat} {σ : L2.St} {H2 : Hp} {s4 : Shared} {fp : List Addr} {code : Value} {h5 : Heap} {gs : GenState} {tk : Nat} {a : Addr} {go : Obj} {m0 : Str → Option Value}
    (I4 : Inv X pins σ H2 s4) (hhd : X.A.handled = none) (S : GSc N0 fr scope) (C : Caps X fr cap) (hf : ∀ b ∈ fp, FpOk X pins H2 b) (hobj : ∀ b ∈ fp, ∃ o, s4.heap.get? b = some o)
    (hn : h5.Ns s4.heap.objs.size m0) (hk : ∀ b o, s4.heap.get? b = some o → h5.get? b = some o) (hb : gs.bare = true) (ha : s4.heap.objs.size < a) (hgo : h5.get? a = some go) (hgd : ∀ v, go.data ≠ .cell v) :
    Inv (gcx X (N0 ++ fr) scope s4.heap.objs.size code s4 H2 fp [(a, go)]) [] (startG N0.length σ cap) H2 { s4 with gens := s4.gens.push gs, toks := tk, heap := h5 } := by
  have hfree := closes I4 S C
  have hfpC : ∀ b ∈ fp, b ≠ s4.heap.objs.size := fun b hb => by
    obtain ⟨o, e⟩ := hobj b hb
    exact Nat.ne_of_lt (Heap.lt_size e)
  have cellK : ∀ {c : Addr} {v : Option Value}, s4.heap.IsCell c v → h5.IsCell c v := fun {c v} ⟨o, ho, hd⟩ => ⟨o, hk _ _ ho, hd⟩
  refine ⟨⟨I4.ok.mod, S.kind, I4.ok.glob, rfl, Nat.le_refl _, fun x y c e1 e2 => ?_, fun y hy => ?_, fun y c z _ => ?_, fun _ => hhd, Around.frames_deeper I4.ok.frames, .inr ⟨rfl, rfl⟩, fun b hb => ⟨hfpC b hb, fun x c e => ?_⟩, I4.bs, Nat.le_trans I4.ok.bsz I4.sz, fun b o e hb => ?_,
      fun b hb hm => ?_, I4.stack, I4.stkFree⟩,
    rfl, I4.bare.push hb, Un.kept hk, ⟨m0, hn, fun i y v e1 e2 e3 => ?_⟩, fun y c e => ?_, I4.hok.fresh (Nat.le_refl _), fun y c e => I4.freeC y c (NdefX.clo_cm hfree e), fun p hp => ?_, I4.hok.kept hk, ?_⟩
  · exact I4.ok.inj x y c (NdefX.clo_cm hfree e1) (NdefX.clo_cm hfree e2)
  · have hy : scope.names.lookup y = some .cell ∨ scope.names.lookup y = some .free := hy
    rcases hy with hy | hy
    · exact absurd rfl (S.nocell _ (PySem.mem_of_lookup hy))
    · obtain ⟨c, hc⟩ := hfree (y, .free) (PySem.mem_of_lookup hy) rfl
      exact ⟨c, NdefX.clo_has hfree (PySem.mem_of_lookup hy) hc⟩
  · have z : false = true := z
    cases z
  · exact (hf b hb).2.2.2.2.1 x c (NdefX.clo_cm hfree e)
  · obtain ⟨_, _, _, f3, _⟩ := hf b hb
    rcases f3 with z | z
    · exact I4.ok.noex b o e z
    · exact absurd (Nat.lt_of_lt_of_le (Nat.lt_of_lt_of_le (Heap.lt_size e) I4.ok.bsz) z) (Nat.lt_irrefl _)
  · obtain ⟨_, f1, f2, _⟩ := hf b hb
    rcases List.mem_cons.mp (I4.stkSub b hm) with z | z
    · exact f1 z
    · exact f2 z
  · have e1 : (N0 ++ fr)[i]? = some y := e1
    have e2 : (List.replicate N0.length none ++ cap.map fun j => (σ[j]?).join)[i]? = some (some v) := e2
    by_cases hi : i < N0.length
    · rw [List.getElem?_append_left (by simpa using hi), List.getElem?_replicate] at e2
      split at e2 <;> cases e2
    · rw [List.getElem?_append_right (by omega)] at e1
      rw [List.getElem?_append_right (by simp; omega), List.length_replicate, List.getElem?_map] at e2
      cases hc : cap[i - N0.length]? with
      | none => rw [hc] at e2; cases e2
      | some j =>
        rw [hc] at e2
        simp only [Option.map_some, Option.some.injEq] at e2
        have hN := C.at' _ j y e1 hc
        have hσ : σ[j]? = some (some v) := by
          cases q : σ[j]? with
          | none => rw [q] at e2; cases e2
          | some w => rw [q] at e2; simp only [Option.join_some] at e2; rw [e2]
        have hyf : y ∈ fr := List.mem_of_getElem? e1
        have hkd := C.kind y hyf
        obtain ⟨m, _, hl⟩ := I4.loc
        obtain ⟨u, ru, lk⟩ := hl j y v hN hσ (by
          rcases hkd with z | z
          · exact .inr (.inl z)
          · exact .inr (.inr z))
        refine ⟨u, ru, ?_⟩
        rcases lk with ⟨z, _⟩ | ⟨_, c, hc1, hc2⟩
        · rcases hkd with q | q <;> rw [q] at z <;> cases z
        · exact .inr ⟨.inr (S.frk y hyf), c, NdefX.clo_has hfree (PySem.mem_of_lookup (S.frk y hyf)) hc1, cellK hc2⟩
  · obtain ⟨v, z⟩ := I4.cell y c (NdefX.clo_cm hfree e)
    exact ⟨v, cellK z⟩
  · have hp : p ∈ [(a, go)] := by simpa [gcx] using hp
    rw [List.mem_singleton.mp hp]
    refine ⟨hgo, I4.hok.fresh (Nat.le_of_lt ha), Nat.ne_of_gt ha, fun hm => ?_, hgd⟩
    rcases List.mem_cons.mp (I4.stkSub a hm) with z | z
    · have := I4.lt
      have z' : (a : Nat) = X.env.locals := z
      have h1 : (s4.heap.objs.size : Nat) < a := ha
      have h2 : (X.env.locals : Nat) < s4.heap.objs.size := this
      rw [← z'] at h2
      exact absurd (Nat.lt_trans h1 h2) (Nat.lt_irrefl _)
    · exact I4.nofs (Nat.le_of_lt ha) z
  · show (List.replicate N0.length none ++ cap.map fun j => (σ[j]?).join).length = (N0 ++ fr).length
    simp [C.len]
/-! ### all(..), any(..) -/
theorem setLast {α : Type} (xs : Array α) (a b : α) : (xs.push a).setIfInBounds xs.size b = xs.push b := by
  apply Array.ext'
  rw [Array.toList_setIfInBounds, Array.toList_push, Array.toList_push, List.set_append_right _ _ (by simp)]
  simp
/-- sv: the value at which it stops -/
def tAA (sv : Bool) (P : Addr) (n : Nat) (cap : List Nat) (wi : TI) (gt : TG) (te : TE) : TE := fun σ H Q => wi σ H fun J H1 => TabG H1 P ∧ ∀ H2, Tabbed P H1 H2 → ∃ W : Nat → Nat → L2.St → Hp → Prop, (∃ m, W m 0 (startG n σ cap) H2) ∧
  ∀ m i σ' H', W m i σ' H' → (J.stop i H' ∧ Q (.bl (!sv)) H') ∨ (J.go i H' ∧ ∃ m', m = m' + 1 ∧ ∀ x H3, J.yld i H' x H3 → gt x σ' H3 fun σ4 H4 => te σ4 H4 fun v H5 => ∃ b, v = .bl b ∧ (b = sv → Q (.bl sv) H5) ∧ (b ≠ sv → W m' (i + 1) σ4 H5))
/-- a generator has come -/
def Come (X : Cx) (pins : List (Addr × Obj)) (σ : L2.St) (sv : Bool) (Q : VK) (u : Value) (s5 : Shared) : Prop :=
  ∃ (a : Addr) (g m : Nat) (fp : List Addr) (s4 : Shared) (H2 : Hp), u = .ref a ∧ s5.heap.IsGen a g ∧ s5.heap.NoLimit ∧ Inv X pins σ H2 s4 ∧ (∀ b ∈ fp, FpOk X pins H2 b) ∧ s5.os = s4.os ∧
    ∃ gs, s5.gens[g]? = some gs ∧ gs.Goes (model X.prog X.w) X.A.in1.in1 (GRx X fp s4 H2 (fun H' => Q (.bl (!sv)) H') a g) (GYx X fp s4 H2 (fun H' => Q (.bl sv) H') sv a g) m (.send .none) (s5.setGen g .running)
theorem Done.back {fp : List Addr} {s4 : Shared} {H2 : Hp} {Q : Hp → Prop} {σ : L2.St} {s1 : Shared} (I4 : Inv X pins σ H2 s4) (hf : ∀ b ∈ fp, FpOk X pins H2 b) (d : Done X fp s4 H2 Q s1) : ∃ H', Inv X pins σ H' s1 ∧ Q H' := by
  obtain ⟨H', os, bare, un, hok, q⟩ := d
  refine ⟨H', I4.call' (ch := fp) os un hok bare fun b hb => ?_, q⟩
  obtain ⟨_, f1, _, f3, f4, f5⟩ := hf b hb
  exact ⟨f3, f1, f4, f5⟩
theorem gen_come {k : Nat} {c P : Addr} {N0 fr : List Str} {cap : List Nat} {wi : TI} {gt : TG} {te : TE} {sv : Bool} {σ : L2.St} {H : Hp} {s : Shared} {Q : VK} {Q' : Value → Shared → Prop}
    (hr : Room k X.A) (TB : TabB X.base X.mg c P) (hcode : X.env.code = .ref c) (S : GSc N0 fr scope) (C : Caps X fr cap) (hi : PI X tg iter wi)
    (hg : ∀ C code s4 H2 fp pn, PG (gcx X (N0 ++ fr) scope C code s4 H2 fp pn) tg gt) (he : ∀ C code s4 H2 fp pn, PE (gcx X (N0 ++ fr) scope C code s4 H2 fp pn) elt te)
    (hs : ∀ v, genFold iter X.env v = pure v) (I : Inv X pins σ H s) (h : tAA sv P N0.length cap wi gt te σ H Q)
    (hQ : ∀ u s5, Come X pins σ sv Q u s5 → Q' u s5) :
    wpAny (model X.prog X.w) X.A (eval (.GeneratorExp elt [⟨tg, iter, [], 0⟩] scope gpos) X.env) Q' X.xe s := by
  refine wpAny_GeneratorExp_make S.co (closure_ok (closes I S C)) S.nocell S.dot S.kind (by have := hr.dp; omega) ?_ hs
  refine thn (hi.run pins s σ H _ I h) fun xv s1 h1 => thn h1 fun itv s2 h2 => ?_
  obtain ⟨it, fp, tn, J, H1, rfl, I1, T, st1, f1, ⟨ps, hP, ht⟩, q⟩ := h2
  have hPs : s2.heap.get? P = some { cls := .none, data := .fields ps } := I1.hok P _ hP
  have hfpP : ∀ b ∈ fp, b ≠ P := fun b hb z => by
    have := (f1 b hb).1
    rw [z, hP] at this
    cases this
  have cd : PySem.W.CodeHd s2.heap c P := TB.code.keeps fun b u e => I1.bk b u e
  have lim2 : s2.heap.NoLimit := I1.nolimit
  have cont : ∀ (code : Value) (h3 : Heap) (tk : Nat) (ps' : Array Value), Heap.ExtBut P s2.heap h3 → h3.get? P = some { cls := .none, data := .fields ps' } → (∃ more, ps' = ps ++ more) → TriplesOk ps'.toList →
      wpAny (model X.prog X.w) X.A (builtinsFor X.env.globals X.env.builtins) (fun bi s₄ =>
        ∀ h', h'.Ns s₄.heap.objs.size (fun y => if y = (".0" : Str) then some (.ref it) else none) → Heap.SameBut s₄.heap.objs.size (s₄.heap.push { cls := .type "frame", data := .dict #[] }) h' →
          Q' (.ref h'.objs.size) { s₄ with
            gens := s₄.gens.push (.fresh (.compStart (.GeneratorExp elt [⟨tg, iter, [], 0⟩] scope gpos) 0 (.ref it) .none (genEnv scope (cloFrom X.env.cells scope.names []) s₄.heap.objs.size code bi X.env))),
            toks := s₄.toks + 1 + 1 + 1,
            heap := h'.push { cls := .type "generator", data := .fields #[.int s₄.gens.size 0, .str "<genexpr>" (s₄.toks + 1), .str (X.env.qual ++ "<genexpr>") (s₄.toks + 1 + 1)] } }) X.xe { s2 with heap := h3, toks := tk } := by
    intro code h3 tk ps' hx hP3 ⟨more, hmore⟩ ht3
    obtain ⟨bm, ob, e1, e2, e3, e4, e5, e6, e7, e8⟩ := TB.bm
    refine wpAny_builtinsFor (m := X.mg) (by rw [I1.ok.glob]; exact (I1.mod.glob.keeps I1.bk).extBut hx TB.gP) e1 e2 (hx _ _ e4 (I1.bk _ _ e5)) e6 e7 e8 ?_
    intro h' hn' hs'
    subst hmore
    have I4 : Inv X pins σ (upd H1 P (.tbl (ps ++ more))) { s2 with heap := h3, toks := tk } := inv_tab (more := more) (h' := h3) (g' := s2.gens) (d' := s2.drawn) (t' := tk) I1 hP (fun b o hb e => hx b o hb e) hP3 I1.bare
    have hT : Tabbed P H1 (upd H1 P (.tbl (ps ++ more))) := ⟨⟨ps ++ more, upd_same, ht3⟩, fun b hb => upd_ne hb⟩
    obtain ⟨W, ⟨m, w0⟩, turn⟩ := q _ hT
    have hsz : h'.objs.size = h3.objs.size + 1 := by rw [hs'.1, Heap.size_push]
    have keep' : ∀ b o, h3.get? b = some o → h'.get? b = some o := fun b o e => hs'.extBut b o (Nat.ne_of_lt (Heap.lt_size e)) (Heap.get?_push_of_some _ e)
    have keep5 : ∀ b o, h3.get? b = some o → (h'.push { cls := .type "generator", data := .fields #[.int s2.gens.size 0, .str "<genexpr>" (tk + 1), .str (X.env.qual ++ "<genexpr>") (tk + 1 + 1)] }).get? b = some o :=
      fun b o e => Heap.get?_push_of_some _ (keep' b o e)
    have st4 : tn 0 h3 := T.keep 0 _ _ st1 fun b hb o e => hx b o (hfpP b hb) e
    have hobj : ∀ b ∈ fp, ∃ o, h3.get? b = some o := fun b hb => by
      obtain ⟨o, e, _⟩ := T.obj _ _ st4 b hb
      exact ⟨o, e⟩
    have f4 : ∀ b ∈ fp, FpOk X pins (upd H1 P (.tbl (ps ++ more))) b := fun b hb => ⟨by rw [upd_ne (hfpP b hb)]; exact (f1 b hb).1, (f1 b hb).2⟩
    have hpush := Heap.get?_push_size h' (o := { cls := .type "generator", data := .fields #[.int s2.gens.size 0, .str "<genexpr>" (tk + 1), .str (X.env.qual ++ "<genexpr>") (tk + 1 + 1)] }) rfl
    have lt5 : (h3.objs.size : Nat) < h'.objs.size := by omega
    refine hQ _ _ ⟨h'.objs.size, s2.gens.size, m, fp, { s2 with heap := h3, toks := tk }, _, rfl, ⟨_, _, _, hpush, rfl, rfl, rfl⟩, I4.nolimit.keeps keep5, I4, f4, rfl, _, Array.getElem?_push_size .., rfl, ?_⟩
    have gsz : ∀ (tk5 : Nat), Inv (gcx X (N0 ++ fr) scope h3.objs.size code { s2 with heap := h3, toks := tk } (upd H1 P (.tbl (ps ++ more))) fp [(h'.objs.size, { cls := .type "generator", data := .fields #[.int s2.gens.size 0, .str "<genexpr>" (tk + 1), .str (X.env.qual ++ "<genexpr>") (tk + 1 + 1)] })]) [] (startG N0.length σ cap) (upd H1 P (.tbl (ps ++ more)))
        { s2 with gens := s2.gens.push .running, toks := tk5, heap := h'.push { cls := .type "generator", data := .fields #[.int s2.gens.size 0, .str "<genexpr>" (tk + 1), .str (X.env.qual ++ "<genexpr>") (tk + 1 + 1)] } } :=
      fun tk5 => inv_gen (gs := .running) (tk := tk5) I4 hr.hd S C f4 hobj (hn'.push _) keep5 rfl lt5 hpush (fun v z => by cases z)
    have J5 := gsz (tk + 1 + 1 + 1)
    have fY : ∀ b ∈ fp, FpOk (gcx X (N0 ++ fr) scope h3.objs.size code { s2 with heap := h3, toks := tk } (upd H1 P (.tbl (ps ++ more))) fp [(h'.objs.size, { cls := .type "generator", data := .fields #[.int s2.gens.size 0, .str "<genexpr>" (tk + 1), .str (X.env.qual ++ "<genexpr>") (tk + 1 + 1)] })]) [] (upd H1 P (.tbl (ps ++ more))) b := fun b hb => by
      obtain ⟨o, e⟩ := hobj b hb
      have hlt := Heap.lt_size e
      obtain ⟨g0, g1, g2, g3, g4, g5⟩ := f4 b hb
      refine ⟨g0, Nat.ne_of_lt hlt, J5.ok.exfs b hb, .inl hb, (J5.ok.exf b hb).2, fun p hp => ?_⟩
      have hp : p ∈ [((h'.objs.size : Addr), ({ cls := .type "generator", data := .fields #[.int s2.gens.size 0, .str "<genexpr>" (tk + 1), .str (X.env.qual ++ "<genexpr>") (tk + 1 + 1)] } : Obj))] := by simpa [gcx] using hp
      rw [List.mem_singleton.mp hp]
      exact Nat.ne_of_gt (Nat.lt_trans hlt lt5)
    refine seg_start (J := J) (W := W) (tn := tn) (σ := startG N0.length σ cap) (go := { cls := .type "generator", data := .fields #[.int s2.gens.size 0, .str "<genexpr>" (tk + 1), .str (X.env.qual ++ "<genexpr>") (tk + 1 + 1)] }) _ rfl (fun h e => ⟨_, _, _, e, rfl, rfl, rfl⟩) T (hg _ _ _ _ _ _) (he _ _ _ _ _ _) S.co turn m _ _ _ ?_ (fun b hb => (f4 b hb).1) ?_ w0 fY
    · have e9 : ({ s2 with gens := (s2.gens.push (.fresh (.compStart (.GeneratorExp elt [⟨tg, iter, [], 0⟩] scope gpos) 0 (.ref it) .none (genEnv scope (cloFrom X.env.cells scope.names []) h3.objs.size code builtinsNs X.env)))).setIfInBounds s2.gens.size .running, toks := tk + 1 + 1 + 1, heap := h'.push { cls := .type "generator", data := .fields #[.int s2.gens.size 0, .str "<genexpr>" (tk + 1), .str (X.env.qual ++ "<genexpr>") (tk + 1 + 1)] } } : Shared)
          = { s2 with gens := s2.gens.push .running, toks := tk + 1 + 1 + 1, heap := h'.push { cls := .type "generator", data := .fields #[.int s2.gens.size 0, .str "<genexpr>" (tk + 1), .str (X.env.qual ++ "<genexpr>") (tk + 1 + 1)] } } := by
        rw [setLast]
      show Inv _ [] _ _ ({ s2 with gens := (s2.gens.push _).setIfInBounds s2.gens.size .running, toks := _, heap := _ } : Shared)
      rw [e9]
      exact J5
    · exact T.keep 0 _ _ st4 fun b hb o e => keep5 b o e
  refine ⟨lim2, ?_⟩
  cases hf : codeAmong gpos ps.toList with
  | none =>
    refine wpAny_genexprCodeX hcode (cd.code hPs ht) (cd.tab hPs) hf fun c' h' tk hx hge hlt hco' _ htab' _ => ?_
    obtain ⟨o1, vs, f1, tf, fl, tg', inF, tx, tt, op, _, _, _, _, _, _, _, _, _, htr, _⟩ := hco'
    exact cont _ h' tk _ hx htab'.2 ⟨_, rfl⟩ htr
  | some cv =>
    refine wpAny_genexprCode_hit hcode (cd.code hPs ht) hf ?_
    exact cont cv s2.heap s2.toks ps (Heap.ExtBut.refl _ _) hPs ⟨#[], by simp⟩ ht
theorem pe_allG {k : Nat} {c P : Addr} {N0 fr : List Str} {cap : List Nat} {wi : TI} {gt : TG} {te : TE} {p pos : Pos}
    (hr : Room k X.A) (hgl : Gl X "all") (hm : X.mg "all" = none) (hb : bootBuiltins "all" = some (.builtin "all")) (TB : TabB X.base X.mg c P) (hcode : X.env.code = .ref c) (S : GSc N0 fr scope) (C : Caps X fr cap) (hi : PI X tg iter wi)
    (hg : ∀ C code s4 H2 fp pn, PG (gcx X (N0 ++ fr) scope C code s4 H2 fp pn) tg gt) (hel : ∀ C code s4 H2 fp pn, PE (gcx X (N0 ++ fr) scope C code s4 H2 fp pn) elt te)
    (hs : ∀ v, genFold iter X.env v = pure v)
    (he : starEach [.GeneratorExp elt [⟨tg, iter, [], 0⟩] scope gpos] X.env = (false, eval (.GeneratorExp elt [⟨tg, iter, [], 0⟩] scope gpos) X.env) :: starEach [] X.env := by rfl) :
    PE X (.Call (.Name "all" p) [.GeneratorExp elt [⟨tg, iter, [], 0⟩] scope gpos] [] pos) (tAA false P N0.length cap wi gt te) := by
  refine ⟨fun pins s σ H Q I h => ?_⟩
  refine wpAny_Call_Name_kw (ld_blt I hgl hm hb ?_)
  refine PyProof.Rows.callWith_builtin1 ?_ he (by rfl)
  rw [he]
  show wpAny _ _ (spliced ((false, eval (.GeneratorExp elt [⟨tg, iter, [], 0⟩] scope gpos) X.env) :: backTo pos (starEach [] X.env))) _ _ s
  refine Calls.spliced_cons (gen_come hr TB hcode S C hi hg hel hs I h fun u s5 hC => ?_)
  refine Calls.spliced_nil ?_
  obtain ⟨a, g, m, fp, s4, H2, rfl, hG, hL, I4, hf, hos, hgs⟩ := hC
  refine call_function_tree F.kind_all F.plain_all F.entry_all (F.args_all1 _) ?_
  unfold Builtin.«all»
  refine wpAny_bind (m := oneArg "all" _) (wpAny_pure ?_)
  refine wpAny_bind (wpAny_pyIter_gen hG ?_)
  refine wpAny_pure ⟨plainId_quiet F.plain_all_loop _, loop_all hr.hd (by have := hr.dp; omega) (fun s' d => ?_) (fun s' d => ?_) m s5 hG hL hgs⟩
  · obtain ⟨H', I', q⟩ := d.back I4 hf
    exact ⟨.bl true, H', I', rfl, q⟩
  · obtain ⟨H', I', q⟩ := d.back I4 hf
    exact ⟨.bl false, H', I', rfl, q⟩
theorem pe_anyG {k : Nat} {c P : Addr} {N0 fr : List Str} {cap : List Nat} {wi : TI} {gt : TG} {te : TE} {p pos : Pos}
    (hr : Room k X.A) (hgl : Gl X "any") (hm : X.mg "any" = none) (hb : bootBuiltins "any" = some (.builtin "any")) (TB : TabB X.base X.mg c P) (hcode : X.env.code = .ref c) (S : GSc N0 fr scope) (C : Caps X fr cap) (hi : PI X tg iter wi)
    (hg : ∀ C code s4 H2 fp pn, PG (gcx X (N0 ++ fr) scope C code s4 H2 fp pn) tg gt) (hel : ∀ C code s4 H2 fp pn, PE (gcx X (N0 ++ fr) scope C code s4 H2 fp pn) elt te)
    (hs : ∀ v, genFold iter X.env v = pure v)
    (he : starEach [.GeneratorExp elt [⟨tg, iter, [], 0⟩] scope gpos] X.env = (false, eval (.GeneratorExp elt [⟨tg, iter, [], 0⟩] scope gpos) X.env) :: starEach [] X.env := by rfl) :
    PE X (.Call (.Name "any" p) [.GeneratorExp elt [⟨tg, iter, [], 0⟩] scope gpos] [] pos) (tAA true P N0.length cap wi gt te) := by
  refine ⟨fun pins s σ H Q I h => ?_⟩
  refine wpAny_Call_Name_kw (ld_blt I hgl hm hb ?_)
  refine PyProof.Rows.callWith_builtin1 ?_ he (by rfl)
  rw [he]
  show wpAny _ _ (spliced ((false, eval (.GeneratorExp elt [⟨tg, iter, [], 0⟩] scope gpos) X.env) :: backTo pos (starEach [] X.env))) _ _ s
  refine Calls.spliced_cons (gen_come hr TB hcode S C hi hg hel hs I h fun u s5 hC => ?_)
  refine Calls.spliced_nil ?_
  obtain ⟨a, g, m, fp, s4, H2, rfl, hG, hL, I4, hf, hos, hgs⟩ := hC
  refine call_function_tree F.kind_any F.plain_any F.entry_any (F.args_any1 _) ?_
  unfold Builtin.«any»
  refine wpAny_bind (m := oneArg "any" _) (wpAny_pure ?_)
  refine wpAny_bind (wpAny_pyIter_gen hG ?_)
  refine wpAny_pure ⟨plainId_quiet F.plain_any_loop _, loop_any hr.hd (by have := hr.dp; omega) (fun s' d => ?_) (fun s' d => ?_) m s5 hG hL hgs⟩
  · obtain ⟨H', I', q⟩ := d.back I4 hf
    exact ⟨.bl false, H', I', rfl, q⟩
  · obtain ⟨H', I', q⟩ := d.back I4 hf
    exact ⟨.bl true, H', I', rfl, q⟩
end
end GX
set_option Elab.async false
set_option linter.all false
set_option maxRecDepth 100000
set_option maxHeartbeats 4000000
namespace Z
open PySem L2
/-! ### any(..) and all(..) of generator expressions -/
section
variable {K : KW} {H H1 H2 : Hp} {ι : List Addr} {A : AH} {P : Addr}
theorem Gr.tabbed (t : GxR.TabG H1 P) (h : GxR.Tabbed P H1 H2) : Gr H1 H2 ι ι := by
  obtain ⟨ps, e, _⟩ := t
  have ne : ∀ b u, H1 b = some u → (∀ q, u ≠ .tbl q) → b ≠ P := fun b u e1 q z => by
    rw [z, e] at e1; cases e1; exact q _ rfl
  refine ⟨fun a xs e1 => ?_, fun a o u e1 => ?_, [], by simp⟩
  · rw [h.2 a (ne a _ e1 fun q z => by cases z)]; exact e1
  · rw [h.2 a (ne a _ e1 fun q z => by cases z)]; exact e1
theorem RH.tabbed (r : RH K H1 ι A) (hP : P ∈ K.T) (h : GxR.Tabbed P H1 H2) : RH K H2 ι A := by
  have g : Gr H1 H2 ι ι := Gr.tabbed (r.tab P hP) h
  refine ⟨r.len, r.nod, fun p hp => ?_, fun n mo a h1 h2 => ?_⟩
  · by_cases e : p = P
    · rw [e]; exact h.1
    · obtain ⟨ps, e1, e2⟩ := r.tab p hp
      exact ⟨ps, by rw [h.2 p e]; exact e1, e2⟩
  · have ro := r.ok n mo a h1 h2
    refine ro.up g (h.2 a fun z => ?_)
    obtain ⟨ps, e1, _⟩ := r.tab P hP
    exact ro.notab ps (by rw [z]; exact e1)
def startE (n : Nat) (E : EN) (cap : List Nat) : EN := List.replicate n none ++ cap.map fun j => (E[j]?).join
theorem RSt.startE {σ : St} {E : EN} (r : RSt K H ι σ E) (n : Nat) (cap : List Nat) : RSt K H ι (GX.startG n σ cap) (startE n E cap) := by
  refine ⟨by simp [GX.startG, Z.startE], fun i w h => ?_⟩
  unfold Z.startE at h
  unfold GX.startG
  by_cases hi : i < n
  · rw [List.getElem?_append_left (by simpa using hi), List.getElem?_replicate] at h
    split at h <;> cases h
  · rw [List.getElem?_append_right (by simpa using hi), List.length_replicate, List.getElem?_map] at h
    rw [List.getElem?_append_right (by simpa using hi), List.length_replicate, List.getElem?_map]
    cases hc : cap[i - n]? with
    | none => rw [hc] at h; cases h
    | some j =>
      rw [hc] at h
      simp only [Option.map_some, Option.some.injEq] at h ⊢
      have hE : E[j]? = some (some w) := by
        cases q : E[j]? with
        | none => rw [q] at h; cases h
        | some u => rw [q] at h; simp only [Option.join_some] at h; rw [h]
      obtain ⟨v, e1, e2⟩ := r.2 j w hE
      exact ⟨v, by rw [e1]; rfl, e2⟩
end
/-- sv: the value at which it stops -/
def loopG (sv : Bool) (sc : Src) (t : Tg) (elt : ZE) : Nat → Nat → EN → AH → Option (W × AH)
  | 0, i, E, A => (itemsS A sc).bind fun ws => if ws.length ≤ i then some (.bl (!sv), A) else none
  | k + 1, i, E, A => (itemsS A sc).bind fun ws => match ws[i]? with
    | none => some (.bl (!sv), A)
    | some w => (asg t w E).bind fun E1 => (elt E1 A).bind fun p => match p.1 with
      | .bl b => if b = sv then some (.bl sv, p.2) else loopG sv sc t elt k (i + 1) E1 p.2
      | _ => none
def zAA (sv : Bool) (n : Nat) (cap : List Nat) (iter : ZI) (t : Tg) (elt : ZE) : ZE := fun E A => (iter E A).bind fun p => loopG sv p.1 t elt (lenS p.2 p.1) 0 (startE n E cap) p.2
theorem aa_go [Tabs] {X : Cx} {sv : Bool} {P : Addr} {n : Nat} {cap : List Nat} {fi : ZI} {t : Tg} {fe : ZE} (hP : P ∈ Tabs.T) {σ : St} {H : Hp} {Q : VK} (h : tZ X.kw (zAA sv n cap fi t fe) σ H Q) :
    GX.tAA sv P n cap (tZI X.kw fi) (gOf X.K t) (tZ X.kw fe) σ H Q := by
  obtain ⟨ι, E, A, w, A', r1, r2, e, q⟩ := h
  unfold zAA at e
  cases ef : fi E A with
  | none => rw [ef] at e; cases e
  | some p =>
    rw [ef] at e
    simp only [Option.bind_some] at e
    obtain ⟨sc, A1⟩ := p
    refine ⟨ι, E, A, sc, A1, r1, r2, ef, fun J H1 ι1 g1 rh1 wk => ⟨rh1.tab P hP, fun H2 hT => ?_⟩⟩
    have rh2 : RH X.kw H2 ι1 A1 := rh1.tabbed hP hT
    have g2 : Gr H1 H2 ι1 ι1 := Gr.tabbed (rh1.tab P hP) hT
    refine ⟨fun m i σ2 H3 => ∃ ι3 E3 A3, Gr H2 H3 ι1 ι3 ∧ RSt X.kw H3 ι3 σ2 E3 ∧ RH X.kw H3 ι3 A3 ∧ loopG sv sc t fe m i E3 A3 = some (w, A'), ⟨_, ι1, _, A1, .refl, ((r1.up g1).up g2).startE n cap, rh2, e⟩, ?_⟩
    rintro m i σ2 H3 ⟨ι3, E3, A3, g3, rs3, rh3, e3⟩
    have g13 := g2.trans g3
    have fin : ∀ {b : Bool} {H' : Hp} {ι' : List Addr}, Gr H2 H' ι1 ι' → RH X.kw H' ι' A' → w = .bl b → Q (.bl b) H' := fun {b H' ι'} g rh ew => by
      subst ew
      exact q _ H' ι' (g1.trans (g2.trans g)) (.bl b) rh
    cases m with
    | zero =>
      unfold loopG at e3
      cases ei : itemsS A3 sc with
      | none => rw [ei] at e3; cases e3
      | some ws =>
        rw [ei] at e3
        simp only [Option.bind_some] at e3
        split at e3
        · rename_i hl
          cases e3
          exact .inl ⟨(wk H3 ι3 _ ws i g13 rh3 ei).2 hl, fin g3 rh3 rfl⟩
        · cases e3
    | succ m =>
      unfold loopG at e3
      cases ei : itemsS A3 sc with
      | none => rw [ei] at e3; cases e3
      | some ws =>
        rw [ei] at e3
        simp only [Option.bind_some] at e3
        split at e3
        · rename_i hl
          cases e3
          exact .inl ⟨(wk H3 ι3 _ ws i g13 rh3 ei).2 (List.getElem?_eq_none_iff.mp hl), fin g3 rh3 rfl⟩
        · rename_i u hu
          obtain ⟨go, yl⟩ := (wk H3 ι3 A3 ws i g13 rh3 ei).1 u hu
          refine .inr ⟨go, m, rfl, fun x H4 hy => ?_⟩
          obtain ⟨ι4, g4, rh4, rx⟩ := yl x H4 hy
          cases ea : asg t u E3 with
          | none => rw [ea] at e3; cases e3
          | some E4 =>
            rw [ea] at e3
            simp only [Option.bind_some] at e3
            refine asg_go t (rs3.up g4) rx ea fun σ4 rs4 _ => ?_
            cases eg : fe E4 A3 with
            | none => rw [eg] at e3; cases e3
            | some y =>
              rw [eg] at e3
              simp only [Option.bind_some] at e3
              obtain ⟨z, A5⟩ := y
              refine tZ_go rs4 rh4 eg fun v H5 ι5 g5 rv rh5 => ?_
              have gg := g3.trans (g4.trans g5)
              cases z with
              | bl b =>
                cases rv
                simp only at e3
                refine ⟨b, rfl, fun hb => ?_, fun hb => ?_⟩
                · rw [if_pos hb] at e3
                  cases e3
                  exact fin gg rh5 rfl
                · rw [if_neg hb] at e3
                  exact ⟨ι5, E4, A5, gg, rs4.up g5, rh5, e3⟩
              | _ => cases e3
theorem room_gx {k : Nat} {A : Around} {env : Env} (h : Room (k + 1) A) : Room k (A.in1.in1.deeper env) := by
  obtain ⟨h1, h2, h3⟩ := h
  exact ⟨h1, (by show A.depth + 1 + 3 * k + 5 < _; omega), (by show A.units + 1 + 1 + 3 + 16 * k + 200 < _; omega)⟩
def capsB (N : List Str) (sc : Scope) (fr : List Str) (cap : List Nat) : Bool := decide (cap.length = fr.length) && (fr.zip cap).all fun p => decide (N[p.2]? = some p.1) && (decide (sc.names.lookup p.1 = some .cell) || decide (sc.names.lookup p.1 = some .free))
theorem caps_by {X : Cx} {fr : List Str} {cap : List Nat} (h : capsB X.N X.env.scope fr cap = true) : GX.Caps X fr cap := by
  unfold capsB at h
  simp only [Bool.and_eq_true, decide_eq_true_eq, List.all_eq_true, Bool.or_eq_true] at h
  obtain ⟨h1, h2⟩ := h
  refine ⟨h1, fun k j y e1 e2 => ?_, fun y hy => ?_⟩
  · have hm : (y, j) ∈ fr.zip cap := List.mem_of_getElem? (i := k) (by rw [List.getElem?_zip_eq_some]; exact ⟨e1, e2⟩)
    exact (h2 _ hm).1
  · obtain ⟨i, hi⟩ := List.mem_iff_getElem?.mp hy
    have hl := (List.getElem?_eq_some_iff.mp hi).1
    have hc : cap[i]? = some (cap[i]'(by omega)) := List.getElem?_eq_getElem _
    have hm : (y, cap[i]'(by omega)) ∈ fr.zip cap := List.mem_of_getElem? (i := i) (by rw [List.getElem?_zip_eq_some]; exact ⟨hi, hc⟩)
    exact (h2 _ hm).2
def gscB (N0 fr : List Str) (sc : Scope) : Bool := decide (sc.kind = .function) && !sc.isCoroutine && sc.names.all (fun y => !decide (y.2 = .cell)) && decide (sc.names.lookup (".0" : Str) = some NameKind.local) && sc.names.all (fun y => !decide (y.2 = .free) || decide (y.1 ∈ fr)) &&
  fr.all (fun x => decide (sc.names.lookup x = some .free)) && !decide ((".0" : Str) ∈ N0 ++ fr) && N0.all fun x => decide (sc.names.lookup x = some .local)
theorem gsc_by {N0 fr : List Str} {sc : Scope} (h : gscB N0 fr sc = true) : GX.GSc N0 fr sc := by
  unfold gscB at h
  simp only [Bool.and_eq_true, Bool.not_eq_true', decide_eq_true_eq, List.all_eq_true, Bool.or_eq_true, decide_eq_false_iff_not] at h
  obtain ⟨⟨⟨⟨⟨⟨⟨h1, h2⟩, h3⟩, h4⟩, h5⟩, h6⟩, h7⟩, h8⟩ := h
  exact ⟨h1, h2, h3, h4, fun y hy e => (h5 y hy).elim (fun z => absurd e z) id, h6, h7, h8⟩
/-- a def whose code object is known -/
theorem z_defC [Tabs] {P : Program} {w : World} {K : PySem.W.Frag} {mg : Str → Option Value} {base : Heap} {x qual : Str} {st : Stmt} {f c : Addr} {fd : FuncData} {N ps : List Str} {k : Nat} (F : Fun K x qual st f fd) (hc : fd.code = .ref c) (S : FnScope N ps (defScope st)) (g : ZS)
    (hbody : ∀ (A : Around) (outer : List Env) (s : Shared) (H : Hp) (E : XK), Room k (A.deeper (PyProof.Rows.envOfC qual (defScope st) s.heap.objs.size f (.ref c))) → PSsZ (cxOf CX0 P w K mg base N qual (defScope st) f (.ref c) A outer s H E).nox (defBody st) g) :
    FnOk P w K mg base CX0 (k + 1) f fd ps (spZ ⟨K, P, w, Tabs.T⟩ ps.length (defZ N.length ps.length g)) := by
  obtain ⟨oc, od, kV, doc, pm, an, cdv, ct, osl, efd, lk, hcd⟩ := F.ex
  subst efd
  obtain rfl : cdv = .ref c := hc
  refine fn_of lk hcd S (fun vs H Q E h => h.1) fun A outer s H vs Q E hr h => ?_
  refine ⟨_, (hbody A outer s H E hr).nox, ?_⟩
  obtain ⟨hl, ι, ws, A0, w0, A', rs, rh, e, q⟩ := h
  unfold defZ at e
  rw [if_pos (by rw [← rs.length]; exact hl)] at e
  cases eg : g (start0 N.length ws) A0 with
  | none => rw [eg] at e; cases e
  | some p =>
    rw [eg] at e
    simp only [Option.bind_some] at e
    obtain ⟨o, A1⟩ := p
    refine tZS_go (RSt.start rs) rh eg fun H' ι' g1 rh1 => ?_
    cases o with
    | rt u => cases e; exact fun v rv => q v H' ι' g1 rv rh1
    | nx E1 => cases e; exact fun σ _ => q .non H' ι' g1 .non rh1
    | bk E1 => cases e
    | ct E1 => cases e
section
variable {X : Cx} {tg iter elt : Expr} {scope : Scope} {gpos p pos : Pos} {k : Nat} {c P : Addr} {N0 fr : List Str} {cap : List Nat} {fi : ZI} {t : Tg} {fe : ZE}
theorem boot_all : bootBuiltins "all" = some (.builtin "all") := by decide +kernel
theorem boot_any : bootBuiltins "any" = some (.builtin "any") := by decide +kernel
theorem z_all [Tabs] (hP : P ∈ Tabs.T) (TB : GxR.TabB X.base X.mg c P) (hr : Room k X.A) (hgl : Gl X "all") (hm : X.mg "all" = none) (hcode : X.env.code = .ref c) (S : GX.GSc N0 fr scope) (C : GX.Caps X fr cap) (hi : PIZ X tg iter fi)
    (hg : ∀ C code s4 H2 fp pn, PG (GX.gcx X (N0 ++ fr) scope C code s4 H2 fp pn) tg (gOf X.K t)) (hel : ∀ C code s4 H2 fp pn, PZ (GX.gcx X (N0 ++ fr) scope C code s4 H2 fp pn) elt fe)
    (hs : ∀ v, genFold iter X.env v = pure v := by intro _; rfl)
    (he : starEach [.GeneratorExp elt [⟨tg, iter, [], 0⟩] scope gpos] X.env = (false, eval (.GeneratorExp elt [⟨tg, iter, [], 0⟩] scope gpos) X.env) :: starEach [] X.env := by rfl) :
    PZ X (.Call (.Name "all" p) [.GeneratorExp elt [⟨tg, iter, [], 0⟩] scope gpos] [] pos) (zAA false N0.length cap fi t fe) := imp (GX.pe_allG hr hgl hm boot_all TB hcode S C hi hg hel hs he) fun σ H Q q => aa_go hP q
theorem z_any [Tabs] (hP : P ∈ Tabs.T) (TB : GxR.TabB X.base X.mg c P) (hr : Room k X.A) (hgl : Gl X "any") (hm : X.mg "any" = none) (hcode : X.env.code = .ref c) (S : GX.GSc N0 fr scope) (C : GX.Caps X fr cap) (hi : PIZ X tg iter fi)
    (hg : ∀ C code s4 H2 fp pn, PG (GX.gcx X (N0 ++ fr) scope C code s4 H2 fp pn) tg (gOf X.K t)) (hel : ∀ C code s4 H2 fp pn, PZ (GX.gcx X (N0 ++ fr) scope C code s4 H2 fp pn) elt fe)
    (hs : ∀ v, genFold iter X.env v = pure v := by intro _; rfl)
    (he : starEach [.GeneratorExp elt [⟨tg, iter, [], 0⟩] scope gpos] X.env = (false, eval (.GeneratorExp elt [⟨tg, iter, [], 0⟩] scope gpos) X.env) :: starEach [] X.env := by rfl) :
    PZ X (.Call (.Name "any" p) [.GeneratorExp elt [⟨tg, iter, [], 0⟩] scope gpos] [] pos) (zAA true N0.length cap fi t fe) := imp (GX.pe_anyG hr hgl hm boot_any TB hcode S C hi hg hel hs he) fun σ H Q q => aa_go hP q
end
end Z
set_option Elab.async false
set_option linter.all false
set_option maxRecDepth 100000
set_option maxHeartbeats 4000000
namespace Z
open PySem L2
/-! ### names of the module that hold data -/
structure GVal (K : PySem.W.Frag) (mg : Str → Option Value) (x : Str) (w : W) : Prop where
  ex : ∃ v u, mg x = some u ∧ RelV v u ∧ ∀ (P : Program) (w' : World) (T : List Addr) (H : Hp) (ι : List Addr), RW ⟨K, P, w', T⟩ H ι v w
theorem gval_int {K : PySem.W.Frag} {mg : Str → Option Value} {x : Str} {i : Int} {t : Tok} (h : mg x = some (.int i t)) : GVal K mg x (.int i) := ⟨.int i, _, h, ⟨t, rfl⟩, fun _ _ _ _ _ => .int i⟩
theorem gval_str {K : PySem.W.Frag} {mg : Str → Option Value} {x y : Str} {t : Tok} (h : mg x = some (.str y t)) : GVal K mg x (.str y) := ⟨.str y, _, h, ⟨t, rfl⟩, fun _ _ _ _ _ => .str y⟩
/-- texts in a written tuple -/
theorem gval_strs {K : PySem.W.Frag} {mg : Str → Option Value} {x : Str} {a : Addr} {o : Obj} {its : Array Value} {n : Nat} {ys : List Str} (h : mg x = some (.ref a)) (l : K.lookup a = some o) (hc : o.cls = .type "tuple") (hd : o.dict = none) (hs : o.data = .seq its n) (hz : its.size ≤ sizeLine)
    (hv : Vals (ys.map V.str) its.toList) : GVal K mg x (.tup (ys.map W.str)) :=
  ⟨.ref a, _, h, rfl, fun _ _ _ _ _ => .tup (.inr ⟨o, its, n, l, hc, hd, hs, hz, hv⟩) (strs_rw ys)⟩
theorem z_glob [Tabs] {X : Cx} {x : Str} {pos : Pos} {w : W} (G : GVal X.K X.mg x w) (hg : Gl X x) (hd : (x == ("__debug__" : Str)) = false := by decide) : PZ X (.Name x pos) (zC w) := by
  obtain ⟨v, u, hm, r, rw'⟩ := G.ex
  exact z_c (pe_glob hg hm r hd) fun H ι => rw' _ _ _ H ι
/-! ### is True, is not True -/
def sIsB : S2 := fun u v A => match u, v with
  | .bl a, .bl b => some (.bl (decide (a = b)), A)
  | _, _ => none
def sNotB : S2 := fun u v A => match u, v with
  | .bl a, .bl b => some (.bl (!decide (a = b)), A)
  | _, _ => none
theorem ok_isB {K : KW} : R2Ok K rIsB sIsB := by
  intro H ι A x y u v w A' Q h1 h2 h3 h4 q
  unfold sIsB at h4
  split at h4
  · cases h4; cases h1; cases h2
    exact ⟨_, _, rfl, rfl, q _ H ι .refl (.bl _) h3⟩
  · cases h4
theorem ok_notB {K : KW} : R2Ok K rNotB sNotB := by
  intro H ι A x y u v w A' Q h1 h2 h3 h4 q
  unfold sNotB at h4
  split at h4
  · cases h4; cases h1; cases h2
    exact ⟨_, _, rfl, rfl, q _ H ι .refl (.bl _) h3⟩
  · cases h4
/-! ### d.get(k) of a dict by ints and texts -/
def isDic (u : W) (A : AH) : Bool := match u with
  | .loc n => match A[n]? with
    | some (.dic _) => true
    | _ => false
  | _ => false
def zDGet1 (f g : ZE) : ZE := fun E A => (f E A).bind fun p => if isDic p.1 p.2 = true then (g E p.2).bind fun q => sDGet1 p.1 q.1 q.2 else none
theorem z_dget1 [Tabs] {X : Cx} {o e : Expr} {fo fi : ZE} {apos cpos : Pos} (hu : X.A.units + 1 < cLine) (ho : PZ X o fo) (he : PZ X e fi) (m : M1 X o "get" apos e cpos := by exact ⟨rfl, rfl, rfl, rfl⟩) : PZ X (.Call (.Attribute o "get" apos) [e] [] cpos) (zDGet1 fo fi) := imp (pe_dget1 hu ho he m) fun σ H Q ⟨ι, E, A, w, A', r1, r2, e, q⟩ => by
  unfold zDGet1 at e
  cases ef : fo E A with
  | none => rw [ef] at e; cases e
  | some p =>
    rw [ef] at e
    simp only [Option.bind_some] at e
    split at e
    · rename_i ht
      cases eg : fi E p.2 with
      | none => rw [eg] at e; cases e
      | some z =>
        rw [eg] at e
        simp only [Option.bind_some] at e
        refine tZ_go r1 r2 (ef.trans rfl : fo E A = some (p.1, p.2)) fun x H1 ι1 g1 rx rh1 => ?_
        unfold isDic at ht
        split at ht
        · split at ht
          · rename_i n hn _ kws0 hk0
            rw [hn] at rx
            cases rx with
            | loc hi =>
              rename_i a
              obtain ⟨kvs0, a0, _⟩ := (rh1.ok _ _ _ hk0 hi : RO X.kw H1 ι1 _ (.dic kws0))
              refine ⟨a, rfl, .inl ⟨kvs0, .inl a0⟩, ?_⟩
              refine tZ_go (r1.up g1) rh1 (by rw [eg] : fi E p.2 = some (z.1, z.2)) fun y H2 ι2 g2 ry rh2 => ?_
              rw [hn] at e
              unfold sDGet1 at e
              simp only at e
              split at e
              · rename_i kws k hk ek
                cases e
                have e3 := keyW_rw ry ek
                subst e3
                obtain ⟨kvs, a1, b1, b2⟩ := (rh2.ok _ _ _ hk (g2.at hi) : RO X.kw H2 ι2 _ (.dic kws))
                refine ⟨valV kvs k, DGet.k a1, ?_⟩
                rcases val_rw (k := k) b1 b2 with ⟨c1, c2⟩ | ⟨v', w', c1, c2, c3⟩
                · rw [c1]; rw [c2] at q
                  exact q _ H2 ι2 (g1.trans g2) .non rh2
                · rw [c1]; rw [c2] at q
                  exact q _ H2 ι2 (g1.trans g2) c3 rh2
              · cases e
          · cases ht
        · cases ht
    · cases e
/-! ### tuple(range(n)) -/
def tTupRgN (te : St → Hp → (Int → Int → Hp → Prop) → Prop) : TE := fun σ H Q => te σ H fun a b H1 => RgOk a b ∧ ∀ q o, H1 q = none → o.dict = none → Q (.ref q) (upd H1 q (.frz o (.tup (rgV a b))))
theorem pe_tupRgN {X : Cx} {e : Expr} {te : St → Hp → (Int → Int → Hp → Prop) → Prop} {p pos : Pos} (hc : X.calm = true) (hg : Gl X "tuple") (hm : X.mg "tuple" = none) (he : PRg X e te) (na : starEach [e] X.env = (false, eval e X.env) :: starEach [] X.env := by rfl) : PE X (.Call (.Name "tuple" p) [e] [] pos) (tTupRgN te) := by
  refine ⟨fun pins s σ H Q I h => ?_⟩
  refine PyProof.Rows.Call_ (ld_blt I hg hm PyProof.Rows.boot_tuple (PyProof.Rows.callWith_type1 (PyProof.Rows.args_cons (thn (he pins s σ H _ I h) fun x s1 ⟨r, a, b, t, u, v, H1, ex, hr, I1, ok, q⟩ => PyProof.Rows.args_nil ?_) na) na))
  subst ex
  obtain ⟨b1, b2, b3, b4, b5⟩ := ok
  refine call_tuple_range (n := (b - a).toNat) (I1.ok.hd hc) hr (small_one b1 b2 b3 b4) (PyProof.Rows.rangeSize_nat a b) b5 fun h' tk acc hk hi => ?_
  have I2 : Inv X pins σ H1 { s1 with heap := h', toks := tk } := I1.kept hk
  have hz : (rgV a b).length ≤ sizeLine := by rw [rgV_length, sizeLine_eq]; omega
  obtain ⟨J, hf⟩ := laidN (X := X) (s := { s1 with toks := tk }) (t' := tk) (h1 := h') I2 (vals_rg hi) hz
  exact ⟨.ref _, _, J, rfl, q _ _ hf rfl⟩
def zTupRg (f : ZE) : ZE := fun E A => (f E A).bind fun q => match q.1 with
  | .int n => if n < 16777216 ∧ -(2 ^ 62) ≤ n then some (.tup (rngW 0 n.toNat), q.2) else none
  | _ => none
theorem z_tupRg [Tabs] {X : Cx} {a : Expr} {f : ZE} {p pos p2 pos2 : Pos} (hc : X.calm = true) (hg : Gl X "tuple") (hm : X.mg "tuple" = none) (hg2 : Gl X "range") (hm2 : X.mg "range" = none) (ha : PZ X a f) (na : starEach [.Call (.Name "range" p2) [a] [] pos2] X.env = (false, eval (.Call (.Name "range" p2) [a] [] pos2) X.env) :: starEach [] X.env := by rfl)
    (na2 : starEach [a] X.env = (false, eval a X.env) :: starEach [] X.env := by rfl) : PZ X (.Call (.Name "tuple" p) [.Call (.Name "range" p2) [a] [] pos2] [] pos) (zTupRg f) := imp (pe_tupRgN hc hg hm (prg_1 hg2 hm2 ha na2) na) fun σ H Q ⟨ι, E, A, w, A', r1, r2, e, q⟩ => by
  unfold zTupRg at e
  cases ef : f E A with
  | none => rw [ef] at e; cases e
  | some p =>
    rw [ef] at e
    simp only [Option.bind_some] at e
    split at e
    · rename_i n hn
      split at e
      · rename_i hb
        cases e
        refine tZ_go r1 r2 (by rw [ef] : f E A = some (p.1, p.2)) fun v H1 ι1 g1 rv rh1 => ?_
        rw [hn] at rv; cases rv
        refine ⟨n, rfl, ⟨by omega, by omega, by omega, by omega, by omega⟩, fun q' o hq' ho => ?_⟩
        have rr : RWs X.kw H1 ι1 (rgV 0 n) (rngW 0 n.toNat) := by
          unfold rgV rngW
          rw [Int.sub_zero]
          exact rg_rw 0 _
        obtain ⟨x1, x2, x3⟩ := new_tup rh1 hq' ho rr
        exact q _ _ _ (g1.trans x3) x1 x2
      · cases e
    · cases e
end Z
set_option Elab.async false
set_option linter.all false
set_option maxRecDepth 100000
set_option maxHeartbeats 4000000
namespace Z
open PySem L2
/-! ### any(xs), all(xs) of truth values in a list or tuple -/
def boolAt (bs : List Bool) (i : Nat) : Bool := (bs[i]?).getD false
theorem all_at (bs : List Bool) : (List.range bs.length).all (boolAt bs) = bs.all id := by
  rw [Bool.eq_iff_iff, List.all_eq_true, List.all_eq_true]
  constructor
  · intro h b hb
    obtain ⟨i, hi, e⟩ := List.getElem_of_mem hb
    have := h i (List.mem_range.mpr hi)
    simpa [boolAt, hi, e] using this
  · intro h i hi
    have hi := List.mem_range.mp hi
    have := h bs[i] (List.getElem_mem hi)
    simpa [boolAt, hi] using this
theorem any_at (bs : List Bool) : (List.range bs.length).any (boolAt bs) = bs.any id := by
  rw [Bool.eq_iff_iff, List.any_eq_true, List.any_eq_true]
  constructor
  · rintro ⟨i, hi, h⟩
    have hi := List.mem_range.mp hi
    exact ⟨bs[i], List.getElem_mem hi, by simpa [boolAt, hi] using h⟩
  · rintro ⟨b, hb, h⟩
    obtain ⟨i, hi, e⟩ := List.getElem_of_mem hb
    exact ⟨i, List.mem_range.mpr hi, by simpa [boolAt, hi, e] using h⟩
theorem bools_its : ∀ {bs : List Bool} {its : List Value}, Vals (bs.map V.bl) its → its = bs.map Value.bool
  | [], its, r => by rw [List.map_nil] at r; cases r; rfl
  | b :: bs, its, r => by
    rw [List.map_cons] at r
    cases r with
    | cons h t =>
      cases h
      rw [List.map_cons, ← bools_its t]
section
variable {X : Cx}
theorem iter_bools {pins : List (Addr × Obj)} {σ : St} {H : Hp} {s : Shared} {a : Addr} {bs : List Bool} {E : Value → Shared → Prop} (hc : X.calm = true) (I : Inv X pins σ H s) (hq : SqL X.K H a (bs.map V.bl) ∨ SqT X.K H a (bs.map V.bl)) :
    wpAny (model X.prog X.w) X.A.in1 (pyIter (.ref a)) (fun it s₂ => ∃ I fp wr n P St tr, it = .ref I ∧ Walks X.prog X.w X.A.in1 I fp wr n P St ∧ St 0 s₂.heap ∧ TruthOf X.prog X.w X.A.in1 P tr ∧
      ∀ h' tk, (∀ b o, b ∉ wr → s₂.heap.get? b = some o → h'.get? b = some o) → n = bs.length ∧ tr = boolAt bs ∧ Inv X pins σ H { s₂ with heap := h', toks := tk }) E s := by
  have tru : TruthOf X.prog X.w X.A.in1 (fun i v => (bs.map Value.bool).toArray[i]? = some v) (boolAt bs) := by
    intro i v s' Q' E' hP hQ
    rw [List.getElem?_toArray, List.getElem?_map] at hP
    cases e : bs[i]? with
    | none => rw [e] at hP; cases hP
    | some b =>
      rw [e] at hP
      cases hP
      have hQ2 : Q' (boolAt bs i) s' := hQ
      unfold boolAt at hQ2
      rw [e] at hQ2
      exact wpAny_truthy_bool hQ2
  have fin : ∀ (o : Obj) (h' : Heap) (tk : Nat), (∀ b ob, b ∉ [s.heap.objs.size] → (s.heap.push o).get? b = some ob → h'.get? b = some ob) → Inv X pins σ H { s with heap := h', toks := tk } := fun o h' tk hk =>
    I.kept (t' := tk) fun b ob e => hk b ob (fun z => by rw [List.mem_singleton.mp z] at e; exact absurd (Heap.lt_size e) (Nat.lt_irrefl _)) (Heap.get?_push_of_some _ e)
  have hh : X.A.in1.handled = none := I.ok.hd hc
  rcases hq with hq | hq
  · obtain ⟨its, rv, p, hz⟩ := I.list hq
    have ei := bools_its rv
    subst ei
    have hlt : a < s.heap.objs.size := by obtain ⟨o, _, e, _⟩ := p; exact Heap.lt_size e
    refine wpAny_pyIter_list p.isList ⟨s.heap.objs.size, _, _, _, _, _, boolAt bs, rfl, Walks.list (A := X.A.in1) hh s.heap.objs.size a (Nat.ne_of_lt hlt) (bs.map Value.bool).toArray, ⟨⟨_, Heap.get?_push_size _ rfl, rfl, rfl⟩, p.isList.push _⟩, tru, fun h' tk hk => ⟨by simp, rfl, fin _ h' tk hk⟩⟩
  · obtain ⟨its, rv, p, hz⟩ := I.tuple hq
    have ei := bools_its rv
    subst ei
    have hlt : a < s.heap.objs.size := p.lt
    refine wpAny_pyIter_tuple p ⟨s.heap.objs.size, _, _, _, _, _, boolAt bs, rfl, Walks.tuple (A := X.A.in1) hh s.heap.objs.size a (Nat.ne_of_lt hlt) (bs.map Value.bool).toArray, ⟨⟨_, Heap.get?_push_size _ rfl, rfl, rfl⟩, p.push _⟩, tru, fun h' tk hk => ⟨by simp, rfl, fin _ h' tk hk⟩⟩
theorem call_allV (hc : X.calm = true) : CallR X (.builtin "all") (fun xs H Q => ∃ (a : Addr) (bs : List Bool), xs = [.ref a] ∧ (SqL X.K H a (bs.map V.bl) ∨ SqT X.K H a (bs.map V.bl)) ∧ Q (.bl (bs.all id)) H) := by
  intro pins s σ H xs us Q I r ⟨a, bs, ex, hq, q⟩
  subst ex
  obtain ⟨u, eu, rx⟩ := vals1 r
  subst eu
  cases rx
  refine call_all_walk (wpAny_mono (iter_bools hc I hq) (fun it s2 ⟨I, fp, wr, n, P, St, tr, e1, e2, e3, e4, e5⟩ => ⟨I, fp, wr, n, P, St, tr, e1, e2, e3, e4, fun h' tk hk => ?_⟩) fun _ _ e => e)
  obtain ⟨rfl, rfl, J⟩ := e5 h' tk hk
  rw [all_at]
  exact ⟨.bl _, H, J, rfl, q⟩
theorem call_anyV (hc : X.calm = true) : CallR X (.builtin "any") (fun xs H Q => ∃ (a : Addr) (bs : List Bool), xs = [.ref a] ∧ (SqL X.K H a (bs.map V.bl) ∨ SqT X.K H a (bs.map V.bl)) ∧ Q (.bl (bs.any id)) H) := by
  intro pins s σ H xs us Q I r ⟨a, bs, ex, hq, q⟩
  subst ex
  obtain ⟨u, eu, rx⟩ := vals1 r
  subst eu
  cases rx
  refine call_any_walk (wpAny_mono (iter_bools hc I hq) (fun it s2 ⟨I, fp, wr, n, P, St, tr, e1, e2, e3, e4, e5⟩ => ⟨I, fp, wr, n, P, St, tr, e1, e2, e3, e4, fun h' tk hk => ?_⟩) fun _ _ e => e)
  obtain ⟨rfl, rfl, J⟩ := e5 h' tk hk
  rw [any_at]
  exact ⟨.bl _, H, J, rfl, q⟩
end
def boolsW : List W → Option (List Bool)
  | [] => some []
  | .bl b :: r => (boolsW r).map fun l => b :: l
  | _ => none
theorem bools_rw {K : KW} {H : Hp} {ι : List Addr} : ∀ {ws : List W} {vs : List V} {bs : List Bool}, RWs K H ι vs ws → boolsW ws = some bs → vs = bs.map V.bl
  | [], _, _, r, e => by cases r; cases e; rfl
  | .bl b :: ws, _, _, r, e => by
    cases r with
    | cons r1 r2 =>
      unfold boolsW at e
      cases h : boolsW ws with
      | none => rw [h] at e; cases e
      | some l =>
        rw [h] at e; cases e
        cases r1
        rw [List.map_cons, ← bools_rw r2 h]
  | .non :: _, _, _, _, e => by cases e
  | .int _ :: _, _, _, _, e => by cases e
  | .str _ :: _, _, _, _, e => by cases e
  | .tup _ :: _, _, _, _, e => by cases e
  | .frl _ :: _, _, _, _, e => by cases e
  | .loc _ :: _, _, _, _, e => by cases e
  | .ty _ :: _, _, _, _, e => by cases e
def sAAv (f : List Bool → Bool) : SN := fun us A => match us with
  | [w] => (itemsW A w).bind fun ws => (boolsW ws).map fun bs => (.bl (f bs), A)
  | _ => none
theorem ok_aav {K : KW} {f : List Bool → Bool} : RNOk K (fun xs H Q => ∃ (a : Addr) (bs : List Bool), xs = [.ref a] ∧ (SqL K H a (bs.map V.bl) ∨ SqT K H a (bs.map V.bl)) ∧ Q (.bl (f bs)) H) (sAAv f) := by
  intro H ι A xs us w A' Q h1 h3 h4 q
  unfold sAAv at h4
  split at h4
  · rename_i w0
    cases hi : itemsW A w0 with
    | none => rw [hi] at h4; cases h4
    | some ws =>
      rw [hi] at h4
      simp only [Option.bind_some] at h4
      cases hb : boolsW ws with
      | none => rw [hb] at h4; cases h4
      | some bs =>
        rw [hb] at h4; cases h4
        cases h1 with
        | cons c d =>
          cases d
          obtain ⟨p, ys, rfl, hq, hr⟩ := itemsW_ok h3 c hi
          have := bools_rw hr hb
          subst this
          exact ⟨p, bs, rfl, hq, q _ H ι .refl (.bl _) h3⟩
  · cases h4
abbrev sAllV : SN := sAAv fun bs => bs.all id
abbrev sAnyV : SN := sAAv fun bs => bs.any id
end Z
set_option Elab.async false
set_option linter.all false
set_option maxRecDepth 100000
set_option maxHeartbeats 4000000
/-! Z16: any and all of a generator expression with two fors -/
namespace GX
open PySem PySem.Spec PyProof.Rows L2 GenW GxR
abbrev gen2 (elt tg iter tg1 iter1 : Expr) (scope : Scope) (pos : Pos) : Expr := .GeneratorExp elt [⟨tg, iter, [], 0⟩, ⟨tg1, iter1, [], 0⟩] scope pos
theorem turn_out (elt tg iter tg1 iter1 : Expr) (scope : Scope) (pos : Pos) (it acc : Value) (env : Env) :
    compTurn (gen2 elt tg iter tg1 iter1 scope pos) 0 it acc env = (do
      standAt iter.pos
      match ← pyNext it with
      | none => pure (.done .next)
      | some v =>
        letOwnedTupleGo tg it v
        assign tg env v
        let mut good := true
        for c in ([] : List Expr) do
          if good then good ← isTrue c env (eval c env)
        if good then
          let x ← eval iter1 env
          standAt iter1.pos
          let x ← foldedSetIterable iter1 env x
          let _ ← runOwn (.compStart (gen2 elt tg iter tg1 iter1 scope pos) 1 (← holding [x] (pyIter x)) acc env) env
        again (.compLoop (gen2 elt tg iter tg1 iter1 scope pos) 0 it acc env)) := by rfl
theorem turn_in (elt tg iter tg1 iter1 : Expr) (scope : Scope) (pos : Pos) (it acc : Value) (env : Env) :
    compTurn (gen2 elt tg iter tg1 iter1 scope pos) 1 it acc env = (do
      standAt iter1.pos
      match ← pyNext it with
      | none => pure (.done .next)
      | some v =>
        letOwnedTupleGo tg1 it v
        assign tg1 env v
        let mut good := true
        for c in ([] : List Expr) do
          if good then good ← isTrue c env (eval c env)
        if good then
          (do let y ← eval elt env; standAt elt.pos; let _ ← yieldOut env y)
        again (.compLoop (gen2 elt tg iter tg1 iter1 scope pos) 1 it acc env)) := by rfl
theorem over0 {A : Around} {elt tg iter tg1 iter1 : Expr} {scope : Scope} {pos : Pos} {it acc : Value} {env : Env} : A.over (.compLoop (gen2 elt tg iter tg1 iter1 scope pos) 0 it acc env) [] = A.deeper env := by
  rfl
theorem over0s {A : Around} {elt tg iter tg1 iter1 : Expr} {scope : Scope} {pos : Pos} {it acc : Value} {env : Env} : A.over (.compStart (gen2 elt tg iter tg1 iter1 scope pos) 0 it acc env) [] = A.deeper env := by
  rfl
theorem over1 {A : Around} {elt tg iter tg1 iter1 : Expr} {scope : Scope} {pos : Pos} {it it0 acc : Value} {env : Env} {k : Result → Sem PySem.Fin} {g : Bool} {l : List Value} {p : Pos} :
    A.over (.compLoop (gen2 elt tg iter tg1 iter1 scope pos) 1 it acc env) [.ret k none g l (.compLoop (gen2 elt tg iter tg1 iter1 scope pos) 0 it0 acc env) p []] = A.deeper env := by
  rfl
section
variable {X : Cx} {tg iter tg1 iter1 elt : Expr} {scope : Scope} {gpos : Pos}
/-- the second loop, in the frame of the first one's turn -/
theorem seg_in {N : List Str} {C a it0 : Addr} {go : Obj} {code : Value} {s4 : Shared} {H2 : Hp} {fp : List Addr} {g : Nat} {sv : Bool} {Qe Qs : Hp → Prop} {gt1 : TG} {te : TE} {fp1 : List Addr} {tn1 : Nat → Heap → Prop} {J1 : It} {it1 : Addr}
    {WI : Nat → Nat → Nat → L2.St → Hp → Prop} {WE : Nat → L2.St → Hp → Prop} {pins : List (Addr × Obj)} {kk : Result → Sem PySem.Fin} {gg : Bool} {ll : List Value} {pp : Pos} (hgg : gg = false)
    (Y : Cx) (hY : Y = gcx X N scope C code s4 H2 fp [(a, go)]) (hgen : ∀ h : Heap, h.get? a = some go → h.IsGen a g)
    (T : Turn X.prog X.w X.K tg1 J1 fp1 it1 tn1) (hg : PG Y tg1 gt1) (he : PE Y elt te) (hco : scope.isCoroutine = false)
    (turn : ∀ n m j σ H, WI n m j σ H → (J1.stop j H ∧ WE n σ H) ∨ (J1.go j H ∧ ∃ m' n', m = m' + 1 ∧ n = n' + 1 ∧ ∀ x H3, J1.yld j H x H3 → gt1 x σ H3 fun σ4 H4 => te σ4 H4 fun v H5 => ∃ b, v = .bl b ∧ (b = sv → Qs H5) ∧ (b ≠ sv → WI n' m' (j + 1) σ4 H5)))
    (back : ∀ n σ H s₀ s, Inv Y pins σ H s → WE n σ H → Seg (model X.prog X.w) X.A.in1.in1 (GRx X fp s4 H2 Qe a g) (GYx X fp s4 H2 Qs sv a g) n s₀ (.compLoop (gen2 elt tg iter tg1 iter1 scope gpos) 0 (.ref it0) .none Y.env) (kk (.ok .next)) [] s) :
    ∀ (m n j : Nat) (σ : L2.St) (H : Hp) (s₀ s : Shared), Inv Y pins σ H s → tn1 j s.heap → WI n m j σ H → (∀ b ∈ fp1, FpOk Y pins H b) →
      Seg (model X.prog X.w) X.A.in1.in1 (GRx X fp s4 H2 Qe a g) (GYx X fp s4 H2 Qs sv a g) n s₀
        (.compLoop (gen2 elt tg iter tg1 iter1 scope gpos) 1 (.ref it1) .none Y.env)
        ((model X.prog X.w).den (.compLoop (gen2 elt tg iter tg1 iter1 scope gpos) 1 (.ref it1) .none Y.env)) [.ret kk none gg ll (.compLoop (gen2 elt tg iter tg1 iter1 scope gpos) 0 (.ref it0) .none Y.env) pp []] s := by
  have yp : Y.prog = X.prog := by rw [hY]; rfl
  have yw : Y.w = X.w := by rw [hY]; rfl
  have yk : Y.K = X.K := by rw [hY]; rfl
  have yc : Y.calm = true := by rw [hY]; rfl
  have yA : X.A.in1.in1.deeper Y.env = Y.A := by rw [hY]; rfl
  have yx : ∀ {α : Type} {P : Prop} (e : Value) (s : Shared), Y.xe e s → P := fun e s h => by rw [hY] at h; exact False.elim h
  have ysc : Y.env.scope = scope := by rw [hY]; rfl
  have done : ∀ {σ H s} {Q : Hp → Prop}, Inv Y [] σ H s → Q H → Done X fp s4 H2 Q s := fun {σ H s Q} I q => by
    have u := I.base
    have o := I.os
    have k := I.hok
    rw [hY] at u o k
    exact ⟨H, o, I.bare, u, k, q⟩
  intro m
  induction m with
  | zero =>
    intro n j σ H s₀ s I hst w hf
    rcases turn n 0 j σ H w with ⟨hs, q⟩ | ⟨_, m', n', h, _⟩
    · show Seg _ _ _ _ n s₀ _ ((compTurn (gen2 elt tg iter tg1 iter1 scope gpos) 1 (.ref it1) .none Y.env).onRaise (fun x => do noteFrame x Y.env; theTreesLotGoes x)) _ s
      rw [turn_in, Sem.onRaise_eq_wrap]
      refine seg_bind_wrap (wpAny_standAt ?_)
      refine seg_bind_wrap ?_
      rw [over1, yA]
      have z := T.done Y yp yw yk yc j pins s σ H (fun _ _ => False) I hf hst hs
      refine wpAny_mono z (fun r s1 ⟨hr, I1⟩ => ?_) fun _ _ e => e.elim
      subst hr
      exact seg_leaf (.ok .next) (back n σ H s₀ s1 I1 q)
    · cases h
  | succ m ih =>
    intro n j σ H s₀ s I hst w hf
    rcases turn n (m + 1) j σ H w with ⟨hs, q⟩ | ⟨hgo, m', n', hm, hn, w'⟩
    · show Seg _ _ _ _ n s₀ _ ((compTurn (gen2 elt tg iter tg1 iter1 scope gpos) 1 (.ref it1) .none Y.env).onRaise (fun x => do noteFrame x Y.env; theTreesLotGoes x)) _ s
      rw [turn_in, Sem.onRaise_eq_wrap]
      refine seg_bind_wrap (wpAny_standAt ?_)
      refine seg_bind_wrap ?_
      rw [over1, yA]
      have z := T.done Y yp yw yk yc j pins s σ H (fun _ _ => False) I hf hst hs
      refine wpAny_mono z (fun r s1 ⟨hr, I1⟩ => ?_) fun _ _ e => e.elim
      subst hr
      exact seg_leaf (.ok .next) (back n σ H s₀ s1 I1 q)
    · obtain rfl : m = m' := by omega
      subst hn
      show Seg _ _ _ _ (n' + 1) s₀ _ ((compTurn (gen2 elt tg iter tg1 iter1 scope gpos) 1 (.ref it1) .none Y.env).onRaise (fun x => do noteFrame x Y.env; theTreesLotGoes x)) _ s
      rw [turn_in, Sem.onRaise_eq_wrap]
      refine seg_bind_wrap (wpAny_standAt ?_)
      refine seg_bind_wrap ?_
      rw [over1, yA]
      have z := T.item Y yp yw yk yc j pins s σ H (fun _ _ => False) I hf hst hgo
      refine wpAny_mono z (fun r s1 ⟨u, hr, h1⟩ => ?_) fun _ _ e => e.elim
      subst hr
      refine seg_bind_wrap ?_
      rw [over1, yA]
      refine wpAny_mono h1 (fun _ s2 ⟨x, H3, I3, rx, hy, hst3, hf3⟩ => ?_) fun _ _ e => e.elim
      have stat : ∀ {H' : Hp}, (∀ b ∈ fp1, H' b = none) → ∀ b ∈ fp1, FpOk Y pins H' b := fun hn b hb => ⟨hn b hb, (hf b hb).2⟩
      have I3' := I3.pinned (stat hf3) (T.obj _ _ hst3)
      refine seg_bind_wrap ?_
      rw [over1, yA]
      have z2 := hg.run _ s2 σ H3 x u _ I3' rx (w' x H3 hy)
      rw [yp, yw] at z2
      refine wpAny_mono z2 (fun _ s3 ⟨σ4, H4, I4, q4⟩ => ?_) fun e s e' => yx (α := Unit) e s e'
      simp only [List.forIn_nil]
      refine seg_bind_wrap (wpAny_pure ?_)
      simp only [if_true]
      have hyo : ∀ v, yieldOut Y.env v = yieldValue v := fun v => by simp only [yieldOut, ysc, hco, Bool.false_eq_true, if_false]
      simp only [hyo]
      rw [Sem.bind_eq_wrap', Sem.wrap_wrap]
      rw [Sem.bind_eq_wrap', Sem.wrap_wrap]
      refine seg_wrap ?_
      rw [over1, yA]
      have z3 := he.run _ s3 σ4 H4 _ I4 q4
      rw [yp, yw] at z3
      refine wpAny_mono z3 (fun v s5 ⟨y, H5, I5, ry, b, ey, q5, q6⟩ => ?_) fun e s e' => yx (α := Unit) e s e'
      subst ey
      obtain rfl : v = Value.bool b := ry
      have I5u : Inv Y pins σ4 H5 s5 := I5.unpinned
      have hgo5 : s5.heap.get? a = some go := (I5.pin (a, go) (by rw [hY]; simp [gcx])).1
      have pin5 : ∀ b ∈ fp1, ∀ o, s2.heap.get? b = some o → s5.heap.get? b = some o ∧ H5 b = none := fun b hb o e => by
        have z := I5.pin (b, o) (List.mem_append_right _ (List.mem_append_right _ (mem_pinsAt hb e)))
        exact ⟨z.1, z.2.1⟩
      have I5e : Inv Y [] σ4 H5 s5 := I5u.unpinned (pins := [])
      refine seg_at (seg_yield rfl rfl (by subst hgg; rfl) ⟨b, rfl, hgen _ hgo5, I5.nolimit, I5.bare, fun hb => done I5e (q5 hb), fun hb s'' e1 e2 e3 => ?_⟩)
      have J5 : Inv Y pins σ4 H5 s'' := I5u.call' (s' := s'') (ch := []) e2 (by rw [e1]; exact Un.refl) (by rw [e1]; exact I5u.hok) e3 (fun b hb => absurd hb (by simp))
      have hf5 : ∀ b ∈ fp1, H5 b = none := fun b hb => by
        obtain ⟨o, e, _⟩ := T.obj _ _ hst3 b hb
        exact (pin5 b hb o e).2
      exact seg_again rfl (ih n' (j + 1) σ4 H5 s'' s'' J5 (by rw [e1]; exact T.keep _ _ _ hst3 fun b hb o e => (pin5 b hb o e).1) (q6 hb) (stat hf5))
/-- the second loop's start -/
theorem seg_in0 {R : GenEnd} {Yp : Protocol} {A : Around} {n : Nat} {s₀ s : Shared} {it1 : Addr} {fp1 : List Addr} {tn1 : Nat → Heap → Prop} {J1 : It} {env : Env} {fs : List Frame}
    (T : Turn X.prog X.w X.K tg1 J1 fp1 it1 tn1) (hst : tn1 0 s.heap)
    (loop : Seg (model X.prog X.w) A R Yp n s₀ (.compLoop (gen2 elt tg iter tg1 iter1 scope gpos) 1 (.ref it1) .none env)
        ((model X.prog X.w).den (.compLoop (gen2 elt tg iter tg1 iter1 scope gpos) 1 (.ref it1) .none env)) fs s) :
    Seg (model X.prog X.w) A R Yp n s₀ (.compStart (gen2 elt tg iter tg1 iter1 scope gpos) 1 (.ref it1) .none env)
        ((model X.prog X.w).den (.compStart (gen2 elt tg iter tg1 iter1 scope gpos) 1 (.ref it1) .none env)) fs s := by
  show Seg _ _ _ _ n s₀ _ ((compStart (gen2 elt tg iter tg1 iter1 scope gpos) 1 (.ref it1) .none env).onRaise (fun x => do noteFrame x env; standAt theWindowsPlace)) fs s
  unfold compStart
  rw [Sem.onRaise_eq_wrap]
  show Seg _ _ _ _ n s₀ _ ((ask >>= _).wrap _ _ _ _) fs s
  refine seg_bind_wrap (wpAny_askSetting ?_)
  split
  · exact seg_again rfl loop
  · refine seg_bind_wrap (wpAny_rule ?_)
    first
      | exact seg_bind_wrap (wpAny_standAt (seg_bind_wrap (T.self _ 0 s _ _ hst (seg_again rfl loop))))
      | (show Seg _ _ _ _ n s₀ _ ((standAt iter1.pos >>= _).wrap _ _ _ _) fs s; exact seg_bind_wrap (wpAny_standAt (seg_bind_wrap (T.self _ 0 s _ _ hst (seg_again rfl loop)))))
/-- the first loop -/
theorem seg_out {N : List Str} {C a it : Addr} {go : Obj} {code : Value} {s4 : Shared} {H2 : Hp} {fp : List Addr} {tn : Nat → Heap → Prop} {J : It} {g : Nat} {sv : Bool} {Qe Qs : Hp → Prop} {gt gt1 : TG} {wi1 : TI} {te : TE}
    {WO : Nat → Nat → Nat → L2.St → Hp → Prop}
    (Y : Cx) (hY : Y = gcx X N scope C code s4 H2 fp [(a, go)]) (hgen : ∀ h : Heap, h.get? a = some go → h.IsGen a g)
    (T : Turn X.prog X.w X.K tg J fp it tn) (hg : PG Y tg gt) (hi1 : PI Y tg1 iter1 wi1) (hg1 : PG Y tg1 gt1) (he : PE Y elt te) (hco : scope.isCoroutine = false)
    (hs1 : ∀ (env : Env) (x : Value), foldedSetIterable iter1 env x = pure x)
    (turn : ∀ n k i σ H, WO n k i σ H → (J.stop i H ∧ Qe H) ∨ (J.go i H ∧ ∃ k', k = k' + 1 ∧ ∀ x H3, J.yld i H x H3 → gt x σ H3 fun σ4 H4 => wi1 σ4 H4 fun J1 H5 => ∃ WI : Nat → Nat → Nat → L2.St → Hp → Prop, (∃ m, WI n m 0 σ4 H5) ∧
      ∀ n m j σ H, WI n m j σ H → (J1.stop j H ∧ WO n k' (i + 1) σ H) ∨ (J1.go j H ∧ ∃ m' n', m = m' + 1 ∧ n = n' + 1 ∧ ∀ x H3, J1.yld j H x H3 → gt1 x σ H3 fun σ4 H4 => te σ4 H4 fun v H5 => ∃ b, v = .bl b ∧ (b = sv → Qs H5) ∧ (b ≠ sv → WI n' m' (j + 1) σ4 H5)))) :
    ∀ (k n i : Nat) (σ : L2.St) (H : Hp) (s₀ s : Shared), Inv Y [] σ H s → (∀ b ∈ fp, H b = none) → tn i s.heap → WO n k i σ H →
      (∀ b ∈ fp, FpOk Y [] H b) →
      Seg (model X.prog X.w) X.A.in1.in1 (GRx X fp s4 H2 Qe a g) (GYx X fp s4 H2 Qs sv a g) n s₀
        (.compLoop (gen2 elt tg iter tg1 iter1 scope gpos) 0 (.ref it) .none Y.env)
        ((model X.prog X.w).den (.compLoop (gen2 elt tg iter tg1 iter1 scope gpos) 0 (.ref it) .none Y.env)) [] s := by
  have yp : Y.prog = X.prog := by rw [hY]; rfl
  have yw : Y.w = X.w := by rw [hY]; rfl
  have yk : Y.K = X.K := by rw [hY]; rfl
  have yc : Y.calm = true := by rw [hY]; rfl
  have yA : X.A.in1.in1.deeper Y.env = Y.A := by rw [hY]; rfl
  have yx : ∀ {α : Type} {P : Prop} (e : Value) (s : Shared), Y.xe e s → P := fun e s h => by rw [hY] at h; exact False.elim h
  have done : ∀ {σ H s} {Q : Hp → Prop}, Inv Y [] σ H s → Q H → Done X fp s4 H2 Q s := fun {σ H s Q} I q => by
    have u := I.base
    have o := I.os
    have k := I.hok
    rw [hY] at u o k
    exact ⟨H, o, I.bare, u, k, q⟩
  intro k
  induction k with
  | zero =>
    intro n i σ H s₀ s I hfn hst w hf
    rcases turn n 0 i σ H w with ⟨hs, q⟩ | ⟨_, m', h, _⟩
    · show Seg _ _ _ _ n s₀ _ ((compTurn (gen2 elt tg iter tg1 iter1 scope gpos) 0 (.ref it) .none Y.env).onRaise (leaving Y.env)) [] s
      rw [turn_out, Sem.onRaise_eq_wrap]
      refine seg_bind_wrap (wpAny_standAt ?_)
      refine seg_bind_wrap ?_
      rw [over0, yA]
      have z := T.done Y yp yw yk yc i [] s σ H (fun _ _ => False) I hf hst hs
      refine wpAny_mono z (fun r s1 ⟨hr, I1⟩ => ?_) fun _ _ e => e.elim
      subst hr
      exact seg_end (.ok .next) (.inl ⟨.inr rfl, done I1 q⟩)
    · cases h
  | succ k ih =>
    intro n i σ H s₀ s I hfn hst w hf
    rcases turn n (k + 1) i σ H w with ⟨hs, q⟩ | ⟨hgo, m', hm, w'⟩
    · show Seg _ _ _ _ n s₀ _ ((compTurn (gen2 elt tg iter tg1 iter1 scope gpos) 0 (.ref it) .none Y.env).onRaise (leaving Y.env)) [] s
      rw [turn_out, Sem.onRaise_eq_wrap]
      refine seg_bind_wrap (wpAny_standAt ?_)
      refine seg_bind_wrap ?_
      rw [over0, yA]
      have z := T.done Y yp yw yk yc i [] s σ H (fun _ _ => False) I hf hst hs
      refine wpAny_mono z (fun r s1 ⟨hr, I1⟩ => ?_) fun _ _ e => e.elim
      subst hr
      exact seg_end (.ok .next) (.inl ⟨.inr rfl, done I1 q⟩)
    · obtain rfl : k = m' := by omega
      show Seg _ _ _ _ n s₀ _ ((compTurn (gen2 elt tg iter tg1 iter1 scope gpos) 0 (.ref it) .none Y.env).onRaise (leaving Y.env)) [] s
      rw [turn_out, Sem.onRaise_eq_wrap]
      refine seg_bind_wrap (wpAny_standAt ?_)
      refine seg_bind_wrap ?_
      rw [over0, yA]
      have z := T.item Y yp yw yk yc i [] s σ H (fun _ _ => False) I hf hst hgo
      refine wpAny_mono z (fun r s1 ⟨u, hr, h1⟩ => ?_) fun _ _ e => e.elim
      subst hr
      refine seg_bind_wrap ?_
      rw [over0, yA]
      refine wpAny_mono h1 (fun _ s2 ⟨x, H3, I3, rx, hy, hst3, hf3⟩ => ?_) fun _ _ e => e.elim
      have stat : ∀ {H' : Hp}, (∀ b ∈ fp, H' b = none) → ∀ b ∈ fp, FpOk Y [] H' b := fun hn b hb => ⟨hn b hb, (hf b hb).2⟩
      have I3' := I3.pinned (stat hf3) (T.obj _ _ hst3)
      refine seg_bind_wrap ?_
      rw [over0, yA]
      have z2 := hg.run _ s2 σ H3 x u _ I3' rx (w' x H3 hy)
      rw [yp, yw] at z2
      refine wpAny_mono z2 (fun _ s3 ⟨σ4, H4, I4, q4⟩ => ?_) fun e s e' => yx (α := Unit) e s e'
      simp only [List.forIn_nil]
      refine seg_bind_wrap (wpAny_pure ?_)
      simp only [if_true]
      refine seg_bind_wrap ?_
      rw [over0, yA]
      have z3 := hi1.run _ s3 σ4 H4 _ I4 q4
      rw [yp, yw] at z3
      refine wpAny_mono z3 (fun xv s5 hx => ?_) fun e s e' => yx (α := Unit) e s e'
      refine seg_bind_wrap (wpAny_standAt ?_)
      simp only [hs1]
      refine seg_bind_wrap (wpAny_pure ?_)
      refine seg_bind_wrap ?_
      rw [over0, yA]
      refine wpAny_holding (wpAny_mono hx (fun itv s6 h6 => ?_) fun e s e' => yx (α := Unit) e s e')
      obtain ⟨it1, fp1, tn1, J1, H6, e1, I6, T1, st6, f6, WI, ⟨m, w6⟩, turn1⟩ := h6
      subst e1
      refine seg_call fun p => ?_
      rw [yp, yw, yk] at T1
      refine seg_in0 T1 st6 ?_
      refine seg_in (WI := WI) (WE := fun n σ H => WO n k (i + 1) σ H) rfl Y hY hgen T1 hg1 he hco turn1 (fun n σ H s₀ s I w => ?_) m n 0 σ4 H6 s₀ s6 I6 st6 w6 f6
      have pin5 : ∀ b ∈ fp, ∀ o, s2.heap.get? b = some o → s.heap.get? b = some o ∧ H b = none := fun b hb o e => by
        have z := I.pin (b, o) (List.mem_append_right _ (List.mem_append_right _ (mem_pinsAt hb e)))
        exact ⟨z.1, z.2.1⟩
      have hf5 : ∀ b ∈ fp, H b = none := fun b hb => by
        obtain ⟨o, e, _⟩ := T.obj _ _ hst3 b hb
        exact (pin5 b hb o e).2
      exact seg_again rfl (ih n (i + 1) σ H s₀ s (I.unpinned (pins := [])) hf5 (T.keep _ _ _ hst3 fun b hb o e => (pin5 b hb o e).1) w (stat hf5))
theorem seg_out0 {N : List Str} {C a it : Addr} {go : Obj} {code : Value} {s4 : Shared} {H2 : Hp} {fp : List Addr} {tn : Nat → Heap → Prop} {J : It} {g : Nat} {sv : Bool} {Qe Qs : Hp → Prop} {gt gt1 : TG} {wi1 : TI} {te : TE} {σ : L2.St}
    {WO : Nat → Nat → Nat → L2.St → Hp → Prop}
    (Y : Cx) (hY : Y = gcx X N scope C code s4 H2 fp [(a, go)]) (hgen : ∀ h : Heap, h.get? a = some go → h.IsGen a g)
    (T : Turn X.prog X.w X.K tg J fp it tn) (hg : PG Y tg gt) (hi1 : PI Y tg1 iter1 wi1) (hg1 : PG Y tg1 gt1) (he : PE Y elt te) (hco : scope.isCoroutine = false)
    (hs1 : ∀ (env : Env) (x : Value), foldedSetIterable iter1 env x = pure x)
    (turn : ∀ n k i σ H, WO n k i σ H → (J.stop i H ∧ Qe H) ∨ (J.go i H ∧ ∃ k', k = k' + 1 ∧ ∀ x H3, J.yld i H x H3 → gt x σ H3 fun σ4 H4 => wi1 σ4 H4 fun J1 H5 => ∃ WI : Nat → Nat → Nat → L2.St → Hp → Prop, (∃ m, WI n m 0 σ4 H5) ∧
      ∀ n m j σ H, WI n m j σ H → (J1.stop j H ∧ WO n k' (i + 1) σ H) ∨ (J1.go j H ∧ ∃ m' n', m = m' + 1 ∧ n = n' + 1 ∧ ∀ x H3, J1.yld j H x H3 → gt1 x σ H3 fun σ4 H4 => te σ4 H4 fun v H5 => ∃ b, v = .bl b ∧ (b = sv → Qs H5) ∧ (b ≠ sv → WI n' m' (j + 1) σ4 H5))))
    (k n : Nat) (H : Hp) (s₀ s : Shared) (I : Inv Y [] σ H s) (hfn : ∀ b ∈ fp, H b = none) (hst : tn 0 s.heap) (w : WO n k 0 σ H) (hf : ∀ b ∈ fp, FpOk Y [] H b) :
      Seg (model X.prog X.w) X.A.in1.in1 (GRx X fp s4 H2 Qe a g) (GYx X fp s4 H2 Qs sv a g) n s₀
        (.compStart (gen2 elt tg iter tg1 iter1 scope gpos) 0 (.ref it) .none Y.env)
        ((model X.prog X.w).den (.compStart (gen2 elt tg iter tg1 iter1 scope gpos) 0 (.ref it) .none Y.env)) [] s := by
  have loop := seg_out (iter := iter) (gpos := gpos) Y hY hgen T hg hi1 hg1 he hco hs1 turn k n 0 σ H s₀ s I hfn hst w hf
  show Seg _ _ _ _ n s₀ _ ((compStart (gen2 elt tg iter tg1 iter1 scope gpos) 0 (.ref it) .none Y.env).onRaise (leaving Y.env)) [] s
  unfold compStart
  rw [Sem.onRaise_eq_wrap]
  show Seg _ _ _ _ n s₀ _ ((ask >>= _).wrap _ _ _ _) [] s
  refine seg_bind_wrap (wpAny_askSetting ?_)
  split
  · exact seg_again rfl loop
  · refine seg_bind_wrap (wpAny_rule ?_)
    show Seg _ _ _ _ n s₀ _ ((standAt iter.pos >>= _).wrap _ _ _ _) [] s
    exact seg_bind_wrap (wpAny_standAt (seg_bind_wrap (T.self _ 0 s _ _ hst (seg_again rfl loop))))
/-- how such a generator is made -/
theorem eval2 (env : Env) (hco : scope.isCoroutine = false) : eval (gen2 elt tg iter tg1 iter1 scope gpos) env = (do
      let first ← eval iter env
      standAt iter.pos
      let first ← genFold iter env first
      let it ← holding [first] (pyIter first)
      enterFrame
      let own ← closureFor scope env
      let code ← genexprCode env gpos (env.qual ++ "<genexpr>") scope
      let built ← builtinsFor env.globals env.builtins
      let inner ← newFunctionEnv scope env.globals own [(".0", it)] (env.qual ++ "<genexpr>.") none code none built
      newGenerator (.compStart (gen2 elt tg iter tg1 iter1 scope gpos) 0 it .none inner) "<genexpr>" (env.qual ++ "<genexpr>")) := by
  rw [arm_eval_GeneratorExp]
  simp only [hco, Bool.false_eq_true, if_false]
  cases iter <;> rfl
theorem make2 {M : Model} {A : Around} {F : Value → Shared → Prop} {s : Shared} {env : Env} {own : List (Str × Addr)} {Q : Value → Shared → Prop}
    (hco : scope.isCoroutine = false) (hown : closureFor scope env = pure own) (hcell : ∀ y ∈ scope.names, y.2 ≠ .cell) (hdot : scope.names.lookup (".0" : Str) = some NameKind.local) (hkind : scope.kind = .function) (room : A.depth < recursionLimit)
    (h : wpAny M A (eval iter env) (fun first s1 => wpAny M A (pyIter first) (fun it s2 => s2.heap.NoLimit ∧ wpAny M A (genexprCode env gpos (env.qual ++ "<genexpr>") scope) (fun code s3 => wpAny M A (builtinsFor env.globals env.builtins) (fun built s4 => ∀ h5,
          h5.Ns s4.heap.objs.size (fun y => if y = (".0" : Str) then some it else none) → Heap.SameBut s4.heap.objs.size (s4.heap.push { cls := .type "frame", data := .dict #[] }) h5 → Q (.ref h5.objs.size) { s4 with
            gens := s4.gens.push (.fresh (.compStart (gen2 elt tg iter tg1 iter1 scope gpos) 0 it .none (genEnv scope own s4.heap.objs.size code built env))), toks := s4.toks + 1 + 1 + 1,
            heap := h5.push { cls := .type "generator", data := .fields #[.int s4.gens.size 0, .str "<genexpr>" (s4.toks + 1), .str (env.qual ++ "<genexpr>") (s4.toks + 1 + 1)] } }) F s3) F s2) F s1) F s)
    (hs : ∀ v, genFold iter env v = pure v) : wpAny M A (eval (gen2 elt tg iter tg1 iter1 scope gpos) env) Q F s := by
  rw [eval2 _ hco, hown]
  refine wpAny_bind (wpAny_mono h (fun first s1 k1 => wpAny_bind (wpAny_standAt (wpAny_bind (wpAny_of_eq (hs first) (wpAny_bind (wpAny_holding (wpAny_mono k1 (fun it s2 k2 => ?_) fun _ _ q => q))))))) fun _ _ q => q)
  refine wpAny_bind (wpAny_enterFrame k2.1 room (wpAny_bind (wpAny_pure (wpAny_bind (wpAny_mono k2.2 (fun code s3 k3 => wpAny_bind (wpAny_mono k3 (fun built s4 k4 => ?_) fun _ _ q => q)) fun _ _ q => q)))))
  refine wpAny_bind (wpAny_newFunctionEnv hcell (fun y hy => ?_) (fun h5 n5 b5 => ?_) hkind)
  · rw [List.mem_singleton.mp hy]; exact hdot
  · have same : (fun y : Str => ([((".0" : Str), it)] : List (Str × Value)).reverse.lookup y) = fun y : Str => if y = (".0" : Str) then some it else none := funext fun y => by
      by_cases q : y = (".0" : Str)
      · rw [q]; rfl
      · have q' : (y == (".0" : Str)) = false := beq_eq_false_iff_ne.mpr q
        rw [if_neg q]
        show (match y == (".0" : Str) with | true => some it | false => none) = none
        rw [q']
    rw [same] at n5
    simp only [newGenerator, newFields]
    exact wpAny_bind (wpAny_newGen (wpAny_bind (wpAny_mkText (wpAny_bind (wpAny_mkText (wpAny_newObj_type (k4 h5 n5 b5) (by size_fits)))))))
def tAA2 (sv : Bool) (P : Addr) (n : Nat) (cap : List Nat) (wi : TI) (gt : TG) (wi1 : TI) (gt1 : TG) (te : TE) : TE := fun σ H Q => wi σ H fun J H1 => TabG H1 P ∧ ∀ H2, Tabbed P H1 H2 → ∃ WO : Nat → Nat → Nat → L2.St → Hp → Prop, (∃ n0 k0, WO n0 k0 0 (startG n σ cap) H2) ∧
  ∀ n k i σ' H', WO n k i σ' H' → (J.stop i H' ∧ Q (.bl (!sv)) H') ∨ (J.go i H' ∧ ∃ k', k = k' + 1 ∧ ∀ x H3, J.yld i H' x H3 → gt x σ' H3 fun σ4 H4 => wi1 σ4 H4 fun J1 H5 => ∃ WI : Nat → Nat → Nat → L2.St → Hp → Prop, (∃ m, WI n m 0 σ4 H5) ∧
      ∀ n m j σ H, WI n m j σ H → (J1.stop j H ∧ WO n k' (i + 1) σ H) ∨ (J1.go j H ∧ ∃ m' n', m = m' + 1 ∧ n = n' + 1 ∧ ∀ x H3, J1.yld j H x H3 → gt1 x σ H3 fun σ4 H4 => te σ4 H4 fun v H5 => ∃ b, v = .bl b ∧ (b = sv → Q (.bl sv) H5) ∧ (b ≠ sv → WI n' m' (j + 1) σ4 H5)))
variable {pins : List (Addr × Obj)}
theorem gen_come2 {k : Nat} {c P : Addr} {N0 fr : List Str} {cap : List Nat} {wi wi1 : TI} {gt gt1 : TG} {te : TE} {sv : Bool} {σ : L2.St} {H : Hp} {s : Shared} {Q : VK} {Q' : Value → Shared → Prop}
    (hr : Room k X.A) (TB : TabB X.base X.mg c P) (hcode : X.env.code = .ref c) (S : GSc N0 fr scope) (C : Caps X fr cap) (hi : PI X tg iter wi) (hi1 : ∀ C code s4 H2 fp pn, PI (gcx X (N0 ++ fr) scope C code s4 H2 fp pn) tg1 iter1 wi1) (hg1 : ∀ C code s4 H2 fp pn, PG (gcx X (N0 ++ fr) scope C code s4 H2 fp pn) tg1 gt1)
    (hg : ∀ C code s4 H2 fp pn, PG (gcx X (N0 ++ fr) scope C code s4 H2 fp pn) tg gt) (he : ∀ C code s4 H2 fp pn, PE (gcx X (N0 ++ fr) scope C code s4 H2 fp pn) elt te)
    (hs : ∀ v, genFold iter X.env v = pure v) (hs1 : ∀ (env : Env) (x : Value), foldedSetIterable iter1 env x = pure x) (I : Inv X pins σ H s) (h : tAA2 sv P N0.length cap wi gt wi1 gt1 te σ H Q)
    (hQ : ∀ u s5, Come X pins σ sv Q u s5 → Q' u s5) :
    wpAny (model X.prog X.w) X.A (eval (gen2 elt tg iter tg1 iter1 scope gpos) X.env) Q' X.xe s := by
  refine make2 S.co (closure_ok (closes I S C)) S.nocell S.dot S.kind (by have := hr.dp; omega) ?_ hs
  refine thn (hi.run pins s σ H _ I h) fun xv s1 h1 => thn h1 fun itv s2 h2 => ?_
  obtain ⟨it, fp, tn, J, H1, rfl, I1, T, st1, f1, ⟨ps, hP, ht⟩, q⟩ := h2
  have hPs : s2.heap.get? P = some { cls := .none, data := .fields ps } := I1.hok P _ hP
  have hfpP : ∀ b ∈ fp, b ≠ P := fun b hb z => by
    have := (f1 b hb).1
    rw [z, hP] at this
    cases this
  have cd : PySem.W.CodeHd s2.heap c P := TB.code.keeps fun b u e => I1.bk b u e
  have lim2 : s2.heap.NoLimit := I1.nolimit
  have cont : ∀ (code : Value) (h3 : Heap) (tk : Nat) (ps' : Array Value), Heap.ExtBut P s2.heap h3 → h3.get? P = some { cls := .none, data := .fields ps' } → (∃ more, ps' = ps ++ more) → TriplesOk ps'.toList →
      wpAny (model X.prog X.w) X.A (builtinsFor X.env.globals X.env.builtins) (fun bi s₄ =>
        ∀ h', h'.Ns s₄.heap.objs.size (fun y => if y = (".0" : Str) then some (.ref it) else none) → Heap.SameBut s₄.heap.objs.size (s₄.heap.push { cls := .type "frame", data := .dict #[] }) h' →
          Q' (.ref h'.objs.size) { s₄ with
            gens := s₄.gens.push (.fresh (.compStart (gen2 elt tg iter tg1 iter1 scope gpos) 0 (.ref it) .none (genEnv scope (cloFrom X.env.cells scope.names []) s₄.heap.objs.size code bi X.env))),
            toks := s₄.toks + 1 + 1 + 1,
            heap := h'.push { cls := .type "generator", data := .fields #[.int s₄.gens.size 0, .str "<genexpr>" (s₄.toks + 1), .str (X.env.qual ++ "<genexpr>") (s₄.toks + 1 + 1)] } }) X.xe { s2 with heap := h3, toks := tk } := by
    intro code h3 tk ps' hx hP3 ⟨more, hmore⟩ ht3
    obtain ⟨bm, ob, e1, e2, e3, e4, e5, e6, e7, e8⟩ := TB.bm
    refine wpAny_builtinsFor (m := X.mg) (by rw [I1.ok.glob]; exact (I1.mod.glob.keeps I1.bk).extBut hx TB.gP) e1 e2 (hx _ _ e4 (I1.bk _ _ e5)) e6 e7 e8 ?_
    intro h' hn' hs'
    subst hmore
    have I4 : Inv X pins σ (upd H1 P (.tbl (ps ++ more))) { s2 with heap := h3, toks := tk } := inv_tab (more := more) (h' := h3) (g' := s2.gens) (d' := s2.drawn) (t' := tk) I1 hP (fun b o hb e => hx b o hb e) hP3 I1.bare
    have hT : Tabbed P H1 (upd H1 P (.tbl (ps ++ more))) := ⟨⟨ps ++ more, upd_same, ht3⟩, fun b hb => upd_ne hb⟩
    obtain ⟨W, ⟨m, k0, w0⟩, turn⟩ := q _ hT
    have hsz : h'.objs.size = h3.objs.size + 1 := by rw [hs'.1, Heap.size_push]
    have keep' : ∀ b o, h3.get? b = some o → h'.get? b = some o := fun b o e => hs'.extBut b o (Nat.ne_of_lt (Heap.lt_size e)) (Heap.get?_push_of_some _ e)
    have keep5 : ∀ b o, h3.get? b = some o → (h'.push { cls := .type "generator", data := .fields #[.int s2.gens.size 0, .str "<genexpr>" (tk + 1), .str (X.env.qual ++ "<genexpr>") (tk + 1 + 1)] }).get? b = some o :=
      fun b o e => Heap.get?_push_of_some _ (keep' b o e)
    have st4 : tn 0 h3 := T.keep 0 _ _ st1 fun b hb o e => hx b o (hfpP b hb) e
    have hobj : ∀ b ∈ fp, ∃ o, h3.get? b = some o := fun b hb => by
      obtain ⟨o, e, _⟩ := T.obj _ _ st4 b hb
      exact ⟨o, e⟩
    have f4 : ∀ b ∈ fp, FpOk X pins (upd H1 P (.tbl (ps ++ more))) b := fun b hb => ⟨by rw [upd_ne (hfpP b hb)]; exact (f1 b hb).1, (f1 b hb).2⟩
    have hpush := Heap.get?_push_size h' (o := { cls := .type "generator", data := .fields #[.int s2.gens.size 0, .str "<genexpr>" (tk + 1), .str (X.env.qual ++ "<genexpr>") (tk + 1 + 1)] }) rfl
    have lt5 : (h3.objs.size : Nat) < h'.objs.size := by omega
    refine hQ _ _ ⟨h'.objs.size, s2.gens.size, m, fp, { s2 with heap := h3, toks := tk }, _, rfl, ⟨_, _, _, hpush, rfl, rfl, rfl⟩, I4.nolimit.keeps keep5, I4, f4, rfl, _, Array.getElem?_push_size .., rfl, ?_⟩
    have gsz : ∀ (tk5 : Nat), Inv (gcx X (N0 ++ fr) scope h3.objs.size code { s2 with heap := h3, toks := tk } (upd H1 P (.tbl (ps ++ more))) fp [(h'.objs.size, { cls := .type "generator", data := .fields #[.int s2.gens.size 0, .str "<genexpr>" (tk + 1), .str (X.env.qual ++ "<genexpr>") (tk + 1 + 1)] })]) [] (startG N0.length σ cap) (upd H1 P (.tbl (ps ++ more)))
        { s2 with gens := s2.gens.push .running, toks := tk5, heap := h'.push { cls := .type "generator", data := .fields #[.int s2.gens.size 0, .str "<genexpr>" (tk + 1), .str (X.env.qual ++ "<genexpr>") (tk + 1 + 1)] } } :=
      fun tk5 => inv_gen (gs := .running) (tk := tk5) I4 hr.hd S C f4 hobj (hn'.push _) keep5 rfl lt5 hpush (fun v z => by cases z)
    have J5 := gsz (tk + 1 + 1 + 1)
    have fY : ∀ b ∈ fp, FpOk (gcx X (N0 ++ fr) scope h3.objs.size code { s2 with heap := h3, toks := tk } (upd H1 P (.tbl (ps ++ more))) fp [(h'.objs.size, { cls := .type "generator", data := .fields #[.int s2.gens.size 0, .str "<genexpr>" (tk + 1), .str (X.env.qual ++ "<genexpr>") (tk + 1 + 1)] })]) [] (upd H1 P (.tbl (ps ++ more))) b := fun b hb => by
      obtain ⟨o, e⟩ := hobj b hb
      have hlt := Heap.lt_size e
      obtain ⟨g0, g1, g2, g3, g4, g5⟩ := f4 b hb
      refine ⟨g0, Nat.ne_of_lt hlt, J5.ok.exfs b hb, .inl hb, (J5.ok.exf b hb).2, fun p hp => ?_⟩
      have hp : p ∈ [((h'.objs.size : Addr), ({ cls := .type "generator", data := .fields #[.int s2.gens.size 0, .str "<genexpr>" (tk + 1), .str (X.env.qual ++ "<genexpr>") (tk + 1 + 1)] } : Obj))] := by simpa [gcx] using hp
      rw [List.mem_singleton.mp hp]
      exact Nat.ne_of_gt (Nat.lt_trans hlt lt5)
    refine seg_out0 (J := J) (WO := W) (tn := tn) (σ := startG N0.length σ cap) (go := { cls := .type "generator", data := .fields #[.int s2.gens.size 0, .str "<genexpr>" (tk + 1), .str (X.env.qual ++ "<genexpr>") (tk + 1 + 1)] }) _ rfl (fun h e => ⟨_, _, _, e, rfl, rfl, rfl⟩) T (hg _ _ _ _ _ _) (hi1 _ _ _ _ _ _) (hg1 _ _ _ _ _ _) (he _ _ _ _ _ _) S.co hs1 turn k0 m _ _ _ ?_ (fun b hb => (f4 b hb).1) ?_ w0 fY
    · have e9 : ({ s2 with gens := (s2.gens.push (.fresh (.compStart (gen2 elt tg iter tg1 iter1 scope gpos) 0 (.ref it) .none (genEnv scope (cloFrom X.env.cells scope.names []) h3.objs.size code builtinsNs X.env)))).setIfInBounds s2.gens.size .running, toks := tk + 1 + 1 + 1, heap := h'.push { cls := .type "generator", data := .fields #[.int s2.gens.size 0, .str "<genexpr>" (tk + 1), .str (X.env.qual ++ "<genexpr>") (tk + 1 + 1)] } } : Shared)
          = { s2 with gens := s2.gens.push .running, toks := tk + 1 + 1 + 1, heap := h'.push { cls := .type "generator", data := .fields #[.int s2.gens.size 0, .str "<genexpr>" (tk + 1), .str (X.env.qual ++ "<genexpr>") (tk + 1 + 1)] } } := by
        rw [setLast]
      show Inv _ [] _ _ ({ s2 with gens := (s2.gens.push _).setIfInBounds s2.gens.size .running, toks := _, heap := _ } : Shared)
      rw [e9]
      exact J5
    · exact T.keep 0 _ _ st4 fun b hb o e => keep5 b o e
  refine ⟨lim2, ?_⟩
  cases hf : codeAmong gpos ps.toList with
  | none =>
    refine wpAny_genexprCodeX hcode (cd.code hPs ht) (cd.tab hPs) hf fun c' h' tk hx hge hlt hco' _ htab' _ => ?_
    obtain ⟨o1, vs, f1, tf, fl, tg', inF, tx, tt, op, _, _, _, _, _, _, _, _, _, htr, _⟩ := hco'
    exact cont _ h' tk _ hx htab'.2 ⟨_, rfl⟩ htr
  | some cv =>
    refine wpAny_genexprCode_hit hcode (cd.code hPs ht) hf ?_
    exact cont cv s2.heap s2.toks ps (Heap.ExtBut.refl _ _) hPs ⟨#[], by simp⟩ ht
theorem pe_allG2 {k : Nat} {c P : Addr} {N0 fr : List Str} {cap : List Nat} {wi wi1 : TI} {gt gt1 : TG} {te : TE} {p pos : Pos}
    (hr : Room k X.A) (hgl : Gl X "all") (hm : X.mg "all" = none) (hb : bootBuiltins "all" = some (.builtin "all")) (TB : TabB X.base X.mg c P) (hcode : X.env.code = .ref c) (S : GSc N0 fr scope) (C : Caps X fr cap) (hi : PI X tg iter wi) (hi1 : ∀ C code s4 H2 fp pn, PI (gcx X (N0 ++ fr) scope C code s4 H2 fp pn) tg1 iter1 wi1) (hg1 : ∀ C code s4 H2 fp pn, PG (gcx X (N0 ++ fr) scope C code s4 H2 fp pn) tg1 gt1)
    (hg : ∀ C code s4 H2 fp pn, PG (gcx X (N0 ++ fr) scope C code s4 H2 fp pn) tg gt) (hel : ∀ C code s4 H2 fp pn, PE (gcx X (N0 ++ fr) scope C code s4 H2 fp pn) elt te)
    (hs : ∀ v, genFold iter X.env v = pure v) (hs1 : ∀ (env : Env) (x : Value), foldedSetIterable iter1 env x = pure x)
    (he : starEach [gen2 elt tg iter tg1 iter1 scope gpos] X.env = (false, eval (gen2 elt tg iter tg1 iter1 scope gpos) X.env) :: starEach [] X.env := by rfl) :
    PE X (.Call (.Name "all" p) [gen2 elt tg iter tg1 iter1 scope gpos] [] pos) (tAA2 false P N0.length cap wi gt wi1 gt1 te) := by
  refine ⟨fun pins s σ H Q I h => ?_⟩
  refine wpAny_Call_Name_kw (ld_blt I hgl hm hb ?_)
  refine PyProof.Rows.callWith_builtin1 ?_ he (by rfl)
  rw [he]
  show wpAny _ _ (spliced ((false, eval (gen2 elt tg iter tg1 iter1 scope gpos) X.env) :: backTo pos (starEach [] X.env))) _ _ s
  refine Calls.spliced_cons (gen_come2 hr TB hcode S C hi hi1 hg1 hg hel hs hs1 I h fun u s5 hC => ?_)
  refine Calls.spliced_nil ?_
  obtain ⟨a, g, m, fp, s4, H2, rfl, hG, hL, I4, hf, hos, hgs⟩ := hC
  refine call_function_tree F.kind_all F.plain_all F.entry_all (F.args_all1 _) ?_
  unfold Builtin.«all»
  refine wpAny_bind (m := oneArg "all" _) (wpAny_pure ?_)
  refine wpAny_bind (wpAny_pyIter_gen hG ?_)
  refine wpAny_pure ⟨plainId_quiet F.plain_all_loop _, loop_all hr.hd (by have := hr.dp; omega) (fun s' d => ?_) (fun s' d => ?_) m s5 hG hL hgs⟩
  · obtain ⟨H', I', q⟩ := d.back I4 hf
    exact ⟨.bl true, H', I', rfl, q⟩
  · obtain ⟨H', I', q⟩ := d.back I4 hf
    exact ⟨.bl false, H', I', rfl, q⟩
theorem pe_anyG2 {k : Nat} {c P : Addr} {N0 fr : List Str} {cap : List Nat} {wi wi1 : TI} {gt gt1 : TG} {te : TE} {p pos : Pos}
    (hr : Room k X.A) (hgl : Gl X "any") (hm : X.mg "any" = none) (hb : bootBuiltins "any" = some (.builtin "any")) (TB : TabB X.base X.mg c P) (hcode : X.env.code = .ref c) (S : GSc N0 fr scope) (C : Caps X fr cap) (hi : PI X tg iter wi) (hi1 : ∀ C code s4 H2 fp pn, PI (gcx X (N0 ++ fr) scope C code s4 H2 fp pn) tg1 iter1 wi1) (hg1 : ∀ C code s4 H2 fp pn, PG (gcx X (N0 ++ fr) scope C code s4 H2 fp pn) tg1 gt1)
    (hg : ∀ C code s4 H2 fp pn, PG (gcx X (N0 ++ fr) scope C code s4 H2 fp pn) tg gt) (hel : ∀ C code s4 H2 fp pn, PE (gcx X (N0 ++ fr) scope C code s4 H2 fp pn) elt te)
    (hs : ∀ v, genFold iter X.env v = pure v) (hs1 : ∀ (env : Env) (x : Value), foldedSetIterable iter1 env x = pure x)
    (he : starEach [gen2 elt tg iter tg1 iter1 scope gpos] X.env = (false, eval (gen2 elt tg iter tg1 iter1 scope gpos) X.env) :: starEach [] X.env := by rfl) :
    PE X (.Call (.Name "any" p) [gen2 elt tg iter tg1 iter1 scope gpos] [] pos) (tAA2 true P N0.length cap wi gt wi1 gt1 te) := by
  refine ⟨fun pins s σ H Q I h => ?_⟩
  refine wpAny_Call_Name_kw (ld_blt I hgl hm hb ?_)
  refine PyProof.Rows.callWith_builtin1 ?_ he (by rfl)
  rw [he]
  show wpAny _ _ (spliced ((false, eval (gen2 elt tg iter tg1 iter1 scope gpos) X.env) :: backTo pos (starEach [] X.env))) _ _ s
  refine Calls.spliced_cons (gen_come2 hr TB hcode S C hi hi1 hg1 hg hel hs hs1 I h fun u s5 hC => ?_)
  refine Calls.spliced_nil ?_
  obtain ⟨a, g, m, fp, s4, H2, rfl, hG, hL, I4, hf, hos, hgs⟩ := hC
  refine call_function_tree F.kind_any F.plain_any F.entry_any (F.args_any1 _) ?_
  unfold Builtin.«any»
  refine wpAny_bind (m := oneArg "any" _) (wpAny_pure ?_)
  refine wpAny_bind (wpAny_pyIter_gen hG ?_)
  refine wpAny_pure ⟨plainId_quiet F.plain_any_loop _, loop_any hr.hd (by have := hr.dp; omega) (fun s' d => ?_) (fun s' d => ?_) m s5 hG hL hgs⟩
  · obtain ⟨H', I', q⟩ := d.back I4 hf
    exact ⟨.bl false, H', I', rfl, q⟩
  · obtain ⟨H', I', q⟩ := d.back I4 hf
    exact ⟨.bl true, H', I', rfl, q⟩
end
end GX
set_option Elab.async false
set_option linter.all false
set_option maxRecDepth 100000
set_option maxHeartbeats 4000000
/-! Z17: two fors in any, all, by values -/
namespace Z
open PySem L2
def loopI (sv : Bool) (sc : Src) (t : Tg) (elt : ZE) : Nat → Nat → EN → AH → Option ((Option W × EN) × AH)
  | 0, j, E, A => (itemsS A sc).bind fun ws => if ws.length ≤ j then some ((none, E), A) else none
  | m + 1, j, E, A => (itemsS A sc).bind fun ws => match ws[j]? with
    | none => some ((none, E), A)
    | some w => (asg t w E).bind fun E1 => (elt E1 A).bind fun p => match p.1 with
      | .bl b => if b = sv then some ((some (.bl sv), E1), p.2) else loopI sv sc t elt m (j + 1) E1 p.2
      | _ => none
def loopO (sv : Bool) (sc : Src) (t : Tg) (iter1 : ZI) (t1 : Tg) (elt : ZE) : Nat → Nat → EN → AH → Option (W × AH)
  | 0, i, E, A => (itemsS A sc).bind fun ws => if ws.length ≤ i then some (.bl (!sv), A) else none
  | k + 1, i, E, A => (itemsS A sc).bind fun ws => match ws[i]? with
    | none => some (.bl (!sv), A)
    | some w => (asg t w E).bind fun E1 => (iter1 E1 A).bind fun p => (loopI sv p.1 t1 elt (lenS p.2 p.1) 0 E1 p.2).bind fun r => match r.1.1 with
      | some v => some (v, r.2)
      | none => loopO sv sc t iter1 t1 elt k (i + 1) r.1.2 r.2
def zAA2 (sv : Bool) (n : Nat) (cap : List Nat) (iter : ZI) (t : Tg) (iter1 : ZI) (t1 : Tg) (elt : ZE) : ZE := fun E A => (iter E A).bind fun p => loopO sv p.1 t iter1 t1 elt (lenS p.2 p.1) 0 (startE n E cap) p.2
/-- how often it yields -/
def cntI (sv : Bool) (sc : Src) (t : Tg) (elt : ZE) (rest : EN → AH → Nat) : Nat → Nat → EN → AH → Nat
  | 0, _, E, A => rest E A
  | m + 1, j, E, A => match itemsS A sc with
    | none => 0
    | some ws => match ws[j]? with
      | none => rest E A
      | some w => match asg t w E with
        | none => 0
        | some E1 => match elt E1 A with
          | none => 0
          | some p => match p.1 with
            | .bl b => if b = sv then 1 else cntI sv sc t elt rest m (j + 1) E1 p.2 + 1
            | _ => 0
def cntO (sv : Bool) (sc : Src) (t : Tg) (iter1 : ZI) (t1 : Tg) (elt : ZE) : Nat → Nat → EN → AH → Nat
  | 0, _, _, _ => 0
  | k + 1, i, E, A => match itemsS A sc with
    | none => 0
    | some ws => match ws[i]? with
      | none => 0
      | some w => match asg t w E with
        | none => 0
        | some E1 => match iter1 E1 A with
          | none => 0
          | some p => cntI sv p.1 t1 elt (cntO sv sc t iter1 t1 elt k (i + 1)) (lenS p.2 p.1) 0 E1 p.2
theorem aa2_go [Tabs] {X : Cx} {sv : Bool} {P : Addr} {n : Nat} {cap : List Nat} {fi fi1 : ZI} {t t1 : Tg} {fe : ZE} (hP : P ∈ Tabs.T) {σ : St} {H : Hp} {Q : VK} (h : tZ X.kw (zAA2 sv n cap fi t fi1 t1 fe) σ H Q) :
    GX.tAA2 sv P n cap (tZI X.kw fi) (gOf X.K t) (tZI X.kw fi1) (gOf X.K t1) (tZ X.kw fe) σ H Q := by
  obtain ⟨ι, E, A, w, A', r1, r2, e, q⟩ := h
  unfold zAA2 at e
  cases ef : fi E A with
  | none => rw [ef] at e; cases e
  | some p =>
    rw [ef] at e
    simp only [Option.bind_some] at e
    obtain ⟨sc, A1⟩ := p
    refine ⟨ι, E, A, sc, A1, r1, r2, ef, fun J H1 ι1 g1 rh1 wk => ⟨rh1.tab P hP, fun H2 hT => ?_⟩⟩
    have rh2 : RH X.kw H2 ι1 A1 := rh1.tabbed hP hT
    have g2 : Gr H1 H2 ι1 ι1 := Gr.tabbed (rh1.tab P hP) hT
    refine ⟨fun nn k i σ2 H3 => ∃ ι3 E3 A3, Gr H2 H3 ι1 ι3 ∧ RSt X.kw H3 ι3 σ2 E3 ∧ RH X.kw H3 ι3 A3 ∧ loopO sv sc t fi1 t1 fe k i E3 A3 = some (w, A') ∧ nn = cntO sv sc t fi1 t1 fe k i E3 A3,
      ⟨_, _, ι1, _, A1, .refl, ((r1.up g1).up g2).startE n cap, rh2, e, rfl⟩, ?_⟩
    rintro nn k i σ2 H3 ⟨ι3, E3, A3, g3, rs3, rh3, e3, hn3⟩
    have g13 := g2.trans g3
    have fin : ∀ {b : Bool} {H' : Hp} {ι' : List Addr}, Gr H2 H' ι1 ι' → RH X.kw H' ι' A' → w = .bl b → Q (.bl b) H' := fun {b H' ι'} g rh ew => by
      subst ew
      exact q _ H' ι' (g1.trans (g2.trans g)) (.bl b) rh
    cases k with
    | zero =>
      unfold loopO at e3
      cases ei : itemsS A3 sc with
      | none => rw [ei] at e3; cases e3
      | some ws =>
        rw [ei] at e3
        simp only [Option.bind_some] at e3
        split at e3
        · rename_i hl
          cases e3
          exact .inl ⟨(wk H3 ι3 _ ws i g13 rh3 ei).2 hl, fin g3 rh3 rfl⟩
        · cases e3
    | succ k =>
      unfold loopO at e3
      unfold cntO at hn3
      cases ei : itemsS A3 sc with
      | none => rw [ei] at e3; cases e3
      | some ws =>
        rw [ei] at e3 hn3
        simp only [Option.bind_some] at e3
        split at e3
        · rename_i hl
          cases e3
          exact .inl ⟨(wk H3 ι3 _ ws i g13 rh3 ei).2 (List.getElem?_eq_none_iff.mp hl), fin g3 rh3 rfl⟩
        · rename_i u hu
          simp only [hu] at hn3
          obtain ⟨go, yl⟩ := (wk H3 ι3 A3 ws i g13 rh3 ei).1 u hu
          refine .inr ⟨go, k, rfl, fun x H4 hy => ?_⟩
          obtain ⟨ι4, g4, rh4, rx⟩ := yl x H4 hy
          cases ea : asg t u E3 with
          | none => rw [ea] at e3; cases e3
          | some E4 =>
            rw [ea] at e3
            simp only [Option.bind_some, ea] at e3 hn3
            refine asg_go t (rs3.up g4) rx ea fun σ4 rs4 _ => ?_
            cases eg : fi1 E4 A3 with
            | none => rw [eg] at e3; cases e3
            | some y =>
              rw [eg] at e3
              simp only [Option.bind_some, eg] at e3 hn3
              obtain ⟨sc1, A5⟩ := y
              refine ⟨ι4, E4, A3, sc1, A5, rs4, rh4, eg, fun J1 H5 ι5 g5 rh5 wk1 => ?_⟩
              have g35 := g3.trans (g4.trans g5)
              refine ⟨fun n1 m j σ6 H6 => ∃ ι6 E6 A6 r, Gr H5 H6 ι5 ι6 ∧ RSt X.kw H6 ι6 σ6 E6 ∧ RH X.kw H6 ι6 A6 ∧ loopI sv sc1 t1 fe m j E6 A6 = some r ∧ (match r.1.1 with
                  | some v => some (v, r.2)
                  | none => loopO sv sc t fi1 t1 fe k (i + 1) r.1.2 r.2) = some (w, A') ∧ n1 = cntI sv sc1 t1 fe (cntO sv sc t fi1 t1 fe k (i + 1)) m j E6 A6, ?_, ?_⟩
              · cases er : loopI sv sc1 t1 fe (lenS A5 sc1) 0 E4 A5 with
                | none => rw [er] at e3; cases e3
                | some r =>
                  rw [er] at e3
                  simp only [Option.bind_some] at e3
                  exact ⟨_, ι5, E4, A5, r, .refl, rs4.up g5, rh5, er, e3, hn3⟩
              · rintro n1 m j σ6 H6 ⟨ι6, E6, A6, r, g6, rs6, rh6, er, e6, hn6⟩
                have out : ∀ {E7 : EN}, r = ((none, E7), A6) → n1 = cntO sv sc t fi1 t1 fe k (i + 1) E7 A6 → E7 = E6 → ∃ ι3 E3 A3, Gr H2 H6 ι1 ι3 ∧ RSt X.kw H6 ι3 σ6 E3 ∧ RH X.kw H6 ι3 A3 ∧ loopO sv sc t fi1 t1 fe k (i + 1) E3 A3 = some (w, A') ∧ n1 = cntO sv sc t fi1 t1 fe k (i + 1) E3 A3 := by
                  intro E7 hr hn he
                  subst hr; subst he
                  exact ⟨ι6, E7, A6, g35.trans g6, rs6, rh6, e6, hn⟩
                cases m with
                | zero =>
                  unfold loopI at er
                  unfold cntI at hn6
                  cases ei1 : itemsS A6 sc1 with
                  | none => rw [ei1] at er; cases er
                  | some vs =>
                    rw [ei1] at er
                    simp only [Option.bind_some] at er
                    split at er
                    · rename_i hl
                      exact .inl ⟨(wk1 H6 ι6 _ vs j g6 rh6 ei1).2 hl, out (Option.some.inj er).symm hn6 rfl⟩
                    · cases er
                | succ m =>
                  unfold loopI at er
                  unfold cntI at hn6
                  cases ei1 : itemsS A6 sc1 with
                  | none => rw [ei1] at er; cases er
                  | some vs =>
                    rw [ei1] at er hn6
                    simp only [Option.bind_some] at er
                    split at er
                    · rename_i hl
                      simp only [hl] at hn6
                      exact .inl ⟨(wk1 H6 ι6 _ vs j g6 rh6 ei1).2 (List.getElem?_eq_none_iff.mp hl), out (Option.some.inj er).symm hn6 rfl⟩
                    · rename_i u1 hu1
                      simp only [hu1] at hn6
                      obtain ⟨go1, yl1⟩ := (wk1 H6 ι6 A6 vs j g6 rh6 ei1).1 u1 hu1
                      cases ea1 : asg t1 u1 E6 with
                      | none => rw [ea1] at er; cases er
                      | some E8 =>
                        rw [ea1] at er
                        simp only [Option.bind_some, ea1] at er hn6
                        cases ez : fe E8 A6 with
                        | none => rw [ez] at er; cases er
                        | some y1 =>
                          rw [ez] at er
                          simp only [Option.bind_some, ez] at er hn6
                          obtain ⟨z, A9⟩ := y1
                          cases z with
                          | bl b =>
                            simp only at er hn6
                            obtain ⟨n2, hn2, hn3'⟩ : ∃ n2, n1 = n2 + 1 ∧ (b ≠ sv → n2 = cntI sv sc1 t1 fe (cntO sv sc t fi1 t1 fe k (i + 1)) m (j + 1) E8 A9) := by
                              by_cases hb : b = sv
                              · rw [if_pos hb] at hn6
                                exact ⟨0, hn6, fun z => absurd hb z⟩
                              · rw [if_neg hb] at hn6
                                exact ⟨_, hn6, fun _ => rfl⟩
                            refine .inr ⟨go1, m, n2, rfl, hn2, fun x1 H7 hy1 => ?_⟩
                            obtain ⟨ι7, g7, rh7, rx1⟩ := yl1 x1 H7 hy1
                            refine asg_go t1 (rs6.up g7) rx1 ea1 fun σ8 rs8 _ => ?_
                            refine tZ_go rs8 rh7 ez fun v H9 ι9 g9 rv rh9 => ?_
                            have gz := g6.trans (g7.trans g9)
                            cases rv
                            refine ⟨b, rfl, fun hb => ?_, fun hb => ?_⟩
                            · rw [if_pos hb] at er
                              cases er
                              simp only [Option.some.injEq, Prod.mk.injEq] at e6
                              obtain ⟨ew, eA⟩ := e6
                              subst eA
                              exact fin (g35.trans gz) rh9 ew.symm
                            · rw [if_neg hb] at er
                              exact ⟨ι9, E8, A9, r, gz, rs8.up g9, rh9, er, e6, hn3' hb⟩
                          | _ => cases er
section
variable {X : Cx} {tg iter tg1 iter1 elt : Expr} {scope : Scope} {gpos p pos : Pos} {k : Nat} {c P : Addr} {N0 fr : List Str} {cap : List Nat} {fi fi1 : ZI} {t t1 : Tg} {fe : ZE}
theorem z_all2 [Tabs] (hP : P ∈ Tabs.T) (TB : GxR.TabB X.base X.mg c P) (hr : Room k X.A) (hgl : Gl X "all") (hm : X.mg "all" = none) (hcode : X.env.code = .ref c) (S : GX.GSc N0 fr scope) (C : GX.Caps X fr cap) (hi : PIZ X tg iter fi)
    (hi1 : ∀ C code s4 H2 fp pn, PIZ (GX.gcx X (N0 ++ fr) scope C code s4 H2 fp pn) tg1 iter1 fi1) (hg1 : ∀ C code s4 H2 fp pn, PG (GX.gcx X (N0 ++ fr) scope C code s4 H2 fp pn) tg1 (gOf X.K t1))
    (hg : ∀ C code s4 H2 fp pn, PG (GX.gcx X (N0 ++ fr) scope C code s4 H2 fp pn) tg (gOf X.K t)) (hel : ∀ C code s4 H2 fp pn, PZ (GX.gcx X (N0 ++ fr) scope C code s4 H2 fp pn) elt fe)
    (hs : ∀ v, genFold iter X.env v = pure v := by intro _; rfl) (hs1 : ∀ (env : Env) (x : Value), foldedSetIterable iter1 env x = pure x := by intro _ _; rfl)
    (he : starEach [.GeneratorExp elt [⟨tg, iter, [], 0⟩, ⟨tg1, iter1, [], 0⟩] scope gpos] X.env = (false, eval (.GeneratorExp elt [⟨tg, iter, [], 0⟩, ⟨tg1, iter1, [], 0⟩] scope gpos) X.env) :: starEach [] X.env := by rfl) :
    PZ X (.Call (.Name "all" p) [.GeneratorExp elt [⟨tg, iter, [], 0⟩, ⟨tg1, iter1, [], 0⟩] scope gpos] [] pos) (zAA2 false N0.length cap fi t fi1 t1 fe) := imp (GX.pe_allG2 hr hgl hm boot_all TB hcode S C hi hi1 hg1 hg hel hs hs1 he) fun σ H Q q => aa2_go hP q
end
/-! x += e of a name, ints -/
def zsAug (i : Nat) (f : ZE) : ZS := fun E A => (f E A).bind fun p => match E[i]?, p.1 with
  | some (some (.int a)), .int b => some (.nx (E.set i (some (.int (a + b)))), p.2)
  | _, _ => none
theorem zs_augAdd [Tabs] {X : Cx} {i : Nat} {x : Str} {e : Expr} {f : ZE} {pos pos' : Pos} (hN : X.N.Nodup) (hi : X.N[i]? = some x) (hx : Loc X.env.scope x) (he : PZ X e f) (hf : X.fn x = true ∨ X.env.scope.names.lookup x = some .local := by first | exact .inl rfl | exact .inr rfl) :
    PSZ X (.AugAssign (.Name x pos') .Add e pos) (zsAug i f) := impS (ps_aug hN hi hx he ip_add hf) fun D σ H ⟨ι, E, A, o, A', r1, r2, e1, q⟩ => by
  unfold zsAug at e1
  cases ef : f E A with
  | none => rw [ef] at e1; cases e1
  | some p =>
    rw [ef] at e1
    simp only [Option.bind_some] at e1
    split at e1
    · rename_i a b ha hb
      cases e1
      obtain ⟨v, hv, rv⟩ := r1.2 i _ ha
      cases rv
      refine ⟨_, hv, tZ_go r1 r2 (ef.trans rfl : f E A = some (p.1, p.2)) fun y H' ι' g1 ry rh => ?_⟩
      rw [hb] at ry
      cases ry
      exact ⟨a, b, rfl, rfl, q H' ι' g1 rh _ ((r1.up g1).set (.int _))⟩
    · cases e1
end Z
set_option Elab.async false
set_option linter.all false
set_option maxRecDepth 100000
set_option maxHeartbeats 4000000
/-! Z18: own classes: fields, methods, making -/
namespace Z
open PySem L2
def getFW (f : Str) : List (Str × W) → Option W
  | [] => none
  | (g, x) :: r => if g = f then some x else getFW f r
def putFW (f : Str) (v : W) : List (Str × W) → List (Str × W)
  | [] => [(f, v)]
  | (g, x) :: r => if g = f then (g, v) :: r else (g, x) :: putFW f v r
section
variable {K : KW} {H : Hp} {ι : List Addr} {A : AH}
theorem getF_rw {f : Str} : ∀ {vs : List (Str × V)} {fs : List (Str × W)} {w : W}, vs.map (·.1) = fs.map (·.1) → RWs K H ι (vs.map (·.2)) (fs.map (·.2)) → getFW f fs = some w → ∃ v, vs.lookup f = some v ∧ RW K H ι v w
  | [], [], _, _, _, e => by cases e
  | (g, x) :: r, (g', x') :: r', w, hk, hr, e => by
    simp only [List.map_cons, List.cons.injEq] at hk
    obtain ⟨rfl, hk⟩ := hk
    cases hr with
    | cons h1 h2 =>
      unfold getFW at e
      by_cases q : g = f
      · subst q
        rw [if_pos rfl] at e
        cases e
        exact ⟨x, by simp [List.lookup], h1⟩
      · rw [if_neg q] at e
        obtain ⟨v, e1, e2⟩ := getF_rw hk h2 e
        refine ⟨v, ?_, e2⟩
        have : (f == g) = false := beq_eq_false_iff_ne.mpr (Ne.symm q)
        simp only [List.lookup, this]
        exact e1
  | [], _ :: _, _, hk, _, _ => by cases hk
  | _ :: _, [], _, hk, _, _ => by cases hk
theorem getF_none {f : Str} : ∀ {vs : List (Str × V)} {fs : List (Str × W)}, vs.map (·.1) = fs.map (·.1) → getFW f fs = none → vs.lookup f = none
  | [], [], _, _ => rfl
  | (g, x) :: r, (g', x') :: r', hk, e => by
    simp only [List.map_cons, List.cons.injEq] at hk
    obtain ⟨rfl, hk⟩ := hk
    unfold getFW at e
    by_cases q : g = f
    · rw [if_pos q] at e; cases e
    · rw [if_neg q] at e
      have : (f == g) = false := beq_eq_false_iff_ne.mpr (Ne.symm q)
      simp only [List.lookup, this]
      exact getF_none hk e
  | [], _ :: _, hk, _ => by cases hk
  | _ :: _, [], hk, _ => by cases hk
theorem putF_rw {f : Str} {v : V} {w : W} (hv : RW K H ι v w) : ∀ {vs : List (Str × V)} {fs : List (Str × W)}, vs.map (·.1) = fs.map (·.1) → RWs K H ι (vs.map (·.2)) (fs.map (·.2)) →
    (putF f v vs).map (·.1) = (putFW f w fs).map (·.1) ∧ RWs K H ι ((putF f v vs).map (·.2)) ((putFW f w fs).map (·.2))
  | [], [], _, _ => ⟨rfl, .cons hv .nil⟩
  | (g, x) :: r, (g', x') :: r', hk, hr => by
    simp only [List.map_cons, List.cons.injEq] at hk
    obtain ⟨rfl, hk⟩ := hk
    cases hr with
    | cons h1 h2 =>
      unfold putF putFW
      by_cases q : g = f
      · rw [if_pos q, if_pos q]
        exact ⟨by simp only [List.map_cons, hk], .cons hv h2⟩
      · rw [if_neg q, if_neg q]
        obtain ⟨e1, e2⟩ := putF_rw hv hk h2
        exact ⟨by simp only [List.map_cons, e1], .cons h1 e2⟩
  | [], _ :: _, hk, _ => by cases hk
  | _ :: _, [], hk, _ => by cases hk
theorem RH.ins (r : RH K H ι A) {n : Nat} {C : Addr} {fs : List (Str × W)} {a : Addr} (h : A[n]? = some (.ins C fs)) (hi : ι[n]? = some a) : ∃ dx vs, H a = some (.ins C dx vs) ∧ vs.map (·.1) = fs.map (·.1) ∧ RWs K H ι (vs.map (·.2)) (fs.map (·.2)) := r.ok n _ a h hi
end
/-- the fields of the thing, an instance of the class at C -/
def insAt (C : Addr) (A : AH) : W → Option (List (Str × W))
  | .loc n => match A[n]? with
    | some (.ins C' fs) => if C' = C then some fs else none
    | _ => none
  | _ => none
theorem insAt_ok {K : KW} {H : Hp} {ι : List Addr} {A : AH} {C : Addr} {v : V} {w : W} {fs : List (Str × W)} (rh : RH K H ι A) (h : RW K H ι v w) (e : insAt C A w = some fs) :
    ∃ n a dx vs, w = .loc n ∧ v = .ref a ∧ ι[n]? = some a ∧ A[n]? = some (.ins C fs) ∧ H a = some (.ins C dx vs) ∧ vs.map (·.1) = fs.map (·.1) ∧ RWs K H ι (vs.map (·.2)) (fs.map (·.2)) := by
  cases h with
  | loc hi =>
    rename_i a n
    unfold insAt at e
    simp only at e
    split at e
    · rename_i C' fs' hA
      split at e
      · rename_i hC
        cases e; subst hC
        obtain ⟨dx, vs, e1, e2, e3⟩ := rh.ins hA hi
        exact ⟨n, a, dx, vs, rfl, rfl, hi, hA, e1, e2, e3⟩
      · cases e
    · cases e
  | _ => cases e
/-- o.f -/
def zFld (C : Addr) (f : Str) (fo : ZE) : ZE := fun E A => (fo E A).bind fun p => (insAt C p.2 p.1).bind fun fs => (getFW f fs).map fun w => (w, p.2)
/-- o.f = e -/
def zsFld (C : Addr) (f : Str) (fv fo : ZE) : ZS := fun E A => (fv E A).bind fun p => (fo E p.2).bind fun q => match q.1 with
  | .loc n => (insAt C q.2 (.loc n)).bind fun fs => if fs.length < 1000 then some (.nx E, q.2.set n (.ins C (putFW f p.1 fs))) else none
  | _ => none
/-- o.f += e, ints -/
def zsFldAug (C : Addr) (f : Str) (fo fv : ZE) : ZS := fun E A => (fo E A).bind fun q => match q.1 with
  | .loc n => (insAt C q.2 (.loc n)).bind fun fs => match getFW f fs with
    | some (.int i) => (fv E q.2).bind fun p => match p.1 with
      | .int j => (insAt C p.2 (.loc n)).bind fun fs' => if fs'.length < 1000 then some (.nx E, p.2.set n (.ins C (putFW f (.int (i + j)) fs'))) else none
      | _ => none
    | _ => none
  | _ => none
section
variable {X : Cx} {o e value : Expr} {es : List Expr} {f m : Str} {pos pos' tpos apos p : Pos} {fo fv : ZE} {C : Addr} {x : Str} {g : ZA} {n : Nat} {F : ZF} {k : Nat}
theorem z_fld [Tabs] (c : Cls X.K C) (na : NoAttr X.K C f) (ho : PZ X o fo) (hb : attributeBase o f X.env (eval o X.env) = eval o X.env := by rfl) : PZ X (.Attribute o f pos) (zFld C f fo) := imp (pe_fld ho hb) fun σ H Q ⟨ι, E, A, w, A', r1, r2, e1, q⟩ => by
  unfold zFld at e1
  cases ef : fo E A with
  | none => rw [ef] at e1; cases e1
  | some z =>
    rw [ef] at e1
    simp only [Option.bind_some] at e1
    cases ei : insAt C z.2 z.1 with
    | none => rw [ei] at e1; cases e1
    | some fs =>
      rw [ei] at e1
      simp only [Option.bind_some] at e1
      cases eg : getFW f fs with
      | none => rw [eg] at e1; cases e1
      | some u =>
        rw [eg] at e1; cases e1
        refine tZ_go r1 r2 (ef.trans rfl : fo E A = some (z.1, z.2)) fun y H1 ι1 g1 ry rh1 => ?_
        obtain ⟨n, a, dx, vs, _, rfl, hi, hA, e2, e3, e4⟩ := insAt_ok rh1 ry ei
        obtain ⟨v, e5, e6⟩ := getF_rw e3 e4 eg
        exact ⟨a, C, dx, vs, v, rfl, e2, c, na, e5, q v H1 ι1 g1 e6 rh1⟩
theorem ins_put {K : KW} {H : Hp} {ι : List Addr} {A : AH} {n : Nat} {a dx : Addr} {vs : List (Str × V)} {fs : List (Str × W)} {v : V} {w : W} (rh : RH K H ι A) (hi : ι[n]? = some a) (h : H a = some (.ins C dx vs)) (hk : vs.map (·.1) = fs.map (·.1))
    (hr : RWs K H ι (vs.map (·.2)) (fs.map (·.2))) (hv : RW K H ι v w) : RH K (upd H a (.ins C dx (putF f v vs))) ι (A.set n (.ins C (putFW f w fs))) ∧ Gr H (upd H a (.ins C dx (putF f v vs))) ι ι := by
  have g : Gr H (upd H a (.ins C dx (putF f v vs))) ι ι := Gr.put ⟨_, h, trivial⟩ _
  obtain ⟨e1, e2⟩ := putF_rw (f := f) hv hk hr
  exact ⟨rh.put hi ⟨_, h, trivial⟩ ⟨dx, _, upd_same, e1, e2.up g⟩, g⟩
theorem zs_fld [Tabs] (c : Cls X.K C) (na : NoAttr X.K C f) (ho : PZ X o fo) (hv : PZ X value fv) (hs : swapsWith value (some (.Attribute o f pos')) pos.line X.env = pure false := by rfl) : PSZ X (.Assign [.Attribute o f pos'] value pos) (zsFld C f fv fo) :=
  impS (ps_fld ho hv hs) fun D σ H ⟨ι, E, A, oo, A', r1, r2, e1, q⟩ => by
  unfold zsFld at e1
  cases ef : fv E A with
  | none => rw [ef] at e1; cases e1
  | some z =>
    rw [ef] at e1
    simp only [Option.bind_some] at e1
    cases eo : fo E z.2 with
    | none => rw [eo] at e1; cases e1
    | some y =>
      rw [eo] at e1
      simp only [Option.bind_some] at e1
      split at e1
      · rename_i n hn
        cases ei : insAt C y.2 (.loc n) with
        | none => rw [ei] at e1; cases e1
        | some fs =>
          rw [ei] at e1
          simp only [Option.bind_some] at e1
          split at e1
          · rename_i hl
            cases e1
            refine tZ_go r1 r2 (ef.trans rfl : fv E A = some (z.1, z.2)) fun v1 H1 ι1 g1 rv1 rh1 => ?_
            refine tZ_go (r1.up g1) rh1 (eo.trans rfl : fo E z.2 = some (y.1, y.2)) fun v2 H2 ι2 g2 rv2 rh2 => ?_
            rw [hn] at rv2
            obtain ⟨n', a, dx, vs, en, rfl, hi, hA, e2, e3, e4⟩ := insAt_ok rh2 rv2 ei
            cases en
            obtain ⟨x1, x2⟩ := ins_put (f := f) rh2 hi e2 e3 e4 (rv1.up g2)
            exact ⟨a, C, dx, vs, rfl, e2, c, na, by have := congrArg List.length e3; simp at this; omega, q _ ι2 (g1.trans (g2.trans x2)) x1 _ (((r1.up g1).up g2).up x2)⟩
          · cases e1
      · cases e1
theorem zs_fldAug [Tabs] (c : Cls X.K C) (na : NoAttr X.K C f) (ho : PZ X o fo) (hv : PZ X value fv) : PSZ X (.AugAssign (.Attribute o f tpos) .Add value pos) (zsFldAug C f fo fv) :=
  impS (ps_fldaug ho hv in_add) fun D σ H ⟨ι, E, A, oo, A', r1, r2, e1, q⟩ => by
  unfold zsFldAug at e1
  cases eo : fo E A with
  | none => rw [eo] at e1; cases e1
  | some y =>
    rw [eo] at e1
    simp only [Option.bind_some] at e1
    split at e1
    · rename_i n hn
      cases ei : insAt C y.2 (.loc n) with
      | none => rw [ei] at e1; cases e1
      | some fs =>
        rw [ei] at e1
        simp only [Option.bind_some] at e1
        split at e1
        · rename_i i hi0
          cases ev : fv E y.2 with
          | none => rw [ev] at e1; cases e1
          | some z =>
            rw [ev] at e1
            simp only [Option.bind_some] at e1
            split at e1
            · rename_i j hj
              cases ei2 : insAt C z.2 (.loc n) with
              | none => rw [ei2] at e1; cases e1
              | some fs' =>
                rw [ei2] at e1
                simp only [Option.bind_some] at e1
                split at e1
                · rename_i hl
                  cases e1
                  refine tZ_go r1 r2 (eo.trans rfl : fo E A = some (y.1, y.2)) fun v1 H1 ι1 g1 rv1 rh1 => ?_
                  rw [hn] at rv1
                  obtain ⟨n', a, dx, vs, en, rfl, hi, hA, e2, e3, e4⟩ := insAt_ok rh1 rv1 ei
                  cases en
                  obtain ⟨v, e5, e6⟩ := getF_rw e3 e4 hi0
                  cases e6
                  refine ⟨a, C, dx, vs, _, rfl, e2, c, na, e5, ?_⟩
                  refine tZ_go (r1.up g1) rh1 (ev.trans rfl : fv E y.2 = some (z.1, z.2)) fun v2 H2 ι2 g2 rv2 rh2 => ?_
                  rw [hj] at rv2
                  cases rv2
                  obtain ⟨n', a', dx', vs', en, ea, hi', hA', e2', e3', e4'⟩ := insAt_ok rh2 ((RW.loc hi).up g2) ei2
                  cases en; cases ea
                  obtain ⟨x1, x2⟩ := ins_put (f := f) (v := .int (i + j)) (w := .int (i + j)) rh2 hi' e2' e3' e4' (.int _)
                  exact ⟨i, j, rfl, rfl, dx', vs', e2', by have := congrArg List.length e3'; simp at this; omega, q _ ι2 (g1.trans (g2.trans x2)) x1 _ (((r1.up g1).up g2).up x2)⟩
                · cases e1
            · cases e1
        · cases e1
    · cases e1
/-- o.m(..) -/
def zMeth (C : Addr) (m : Str) (n : Nat) (F : ZF) (fo : ZE) (g : ZA) : ZE := fun E A => (fo E A).bind fun p => (insAt C p.2 p.1).bind fun fs => match getFW m fs with
  | none => (g E p.2).bind fun q => if q.1.length + 1 = n then F (p.1 :: q.1) q.2 else none
  | some _ => none
/-- what a method promises -/
structure Mth [Tabs] (P : Program) (w : World) (K : PySem.W.Frag) (mg : Str → Option Value) (base : Heap) (k : Nat) (C : Addr) (m : Str) (n : Nat) (F : ZF) : Prop where
  ex : ∃ (f : Addr) (fd : FuncData) (ps : List Str), FnOk P w K mg base CX0 k f fd ps (spZ ⟨K, P, w, Tabs.T⟩ n F) ∧ Meth K C m f ∧ Binds K fd ps []
theorem meth_go [Tabs] {t : TE} {K : KW} {mth : Str} {g : ZA} {fo : ZE} {C : Addr} {n : Nat} {F : ZF} {σ : St} {H : Hp} {Q : VK} (h : tZ K (zMeth C mth n F fo g) σ H Q) : tMeth C mth (spZ K n F) [] E0 (tZ K fo) (tZA K g) σ H Q := by
  obtain ⟨ι, E, A, w, A', r1, r2, e1, q⟩ := h
  unfold zMeth at e1
  cases eo : fo E A with
  | none => rw [eo] at e1; cases e1
  | some y =>
    rw [eo] at e1
    simp only [Option.bind_some] at e1
    cases ei : insAt C y.2 y.1 with
    | none => rw [ei] at e1; cases e1
    | some fs =>
      rw [ei] at e1
      simp only [Option.bind_some] at e1
      split at e1
      · rename_i hm
        cases eg : g E y.2 with
        | none => rw [eg] at e1; cases e1
        | some z =>
          rw [eg] at e1
          simp only [Option.bind_some] at e1
          split at e1
          · rename_i hl
            refine tZ_go r1 r2 (eo.trans rfl : fo E A = some (y.1, y.2)) fun v1 H1 ι1 g1 rv1 rh1 => ?_
            obtain ⟨n', a, dx, vs, en, rfl, hi, hA, e2, e3, e4⟩ := insAt_ok rh1 rv1 ei
            refine ⟨a, dx, vs, rfl, e2, getF_none e3 hm, ?_⟩
            refine tZA_go (r1.up g1) rh1 (eg.trans rfl : g E y.2 = some (z.1, z.2)) fun us H2 ι2 g2 rus rh2 => ?_
            rw [List.append_nil]
            exact ⟨by rw [List.length_cons, rus.length]; exact hl, ι2, _, _, w, A', .cons (rv1.up g2) rus, rh2, e1, fun v H' ι' g3 => q v H' ι' (g1.trans (g2.trans g3))⟩
          · cases e1
      · cases e1
theorem z_meth [Tabs] {pl : Sem Bool} (M : Mth X.prog X.w X.K X.mg X.base k C m n F) (c : Cls X.K C) (hr : Room k X.A) (ho : PZ X o fo) (ha : PAZ X (e :: es) g)
    (hst : starEach (e :: es) X.env = (false, eval e X.env) :: starEach es X.env := by rfl) (hpl : (backTo pos (starEach es X.env)).any (·.1) = false := by rfl)
    (ht : eval (.Call (.Attribute o m apos) (e :: es) [] pos) X.env = (do
      let ov ← eval o X.env
      standAt apos.atName
      let (f, first) ← holding [ov] (getMethod ov m pl)
      callWith pos f first (backTo pos (starEach (e :: es) X.env)) (backToKw pos (keywordEach [] X.env))) := by rfl) :
    PZ X (.Call (.Attribute o m apos) (e :: es) [] pos) (zMeth C m n F fo g) := by
  obtain ⟨f, fd, ps, G, hm, hb⟩ := M.ex
  exact imp (pe_meth (pl := pl) ho c hm G hr hb .nil pass0 ha hst hpl ht) fun σ H Q q => meth_go (t := fun _ _ _ => True) q
theorem z_meth0 [Tabs] {pl : Sem Bool} (M : Mth X.prog X.w X.K X.mg X.base k C m n F) (c : Cls X.K C) (hr : Room k X.A) (ho : PZ X o fo)
    (ht : eval (.Call (.Attribute o m apos) [] [] pos) X.env = (do
      let ov ← eval o X.env
      standAt apos.atName
      let (f, first) ← holding [ov] (getMethod ov m pl)
      callWith pos f first (backTo pos (starEach [] X.env)) (backToKw pos (keywordEach [] X.env))) := by rfl) :
    PZ X (.Call (.Attribute o m apos) [] [] pos) (zMeth C m n F fo zaNil) := by
  obtain ⟨f, fd, ps, G, hm, hb⟩ := M.ex
  refine imp (pe_meth0 (pl := pl) ho c hm G hr hb .nil pass0 ht) fun σ H Q q => ?_
  obtain ⟨ι, E, A, w, A', r1, r2, e1, q'⟩ := q
  obtain z := meth_go (t := fun _ _ _ => True) (⟨ι, E, A, w, A', r1, r2, e1, q'⟩ : tZ X.kw (zMeth C m n F fo zaNil) σ H Q)
  unfold zMeth at e1
  cases eo : fo E A with
  | none => rw [eo] at e1; cases e1
  | some y =>
    rw [eo] at e1
    simp only [Option.bind_some] at e1
    cases ei : insAt C y.2 y.1 with
    | none => rw [ei] at e1; cases e1
    | some fs =>
      rw [ei] at e1
      simp only [Option.bind_some] at e1
      split at e1
      · rename_i hm'
        unfold zaNil at e1
        simp only [Option.bind_some] at e1
        split at e1
        · rename_i hl
          refine tZ_go r1 r2 (eo.trans rfl : fo E A = some (y.1, y.2)) fun v1 H1 ι1 g1 rv1 rh1 => ?_
          obtain ⟨n', a, dx, vs, en, rfl, hi, hA, e2, e3, e4⟩ := insAt_ok rh1 rv1 ei
          refine ⟨a, dx, vs, rfl, e2, getF_none e3 hm', ?_⟩
          exact ⟨by simpa using hl, ι1, _, _, w, A', .cons rv1 .nil, rh1, e1, fun v H' ι' g3 => q' v H' ι' (g1.trans g3)⟩
        · cases e1
      · cases e1
/-- C(..) -/
def zMake (C : Addr) (n : Nat) (F : ZF) (g : ZA) : ZE := fun E A => (g E A).bind fun q => if q.1.length + 1 = n then match F (.loc q.2.length :: q.1) (q.2 ++ [.ins C []]) with
    | some (.non, A2) => some (.loc q.2.length, A2)
    | _ => none
  else none
structure MkZ [Tabs] (P : Program) (w : World) (K : PySem.W.Frag) (mg : Str → Option Value) (base : Heap) (k : Nat) (x : Str) (C : Addr) (n : Nat) (F : ZF) : Prop where
  ex : ∃ (f : Addr) (fd : FuncData) (ps : List Str), FnOk P w K mg base CX0 k f fd ps (spZ ⟨K, P, w, Tabs.T⟩ n F) ∧ Mk K C f ∧ Binds K fd ps [] ∧ mg x = some (.ref C)
theorem new_ins {K : KW} {H : Hp} {ι : List Addr} {A : AH} {a dx : Addr} (rh : RH K H ι A) (ha : H a = none) (hd : H dx = none) (ne : dx ≠ a) :
    RW K (upd (upd H dx (.own a)) a (.ins C dx [])) (ι ++ [a]) (.ref a) (.loc A.length) ∧ RH K (upd (upd H dx (.own a)) a (.ins C dx [])) (ι ++ [a]) (A ++ [.ins C []]) ∧ Gr H (upd (upd H dx (.own a)) a (.ins C dx [])) ι (ι ++ [a]) := by
  have r1 := rh.beside hd (.own a)
  have ha1 : (upd H dx (.own a)) a = none := by rw [upd_ne ne.symm]; exact ha
  have g1 : Gr H (upd H dx (.own a)) ι ι := Gr.new hd _
  have g2 : Gr (upd H dx (.own a)) (upd (upd H dx (.own a)) a (.ins C dx [])) ι (ι ++ [a]) := Gr.grow ha1 _
  exact ⟨.loc (by rw [← rh.len]; simp), r1.alloc ha1 ⟨dx, [], upd_same, rfl, .nil⟩, g1.trans g2⟩
theorem z_make [Tabs] (M : MkZ X.prog X.w X.K X.mg X.base k x C n F) (hr : Room (k + 1) X.A) (hg : Gl X x) (ha : PAZ X (e :: es) g) (hdb : (x == ("__debug__" : Str)) = false := by decide) (he : starEach (e :: es) X.env = (false, eval e X.env) :: starEach es X.env := by rfl)
    (hpl : (backTo pos (starEach es X.env)).any (·.1) = false := by rfl) : PZ X (.Call (.Name x p) (e :: es) [] pos) (zMake C n F g) := by
  obtain ⟨f, fd, ps, G, hm, hb, hx⟩ := M.ex
  refine imp (pe_make hm G hr hg hx hb .nil pass0 ha hdb he hpl) fun σ H Q ⟨ι, E, A, w, A', r1, r2, e1, q⟩ => ?_
  unfold zMake at e1
  cases eg : g E A with
  | none => rw [eg] at e1; cases e1
  | some z =>
    rw [eg] at e1
    simp only [Option.bind_some] at e1
    split at e1
    · rename_i hl
      split at e1
      · rename_i A2 eF
        cases e1
        refine tZA_go r1 r2 (eg.trans rfl : g E A = some (z.1, z.2)) fun us H1 ι1 g1 rus rh1 a dx h1 h2 ne => ?_
        obtain ⟨x1, x2, x3⟩ := new_ins (C := C) rh1 h1 h2 ne
        rw [List.append_nil]
        refine ⟨by rw [List.length_cons, rus.length]; exact hl, ι1 ++ [a], _, _, _, _, .cons x1 (rus.up x3), x2, eF, fun v H' ι' g2 rv rh' => ?_⟩
        cases rv
        exact ⟨rfl, q _ H' ι' (g1.trans (x3.trans g2)) (x1.up g2) rh'⟩
      · cases e1
    · cases e1
end
end Z
set_option Elab.async false
set_option linter.all false
set_option maxRecDepth 100000
set_option maxHeartbeats 4000000
/-! Z19: dict displays with keys, lists turned round -/
namespace Z
open PySem L2
def zPairs : List (ZE × ZE) → EN → AH → Option (List (W × W) × AH)
  | [], _, A => some ([], A)
  | (fk, fv) :: r, E, A => (fk E A).bind fun p => (fv E p.2).bind fun q => (zPairs r E q.2).map fun z => ((p.1, q.1) :: z.1, z.2)
def keysW : List (W × W) → Option (List (Key × W))
  | [] => some []
  | (k, v) :: r => (keyW k).bind fun kk => (keysW r).map fun l => (kk, v) :: l
def mrgW (kvs more : List (Key × W)) : List (Key × W) := more.foldl (fun acc kv => putW acc kv.1 kv.2) kvs
def zDisp (ps : List (ZE × ZE)) : ZE := fun E A => (zPairs ps E (A ++ [.dic []])).bind fun z => match z.2[A.length]? with
  | some (.dic []) => (keysW z.1).bind fun kvs => if kvs.length ≤ 15 then some (.loc A.length, z.2.set A.length (.dic (mrgW [] kvs))) else none
  | _ => none
inductive RPs (K : KW) (H : Hp) (ι : List Addr) : List (V × V) → List (W × W) → Prop
  | nil : RPs K H ι [] []
  | cons {k v : V} {kw vw : W} {ps : List (V × V)} {ws : List (W × W)} : RW K H ι k kw → RW K H ι v vw → RPs K H ι ps ws → RPs K H ι ((k, v) :: ps) ((kw, vw) :: ws)
theorem RPs.up {K : KW} {H H' : Hp} {ι ι' : List Addr} (g : Gr H H' ι ι') : ∀ {ps : List (V × V)} {ws : List (W × W)}, RPs K H ι ps ws → RPs K H' ι' ps ws
  | _, _, .nil => .nil
  | _, _, .cons a b c => .cons (a.up g) (b.up g) (RPs.up g c)
theorem RPs.keys {K : KW} {H : Hp} {ι : List Addr} : ∀ {ps : List (V × V)} {ws : List (W × W)} {kws : List (Key × W)}, RPs K H ι ps ws → keysW ws = some kws → ∃ kvs : List (Key × V), ps = kvs.map (fun kv => (kV kv.1, kv.2)) ∧ kvs.map (·.1) = kws.map (·.1) ∧ RWs K H ι (kvs.map (·.2)) (kws.map (·.2))
  | _, _, _, .nil, e => by cases e; exact ⟨[], rfl, rfl, .nil⟩
  | _, _, kws, .cons (k := k) (v := v) (kw := kw) (vw := vw) (ps := ps) (ws := ws) a b c, e => by
    unfold keysW at e
    cases q : keyW kw with
    | none => rw [q] at e; cases e
    | some kk =>
      rw [q] at e
      simp only [Option.bind_some] at e
      cases q2 : keysW ws with
      | none => rw [q2] at e; cases e
      | some l =>
        rw [q2] at e; cases e
        obtain ⟨kvs, e1, e2, e3⟩ := RPs.keys c q2
        refine ⟨(kk, v) :: kvs, ?_, by simp [e2], .cons b e3⟩
        rw [List.map_cons, ← e1, keyW_rw a q]
theorem mrg_rw {K : KW} {H : Hp} {ι : List Addr} : ∀ {more : List (Key × V)} {mws : List (Key × W)} {kvs : List (Key × V)} {kws : List (Key × W)}, more.map (·.1) = mws.map (·.1) → RWs K H ι (more.map (·.2)) (mws.map (·.2)) → kvs.map (·.1) = kws.map (·.1) → RWs K H ι (kvs.map (·.2)) (kws.map (·.2)) →
    (mergeK kvs more).map (·.1) = (mrgW kws mws).map (·.1) ∧ RWs K H ι ((mergeK kvs more).map (·.2)) ((mrgW kws mws).map (·.2))
  | [], [], _, _, _, _, h, r => ⟨h, r⟩
  | (k, v) :: m, (k', v') :: m', kvs, kws, hk, hr, h, r => by
    simp only [List.map_cons, List.cons.injEq] at hk
    obtain ⟨rfl, hk⟩ := hk
    cases hr with
    | cons h1 h2 =>
      obtain ⟨e1, e2⟩ := put_rw (k := k) h1 h r
      exact mrg_rw (more := m) (mws := m') (kvs := putK kvs k v) (kws := putW kws k v') hk h2 e1 e2
  | [], _ :: _, _, _, hk, _, _, _ => by cases hk
  | _ :: _, [], _, _, hk, _, _, _ => by cases hk
theorem pairs_go {K : KW} : ∀ (trs : List (ZE × ZE)) {σ : St} {H : Hp} {Q : List (V × V) → Hp → Prop} {ι : List Addr} {E : EN} {A A' : AH} {ws : List (W × W)}, RSt K H ι σ E → RH K H ι A → zPairs trs E A = some (ws, A') →
    (∀ ps H' ι', Gr H H' ι ι' → RPs K H' ι' ps ws → RH K H' ι' A' → Q ps H') → tPairs (trs.map fun p => (tZ K p.1, tZ K p.2)) σ H Q
  | [], σ, H, Q, ι, E, A, A', ws, rs, rh, e, q => by cases e; exact q [] H ι .refl .nil rh
  | (fk, fv) :: r, σ, H, Q, ι, E, A, A', ws, rs, rh, e, q => by
    unfold zPairs at e
    cases ef : fk E A with
    | none => rw [ef] at e; cases e
    | some p =>
      rw [ef] at e
      simp only [Option.bind_some] at e
      cases eg : fv E p.2 with
      | none => rw [eg] at e; cases e
      | some y =>
        rw [eg] at e
        simp only [Option.bind_some] at e
        cases er : zPairs r E y.2 with
        | none => rw [er] at e; cases e
        | some z =>
          rw [er] at e; cases e
          refine tZ_go rs rh (ef.trans rfl : fk E A = some (p.1, p.2)) fun u H1 ι1 g1 ru rh1 => ?_
          refine tZ_go (rs.up g1) rh1 (eg.trans rfl : fv E p.2 = some (y.1, y.2)) fun v H2 ι2 g2 rv rh2 => ?_
          exact pairs_go r ((rs.up g1).up g2) rh2 (er.trans rfl : zPairs r E y.2 = some (z.1, z.2)) fun ps H3 ι3 g3 rp rh3 => q _ H3 ι3 (g1.trans (g2.trans g3)) (.cons (ru.up (g2.trans g3)) (rv.up g3) rp) rh3
theorem z_disp [Tabs] {X : Cx} {pos : Pos} {keys : List (Option Expr)} {values : List Expr} {trs : List (ZE × ZE)} (h : PPs X pos keys values (trs.map fun p => (tZ X.kw p.1, tZ X.kw p.2))) (hall : keys.all (·.isSome) = true := by rfl) (hl : keys.length = values.length := by rfl) (h0 : keys ≠ [] := by intro z; cases z)
    (h15 : keys.length ≤ 15 := by decide) : PZ X (.Dict keys values pos) (zDisp trs) := imp (pe_disp h hall hl h0 h15) fun σ H Q ⟨ι, E, A, w, A', r1, r2, e, q⟩ p hp => by
  unfold zDisp at e
  cases ez : zPairs trs E (A ++ [.dic []]) with
  | none => rw [ez] at e; cases e
  | some z =>
    rw [ez] at e
    simp only [Option.bind_some] at e
    split at e
    · rename_i hd
      cases ek : keysW z.1 with
      | none => rw [ek] at e; cases e
      | some kws =>
        rw [ek] at e
        simp only [Option.bind_some] at e
        split at e
        · rename_i hlen
          cases e
          have g0 : Gr H (upd H p (.dK [])) ι (ι ++ [p]) := Gr.grow hp _
          have rh0 : RH X.kw (upd H p (.dK [])) (ι ++ [p]) (A ++ [.dic []]) := r2.alloc hp ⟨[], upd_same, rfl, .nil⟩
          refine pairs_go trs (r1.up g0) rh0 (ez.trans rfl : zPairs trs E (A ++ [.dic []]) = some (z.1, z.2)) fun ps H' ι' g rp rh' => ?_
          have hi : ι'[A.length]? = some p := g.at (by rw [← r2.len]; simp)
          obtain ⟨kv0, a1, a2, a3⟩ := (rh'.ok _ _ _ hd hi : RO X.kw H' ι' p (.dic []))
          have : kv0 = [] := List.map_eq_nil_iff.mp a2
          subst this
          obtain ⟨kvs, e1, e2, e3⟩ := RPs.keys rp ek
          refine ⟨a1, kvs, e1, by have := congrArg List.length e2; simp at this; omega, ?_⟩
          obtain ⟨m1, m2⟩ := mrg_rw (kvs := []) (kws := []) e2 e3 rfl .nil
          have gp : Gr H' (upd H' p (.dK (mergeK [] kvs))) ι' ι' := Gr.put ⟨_, a1, trivial⟩ _
          exact q _ _ ι' (g0.trans (g.trans gp)) ((RW.loc hi).up gp) (rh'.put hi ⟨_, a1, trivial⟩ ⟨_, upd_same, m1, m2.up gp⟩)
        · cases e
    · cases e
/-- xs[::-1] of a list -/
def zRevL (f : ZE) : ZE := fun E A => (f E A).bind fun p => match p.1 with
  | .loc n => match p.2[n]? with
    | some (.lst ws) => some (.loc p.2.length, p.2 ++ [.lst ws.reverse])
    | _ => none
  | _ => none
theorem RWs.reverse {K : KW} {H : Hp} {ι : List Addr} : ∀ {vs : List V} {ws : List W}, RWs K H ι vs ws → RWs K H ι vs.reverse ws.reverse
  | _, _, .nil => .nil
  | _, _, .cons a b => by simp only [List.reverse_cons]; exact (RWs.reverse b).append (.cons a .nil)
theorem z_revL [Tabs] {X : Cx} {e : Expr} {f : ZE} {k : Nat} {p1 p2 p3 pos : Pos} (h : PZ X e f) : PZ X (.Subscript e (.Slice none none (some (.UnaryOp .USub (.Constant (.int 1) k p1) p2)) p3) pos) (zRevL f) := imp (pe_revL h) fun σ H Q ⟨ι, E, A, w, A', r1, r2, e, q⟩ => by
  unfold zRevL at e
  cases ef : f E A with
  | none => rw [ef] at e; cases e
  | some p =>
    rw [ef] at e
    simp only [Option.bind_some] at e
    split at e
    · rename_i n hn
      split at e
      · rename_i ws hw
        cases e
        refine tZ_go r1 r2 (ef.trans rfl : f E A = some (p.1, p.2)) fun v H1 ι1 g1 rv rh1 => ?_
        rw [hn] at rv
        cases rv with
        | loc hi =>
          obtain ⟨xs, a1, b1⟩ := rh1.lst hw hi
          refine ⟨_, xs, rfl, SqL.of a1, fun l hl => ?_⟩
          obtain ⟨x1, x2, x3⟩ := new_lst rh1 hl b1.reverse
          exact q _ _ _ (g1.trans x3) x1 x2
      · cases e
    · cases e
end Z
set_option Elab.async false
set_option linter.all false
set_option maxRecDepth 100000
set_option maxHeartbeats 4000000
/-! Z20: sets of tuples of any depth -/
namespace SN
open PySem PySem.Spec PyProof.Rows L2
section
variable {P : Program} {w : World} {s : Shared}
/-- v is of no class statement, to depth n -/
def NoCls (P : Program) (w : World) (s : Shared) (n : Nat) (v : Value) : Prop := ∀ (A : Around) (E : Value → Shared → Prop) (Q : Bool → Shared → Prop), Q false s → wpAny (model P w) A (ofAClassStatement n v) Q E s
/-- its hash may hang on the run or not: either answer comes without a trace -/
def HbAny (P : Program) (w : World) (s : Shared) (n : Nat) (v : Value) : Prop := ∀ (A : Around) (E : Value → Shared → Prop) (Q : Bool → Shared → Prop), (∀ b, Q b s) → wpAny (model P w) A (hashByValue n v) Q E s
theorem NoCls.tup {n : Nat} {a : Addr} {o : Obj} {vs : Array Value} {m : Nat} (ho : s.heap.get? a = some o) (hc : o.cls = .type "tuple") (hd : o.data = .seq vs m) (hv : ∀ v ∈ vs.toList, NoCls P w s n v) : NoCls P w s (n + 1) (.ref a) := fun A E Q q => by
  have hT : s.TypeIs (.ref a) "tuple" := ⟨o, ho, hc⟩
  unfold ofAClassStatement
  refine wpAny_bind (wpAny_typeOf hT ?_)
  have et : (("tuple" : String) == "tuple") = true := by decide
  simp only [et, if_true, Bool.not_true, Bool.false_eq_true, if_false]
  try refine wpAny_bind (wpAny_pure ?_)
  try simp only [Bool.not_true, Bool.false_eq_true, if_false]
  show wpAny _ _ (seqItems? (.ref a) >>= _) _ _ s
  refine wpAny_bind (wpAny_seqItems ho hd (wpAny_bind ?_))
  show wpAny _ _ (forIn vs _ _) _ _ s
  rw [← Array.forIn_toList]
  refine wpAny_forIn_list _ (fun left r s1 => (r.1 = none ∧ s1 = s) ∧ ∀ u ∈ left, NoCls P w s n u) _ (fun u left r s1 hI => ?_) (fun r s1 hI => ?_) _ _ ⟨⟨rfl, rfl⟩, hv⟩
  · obtain ⟨⟨e1, rfl⟩, hu⟩ := hI
    refine wpAny_bind (hu u List.mem_cons_self A E _ ?_)
    simp only [Bool.false_eq_true, if_false]
    exact wpAny_pure ⟨⟨rfl, rfl⟩, fun z hz => hu z (List.mem_cons_of_mem _ hz)⟩
  · obtain ⟨⟨e1, rfl⟩, _⟩ := hI
    obtain ⟨r1, r2⟩ := r
    obtain rfl : r1 = none := e1
    exact wpAny_pure q
theorem HbAny.tup {n : Nat} {a : Addr} {o : Obj} {vs : Array Value} {m : Nat} (ho : s.heap.get? a = some o) (hc : o.cls = .type "tuple") (hd : o.data = .seq vs m) (hv : ∀ v ∈ vs.toList, HbAny P w s n v) : HbAny P w s (n + 1) (.ref a) := fun A E Q q => by
  have hT : s.TypeIs (.ref a) "tuple" := ⟨o, ho, hc⟩
  unfold hashByValue
  refine wpAny_bind (wpAny_specialOf hT F.slot_tuple_hash.lookup ?_)
  show wpAny _ _ (seqItems? (.ref a) >>= _) _ _ s
  refine wpAny_bind (wpAny_seqItems ho hd (wpAny_bind ?_))
  show wpAny _ _ (forIn vs _ _) _ _ s
  rw [← Array.forIn_toList]
  refine wpAny_forIn_list _ (fun left r s1 => s1 = s ∧ ∀ u ∈ left, HbAny P w s n u) _ (fun u left r s1 hI => ?_) (fun r s1 hI => ?_) _ _ ⟨rfl, hv⟩
  · obtain ⟨rfl, hu⟩ := hI
    refine wpAny_bind (hu u List.mem_cons_self A E _ fun b => ?_)
    cases b with
    | true =>
      simp only [Bool.not_true, Bool.false_eq_true, if_false]
      exact wpAny_pure ⟨rfl, fun z hz => hu z (List.mem_cons_of_mem _ hz)⟩
    | false =>
      simp only [Bool.not_false, if_true]
      exact wpAny_pure (wpAny_pure (q false))
  · obtain ⟨rfl, _⟩ := hI
    obtain ⟨r1, r2⟩ := r
    cases r1 with
    | none => exact wpAny_pure (q true)
    | some b => exact wpAny_pure (q b)
mutual
theorem noCls_key : ∀ (k : NestedKey) (v : Value) (n : Nat), NestedIs s.heap k v → k.depth ≤ n → NoCls P w s n v
  | .none, _, n, x, _ => by cases x; cases n <;> exact fun A E Q q => wpAny_pure q
  | .num i, _, n, x, _ => by cases x <;> cases n <;> exact fun A E Q q => wpAny_pure q
  | .text y, _, n, x, _ => by cases x; cases n <;> exact fun A E Q q => wpAny_pure q
  | .tup ks, _, n, x, hn => by
    cases x with
    | tup hg hc hd hk =>
      simp only [NestedKey.depth] at hn
      obtain ⟨m, rfl⟩ : ∃ m, n = m + 1 := ⟨n - 1, by omega⟩
      exact .tup hg hc hd (noCls_keys ks _ m hk (by omega))
theorem noCls_keys : ∀ (ks : List NestedKey) (vs : List Value) (n : Nat), NestedAll s.heap ks vs → NestedKey.depthAll ks ≤ n → ∀ v ∈ vs, NoCls P w s n v
  | [], _, n, x, _, v, hv => by cases x; cases hv
  | k :: ks, _, n, x, hn, v, hv => by
    cases x with
    | cons x1 x2 =>
      simp only [NestedKey.depthAll] at hn
      rcases List.mem_cons.mp hv with e | hv
      · subst e; exact noCls_key k _ n x1 (by omega)
      · exact noCls_keys ks _ n x2 (by omega) v hv
end
mutual
theorem hbAny_key : ∀ (k : NestedKey) (v : Value) (n : Nat), NestedIs s.heap k v → HbAny P w s n v
  | .none, _, n, x => by cases x; cases n <;> exact fun A E Q q => wpAny_pure (q _)
  | .num i, _, n, x => by cases x <;> cases n <;> exact fun A E Q q => wpAny_pure (q _)
  | .text y, _, n, x => by cases x; cases n <;> exact fun A E Q q => wpAny_pure (q _)
  | .tup ks, _, n, x => by
    cases x with
    | tup hg hc hd hk =>
      cases n with
      | zero => exact fun A E Q q => wpAny_pure (q _)
      | succ n => exact .tup hg hc hd (hbAny_keys ks _ n hk)
theorem hbAny_keys : ∀ (ks : List NestedKey) (vs : List Value) (n : Nat), NestedAll s.heap ks vs → ∀ v ∈ vs, HbAny P w s n v
  | [], _, n, x, v, hv => by cases x; cases hv
  | k :: ks, _, n, x, v, hv => by
    cases x with
    | cons x1 x2 =>
      rcases List.mem_cons.mp hv with e | hv
      · subst e; exact hbAny_key k _ n x1
      · exact hbAny_keys ks _ n x2 v hv
end
end
/-- the tuple at b is the key k -/
abbrev Kt (P : Program) (w : World) (h : Heap) (k : NestedKey) (b : Addr) : Prop := (nestedKind P w).is h k b
abbrev LK := List (Addr × NestedKey)
/-- the key's hash -/
abbrev kh (w : World) (k : NestedKey) : Int := k.hash w
def laid (w : World) (L : LK) : List (Int × Value) := L.map fun p => (kh w p.2, Value.ref p.1)
theorem laid_len {w : World} {L : LK} : (laid w L).length = L.length := by unfold laid; rw [List.length_map]
theorem laid_at {w : World} {L : LK} {i : Nat} {p : Addr × NestedKey} (h : L[i]? = some p) : (laid w L)[i]? = some (kh w p.2, Value.ref p.1) := by
  unfold laid
  rw [List.getElem?_map, h]
  rfl
section
variable {P : Program} {w : World} {A : Around} {E : Value → Shared → Prop} {s : Shared}
theorem Kt.same {h h' : Heap} {k : NestedKey} {a b : Addr} {o : Obj} {es : Array (Int × Value)} {ep : Nat} {t : SetTable} (x : Kt P w h k b) (ho : h.get? a = some o) (hd : o.data = .set es ep t) (hs : Heap.SameBut a h h') : Kt P w h' k b :=
  ⟨NestedIs.at (fun c oc vs n hc e => (hs.2 c fun z => by
    subst z
    rw [ho] at hc
    cases hc
    rw [hd] at e
    cases e).trans hc) k _ x.1, x.2⟩
theorem Kt.keep {h h' : Heap} {k : NestedKey} {b : Addr} (x : Kt P w h k b) (hk : ∀ c o, h.get? c = some o → h'.get? c = some o) : Kt P w h' k b :=
  ⟨NestedIs.at (fun c oc vs n hc e => hk c oc hc) k _ x.1, x.2⟩
theorem unseen {k : NestedKey} {b : Addr} {Q : Bool → Shared → Prop} (x : Kt P w s.heap k b) {ys : List Value} (hy : ∀ y ∈ ys, ∃ k' c, y = Value.ref c ∧ Kt P w s.heap k' c) (q : Q false s) : wpAny (model P w) A (searchCouldBeSeen (.ref b) ys) Q E s := by
  unfold searchCouldBeSeen
  refine wpAny_bind (wpAny_forIn_list _ (fun left r s1 => (r.1 = none ∧ s1 = s) ∧ ∀ y ∈ left, ∃ k' c, y = Value.ref c ∧ Kt P w s.heap k' c) _ (fun y left r s1 hI => ?_) (fun r s1 hI => ?_) _ _ ⟨⟨rfl, rfl⟩, hy⟩)
  · obtain ⟨⟨e1, rfl⟩, hl⟩ := hI
    obtain ⟨k', c, rfl, xc⟩ := hl y List.mem_cons_self
    have hl' : ∀ z ∈ left, ∃ k' c, z = Value.ref c ∧ Kt P w s1.heap k' c := fun z hz => hl z (List.mem_cons_of_mem _ hz)
    dsimp only
    by_cases same : (b == c || (carriedByValue (.ref b) && carriedByValue (.ref c))) = true
    · exact wp_if_pos same (wpAny_pure ⟨⟨rfl, rfl⟩, hl'⟩)
    · refine wp_if_neg same (wpAny_bind ((nestedKind P w).quiet x ?_))
      simp only [Bool.not_true, Bool.false_eq_true, if_false]
      refine wpAny_bind ((nestedKind P w).quiet xc ?_)
      simp only [Bool.not_true, Bool.false_eq_true, if_false]
      refine wpAny_bind (noCls_key k _ 8 x.1 x.2 A E _ ?_)
      simp only [Bool.false_eq_true, if_false]
      refine wpAny_bind (noCls_key k' _ 8 xc.1 xc.2 A E _ ?_)
      simp only [Bool.false_eq_true, if_false]
      exact wpAny_pure ⟨⟨rfl, rfl⟩, hl'⟩
  · obtain ⟨⟨e1, rfl⟩, _⟩ := hI
    obtain ⟨r1, r2⟩ := r
    obtain rfl : r1 = none := e1
    exact wpAny_pure q
/-- the set at a has these tuples, in the order of its table -/
structure SetN (P : Program) (w : World) (h : Heap) (a : Addr) (L : LK) (es : Array (Int × Value)) (ep : Nat) (t : SetTable) : Prop where
  obj : ∃ o, h.get? a = some o ∧ o.ExactSet ∧ o.data = .set es ep t
  list : es.toList = laid w L
  tab : TabOk t (L.map fun p => kh w p.2)
  once : (L.map (·.2)).Nodup
  keyed : ∀ p ∈ L, Kt P w h p.2 p.1
  led : w.params.followText "set-order" = true ∨ t.led = true
  room : L.length * 5 < t.mask * 3
  few : L.length < 64
variable {a : Addr} {L : LK} {es : Array (Int × Value)} {ep : Nat} {t : SetTable}
theorem SetN.count (S : SetN P w s.heap a L es ep t) : es.size = L.length := by
  have := congrArg List.length S.list
  rwa [laid_len, Array.length_toList] at this
theorem SetN.fit (S : SetN P w s.heap a L es ep t) : t.fits es.size = true := by
  have z1 := S.tab.sz
  have z2 := S.room
  have z3 := S.count
  rw [List.length_map] at z1
  unfold SetTable.fits SetTable.fill
  rw [S.tab.dm, Bool.and_eq_true, beq_iff_eq, decide_eq_true_eq]
  refine ⟨by omega, ?_⟩
  show t.place.size + 0 ≤ t.mask
  omega
theorem SetN.item (S : SetN P w s.heap a L es ep t) {i : Nat} {p : Addr × NestedKey} (h : L[i]? = some p) : es[i]? = some (kh w p.2, Value.ref p.1) := by
  rw [← Array.getElem?_toList, S.list]
  exact laid_at h
theorem SetN.whole (S : SetN P w s.heap a L es ep t) : ¬ t.gaveWay = true := by
  have := mask_odd S.tab.mok
  unfold SetTable.gaveWay
  rw [this]
  decide
theorem keepNone (m : Nat) : ∀ (n : Nat) (p : SetTable.Probe), p.dummy = none → (nth m p n).dummy = none
  | 0, p, h => h
  | n + 1, p, h => keepNone m n (adv m p) (by
      unfold adv
      split <;> exact h)
/-- the way of a key through the table, from its step c on -/
abbrev road (m : Nat) (k : NestedKey) (w : World) (c : Nat) : SetTable.Probe := nth m (runAt m (SetTable.bits (kh w k) % (m + 1)) (SetTable.bits (kh w k))) c
theorem road_on (m : Nat) (k : NestedKey) (w : World) (c q : Nat) : nth m (road m k w c) q = road m k w (c + q) := (nth_add m c _ q).symm
theorem search_go (S : SetN P w s.heap a L es ep t) {x : Addr} {k : NestedKey} (kx : Kt P w s.heap k x) (hu : A.units + 8 < cLine) {N : Nat} (hN : N < 10 * SetTable.turns t.mask) (hfree : way t.mask (kh w k) N ∉ t.place.toList) (hfull : ∀ c, c < N → way t.mask (kh w k) c ∈ t.place.toList)
    {Q : SetFound → Shared → Prop} (isin : k ∈ L.map (·.2) → Q (.there none) s) (isout : k ∉ L.map (·.2) → Q (.free (way t.mask (kh w k) N) false) s) :
    ∀ (f c : Nat) (from? : Option SetTable.Probe), from?.getD (t.probeStart (kh w k)) = road t.mask k w c → c ≤ N → N - c < f →
      (∀ (i : Nat) p, L[i]? = some p → p.2 = k → ∃ d, (c ≤ d ∧ d < N) ∧ t.place.toList[i]? = some (way t.mask (kh w k) d)) →
      wpAny (model P w) A (setSearchFrom a (.ref x) (kh w k) true f from?) Q E s
  | 0, _, _, _, _, hf, _ => (Nat.not_lt_zero _ hf).elim
  | f + 1, c, from?, hfrom, hc, hf, ahead => by
    obtain ⟨o, ho, hex, hd⟩ := S.obj
    rw [setSearchFrom_succ]
    refine wpAny_bind (wpAny_setState_of ho hd S.fit ?_)
    dsimp only
    refine wp_if_neg S.whole ?_
    try refine wpAny_bind (wpAny_pure ?_)
    have jAt : ∀ q, (nth t.mask (road t.mask k w c) q).j = way t.mask (kh w k) (c + q) := fun q => by rw [road_on]
    have found := go_spec t S.tab.ris S.tab.dm (fun i => (es[i]?.map (·.1)).getD 0) (kh w k) (10 * SetTable.turns t.mask) (N - c) (road t.mask k w c) (keepNone _ _ _ rfl) (by omega)
      (fun q hq => by rw [jAt]; exact hfull _ (by omega)) (by rw [jAt]; rwa [Nat.add_sub_cancel' hc])
    have hashOf : ∀ (i : Nat) p, L[i]? = some p → (es[i]?.map (·.1)).getD 0 = kh w p.2 := fun i p hp => by
      rw [S.item hp]; rfl
    rcases found with ⟨q, i, hq, hi, _, none', probe⟩ | ⟨none', probe⟩
    · rw [jAt] at hi
      have hlen : i < L.length := by
        have l1 := (List.getElem?_eq_some_iff.mp hi).1
        have l2 := S.tab.sz
        rw [List.length_map] at l2
        rw [Array.length_toList] at l1
        omega
      obtain ⟨p, hp⟩ : ∃ p, L[i]? = some p := ⟨_, List.getElem?_eq_getElem hlen⟩
      have hmem := List.mem_of_getElem? hp
      have probe' : t.probe (fun i => (es[i]?.map (·.1)).getD 0) (kh w k) (from?.getD (t.probeStart (kh w k))) = some (.candidate (way t.mask (kh w k) (c + q)) i (road t.mask k w (c + (q + 1)))) := by
        rw [hfrom, ← jAt, ← road_on]
        exact probe
      rw [probe']
      dsimp only
      have live : t.slot (way t.mask (kh w k) (c + q)) = .live i := slot_live S.tab.ris hi
      have go : wpAny (model P w) A (searchRest a (.ref x) (kh w k) true f es t (way t.mask (kh w k) (c + q)) i (road t.mask k w (c + (q + 1)))) Q E s := by
        unfold searchRest
        rw [S.item hp]
        dsimp only
        refine wpAny_bind (wpAny_holding ((nestedKind P w).eqBool hu (S.keyed p hmem) kx ?_))
        refine wpAny_bind (wpAny_setState_of ho hd S.fit ?_)
        dsimp only
        by_cases hit : p.2 = k
        · refine wp_if_pos (by simp [hit]) (wpAny_pure (isin ?_))
          rw [← hit]
          exact List.mem_map_of_mem hmem
        · refine wp_if_neg (by simp [hit]) ?_
          try refine wpAny_bind (wpAny_pure ?_)
          rw [sameMem]
          dsimp only
          simp only [if_true, live, S.item hp]
          refine wpAny_bind (wpAny_isSame_ref_self (wpAny_bind (wpAny_pure ?_)))
          simp only [if_true]
          refine wp_if_neg (by simp [hit]) (search_go S kx hu hN hfree hfull isin isout f (c + (q + 1)) _ rfl (by omega) (by omega) fun i2 p2 h2 k2 => ?_)
          obtain ⟨d, ⟨d1, d2⟩, d3⟩ := ahead i2 p2 h2 k2
          refine ⟨d, ⟨?_, d2⟩, d3⟩
          have hh : (es[i2]?.map (·.1)).getD 0 = kh w k := (hashOf i2 p2 h2).trans (congrArg (kh w) k2)
          rcases Nat.lt_trichotomy d (c + q) with lt | eq | gt
          · exact absurd hh (none' (d - c) i2 (by omega) (by rw [jAt, Nat.add_sub_cancel' d1]; exact d3))
          · subst eq
            have l2 := slot_live S.tab.ris d3
            rw [live] at l2
            cases l2
            rw [hp] at h2
            cases h2
            exact absurd k2 hit
          · omega
      by_cases hl : t.led = true
      · refine wp_if_neg (by simp [hl]) ?_
        try refine wpAny_bind (wpAny_pure ?_)
        exact go
      · refine wp_if_pos (by simp [hl]) (wpAny_bind (unseen kx (fun y hy => ?_) ?_))
        · obtain ⟨e, he, rfl⟩ := List.mem_map.mp hy
          have he' : e ∈ es.toList := by
            have : e ∈ es ∧ e.1 = kh w k := by simpa using he
            simpa using this.1
          rw [S.list] at he'
          obtain ⟨p2, hp2, rfl⟩ := List.mem_map.mp he'
          exact ⟨p2.2, p2.1, rfl, S.keyed p2 hp2⟩
        · refine wp_if_neg (by decide) ?_
          try refine wpAny_bind (wpAny_pure ?_)
          exact go
    · have probe' : t.probe (fun i => (es[i]?.map (·.1)).getD 0) (kh w k) (from?.getD (t.probeStart (kh w k))) = some (.empty (way t.mask (kh w k) N) none) := by
        have ej := jAt (N - c)
        rw [Nat.add_sub_cancel' hc] at ej
        rw [hfrom, ← ej]
        exact probe
      rw [probe']
      dsimp only
      refine wpAny_pure (isout fun hm => ?_)
      obtain ⟨p2, h2, k2⟩ := List.mem_map.mp hm
      obtain ⟨i2, hi2, e2⟩ := List.getElem_of_mem h2
      have h2' : L[i2]? = some p2 := List.getElem?_eq_some_iff.mpr ⟨hi2, e2⟩
      obtain ⟨d, ⟨d1, d2⟩, d3⟩ := ahead i2 p2 h2' k2
      exact none' (d - c) i2 (by omega) (by rw [jAt, Nat.add_sub_cancel' d1]; exact d3) ((hashOf i2 p2 h2').trans (congrArg (kh w) k2))
theorem search_ok (S : SetN P w s.heap a L es ep t) {x : Addr} {k : NestedKey} (kx : Kt P w s.heap k x) (hu : A.units + 8 < cLine) {Q : SetFound → Shared → Prop} (isin : k ∈ L.map (·.2) → Q (.there none) s)
    (isout : ∀ N, k ∉ L.map (·.2) → way t.mask (kh w k) N ∉ t.place.toList → (∀ c, c < N → way t.mask (kh w k) c ∈ t.place.toList) → Q (.free (way t.mask (kh w k) N) false) s) : wpAny (model P w) A (setSearch a (.ref x) (kh w k) true) Q E s := by
  have hroom := S.room
  obtain ⟨N, n1, n2, n3⟩ := S.tab.first (by rw [List.length_map]; omega) (kh w k)
  have hN : N < 100000 := by
    have : SetTable.turns t.mask ≤ 142 := by
      unfold SetTable.turns
      rcases S.tab.mok with e | e | e <;> omega
    omega
  unfold setSearch
  refine search_go S kx hu n1 n2 n3 isin (fun hn => isout N hn n2 n3) 100000 0 none rfl (Nat.zero_le _) (by omega) fun i p hp hk => ?_
  have l1 : i < t.place.toList.length := by
    have l2 := (List.getElem?_eq_some_iff.mp hp).1
    have l3 := S.tab.sz
    rw [List.length_map] at l3
    rw [Array.length_toList]
    omega
  have hj := List.getElem?_eq_getElem l1
  obtain ⟨d, d1, d2⟩ := S.tab.before n2 (i := i) (by rw [List.getElem?_map, hp, Option.map_some, hk]) hj
  exact ⟨d, ⟨Nat.zero_le _, d1⟩, by rw [hj, d2]⟩
end
end SN
set_option Elab.async false
set_option linter.all false
set_option maxRecDepth 100000
set_option maxHeartbeats 4000000
/-! Z21: filling a set of tuples; set(list) -/
namespace SN
open PySem PySem.Spec PyProof.Rows L2
section
variable {P : Program} {w : World} {A : Around} {E : Value → Shared → Prop} {s : Shared}
theorem laid_put (L : LK) (p : Nat) (x : Addr) (k : NestedKey) : laid w (L.take p ++ (x, k) :: L.drop p) = (laid w L).take p ++ (kh w k, Value.ref x) :: (laid w L).drop p := by
  unfold laid
  simp only [List.map_append, List.map_cons, List.map_take, List.map_drop]
theorem filter_all {α : Type} (L : List α) : ∀ n, n ≤ L.length → (List.range n).filterMap (fun i => L[i]?) = L.take n
  | 0, _ => rfl
  | n + 1, h => by
    have hn : n < L.length := h
    rw [List.range_succ, List.filterMap_append, filter_all L n (Nat.le_of_lt hn), List.take_succ]
    rw [List.filterMap_cons_some (List.getElem?_eq_getElem hn), List.getElem?_eq_getElem hn] <;> rfl
/-- the elements in another order -/
theorem reorder (L : LK) (es : Array (Int × Value)) (order : Array Nat) (hl : es.toList = laid w L) (hp : order.toList.Perm (List.range L.length)) :
    ∃ L', (order.filterMap (es[·]?)).toList = laid w L' ∧ L'.Perm L ∧ (L'.map fun p => kh w p.2) = order.toList.map fun i => (es.map (·.1)).getD i 0 := by
  have atE : ∀ i, es[i]? = (L[i]?).map fun (p : Addr × NestedKey) => (kh w p.2, Value.ref p.1) := fun i => by
    rw [← Array.getElem?_toList, hl]
    unfold laid
    rw [List.getElem?_map]
  refine ⟨order.toList.filterMap (fun i => L[i]?), ?_, ?_, ?_⟩
  · have h1 : (order.filterMap (es[·]?)).toList = order.toList.filterMap (fun i => es[i]?) := by
      first | rw [Array.toList_filterMap] | simp
    rw [h1]
    unfold laid
    rw [List.map_filterMap]
    congr 1
    funext i
    exact atE i
  · have h2 := hp.filterMap (fun i => L[i]?)
    rw [filter_all L L.length (Nat.le_refl _), List.take_length] at h2
    exact h2
  · have sub : ∀ i ∈ order.toList, i < L.length := fun i hi => List.mem_range.mp (hp.mem_iff.mp hi)
    have : ∀ l : List Nat, (∀ i ∈ l, i < L.length) → ((l.filterMap (fun i => L[i]?)).map fun p => kh w p.2) = l.map fun i => (es.map (·.1)).getD i 0 := by
      intro l
      induction l with
      | nil => intro _; rfl
      | cons i l ih =>
        intro h
        have hi := h i List.mem_cons_self
        rw [List.filterMap_cons_some (List.getElem?_eq_getElem hi), List.map_cons, List.map_cons, ih fun j hj => h j (List.mem_cons_of_mem _ hj)]
        congr 1
        have e1 : (es.map (·.1))[i]? = some (kh w (L[i]).2) := by
          rw [Array.getElem?_map, atE i, List.getElem?_eq_getElem hi]
          rfl
        rw [Array.getD_eq_getD_getElem?, e1]
        rfl
    exact this _ sub
variable {a : Addr} {L : LK} {es : Array (Int × Value)} {ep : Nat} {t : SetTable}
/-- laying the table anew -/
theorem relay_ok {o : Obj} (ho : s.heap.get? a = some o) (hex : o.ExactSet) (hd : o.data = .set es ep t) (hl : es.toList = laid w L) (hsz : t.place.size = es.size) (hdm : t.dummies = #[]) (hfl : es.size ≤ t.mask) (once : (L.map (·.2)).Nodup)
    (keyed : ∀ p ∈ L, Kt P w s.heap p.2 p.1) (led : w.params.followText "set-order" = true ∨ t.led = true) (few : L.length < 64) {wanted M : Nat} (hw : SetTable.sizeAbove wanted - 1 = M) (hM : MaskOk M) (hw2 : SetTable.sizeAbove wanted ≤ 128) (room : L.length * 5 < M * 3)
    {Q : Unit → Shared → Prop} (q : ∀ h' L' es' ep' t', Heap.SameBut a s.heap h' → SetN P w h' a L' es' ep' t' → L'.Perm L → Q () { s with heap := h' }) : wpAny (model P w) A (setRelay a wanted) Q E s := by
  have cnt : es.size = L.length := by
    have := congrArg List.length hl
    rwa [laid_len, Array.length_toList] at this
  have fit : t.fits es.size = true := by
    unfold SetTable.fits SetTable.fill
    rw [hdm, Bool.and_eq_true, beq_iff_eq, decide_eq_true_eq]
    refine ⟨hsz, ?_⟩
    show t.place.size + 0 ≤ t.mask
    omega
  obtain ⟨t', order, eo, op, T, em, el, _, _⟩ := relaid_ok t (hs := es.map (·.1)) (wanted := wanted) hw hM (by rw [Array.size_map, cnt]; omega)
  rw [Array.size_map, cnt] at op
  obtain ⟨L', r1, r2, r3⟩ := reorder L es order hl op
  rw [← r3] at T
  have cnt' : (order.filterMap (es[·]?)).size = es.size := by
    have := congrArg List.length r1
    rw [laid_len, Array.length_toList, r2.length_eq] at this
    omega
  rw [setRelay_eq]
  refine wpAny_bind (wpAny_setState_of ho hd fit ?_)
  dsimp only
  refine wp_if_neg (by rw [sizeLine_eq]; omega) ?_
  try refine wpAny_bind (wpAny_pure ?_)
  rw [eo]
  dsimp only
  refine wpAny_bind (wp_if_neg (by rw [cnt']; simp) ?_)
  try refine wpAny_bind (wpAny_pure ?_)
  refine wpAny_pure ?_
  dsimp only
  refine wpAny_storeSet_of ho hd ?_ (by rw [cnt', cnt, sizeLine_eq]; omega)
  have sb : Heap.SameBut a s.heap (s.heap.update a (Obj.putSet (order.filterMap (es[·]?)) t')) := Heap.SameBut.update ..
  refine q _ L' _ (ep + 1) t' sb ⟨⟨_, store_at ho hd, ⟨hex.1, hex.2.1, hex.2.2⟩, rfl⟩, r1, T, (r2.map (·.2)).nodup_iff.mpr once, fun p hp => (keyed p (r2.mem_iff.mp hp)).same ho hd sb, by rw [el]; exact led, ?_, by rw [r2.length_eq]; exact few⟩ r2
  rw [r2.length_eq, em]
  exact room
theorem TabOk.unplain {t : SetTable} {hs : List Int} (T : TabOk t hs) : TabOk { t with plain := false } hs := ⟨T.ris, T.dm, T.sz, T.mok, T.bd, T.reach⟩
/-- one more tuple -/
theorem add_ok (S : SetN P w s.heap a L es ep t) {x : Addr} {k : NestedKey} (kx : Kt P w s.heap k x) (hu : A.units + 8 < cLine) (few : L.length + 1 < 64) {Q : Bool → Shared → Prop}
    (q : ∀ b h' L' es' ep' t', Heap.SameBut a s.heap h' → SetN P w h' a L' es' ep' t' → (k ∈ L.map (·.2) → L' = L) → (k ∉ L.map (·.2) → L'.Perm ((x, k) :: L)) → Q b { s with heap := h' }) : wpAny (model P w) A (setAddHashed a (.ref x) (kh w k)) Q E s := by
  obtain ⟨o, ho, hex, hd⟩ := S.obj
  have cnt := S.count
  have room := S.room
  unfold setAddHashed
  refine wpAny_holding ?_
  rw [show (100000 : Nat) = 99999 + 1 from rfl, setAddHashedIn_succ]
  refine wpAny_bind (wpAny_setState_of ho hd S.fit ?_)
  dsimp only
  refine wp_if_neg (by simp [byScan, Value.scannable]) ?_
  try refine wpAny_bind (wpAny_pure ?_)
  refine wpAny_bind (search_ok S kx hu (fun hm => ?_) fun N hm n1 n2 => ?_)
  · exact wpAny_pure (q false s.heap L es ep t (Heap.SameBut.refl a s.heap) S (fun _ => rfl) fun z => (z hm).elim)
  · dsimp only
    refine wpAny_bind (wpAny_setState_of ho hd S.fit ?_)
    dsimp only
    obtain ⟨p1, p2, p3, p4, p5, _, _, _, p9⟩ := S.tab.put n1 n2
    generalize hpt : t.put (way t.mask (kh w k) N) = pt at p1 p3 p4 p5 p9 ⊢
    obtain ⟨t1, p⟩ := pt
    dsimp only at p1 p3 p4 p5 p9 ⊢
    subst p1
    have after : ∀ t2 : SetTable, (t2 = t1 ∨ t2 = { t1 with plain := false }) → wpAny (model P w) A (do
        storeSet a (SetTable.insertAt es (SetTable.below t.place (way t.mask (kh w k) N)) (kh w k, Value.ref x)) t2
        if !false && t2.tooFull then setRelay a (SetTable.grown (es.size + 1))
        return true) Q E s := by
      intro t2 h2
      have T2 : TabOk t2 ((L.map fun p => kh w p.2).take (SetTable.below t.place (way t.mask (kh w k) N)) ++ kh w k :: (L.map fun p => kh w p.2).drop (SetTable.below t.place (way t.mask (kh w k) N))) := by
        rcases h2 with rfl | rfl
        · exact p3
        · exact TabOk.unplain p3
      have m2 : t2.mask = t.mask := by rcases h2 with rfl | rfl <;> exact p4
      have l2 : t2.led = t.led := by rcases h2 with rfl | rfl <;> exact p5
      have f2 : t2.fill = L.length + 1 := by
        rw [List.length_map] at p9
        rcases h2 with rfl | rfl <;> exact p9
      clear h2 p3 p4 p5 p9 hpt
      have ins : (SetTable.insertAt es (SetTable.below t.place (way t.mask (kh w k) N)) (kh w k, Value.ref x)).toList = laid w (L.take (SetTable.below t.place (way t.mask (kh w k) N)) ++ (x, k) :: L.drop (SetTable.below t.place (way t.mask (kh w k) N))) := by
        rw [SetTable.toList_insertAt, laid_put, S.list]
      generalize SetTable.below t.place (way t.mask (kh w k) N) = p at p2 T2 ins ⊢
      have perm := put_perm L p (x, k)
      have hT : (L.take p ++ (x, k) :: L.drop p).map (fun p => kh w p.2) = (L.map fun p => kh w p.2).take p ++ kh w k :: (L.map fun p => kh w p.2).drop p := by
        simp only [List.map_append, List.map_cons, List.map_take, List.map_drop]
      rw [← hT] at T2
      generalize L.take p ++ (x, k) :: L.drop p = L1 at perm T2 ins
      have len1 : L1.length = L.length + 1 := perm.length_eq
      have once1 : (L1.map (·.2)).Nodup := (perm.map (·.2)).nodup_iff.mpr (by rw [List.map_cons]; exact List.nodup_cons.mpr ⟨hm, S.once⟩)
      have cnt1 : (SetTable.insertAt es p (kh w k, Value.ref x)).size = L.length + 1 := by
        have := congrArg List.length ins
        rwa [laid_len, Array.length_toList, len1] at this
      generalize SetTable.insertAt es p (kh w k, Value.ref x) = es1 at ins cnt1 ⊢
      refine wpAny_bind (wpAny_storeSet_of ho hd ?_ (by rw [cnt1, sizeLine_eq]; omega))
      have sb : Heap.SameBut a s.heap (s.heap.update a (Obj.putSet es1 t2)) := Heap.SameBut.update ..
      have ho1 := store_at (es' := es1) (t' := t2) ho hd
      generalize s.heap.update a (Obj.putSet es1 t2) = h1 at sb ho1 ⊢
      have keyed1 : ∀ p ∈ L1, Kt P w h1 p.2 p.1 := fun p hp => by
        rcases List.mem_cons.mp (perm.mem_iff.mp hp) with e | hp
        · rw [e]; exact kx.same ho hd sb
        · exact (S.keyed p hp).same ho hd sb
      have led1 : w.params.followText "set-order" = true ∨ t2.led = true := by rw [l2]; exact S.led
      by_cases full : t2.tooFull = true
      · have hfull : t2.mask * 3 ≤ (L.length + 1) * 5 := by
          have h := full
          unfold SetTable.tooFull at h
          rw [decide_eq_true_eq, f2] at h
          omega
        rw [cnt]
        have two : (t.mask = 7 ∧ L.length = 4) ∨ (t.mask = 31 ∧ L.length = 18) := by
          rw [m2] at hfull
          rcases S.tab.mok with e | e | e <;> rw [e] at hfull room
          · exact .inl ⟨e, by omega⟩
          · exact .inr ⟨e, by omega⟩
          · omega
        have psz : t2.place.size = es1.size := by
          have := T2.sz
          rw [List.length_map, len1] at this
          omega
        have grow : ∀ M, SetTable.sizeAbove (SetTable.grown (L.length + 1)) - 1 = M → MaskOk M → SetTable.sizeAbove (SetTable.grown (L.length + 1)) ≤ 128 → (L.length + 1) * 5 < M * 3 →
            wpAny (model P w) A (setRelay a (SetTable.grown (L.length + 1))) (fun _ s' => wpAny (model P w) A (pure true) Q E s') E { s with heap := h1 } := fun M g1 g2 g3 g4 => by
          refine relay_ok (s := { s with heap := h1 }) ho1 ⟨hex.1, hex.2.1, hex.2.2⟩ rfl ins psz T2.dm (by rw [cnt1, m2]; rcases two with ⟨e, e2⟩ | ⟨e, e2⟩ <;> omega) once1 keyed1 led1 (by omega) g1 g2 g3 (by rw [len1]; exact g4) fun h2 L2 es2 ep2 t3 sb2 S2 perm2 => ?_
          exact wpAny_pure (q true h2 L2 es2 ep2 t3 (sb.trans sb2) S2 (fun z => (hm z).elim) fun _ => perm2.trans perm)
        first
          | (refine wpAny_bind ?_; refine wp_if_pos (by simp [full]) ?_)
          | (refine wp_if_pos (by simp [full]) ?_; refine wpAny_bind ?_)
        rcases two with ⟨_, e2⟩ | ⟨_, e2⟩
        · exact grow 31 (by rw [e2, size_20]) (.inr (.inl rfl)) (by rw [e2, size_20]; decide) (by omega)
        · exact grow 127 (by rw [e2, size_76]) (.inr (.inr rfl)) (by rw [e2, size_76]; decide) (by omega)
      · have hfree : (L.length + 1) * 5 < t2.mask * 3 := by
          have h := full
          unfold SetTable.tooFull at h
          rw [decide_eq_true_eq, f2] at h
          omega
        first
          | refine wp_if_neg (by simp [full]) ?_
          | (refine wpAny_bind ?_; refine wp_if_neg (by simp [full]) ?_; refine wpAny_pure ?_)
        exact wpAny_pure (q true h1 L1 es1 (ep + 1) t2 sb ⟨⟨_, ho1, ⟨hex.1, hex.2.1, hex.2.2⟩, rfl⟩, ins, T2, once1, keyed1, led1, by rw [len1]; exact hfree, by omega⟩ (fun z => (hm z).elim) fun _ => perm)
    by_cases pl : t1.plain = true
    · refine wp_if_pos pl (wpAny_bind (hbAny_key k _ 8 kx.1 A E _ fun b => ?_))
      cases b with
      | true => exact after t1 (.inl rfl)
      | false => exact after _ (.inr rfl)
    · refine wp_if_neg pl (wpAny_bind (wpAny_pure ?_))
      exact after t1 (.inl rfl)
end
end SN
set_option Elab.async false
set_option linter.all false
set_option maxRecDepth 100000
set_option maxHeartbeats 4000000
/-! Z22: set(list of tuples), its len -/
namespace SN
open PySem PySem.Spec PyProof.Rows L2
/-- what the set has from the first i of ks -/
structure Has (ks : LK) (i : Nat) (L : LK) : Prop where
  from' : ∀ p ∈ L, p ∈ ks.take i
  got : ∀ p ∈ ks.take i, p.2 ∈ L.map (·.2)
  le : L.length ≤ i
theorem Has.start (ks : LK) : Has ks 0 [] := ⟨fun p h => (nomatch h), fun p h => (by simp at h), Nat.le_refl _⟩
theorem Has.step {ks L L' : LK} {i : Nat} {x : Addr × NestedKey} (g : Has ks i L) (h : ks[i]? = some x) (old : x.2 ∈ L.map (·.2) → L' = L) (new : x.2 ∉ L.map (·.2) → L'.Perm (x :: L)) : Has ks (i + 1) L' := by
  have cut : ks.take (i + 1) = ks.take i ++ [x] := take_next h
  by_cases c : x.2 ∈ L.map (·.2)
  · rw [old c]
    refine ⟨fun p hp => ?_, fun p hp => ?_, Nat.le_succ_of_le g.le⟩
    · rw [cut]; exact List.mem_append_left _ (g.from' p hp)
    · rw [cut, List.mem_append, List.mem_singleton] at hp
      rcases hp with z | z
      · exact g.got p z
      · rw [z]; exact c
  · have perm := new c
    refine ⟨fun p hp => ?_, fun p hp => ?_, by rw [perm.length_eq, List.length_cons]; exact Nat.succ_le_succ g.le⟩
    · rw [cut, List.mem_append, List.mem_singleton]
      rcases List.mem_cons.mp (perm.mem_iff.mp hp) with e | z
      · exact .inr e
      · exact .inl (g.from' p z)
    · rw [(perm.map (·.2)).mem_iff, List.map_cons, List.mem_cons]
      rw [cut, List.mem_append, List.mem_singleton] at hp
      rcases hp with z | z
      · exact .inr (g.got p z)
      · rw [z]; exact .inl rfl
section
variable {P : Program} {w : World} {A : Around} {E : Value → Shared → Prop} {s : Shared}
theorem SetN.keep {h h' : Heap} {a : Addr} {L : LK} {es : Array (Int × Value)} {ep : Nat} {t : SetTable} (S : SetN P w h a L es ep t) (ha : ∀ o, h.get? a = some o → h'.get? a = some o) (hk : ∀ p ∈ L, Kt P w h' p.2 p.1) : SetN P w h' a L es ep t :=
  let ⟨o, e, r⟩ := S.obj
  ⟨⟨o, ha o e, r⟩, S.list, S.tab, S.once, hk, S.led, S.room, S.few⟩
theorem SetN.new {h : Heap} {a : Addr} (ho : h.get? a = some { cls := .type "set", dict := none, data := .set #[] 0 (.fresh 0 0 (!w.params.followText "set-order")) }) : SetN P w h a [] #[] 0 (.fresh 0 0 (!w.params.followText "set-order")) where
  obj := ⟨_, ho, ⟨rfl, rfl, rfl⟩, rfl⟩
  list := rfl
  tab := ⟨List.Pairwise.nil, rfl, rfl, .inl rfl, fun _ hx => (nomatch hx), fun i h j hi => by simp at hi⟩
  once := List.nodup_nil
  keyed := fun _ hp => nomatch hp
  led := by
    cases e : w.params.followText "set-order" with
    | true => exact .inl rfl
    | false => exact .inr (by show (!false) = true; rfl)
  room := by show 0 * 5 < 7 * 3; decide
  few := by show 0 < 64; decide
/-- the loop of set.update over a walk of tuples -/
theorem fill_ok {I S : Addr} {fp wr : List Addr} {G : Array GenState → Array GenState → Prop} {n : Nat} {Pv : Nat → Value → Prop} {St : Nat → Shared → Prop} {R : Result → Shared → Prop} (W : WalksS P w A.in1 I fp wr G n Pv St) (nS : S ∉ fp) (ks : LK) (hn : n = ks.length) (few : ks.length < 64)
    (vals : ∀ i v, Pv i v → ∃ p, ks[i]? = some p ∧ v = .ref p.1) (h0 : Heap) (keyed : ∀ p ∈ ks, Kt P w h0 p.2 p.1) (freeS : h0.get? S = none) (freeW : ∀ b ∈ wr, h0.get? b = none) (hu : A.in1.units + 8 < cLine) :
    ∀ (left i : Nat) (s : Shared), n - i = left → i ≤ n → St i s → (∀ b o, h0.get? b = some o → s.heap.get? b = some o) → (∃ L es ep t, SetN P w s.heap S L es ep t ∧ Has ks i L) →
      (∀ s' L es ep t, Moved (S :: wr) G s s' → SetN P w s'.heap S L es ep t → Has ks n L → (∀ b o, h0.get? b = some o → s'.heap.get? b = some o) → R (.ok (.ret .none)) s') → codeAny (model P w) A (.builtin "set.update.loop" ⟨[.ref S, .ref I], []⟩) R s := by
  have nSw : S ∉ wr := fun z => nS (W.sub _ z)
  have up : ∀ {s s' : Shared}, Moved wr G s s' → (∀ b o, h0.get? b = some o → s.heap.get? b = some o) → ∀ b o, h0.get? b = some o → s'.heap.get? b = some o := fun m k b o e =>
    m.heap b o (fun z => by rw [freeW b z] at e; cases e) (k b o e)
  intro left
  induction left with
  | zero =>
    intro i s hl hi st k0 ⟨L, es, ep, t, hS, g⟩ fin
    obtain rfl : i = n := by omega
    refine codeAny_builtin F.entry_set_update_loop ?_
    rw [Around.under_plainId F.plain_set_update_loop _]
    show wpAny _ A.in1 (pyNext (.ref I) >>= _) _ _ s
    refine wpAny_bind (W.done s _ _ st fun s1 m => ?_)
    have k1 := up m k0
    have L1 : ∀ p ∈ L, Kt P w s1.heap p.2 p.1 := fun p hp => (keyed p (List.mem_of_mem_take (g.from' p hp))).keep k1
    show wpAny _ A.in1 (ret Value.none) _ _ s1
    exact wpAny_pure (fin s1 L es ep t (m.mono fun b hb => List.mem_cons_of_mem _ hb) (hS.keep (fun o e => m.heap S o nSw e) L1) g k1)
  | succ left ih =>
    intro i s hl hi st k0 ⟨L, es, ep, t, hS, g⟩ fin
    have lt : i < n := by omega
    refine codeAny_builtin F.entry_set_update_loop ?_
    rw [Around.under_plainId F.plain_set_update_loop _]
    show wpAny _ A.in1 (pyNext (.ref I) >>= _) _ _ s
    refine wpAny_bind (W.item i s _ _ lt st fun v s1 pv st1 m => ?_)
    obtain ⟨p, hp, rfl⟩ := vals i v pv
    have k1 := up m k0
    have L1 : ∀ q ∈ L, Kt P w s1.heap q.2 q.1 := fun q hq => (keyed q (List.mem_of_mem_take (g.from' q hq))).keep k1
    have S1 := hS.keep (h' := s1.heap) (fun o e => m.heap S o nSw e) L1
    have x1 : Kt P w s1.heap p.2 p.1 := (keyed p (List.mem_of_getElem? hp)).keep k1
    show wpAny _ A.in1 (holding [Value.ref p.1] (setAdd S (.ref p.1)) >>= _) _ _ s1
    refine wpAny_bind (wpAny_holding ?_)
    unfold setAdd
    refine wpAny_holding (wpAny_bind ((nestedKind P w).pyHash hu x1 ?_))
    refine add_ok (s := { s1 with toks := s1.toks + (nestedKind P w).draws p.2 }) S1 x1 hu (by have := g.le; omega) fun b h2 L2 es2 ep2 t2 sb S2 c1 c2 => ?_
    have k2 : ∀ b o, h0.get? b = some o → h2.get? b = some o := fun b o e => (sb.2 b fun z => by subst z; rw [freeS] at e; cases e).trans (k1 b o e)
    refine wpAny_pure ⟨plainId_quiet F.plain_set_update_loop _, ih (i + 1) _ (by omega) lt (W.frame _ s1 _ _ st1 (Nat.le_add_right _ _) fun b hb o e => ?_) k2 ⟨L2, es2, ep2, t2, S2, g.step hp c1 c2⟩ fun s3 L3 es3 ep3 t3 m3 S3 g3 k3 => ?_⟩
    · exact (sb.2 b fun z => nS (z ▸ hb)).trans e
    · refine fin s3 L3 es3 ep3 t3 (Moved.trans W.gtrans ((m.mono fun b hb => List.mem_cons_of_mem _ hb).then_heap (Nat.le_add_right _ _) fun b o hb e => ?_) m3) S3 g3 k3
      exact (sb.2 b fun z => hb (z ▸ List.mem_cons_self)).trans e
theorem set_of_list {l : Addr} {items : Array Value} (ks : LK) {Q : Value → Shared → Prop} (hh : A.handled = none) (hl : s.heap.IsList l items) (its : items.toList = ks.map fun p => Value.ref p.1) (keyed : ∀ p ∈ ks, Kt P w s.heap p.2 p.1) (few : ks.length < 64) (hu : A.units + 11 < cLine)
    (q : ∀ (h' : Heap) (tk : Nat) L es ep t, SetN P w h' s.heap.objs.size L es ep t → Has ks ks.length L → (∀ b o, s.heap.get? b = some o → h'.get? b = some o) → Q (.ref s.heap.objs.size) { s with heap := h', toks := tk }) : wpAny (model P w) A (call (.type "set") [.ref l]) Q E s := by
  have isz : items.size = ks.length := by
    have := congrArg List.length its
    rwa [Array.length_toList, List.length_map] at this
  obtain ⟨c, tl, hmro⟩ := F.called_set.mro
  have f1 := F.called_set.made
  have f2 := F.called_set.sub
  have f3 := F.called_set.notType
  have f4 := F.called_set.canCreate
  have f5 := F.typeCall_set_1 (.ref l)
  refine wpAny_call (codeAny_of_tree ?_)
  show wpAny _ _ (callAny (.type "set") _) _ _ _
  refine wpAny_pure ⟨Code.quiet_builtin _ (by decide +kernel), codeAny_builtin F.entry_type_call ?_⟩
  rw [Around.under_plain (weight_type_call_type "set" [.ref l] []) rfl]
  repeat (any_goals (first | assumption | wp_step))
  generalize hobj : ({ cls := .type "set", dict := none, data := .set #[] 0 (.fresh 0 0 (!w.params.followText "set-order")) } : Obj) = nob
  have hS : (s.heap.push nob).get? s.heap.objs.size = some nob := Heap.get?_push_size _ (by subst hobj; rfl)
  have hT : Shared.TypeIs { s with heap := s.heap.push nob } (.ref s.heap.objs.size) "set" := ⟨_, hS, by subst hobj; rfl⟩
  have size1 : (s.heap.push nob).objs.size = s.heap.objs.size + 1 := Heap.size_push ..
  refine codeAny_mono (code_set_led1 (.ref l) (E := E) (Q₁ := fun obj s₁ => obj = .ref s.heap.objs.size ∧ s₁ = { s with heap := s.heap.push nob }) ⟨rfl, by subst hobj; rfl⟩) fun r s₁ hr => ?_
  rcases r with e | fl
  · exact hr
  · cases fl with
    | ret obj =>
      obtain ⟨rfl, rfl⟩ := hr
      have f6 := F.called_set.init.lookup
      have f7 := F.called_set.init.bind (.ref s.heap.objs.size)
      repeat (any_goals (first | assumption | wp_step))
      refine codeAny_mono (codeAny_call_builtin (R := wants (fun r s₂ => r = .none ∧ ∃ h' tk L es ep t, s₂ = { s with heap := h', toks := tk } ∧ SetN P w h' s.heap.objs.size L es ep t ∧ Has ks ks.length L ∧ (∀ b o, s.heap.get? b = some o → h'.get? b = some o)) E)
        F.called_set.init.plain F.entry_set_init (check_set_init_1 hT ?_)) fun r2 s2 hr2 => ?_
      · obtain ⟨ol, hol, hcl, nl, hdl⟩ := hl
        obtain ⟨ocls, odict, odata, oslots⟩ := ol
        simp only at hcl hdl
        subst hcl; subst hdl
        have hol1 : (s.heap.push nob).get? l = some { cls := .type "list", dict := odict, data := .seq items nl, slots := oslots } := Heap.get?_push_of_some _ hol
        have f8 := F.sub_list_set
        have f9 := F.sub_list_frozenset
        have f10 : (Value.type "list" == Value.type "dict") = false := by decide
        have hl1 : (s.heap.push nob).IsList l items := ⟨_, hol1, rfl, nl, rfl⟩
        have ltl : l < s.heap.objs.size := Heap.lt_size hol
        have nl' : l ≠ (s.heap.push nob).objs.size := by rw [size1]; exact Nat.ne_of_lt (Nat.lt_succ_of_lt ltl)
        have nS : s.heap.objs.size ∉ [(s.heap.push nob).objs.size, l] := by
          rw [size1]
          simp only [List.mem_cons, List.not_mem_nil, or_false, not_or]
          exact ⟨Nat.ne_of_lt (Nat.lt_succ_self _), Nat.ne_of_gt ltl⟩
        subst hobj
        unfold Builtin.«set.__init__» noKeywords Builtin.Frozenset.updateFrom
        generalize hPI : pyIter = PI
        wp_walk
        subst hPI
        refine wpAny_pyIter_list hl1 ?_
        refine wpAny_bind (wpAny_runValue ?_)
        have free : ∀ b, s.heap.objs.size ≤ b → s.heap.get? b = none := fun b hb => by
          cases z : s.heap.get? b with
          | none => rfl
          | some o => exact absurd (Heap.lt_size z) (Nat.not_lt.mpr hb)
        have hh3 : A.in1.in1.in1.handled = none := by simp [hh]
        refine fill_ok (Walks.list hh3 _ l nl' items).toS nS ks isz few (fun i v hv => ?_) s.heap keyed (free _ (Nat.le_refl _)) (fun b hb => free b (by rw [List.mem_singleton.mp hb, Heap.size_push]; exact Nat.le_succ _)) hu (items.size - 0) 0 _ (by omega) (Nat.zero_le _)
          ⟨⟨_, Heap.get?_push_size _ rfl, rfl, rfl⟩, hl1.push _⟩ (fun b o e => Heap.get?_push_of_some _ (Heap.get?_push_of_some _ e)) ⟨[], #[], 0, _, SetN.new (Heap.get?_push_of_some _ hS), Has.start ks⟩ fun s' L es ep t m S' g k' => ?_
        · have z : items.toList[i]? = some v := by rw [Array.getElem?_toList]; exact hv
          rw [its, List.getElem?_map] at z
          cases y : ks[i]? with
          | none => rw [y] at z; cases z
          | some p =>
            rw [y] at z
            exact ⟨p, rfl, (Option.some.inj z).symm⟩
        · obtain ⟨h', g2, d', tk', os'⟩ := s'
          have e1 : g2 = s.gens := m.gens
          have e2 : d' = s.drawn := m.drawn
          have e3 : os' = s.os := m.os
          subst e1; subst e2; subst e3
          rw [isz] at g
          refine wpAny_pure ?_
          exact wpAny_pure ⟨rfl, h', tk', L, es, ep, t, rfl, S', g, k'⟩
      · rcases r2 with e | fl2
        · exact hr2
        · cases fl2 with
          | ret r =>
            obtain ⟨rfl, h', tk, L, es, ep, t, rfl, S', g, k'⟩ := hr2
            repeat (any_goals (first | assumption | wp_step))
            exact q h' tk L es ep t S' g k'
          | _ => exact hr2.elim
    | _ => exact hr.elim
end
end SN
set_option Elab.async false
set_option linter.all false
set_option maxRecDepth 100000
set_option maxHeartbeats 4000000
/-! Z23: len(set(xs)), xs a list of tuples -/
namespace Z
open PySem L2
def keyTs : List W → Option (List NestedKey)
  | [] => some []
  | w :: ws => if isTupW w = true then (keyN w).bind fun k => if k.depth ≤ 8 then (keyTs ws).map fun ks => k :: ks else none else none
def onceK : List NestedKey → List NestedKey
  | [] => []
  | k :: r => if k ∈ r then onceK r else k :: onceK r
theorem mem_onceK {k : NestedKey} : ∀ {l : List NestedKey}, k ∈ onceK l ↔ k ∈ l
  | [] => Iff.rfl
  | x :: r => by
    unfold onceK
    by_cases h : x ∈ r
    · rw [if_pos h, mem_onceK, List.mem_cons]
      exact ⟨.inr, fun z => z.elim (fun e => e ▸ h) id⟩
    · rw [if_neg h, List.mem_cons, mem_onceK, List.mem_cons]
theorem nodup_onceK : ∀ (l : List NestedKey), (onceK l).Nodup
  | [] => List.nodup_nil
  | x :: r => by
    unfold onceK
    by_cases h : x ∈ r
    · rw [if_pos h]; exact nodup_onceK r
    · rw [if_neg h]; exact List.nodup_cons.mpr ⟨fun z => h (mem_onceK.mp z), nodup_onceK r⟩
theorem len_le_of_sub : ∀ {a b : List NestedKey}, a.Nodup → (∀ x ∈ a, x ∈ b) → a.length ≤ b.length
  | [], _, _, _ => Nat.zero_le _
  | x :: r, b, hn, h => by
    obtain ⟨h1, h2⟩ := List.nodup_cons.mp hn
    have hx := h x List.mem_cons_self
    have := len_le_of_sub (b := b.erase x) h2 fun y hy => (List.mem_erase_of_ne (a := y) (b := x) (fun z : y = x => h1 (z ▸ hy))).mpr (h y (List.mem_cons_of_mem _ hy))
    rw [List.length_erase_of_mem hx] at this
    have := List.length_pos_of_mem hx
    simp only [List.length_cons]
    omega
def lstW (A : AH) : W → Option (List W)
  | .loc n => match A[n]? with
    | some (.lst ws) => some ws
    | _ => none
  | _ => none
def zLenSet (f : ZE) : ZE := fun E A => (f E A).bind fun p => (lstW p.2 p.1).bind fun ws => (keyTs ws).bind fun ks => if ks.length < 64 then some (.int (onceK ks).length, p.2) else none
theorem keyTs_ok [Tabs] {X : Cx} {pins : List (Addr × Obj)} {σ : St} {H : Hp} {s : Shared} {ι : List Addr} (I : Inv X pins σ H s) : ∀ {ws : List W} {vs : List V} {us : List Value} {ks' : List NestedKey}, RWs X.kw H ι vs ws → keyTs ws = some ks' → Vals vs us →
    ∃ ks : SN.LK, us = ks.map (fun p => Value.ref p.1) ∧ ks.map (·.2) = ks' ∧ ∀ p ∈ ks, SN.Kt X.prog X.w s.heap p.2 p.1
  | [], _, _, _, .nil, e, r => by cases e; cases r; exact ⟨[], rfl, rfl, fun _ h => nomatch h⟩
  | w :: ws, _, _, ks', .cons h1 h2, e, r => by
    unfold keyTs at e
    split at e
    · rename_i ht
      cases q : keyN w with
      | none => rw [q] at e; cases e
      | some k =>
        rw [q] at e
        simp only [Option.bind_some] at e
        split at e
        · rename_i hd
          cases q2 : keyTs ws with
          | none => rw [q2] at e; cases e
          | some l =>
            rw [q2] at e; cases e
            cases r with
            | cons ru rus =>
              obtain ⟨ks, e1, e2, e3⟩ := keyTs_ok I h2 q2 rus
              have hn := RW.nested I w h1 q ru
              cases w with
              | tup xs =>
                cases h1 with
                | tup a b =>
                  rename_i ad xs'
                  obtain rfl := (show _ = Value.ref _ from ru)
                  refine ⟨(ad, k) :: ks, by rw [e1]; rfl, by simp [e2], fun p hp => ?_⟩
                  rcases List.mem_cons.mp hp with z | z
                  · subst z; exact ⟨hn, hd⟩
                  · exact e3 p z
              | _ => cases ht
        · cases e
    · cases e
open PySem.Spec PyProof.Rows in
theorem z_lenSet [Tabs] {X : Cx} {a : Expr} {f : ZE} {p p2 q pos : Pos} {k0 : Nat} (hr : Room k0 X.A) (hc : X.calm = true) (hg : Gl X "len") (hm : X.mg "len" = none) (hg2 : Gl X "set") (hm2 : X.mg "set" = none) (ha : PZ X a f)
    (na : starEach [a] X.env = (false, eval a X.env) :: starEach [] X.env := by rfl) : PZ X (.Call (.Name "len" p) [.Call (.Name "set" p2) [a] [] q] [] pos) (zLenSet f) := by
  refine ⟨fun pins s σ H Q I h => ?_⟩
  obtain ⟨ι, E, A, w, A', r1, r2, e, qq⟩ := h
  unfold zLenSet at e
  cases ef : f E A with
  | none => rw [ef] at e; cases e
  | some z =>
    rw [ef] at e
    simp only [Option.bind_some] at e
    cases el : lstW z.2 z.1 with
    | none => rw [el] at e; cases e
    | some ws =>
      rw [el] at e
      simp only [Option.bind_some] at e
      cases ek : keyTs ws with
      | none => rw [ek] at e; cases e
      | some ks' =>
        rw [ek] at e
        simp only [Option.bind_some] at e
        split at e
        · rename_i few
          cases e
          refine Call_ (ld_blt I hg hm PySem.boot_len ?_)
          refine PyProof.Rows.callWith_builtin1 (PyProof.Rows.args_cons ?_ rfl) rfl rfl
          refine Call_ (ld_blt I hg2 hm2 PyProof.Rows.boot_set ?_)
          refine PyProof.Rows.callWith_type1 (PyProof.Rows.args_cons (thn (ha.run pins s σ H (fun x H1 => ∃ ι1, Gr H H1 ι ι1 ∧ RW X.kw H1 ι1 x z.1 ∧ RH X.kw H1 ι1 z.2) I (tZ_go r1 r2 (ef.trans rfl : f E A = some (z.1, z.2)) fun v H1 ι1 g rv rh => ⟨ι1, g, rv, rh⟩)) fun v s1 ⟨x, H1, I1, rel, ι1, g, rv, rh⟩ => PyProof.Rows.args_nil ?_) na) na rfl
          unfold lstW at el
          split at el
          · rename_i u n hz
            split at el
            · rename_i ws' hA
              cases el
              rw [hz] at rv
              cases rv with
              | loc hi =>
                rename_i l
                obtain ⟨xs, hx, rxs⟩ := rh.lst hA hi
                obtain rfl := (show v = Value.ref l from rel)
                obtain ⟨its, rv', pl, hzz⟩ := I1.list (SqL.of hx)
                obtain ⟨ks, e1, e2, e3⟩ := keyTs_ok I1 rxs ek rv'
                have un := hr.un
                refine SN.set_of_list ks (I1.ok.hd hc) pl.isList (by simpa using e1) e3 (by have := congrArg List.length e2; simp at this; omega) (by omega) fun h' tk L es ep t S g' keep => ?_
                refine PyProof.Rows.args_nil ?_
                obtain ⟨o, ho, hex, hd⟩ := S.obj
                have cnt : es.size = L.length := by
                  have := congrArg List.length S.list
                  rwa [SN.laid_len, Array.length_toList] at this
                have fit : t.fits es.size = true := SN.SetN.fit (s := { s1 with heap := h' }) S
                have I2 : Inv X pins σ H1 { s1 with heap := h', toks := tk } := I1.kept fun b o e => keep b o e
                have same : L.length = (onceK ks').length := by
                  have a1 : (L.map (·.2)).length ≤ (onceK ks').length := len_le_of_sub S.once fun y hy => by
                    obtain ⟨pp, hp, rfl⟩ := List.mem_map.mp hy
                    rw [mem_onceK, ← e2]
                    exact List.mem_map_of_mem (List.mem_of_mem_take (g'.from' pp hp))
                  have a2 : (onceK ks').length ≤ (L.map (·.2)).length := len_le_of_sub (nodup_onceK _) fun y hy => by
                    rw [mem_onceK, ← e2] at hy
                    obtain ⟨pp, hp, rfl⟩ := List.mem_map.mp hy
                    exact g'.got pp (by rw [List.take_length]; exact hp)
                  rw [List.length_map] at a1 a2
                  omega
                have fewL := S.few
                exact call_len_set ho hex hd fit (by rw [cnt]; omega) ⟨.int (onceK ks').length, H1, I2.tok _, ⟨_, by rw [cnt, same]⟩, qq _ H1 ι1 g (.int _) rh⟩
            · cases el
          · cases el
        · cases e
end Z
set_option Elab.async false
set_option linter.all false
set_option maxRecDepth 100000
set_option maxHeartbeats 4000000
/-! Z24: not in of a dict; classes as the generator of texts wants them -/
namespace Z
open PySem L2
def zNotB (f : ZE) : ZE := fun E A => (f E A).bind fun p => match p.1 with
  | .bl b => some (.bl (!b), p.2)
  | _ => none
theorem ok_dnotin {K : KW} {y x : V} {H : Hp} {Q : VK} {u v : W} {w : W} {A A' : AH} {ι : List Addr} (h1 : RW K H ι y u) (h2 : RW K H ι x v) (h3 : RH K H ι A) (h4 : sDIn u v A = some (w, A')) (q : ∀ b H' ι', Gr H H' ι ι' → w = .bl b → RH K H' ι' A' → Q (.bl (!b)) H') :
    ∃ a o, x = .ref a ∧ DGet H a y o ∧ Q (.bl (!o.isSome)) H := by
  obtain ⟨a, o, e1, e2, b, eb, g⟩ := ok_din H ι A y x u v w A' (fun z H' => ∃ b, z = .bl b ∧ Q (.bl (!b)) H') h1 h2 h3 h4 fun z H' ι' g rz rh => by
    unfold sDIn at h4
    split at h4
    · split at h4
      · cases h4
        cases rz
        exact ⟨_, rfl, q _ H' ι' g rfl rh⟩
      · cases h4
    · cases h4
  refine ⟨a, o, e1, e2, ?_⟩
  cases eb
  exact g
section
variable {X : Cx} {i o : Expr} {fi fo : ZE} {pos : Pos}
theorem dnotin_go {K : KW} {f g : ZE} {σ : St} {H : Hp} {Q : VK} (h : tZ K (zNotB (z2 sDIn f g)) σ H Q) : tZ K f σ H fun y H1 => tZ K g σ H1 fun x H2 => ∃ a o, x = .ref a ∧ DGet H2 a y o ∧ Q (.bl (!o.isSome)) H2 := by
  obtain ⟨ι, E, A, w, A', r1, r2, e, q⟩ := h
  unfold zNotB z2 at e
  cases ef : f E A with
  | none => rw [ef] at e; cases e
  | some p =>
    rw [ef] at e
    simp only [Option.bind_some] at e
    cases eg : g E p.2 with
    | none => rw [eg] at e; cases e
    | some z =>
      rw [eg] at e
      simp only [Option.bind_some] at e
      cases es : sDIn p.1 z.1 z.2 with
      | none => rw [es] at e; cases e
      | some y =>
        rw [es] at e
        simp only [Option.bind_some] at e
        obtain ⟨yw, yA⟩ := y
        split at e
        · rename_i b hb
          simp only at hb
          cases e
          refine tZ_go r1 r2 (ef.trans rfl : f E A = some (p.1, p.2)) fun v1 H1 ι1 g1 rv1 rh1 => ?_
          refine tZ_go (r1.up g1) rh1 (eg.trans rfl : g E p.2 = some (z.1, z.2)) fun v2 H2 ι2 g2 rv2 rh2 => ?_
          exact ok_dnotin (rv1.up g2) rv2 rh2 es fun b' H' ι' g3 e3 rh3 => by
            rw [hb] at e3
            cases e3
            exact q _ H' ι' (g1.trans (g2.trans g3)) (.bl _) rh3
        · cases e
theorem zt_dnotin [Tabs] (hu : X.A.units + 1 < cLine) (hi : PZ X i fi) (ho : PZ X o fo) (h1 : behindInMarks .NotIn o = false := by rfl) : PTZ X (.Compare i [.NotIn] [o] pos) (zBl (zNotB (z2 sDIn fi fo))) := impT (pt_cmp (pc_dnotin hu hi ho) h1) fun σ H Q q => dnotin_go (zBl_go q)
theorem z_dnotin [Tabs] (hu : X.A.units + 1 < cLine) (hi : PZ X i fi) (ho : PZ X o fo) (h1 : behindInMarks .NotIn o = false := by rfl) : PZ X (.Compare i [.NotIn] [o] pos) (zNotB (z2 sDIn fi fo)) := imp (pe_cmp (pc_dnotin hu hi ho) h1) fun σ H Q q => dnotin_go q
end
/-- a class as the top has made it -/
structure ClsZ (K : PySem.W.Frag) (C : Addr) (fs : List Str) : Prop where
  cls : Cls K C
  na : ∀ f ∈ fs, NoAttr K C f
theorem Mth.mono [Tabs] {P : Program} {w : World} {K : PySem.W.Frag} {mg : Str → Option Value} {base : Heap} {j k : Nat} {C : Addr} {m : Str} {n : Nat} {F : ZF} (c : Mth P w K mg base j C m n F) (h : j ≤ k) : Mth P w K mg base k C m n F :=
  let ⟨f, fd, ps, G, r⟩ := c.ex
  ⟨f, fd, ps, G.mono h, r⟩
end Z
namespace Z
open PySem L2
/-! list(range(i, j, -1)) -/
def dnW (i : Int) (n : Nat) : List W := (List.range n).map fun k => .int (i - (k : Nat))
def dnV (i : Int) (n : Nat) : List V := (List.range n).map fun k => .int (i - (k : Nat))
def zListDn (g : ZA) : ZE := fun E A => (g E A).bind fun p => match p.1 with
  | [.int i, .int j, .int c] => if c = -1 ∧ Builtin.Range.small i j (-1) = true ∧ Builtin.Range.rangeSize i j (-1) = ((i - j).toNat : Nat) ∧ (i - j).toNat ≤ 1000 then some (.loc p.2.length, p.2 ++ [.lst (dnW i (i - j).toNat)]) else none
  | _ => none
theorem dn_rw {K : KW} {H : Hp} {ι : List Addr} (i : Int) : ∀ (l : List Nat), RWs K H ι (l.map fun k => V.int (i - (k : Nat))) (l.map fun k => W.int (i - (k : Nat)))
  | [] => .nil
  | k :: l => .cons (.int _) (dn_rw i l)
open PySem.Spec PyProof.Rows in
theorem z_listDn [Tabs] {X : Cx} {a b c : Expr} {g : ZA} {p p2 pos2 pos : Pos} (hc : X.calm = true) (hg : Gl X "list") (hm : X.mg "list" = none) (hg2 : Gl X "range") (hm2 : X.mg "range" = none) (ha : PAZ X [a, b, c] g)
    (hs : starEach [a, b, c] X.env = (false, eval a X.env) :: starEach [b, c] X.env := by rfl) (hpl : (backTo pos2 (starEach [b, c] X.env)).any (·.1) = false := by rfl)
    (na : starEach [.Call (.Name "range" p2) [a, b, c] [] pos2] X.env = (false, eval (.Call (.Name "range" p2) [a, b, c] [] pos2) X.env) :: starEach [] X.env := by rfl) :
    PZ X (.Call (.Name "list" p) [.Call (.Name "range" p2) [a, b, c] [] pos2] [] pos) (zListDn g) := by
  refine ⟨fun pins s σ H Q I h => ?_⟩
  obtain ⟨ι, E, A, w, A', r1, r2, e, q⟩ := h
  unfold zListDn at e
  cases eg : g E A with
  | none => rw [eg] at e; cases e
  | some z =>
    rw [eg] at e
    simp only [Option.bind_some] at e
    split at e
    · rename_i i j cc hz
      split at e
      · rename_i hb
        obtain ⟨rfl, b1, b2, b3⟩ := hb
        cases e
        refine Call_ (ld_blt I hg hm boot_list (PyProof.Rows.callWith_type1 (args_cons ?_ na) na))
        refine Call_ (ld_blt I hg2 hm2 boot_range (PyProof.Rows.callWith_type1 (thn (ha.run _ pins s σ H (fun vs H1 => ∃ ι1, Gr H H1 ι ι1 ∧ RWs X.kw H1 ι1 vs z.1 ∧ RH X.kw H1 ι1 z.2) I (tZA_go r1 r2 (eg.trans rfl : g E A = some (z.1, z.2)) fun vs H1 ι1 g1 rv rh => ⟨ι1, g1, rv, rh⟩)) fun us s1 ⟨vs, H1, I1, rel, ι1, g1, rv, rh⟩ => ?_) hs hpl))
        rw [hz] at rv
        cases rv with
        | cons h1 rv =>
          cases rv with
          | cons h2 rv =>
            cases rv with
            | cons h3 rv =>
              cases rv
              cases h1; cases h2; cases h3
              cases rel with
              | cons r rr =>
                cases rr with
                | cons r' rr =>
                  cases rr with
                  | cons r'' rr =>
                    cases rr
                    obtain ⟨t, rfl⟩ := r
                    obtain ⟨t', rfl⟩ := r'
                    obtain ⟨t'', rfl⟩ := r''
                    refine call_range_3 (by decide) ?_ (.inl (PyProof.noPylong_small (by decide)))
                    refine args_nil ?_
                    have I2 : Inv X pins σ H1 { s1 with heap := s1.heap.push { cls := .type "range", data := .fields #[.int i t, .int j t', .int (-1) t''] } } := I1.kept (t' := s1.toks) fun b o e => Heap.get?_push_of_some _ e
                    refine call_list_range (n := (i - j).toNat) (I2.ok.hd hc) (IsRange.new ..) b1 b2 (by omega) fun h' tk acc c' hk e' hi => ?_
                    have hfr := I2.hok.fresh (Nat.le_refl _)
                    have rr : RWs X.kw H1 ι1 (dnV i (i - j).toNat) (dnW i (i - j).toNat) := dn_rw i _
                    obtain ⟨x1, x2, x3⟩ := new_lst rh hfr rr
                    have hv : Vals (dnV i (i - j).toNat) acc.toList := by
                      have el : acc.toList.length = (i - j).toNat := by rw [Array.length_toList]; exact hi.1
                      unfold dnV
                      rw [← el]
                      refine vals_of_get acc.toList _ fun k u hk => ?_
                      obtain ⟨t, rfl⟩ := hi.2 k u (by rw [← hk, Array.getElem?_toList])
                      exact ⟨t, by rw [show i + (k : Int) * (-1) = i - (k : Nat) by omega]⟩
                    refine ⟨V.ref _, upd H1 _ (.lst (dnV i (i - j).toNat)), I2.laid (t' := tk) hk (Nat.le_refl _) (show ObjOk X.prog X.w _ _ _ (.lst (dnV i (i - j).toNat)) from ⟨?_, acc.toList, c', hv, ?_⟩), rfl, q _ _ _ (g1.trans x3) x1 x2⟩
                    · unfold dnV
                      rw [List.length_map, List.length_range, sizeLine_eq]
                      omega
                    · rw [Array.toArray_toList]; exact e'
      · cases e
    · cases e
end Z
set_option Elab.async false
set_option linter.all false
set_option maxRecDepth 100000
set_option maxHeartbeats 4000000
/-! Z25: the end: from the promise of law by values to the row -/
namespace Z
open PySem L2
/-- what the end tells of the tables of the defs that the walk sees -/
def TabsOf (q : Program) (K : PySem.W.Frag) (h : Heap) : Prop := ∀ (x : Str) (c P : Addr), ((PyProof.Rows.recsOf q).any fun e => e.name == x) = true → PySem.W.tabIn K x = some (c, P) → PySem.W.CodeHd h c P ∧ h.get? P = some { cls := .none, data := .fields #[] }
open PySem.W PySem.Spec PyProof.Rows in
theorem walk_tabs {l : PySem.W.OpenLaw} {n k : Nat} {q : Program} {loose : List Str} {XP : (Str → Option Value) → Heap → Prop} {YP : World → Heap → Prop} {d : DefRec} {K : Params → PySem.W.Frag} {x : Str}
    (hn : l.most = some n) (hn2 : n ≤ sizeLine) (hdf : d.params.defaults = []) (hr : Room k callerA) (hY : ∀ (w : World) (h : Heap), YP w h → (K w.params).In h)
    (F : ∀ (w : World) (mg : Str → Option Value) (fa : Addr) (h : Heap), (K w.params).In h → h.Ns mainGlobals mg → mg d.name = some (.ref fa) → TabsOf q (K w.params) h → LamX.LawAtS l w (K w.params) CX0 k n x mg fa h) :
    PySem.W.WalkO q loose XP YP l.row.toRowW d [] (fun f vs => PySem.call f vs) := by
  refine Att.attach_callB hn hdf fun w s₀ s₁ mg mb fa o pm cd doc a vs ns G Y ho hd hcd hmg hobj hints hlen hbits hg => ?_
  have KX := hY w _ Y
  have tabs : TabsOf q (K w.params) s₁.heap := fun x c P hx ht => by
    cases e : (PyProof.Rows.recsOf q).find? (fun e => e.name == x) with
    | none =>
      obtain ⟨y, hy, hn⟩ := List.any_eq_true.mp hx
      have := List.find?_eq_none.mp e y hy
      exact absurd hn this
    | some d' => exact PySem.W.tab_of G.T KX e ht
  obtain ⟨fd, cs, sp, hT, nT, C, hb, hsp, hF⟩ := F w mg fa _ KX G.T.g hmg tabs
  exact LamX.law_callTs KX G.T.g G.T.b G.T.builtins G.T.nolimit hg hT nT C G.T.bmain hobj hints (Nat.le_trans hlen hn2) hr hF hb (fun H hH hS => hsp H a ns hlen hbits hH hS) fun H e s' z => z
theorem cal_none [Tabs] {P : Program} {w : World} {K : PySem.W.Frag} {mg : Str → Option Value} {base : Heap} {x qual : Str} {st : Stmt} {f : Addr} {fd : FuncData} {N ps : List Str} (F : Fun K x qual st f fd) (S : FnScope N ps (defScope st)) (m : mg x = some (.ref f)) (bd : Binds K fd ps []) : Cal P w K mg base 1 x ps.length (fun _ _ => none) :=
  ⟨f, fd, ps, (F.ok (k := 0) S (fun vs H Q E h => h.1) fun cdv A outer s H vs Q E hr h => by
    obtain ⟨_, _, _, _, _, _, _, _, e, _⟩ := h
    cases e), m, F.kp, bd⟩
end Z
set_option Elab.async false
set_option linter.all false
set_option maxRecDepth 100000
set_option maxHeartbeats 4000000
namespace Z
open PySem L2
/-- the script as a value: a list that is frozen, or the first thing of the heap -/
def IsScript (A : AH) (s : W) (ns : List Int) : Prop := (A = [] ∧ s = .frl (ns.map .int)) ∨ (A = [.lst (ns.map .int)] ∧ s = .loc 0)
theorem ints_rws {K : KW} {H : Hp} {ι : List Addr} : ∀ ns : List Int, RWs K H ι (ns.map V.int) (ns.map W.int)
  | [] => .nil
  | n :: ns => .cons (.int n) (ints_rws ns)
theorem script_sp {K : PySem.W.Frag} {P : Program} {w : World} {T : List Addr} {F : ZF} {H : Hp} {a : Addr} {ns : List Int} (tab : ∀ P ∈ T, GxR.TabG H P) (hS : SqL K H a (ns.map V.int)) (h : ∀ A s, IsScript A s ns → ∃ A', F [s] A = some (.bl true, A')) :
    spZ ⟨K, P, w, T⟩ 1 F [.ref a] H (fun v _ => v = .bl true) fun _ _ _ => False := by
  refine ⟨rfl, ?_⟩
  have fin : ∀ (ι : List Addr) (s : W) (A : AH), RW ⟨K, P, w, T⟩ H ι (.ref a) s → RH ⟨K, P, w, T⟩ H ι A → IsScript A s ns → ∃ ι ws A w1 A', RWs ⟨K, P, w, T⟩ H ι [.ref a] ws ∧ RH ⟨K, P, w, T⟩ H ι A ∧ F ws A = some (w1, A') ∧ ∀ v H' ι', Gr H H' ι ι' → RW ⟨K, P, w, T⟩ H' ι' v w1 → RH ⟨K, P, w, T⟩ H' ι' A' → v = .bl true := fun ι s A r rh hs => by
    obtain ⟨A', e⟩ := h A s hs
    refine ⟨ι, [s], A, _, A', .cons r .nil, rh, e, fun v H' ι' _ rv _ => ?_⟩
    cases rv
    rfl
  have rh0 : RH ⟨K, P, w, T⟩ H [] [] := ⟨rfl, List.nodup_nil, tab, fun n mo a h _ => by simp at h⟩
  rcases hS with (h1 | ⟨o, h1⟩) | h1
  · refine fin [a] (.loc 0) [.lst (ns.map .int)] (.loc rfl) ⟨rfl, by simp, tab, fun n mo b hb hc => ?_⟩ (.inr ⟨rfl, rfl⟩)
    cases n with
    | zero =>
      simp at hb hc
      subst hb; subst hc
      exact ⟨_, h1, ints_rws ns⟩
    | succ n => simp at hb
  · exact fin [] _ [] (.frl (.inl ⟨o, h1⟩) (ints_rws ns)) rh0 (.inl ⟨rfl, rfl⟩)
  · exact fin [] _ [] (.frl (.inr h1) (ints_rws ns)) rh0 (.inl ⟨rfl, rfl⟩)
end Z
set_option Elab.async false
set_option linter.all false
set_option maxRecDepth 100000
set_option maxHeartbeats 4000000
/-! Z27: list.extend with a tuple -/
namespace SE
open PySem PySem.Spec PyProof.Rows L2 PySem.AutoSeq1
theorem ext_tup (l b : Addr) (xs ys : Array Value) (n m : Nat) (od : Option Addr) (sl : Array (Option Value)) (short : ¬(!xs.isEmpty && Builtin.List.listTooLong (xs.size + ys.size)) = true) (h1 : xs.size ≤ sizeLine) (h2 : xs.size + ys.size ≤ sizeLine + 1) :
    Meets (Builtin.«list.extend» ⟨[.ref l, .ref b], []⟩) (fun _ R s => (s.heap.get? l = some { cls := .type "list", dict := none, data := .seq xs n, slots := #[] } ∧ s.heap.get? b = some { cls := .type "tuple", dict := od, data := .seq ys m, slots := sl }) ∧ R (.ok (.ret Value.none)) { s with heap := s.heap.update l (Obj.mapSeq fun x => x ++ ys), toks := s.toks }) := by
  refine .of_wp fun prog w A R s h => ?_
  obtain ⟨hp, gs, dr, tk, os⟩ := s
  obtain ⟨⟨hl, hb⟩, h⟩ := h
  have k1 := idx_int
  have k2 := PySem.AutoSeq1.sub_tuple_tuple
  have k3 := PySem.AutoSeq1.sub_list_list
  have k4 := PySem.AutoSeq1.sub_tuple_list
  have k5 := PySem.AutoSeq1.sub_list_tuple
  have h3 : (xs ++ ys).size ≤ sizeLine + 1 := Array.size_append ▸ h2
  wp_walk using (wpAny_updateSeq hl rfl (hz := h1) (_hz' := h3)), wpAny_loadPart' hl, wpAny_loadPart' hb
  exact ⟨_, rfl, h⟩
end SE
namespace Z
open PySem L2
def rExtT (K : PySem.W.Frag) : V → List V → Hp → VK → Prop := fun x vs H Q => ∃ l b xs zs, x = .ref l ∧ vs = [.ref b] ∧ H l = some (.lst xs) ∧ SqT K H b zs ∧ xs.length + zs.length ≤ sizeLine ∧ Q .non (upd H l (.lst (xs ++ zs)))
open PySem.Spec PyProof.Rows in
theorem mt_extT {X : Cx} : MtM X "list.extend" (rExtT X.K) := by
  intro pins s σ H x vs v us Q I rx rv h
  obtain ⟨l, b, xs, zs, rfl, rfl, hH, hB, hz, q⟩ := h
  cases rx
  obtain ⟨u, rfl, ru⟩ := rv.one
  cases ru
  obtain ⟨z, its, n, r, hl, e⟩ := I.lstM hH
  obtain ⟨its2, r2, ⟨o2, e2, c2, m2, d2⟩, z2⟩ := I.tuple hB
  have l1 := r.length
  have l2 := r2.length
  obtain ⟨oc, od, odata, osl⟩ := o2
  simp only at c2 d2
  subst c2; subst d2
  have long : ¬ (!its.toArray.isEmpty && Builtin.List.listTooLong (its.toArray.size + its2.toArray.size)) = true := by
    rw [notLongL (by rw [List.size_toArray, List.size_toArray]; omega), Bool.and_false]
    exact Bool.false_ne_true
  refine call_meets F.slot_list_extend ⟨_, e, rfl⟩ F.entry_list_extend (F.args_list_extend_2 _ _) (SE.ext_tup l b its.toArray its2.toArray n m2 od osl long (by rw [List.size_toArray]; omega) (by rw [List.size_toArray, List.size_toArray]; omega)) ⟨⟨e, e2⟩, ?_⟩
  refine ⟨.non, _, I.lset (its' := its ++ its2) hH e (by simp) (r.append r2) ?_, rfl, q⟩
  rw [List.length_append]
  omega
def sExtT : SM := fun u us A => match u, us with
  | .loc n, [.tup zs] => match A[n]? with
    | some (.lst ws) => if ws.length + zs.length ≤ sizeLine then some (.non, A.set n (.lst (ws ++ zs))) else none
    | _ => none
  | _, _ => none
theorem ok_extT {K : KW} : RMOk K "list" (rExtT K) sExtT (fun u A => isLstB u A = true) := by
  refine ⟨isLst_ok, ?_⟩
  intro H ι A x u xs us w A' Q h1 h2 h3 h4 q
  unfold sExtT at h4
  split at h4
  · split at h4
    · rename_i n zs _ ws e
      split at h4
      · rename_i hz
        cases h4
        cases h1 with
        | loc i =>
          cases h2 with
          | cons a b =>
            cases b
            cases a with
            | tup c d =>
              obtain ⟨ys, a1, b1⟩ := h3.lst e i
              obtain ⟨x2, x3⟩ := h3.setL (ws' := ws) i a1 (b1.append d)
              exact ⟨_, _, ys, _, rfl, rfl, a1, c.sqt, by rw [b1.length, d.length]; exact hz, q _ _ _ x3 .non x2⟩
      · cases h4
    · cases h4
  · cases h4
theorem MtM_or {X : Cx} {id : String} {r r' : V → List V → Hp → VK → Prop} (h : MtM X id r) (h' : MtM X id r') : MtM X id (fun x vs H Q => r x vs H Q ∨ r' x vs H Q) := fun pins s σ H x vs v us Q I rx rv q => q.elim (h pins s σ H x vs v us Q I rx rv) (h' pins s σ H x vs v us Q I rx rv)
theorem RMOk.or {K : KW} {T : String} {r r' : V → List V → Hp → VK → Prop} {s s' : SM} {ok : W → AH → Prop} (h : RMOk K T r s ok) (h' : RMOk K T r' s' ok) : RMOk K T (fun x vs H Q => r x vs H Q ∨ r' x vs H Q) (fun u us A => (s u us A).or (s' u us A)) ok := by
  refine ⟨h.1, fun H ι A x u xs us w A' Q h1 h2 h3 h4 q => ?_⟩
  cases e : s u us A with
  | none =>
    simp only [e, Option.none_or] at h4
    exact .inr (h'.2 H ι A x u xs us w A' Q h1 h2 h3 h4 q)
  | some p =>
    simp only [e, Option.some_or] at h4
    exact .inl (h.2 H ι A x u xs us w A' Q h1 h2 h3 (e.trans h4) q)
def sExtU : SM := fun u us A => (sExtend u us A).or (sExtT u us A)
theorem mt_extU {X : Cx} : MtM X "list.extend" (fun x vs H Q => rExtend x vs H Q ∨ rExtT X.K x vs H Q) := MtM_or mt_extend mt_extT
theorem ok_extU {K : KW} : RMOk K "list" (fun x vs H Q => rExtend x vs H Q ∨ rExtT K x vs H Q) sExtU (fun u A => isLstB u A = true) := ok_extend.or ok_extT
end Z
set_option Elab.async false
set_option linter.all false
set_option maxRecDepth 100000
set_option maxHeartbeats 4000000
/-! Y0: working out what the combinators do -/
namespace Z
open PySem L2
def Wp {α : Type} (x : Option (α × AH)) (P : α → AH → Prop) : Prop := ∃ a A', x = some (a, A') ∧ P a A'
section
variable {α β : Type} {P : α → AH → Prop} {Q : β → AH → Prop} {x : Option (α × AH)}
theorem Wp.some {a : α} {A : AH} : Wp (.some (a, A)) P ↔ P a A := ⟨fun ⟨_, _, e, h⟩ => by cases e; exact h, fun h => ⟨_, _, rfl, h⟩⟩
theorem Wp.some' {p : α × AH} : Wp (.some p) P ↔ P p.1 p.2 := Wp.some
theorem Wp.none : Wp (Option.none : Option (α × AH)) P ↔ False := ⟨fun ⟨_, _, e, _⟩ => (nomatch e), fun h => h.elim⟩
theorem Wp.bind {k : α × AH → Option (β × AH)} : Wp (x.bind k) Q ↔ Wp x fun a A => Wp (k (a, A)) Q := by
  constructor
  · rintro ⟨b, A', e, h⟩
    cases x with
    | none => cases e
    | some p => exact ⟨p.1, p.2, rfl, b, A', e, h⟩
  · rintro ⟨a, A, rfl, b, A', e, h⟩
    exact ⟨b, A', e, h⟩
theorem Wp.map {k : α × AH → β × AH} : Wp (x.map k) Q ↔ Wp x fun a A => Q (k (a, A)).1 (k (a, A)).2 := by
  constructor
  · rintro ⟨b, A', e, h⟩
    cases x with
    | none => cases e
    | some p =>
      simp only [Option.map_some, Option.some.injEq] at e
      exact ⟨p.1, p.2, rfl, by show Q (k p).1 (k p).2; rw [e]; exact h⟩
  · rintro ⟨a, A, rfl, h⟩
    exact ⟨_, _, rfl, h⟩
theorem Wp.ite {c : Prop} [Decidable c] {y : Option (α × AH)} : Wp (if c then x else y) P ↔ (c → Wp x P) ∧ (¬ c → Wp y P) := by
  by_cases h : c <;> simp [h]
theorem Wp.bind1 {γ : Type} {o : Option γ} {k : γ → Option (β × AH)} {g : γ} (e : o = .some g) : Wp (o.bind k) Q ↔ Wp (k g) Q := by subst e; rfl
theorem Wp.map1 {γ : Type} {o : Option γ} {k : γ → β × AH} {g : γ} (e : o = .some g) : Wp (o.map k) Q ↔ Q (k g).1 (k g).2 := by subst e; exact Wp.some'
theorem Wp.mono {P' : α → AH → Prop} (h : Wp x P) (k : ∀ a A, P a A → P' a A) : Wp x P' := let ⟨a, A, e, q⟩ := h; ⟨a, A, e, k a A q⟩
theorem Wp.of {a : α} {A : AH} (e : x = .some (a, A)) (h : P a A) : Wp x P := ⟨a, A, e, h⟩
end
/-! ### combinators -/
section
variable {E : EN} {A : AH} {f g h : ZE} {P : W → AH → Prop} {Q : List W → AH → Prop} {B : Bool → AH → Prop} {i : Nat} {w : W}
theorem wp_C : Wp (zC w E A) P ↔ P w A := Wp.some
theorem wp_V (e : E[i]? = some (some w)) : Wp (zV i E A) P ↔ P w A := by unfold zV; rw [e]; exact Wp.some
theorem wp_z2 {s : S2} : Wp (z2 s f g E A) P ↔ Wp (f E A) fun u A1 => Wp (g E A1) fun v A2 => Wp (s u v A2) P := by unfold z2; simp only [Wp.bind]
theorem wp_z3 {s : S3} {lo hi : ZO} : Wp (z3 s f lo hi E A) P ↔ Wp (f E A) fun u A1 => Wp (lo E A1) fun l A2 => Wp (hi E A2) fun m A3 => Wp (s u l m A3) P := by unfold z3; simp only [Wp.bind]
theorem wp_zB {s : SN} {t : ZA} : Wp (zB s t E A) P ↔ Wp (t E A) fun us A1 => Wp (s us A1) P := by unfold zB; simp only [Wp.bind]
theorem wp_zM {s : SM} {tst : W → AH → Bool} {t : ZA} : Wp (zM tst s f t E A) P ↔ Wp (f E A) fun u A1 => tst u A1 = true ∧ Wp (t E A1) fun us A2 => Wp (s u us A2) P := by
  unfold zM; simp only [Wp.bind]
  constructor
  · rintro ⟨a, A', e, h⟩
    refine ⟨a, A', e, ?_⟩
    simp only [Wp.ite, Wp.none] at h
    by_cases k : tst a A' = true
    · exact ⟨k, Wp.bind.mp (h.1 k)⟩
    · exact (h.2 k).elim
  · rintro ⟨a, A', e, k, h⟩
    exact ⟨a, A', e, by simp only [k, if_true]; exact Wp.bind.mpr h⟩
theorem wp_call {n : Nat} {F : ZF} {t : ZA} : Wp (zCall n F t E A) P ↔ Wp (t E A) fun us A1 => us.length = n ∧ Wp (F us A1) P := by
  unfold zCall; simp only [Wp.bind]
  constructor
  · rintro ⟨a, A', e, h⟩
    refine ⟨a, A', e, ?_⟩
    simp only [Wp.ite, Wp.none] at h
    by_cases k : a.length = n
    · exact ⟨k, h.1 k⟩
    · exact (h.2 k).elim
  · rintro ⟨a, A', e, k, h⟩
    exact ⟨a, A', e, by simp only [k, if_true]; exact h⟩
theorem wp_nil : Wp (zaNil E A) Q ↔ Q [] A := Wp.some
theorem wp_cons {t : ZA} : Wp (zaCons f t E A) Q ↔ Wp (f E A) fun u A1 => Wp (t E A1) fun us A2 => Q (u :: us) A2 := by unfold zaCons; simp only [Wp.bind, Wp.map]
theorem wp_star {t : ZA} : Wp (zaStar f t E A) Q ↔ Wp (f E A) fun u A1 => ∃ ws, itemsW A1 u = some ws ∧ Wp (t E A1) fun us A2 => Q (ws ++ us) A2 := by
  unfold zaStar; simp only [Wp.bind]
  constructor
  · rintro ⟨a, A', e, h⟩
    cases hi : itemsW A' a with
    | none => simp only [hi, Option.bind_none, Wp.none] at h
    | some ws =>
      simp only [hi, Option.bind_some, Wp.map] at h
      exact ⟨a, A', e, ws, hi, h⟩
  · rintro ⟨a, A', e, ws, hi, h⟩
    exact ⟨a, A', e, by simp only [hi, Option.bind_some, Wp.map]; exact h⟩
theorem wp_tup {t : ZA} : Wp (zTup t E A) P ↔ Wp (t E A) fun us A1 => us.length ≤ sizeLine ∧ P (.tup us) A1 := by
  unfold zTup; simp only [Wp.bind]
  constructor
  · rintro ⟨a, A', e, h⟩
    refine ⟨a, A', e, ?_⟩
    simp only [Wp.ite, Wp.none, Wp.some] at h
    by_cases k : a.length ≤ sizeLine
    · exact ⟨k, h.1 k⟩
    · exact (h.2 k).elim
  · rintro ⟨a, A', e, k, h⟩
    exact ⟨a, A', e, by simp only [k, if_true, Wp.some]; exact h⟩
theorem wp_lst {t : ZA} : Wp (zLst t E A) P ↔ Wp (t E A) fun us A1 => us.length ≤ sizeLine ∧ P (.loc A1.length) (A1 ++ [.lst us]) := by
  unfold zLst; simp only [Wp.bind]
  constructor
  · rintro ⟨a, A', e, h⟩
    refine ⟨a, A', e, ?_⟩
    simp only [Wp.ite, Wp.none, Wp.some] at h
    by_cases k : a.length ≤ sizeLine
    · exact ⟨k, h.1 k⟩
    · exact (h.2 k).elim
  · rintro ⟨a, A', e, k, h⟩
    exact ⟨a, A', e, by simp only [k, if_true, Wp.some]; exact h⟩
/-! tests -/
theorem wp_bl : Wp (zBl f E A) B ↔ Wp (f E A) fun u A1 => ∃ b, u = .bl b ∧ B b A1 := by
  unfold zBl; simp only [Wp.bind]
  constructor
  · rintro ⟨a, A', e, h⟩
    refine ⟨a, A', e, ?_⟩
    cases a with
    | bl b => exact ⟨b, rfl, Wp.some.mp h⟩
    | _ => exact (Wp.none.mp h).elim
  · rintro ⟨a, A', e, b, rfl, h⟩
    exact ⟨_, A', e, Wp.some.mpr h⟩
theorem wp_tru : Wp (zTru f E A) B ↔ Wp (f E A) fun u A1 => ∃ b, truW A1 u = some b ∧ B b A1 := by
  unfold zTru; simp only [Wp.bind]
  constructor
  · rintro ⟨a, A', e, h⟩
    refine ⟨a, A', e, ?_⟩
    cases k : truW A' a with
    | none => simp only [k, Option.map_none, Wp.none] at h
    | some b => simp only [k, Option.map_some, Wp.some] at h; exact ⟨b, k, h⟩
  · rintro ⟨a, A', e, b, k, h⟩
    exact ⟨_, A', e, by simp only [k, Option.map_some, Wp.some]; exact h⟩
theorem wp_not {c : ZB} : Wp (zNot c E A) P ↔ Wp (c E A) fun b A1 => P (.bl (!b)) A1 := by unfold zNot; simp only [Wp.map]
theorem wp_tzNot {c : ZB} : Wp (tzNot c E A) B ↔ Wp (c E A) fun b A1 => B (!b) A1 := by unfold tzNot; simp only [Wp.map]
theorem wp_tzAnd {c d : ZB} : Wp (tzAnd c d E A) B ↔ Wp (c E A) fun b A1 => (b = true → Wp (d E A1) B) ∧ (b = false → B false A1) := by
  unfold tzAnd; simp only [Wp.bind, Wp.ite, Wp.some, Bool.not_eq_true]
theorem wp_tzOr {c d : ZB} : Wp (tzOr c d E A) B ↔ Wp (c E A) fun b A1 => (b = true → B true A1) ∧ (b = false → Wp (d E A1) B) := by
  unfold tzOr; simp only [Wp.bind, Wp.ite, Wp.some, Bool.not_eq_true]
theorem wp_yes : Wp (ztYes E A) B ↔ B true A := Wp.some
theorem wp_if {c : ZB} : Wp (zIf c f g E A) P ↔ Wp (c E A) fun b A1 => (b = true → Wp (f E A1) P) ∧ (b = false → Wp (g E A1) P) := by
  unfold zIf; simp only [Wp.bind, Wp.ite, Bool.not_eq_true]
theorem wp_and : Wp (zAnd f g E A) P ↔ Wp (f E A) fun u A1 => ∃ b, truW A1 u = some b ∧ (b = true → Wp (g E A1) P) ∧ (b = false → P u A1) := by
  unfold zAnd; simp only [Wp.bind]
  constructor
  · rintro ⟨a, A', e, h⟩
    refine ⟨a, A', e, ?_⟩
    cases k : truW A' a with
    | none => simp only [k, Option.bind_none, Wp.none] at h
    | some b => simp only [k, Option.bind_some, Wp.ite, Wp.some, Bool.not_eq_true] at h; exact ⟨b, k, h⟩
  · rintro ⟨a, A', e, b, k, h⟩
    exact ⟨_, A', e, by simp only [k, Option.bind_some, Wp.ite, Wp.some, Bool.not_eq_true]; exact h⟩
theorem wp_or : Wp (zOr f g E A) P ↔ Wp (f E A) fun u A1 => ∃ b, truW A1 u = some b ∧ (b = true → P u A1) ∧ (b = false → Wp (g E A1) P) := by
  unfold zOr; simp only [Wp.bind]
  constructor
  · rintro ⟨a, A', e, h⟩
    refine ⟨a, A', e, ?_⟩
    cases k : truW A' a with
    | none => simp only [k, Option.bind_none, Wp.none] at h
    | some b => simp only [k, Option.bind_some, Wp.ite, Wp.some, Bool.not_eq_true] at h; exact ⟨b, k, h⟩
  · rintro ⟨a, A', e, b, k, h⟩
    exact ⟨_, A', e, by simp only [k, Option.bind_some, Wp.ite, Wp.some, Bool.not_eq_true]; exact h⟩
theorem wp_oNone {R : Option Int → AH → Prop} : Wp (zoNone E A) R ↔ R none A := Wp.some
theorem wp_oSome {R : Option Int → AH → Prop} : Wp (zoSome f E A) R ↔ Wp (f E A) fun u A1 => ∃ i, u = .int i ∧ R (some i) A1 := by
  unfold zoSome; simp only [Wp.bind]
  constructor
  · rintro ⟨a, A', e, h⟩
    refine ⟨a, A', e, ?_⟩
    cases a with
    | int b => exact ⟨b, rfl, Wp.some.mp h⟩
    | _ => exact (Wp.none.mp h).elim
  · rintro ⟨a, A', e, b, rfl, h⟩
    exact ⟨_, A', e, Wp.some.mpr h⟩
theorem wp_neg : Wp (zNeg f E A) P ↔ Wp (f E A) fun u A1 => ∃ i, u = .int i ∧ P (.int (-i)) A1 := by
  unfold zNeg; simp only [Wp.bind]
  constructor
  · rintro ⟨a, A', e, h⟩
    refine ⟨a, A', e, ?_⟩
    cases a with
    | int b => exact ⟨b, rfl, Wp.some.mp h⟩
    | _ => exact (Wp.none.mp h).elim
  · rintro ⟨a, A', e, b, rfl, h⟩
    exact ⟨_, A', e, Wp.some.mpr h⟩
end
section
variable {E : EN} {A : AH} {f fo fi : ZE} {g k : ZS} {S : Out → AH → Prop} {P : W → AH → Prop}
/-- the rest runs where a statement goes on -/
def thenS (k : ZS) (S : Out → AH → Prop) : Out → AH → Prop := fun o A => match o with
  | .nx E => Wp (k E A) S
  | o => S o A
theorem wp_seq : Wp (zsSeq g k E A) S ↔ Wp (g E A) (thenS k S) := by
  unfold zsSeq; simp only [Wp.bind]
  constructor
  · rintro ⟨o, A', e, h⟩
    refine ⟨o, A', e, ?_⟩
    cases o <;> first | exact h | exact (Wp.some (P := S)).mp h
  · rintro ⟨o, A', e, h⟩
    refine ⟨o, A', e, ?_⟩
    cases o <;> first | exact h | exact (Wp.some (P := S)).mpr h
theorem thenS_nx {E' : EN} : thenS k S (.nx E') A ↔ Wp (k E' A) S := Iff.rfl
theorem thenS_rt {w : W} : thenS k S (.rt w) A ↔ S (.rt w) A := Iff.rfl
theorem thenS_bk {E' : EN} : thenS k S (.bk E') A ↔ S (.bk E') A := Iff.rfl
theorem thenS_ct {E' : EN} : thenS k S (.ct E') A ↔ S (.ct E') A := Iff.rfl
theorem wp_skip : Wp (zsSkip E A) S ↔ S (.nx E) A := Wp.some
theorem wp_cont : Wp (zsCont E A) S ↔ S (.ct E) A := Wp.some
theorem wp_break : Wp (zsBreak E A) S ↔ S (.bk E) A := Wp.some
theorem wp_drop : Wp (zsDrop f E A) S ↔ Wp (f E A) fun _ A1 => S (.nx E) A1 := by unfold zsDrop; simp only [Wp.map]
theorem wp_ret : Wp (zsRet f E A) S ↔ Wp (f E A) fun u A1 => S (.rt u) A1 := by unfold zsRet; simp only [Wp.map]
theorem wp_retN : Wp (zsRetN E A) S ↔ S (.rt .non) A := Wp.some
theorem wp_sIf {c : ZB} : Wp (zsIf c g k E A) S ↔ Wp (c E A) fun b A1 => (b = true → Wp (g E A1) S) ∧ (b = false → Wp (k E A1) S) := by
  unfold zsIf; simp only [Wp.bind, Wp.ite, Bool.not_eq_true]
theorem wp_asg {t : Tg} : Wp (zsAsg f t E A) S ↔ Wp (f E A) fun u A1 => ∃ E', asg t u E = some E' ∧ S (.nx E') A1 := by
  unfold zsAsg; simp only [Wp.bind]
  constructor
  · rintro ⟨a, A', e, h⟩
    refine ⟨a, A', e, ?_⟩
    cases q : asg t a E with
    | none => simp only [q, Option.map_none, Wp.none] at h
    | some E' => simp only [q, Option.map_some, Wp.some] at h; exact ⟨E', q, h⟩
  · rintro ⟨a, A', e, E', q, h⟩
    exact ⟨a, A', e, by simp only [q, Option.map_some, Wp.some]; exact h⟩
theorem wp_asg1 {i : Nat} : Wp (zsAsg f (.name i) E A) S ↔ Wp (f E A) fun u A1 => S (.nx (E.set i (some u))) A1 := by
  rw [wp_asg]; simp only [asg, Option.some.injEq, exists_eq_left']
theorem wp_put : Wp (zsPut f fo fi E A) S ↔ Wp (f E A) fun u A1 => Wp (fo E A1) fun o A2 => Wp (fi E A2) fun i A3 => ∃ n j ws m, o = .loc n ∧ i = .int j ∧ A3[n]? = some (.lst ws) ∧ ixN ws.length j = some m ∧ S (.nx E) (A3.set n (.lst (ws.set m u))) := by
  unfold zsPut; simp only [Wp.bind]
  constructor
  · rintro ⟨a, A1, e1, b, A2, e2, c, A3, e3, h⟩
    refine ⟨a, A1, e1, b, A2, e2, c, A3, e3, ?_⟩
    cases b with
    | loc n =>
      cases c with
      | int j =>
        cases hm : A3[n]? with
        | none => simp only [hm, Wp.none] at h
        | some mo =>
          cases mo with
          | lst ws =>
            simp only [hm] at h
            cases q : ixN ws.length j with
            | none => simp only [q, Option.map_none, Wp.none] at h
            | some m => simp only [q, Option.map_some, Wp.some] at h; exact ⟨n, j, ws, m, rfl, rfl, hm, q, h⟩
          | _ => simp only [hm, Wp.none] at h
      | _ => exact (Wp.none.mp h).elim
    | _ => exact (Wp.none.mp h).elim
  · rintro ⟨a, A1, e1, b, A2, e2, c, A3, e3, n, j, ws, m, rfl, rfl, h1, h2, h⟩
    refine ⟨a, A1, e1, _, A2, e2, _, A3, e3, ?_⟩
    simp only [h1, h2, Option.map_some, Wp.some]
    exact h
/-- a def -/
def retP (P : W → AH → Prop) : Out → AH → Prop := fun o A => match o with
  | .rt w => P w A
  | .nx _ => P .non A
  | _ => False
theorem wp_def {N n : Nat} {ws : List W} (hl : ws.length = n) : Wp (defZ N n g ws A) P ↔ Wp (g (start0 N ws) A) (retP P) := by
  unfold defZ; rw [if_pos hl]; simp only [Wp.bind]
  constructor
  · rintro ⟨o, A', e, h⟩
    refine ⟨o, A', e, ?_⟩
    cases o <;> first | exact (Wp.some (P := P)).mp h | exact ((Wp.none (P := P)).mp h).elim
  · rintro ⟨o, A', e, h⟩
    refine ⟨o, A', e, ?_⟩
    cases o <;> first | exact (Wp.some (P := P)).mpr h | exact False.elim h
theorem retP_rt {w : W} : retP P (.rt w) A ↔ P w A := Iff.rfl
theorem retP_nx {E' : EN} : retP P (.nx E') A ↔ P .non A := Iff.rfl
end
end Z
set_option Elab.async false
set_option linter.all false
set_option maxRecDepth 100000
set_option maxHeartbeats 4000000
/-! Y1: the tape of numbers -/
namespace Z
open PySem L2
def y__law_mix : ZS :=
  (zsSeq (zsAsg (z2 sMod (zB sInt (zaCons (z2 sAdd (z2 sMul (zV 0) (zC (.int 6364136223846793005))) (zC (.int 1442695040888963407))) zaNil)) (zC (.int 18446744073709551616))) (.name 0)) (zsRet (z2 sMod (zB sInt (zaCons (z2 sAdd (z2 sDiv (z2 sMul (zV 0) (zV 0)) (zC (.int 4294967296))) (z2 sMul (zV 0) (zC (.int 69621)))) zaNil)) (zC (.int 18446744073709551557)))))
def Y__law_mix : ZF := defZ 1 1 (y__law_mix )
def y__law_tape : ZS :=
  (zsRet (zLst (zaCons (zB sList (zaCons (zV 0) zaNil)) (zaCons (zC (.int 0)) (zaCons (zC (.int 0)) (zaCons (zC (.int 1)) (zaCons (zV 1) zaNil)))))))
def Y__law_tape : ZF := defZ 2 2 (y__law_tape )
def y__law_take (c_mix : ZF) : ZS :=
  (zsSeq (zsIf (zBl (z2 sLt (z2 sIx (zV 0) (zC (.int 2))) (zV 1))) (zsIf (zBl (z2 sLt (z2 sIx (zV 0) (zC (.int 1))) (zB sLen (zaCons (z2 sIx (zV 0) (zC (.int 0))) zaNil)))) (zsSeq (zsAsg (z2 sIx (z2 sIx (zV 0) (zC (.int 0))) (z2 sIx (zV 0) (zC (.int 1)))) (.name 3)) (zsSeq (zsAsg (zIf (zBl (z2 sGe (zV 3) (zC (.int 0)))) (z2 sMul (zC (.int 2)) (zV 3)) (z2 sSub (z2 sMul (zNeg (zC (.int 2))) (zV 3)) (zC (.int 1)))) (.name 3)) (zsSeq (zsPut (z2 sAdd (z2 sIx (zV 0) (zC (.int 1))) (zC (.int 1))) (zV 0) (zC (.int 1))) (zsSeq (zsPut (zCall 1 c_mix (zaCons (z2 sAdd (z2 sIx (zV 0) (zC (.int 3))) (zV 3)) zaNil)) (zV 0) (zC (.int 3))) (zsPut (zIf (zBl (z2 sGe (zV 3) (z2 sPow (zC (.int 10)) (zC (.int 18))))) (zV 3) (zCall 1 c_mix (zaCons (zCall 1 c_mix (zaCons (zV 3) zaNil)) zaNil))) (zV 0) (zC (.int 2))))))) (zsSeq (zsPut (zCall 1 c_mix (zaCons (z2 sAdd (z2 sIx (zV 0) (zC (.int 3))) (zC (.int 1))) zaNil)) (zV 0) (zC (.int 3))) (zsPut (z2 sIx (zV 0) (zC (.int 3))) (zV 0) (zC (.int 2))))) zsSkip) (zsSeq (zsAsg (z2 sMod (zB sInt (zaCons (z2 sIx (zV 0) (zC (.int 2))) zaNil)) (zV 1)) (.name 2)) (zsSeq (zsPut (z2 sDiv (z2 sIx (zV 0) (zC (.int 2))) (zV 1)) (zV 0) (zC (.int 2))) (zsRet (zV 2)))))
def Y__law_take (c_mix : ZF) : ZF := defZ 4 2 (y__law_take c_mix)
/-! ### evaluating: names, constants, ints -/
theorem get0 {α : Type} (a : α) (l : List α) : (a :: l)[0]? = some a := rfl
theorem wp_V0 {w : W} {E : EN} {A : AH} {P : W → AH → Prop} : Wp (zV 0 (some w :: E) A) P ↔ P w A := wp_V rfl
theorem wp_Vs {i : Nat} {w : Option W} {E : EN} {A : AH} {P : W → AH → Prop} : Wp (zV (i + 1) (w :: E) A) P ↔ Wp (zV i E A) P := by unfold zV; simp
theorem wp_ii {C : Int → Int → Bool} {g : Int → Int → W} {i j : Int} {A : AH} {P : W → AH → Prop} : Wp (sII C g (.int i) (.int j) A) P ↔ C i j = true ∧ P (g i j) A := by
  unfold sII
  simp only [Wp.ite, Wp.some, Wp.none]
  by_cases h : C i j = true <;> simp [h]
theorem wp_addI {i j : Int} {A : AH} {P : W → AH → Prop} : Wp (sAdd (.int i) (.int j) A) P ↔ P (.int (i + j)) A := by
  unfold sAdd sAddI sII
  simp [Wp.some]
theorem start1 {N : Nat} {a : W} : start0 (N + 1) [a] = some a :: List.replicate N none := by simp [start0]
theorem start2 {N : Nat} {a b : W} : start0 (N + 2) [a, b] = some a :: some b :: List.replicate N none := by simp [start0]
def mixI (n : Int) : Int := ((((n * 6364136223846793005 + 1442695040888963407) % 18446744073709551616) * ((n * 6364136223846793005 + 1442695040888963407) % 18446744073709551616)) / 4294967296 + ((n * 6364136223846793005 + 1442695040888963407) % 18446744073709551616) * 69621) % 18446744073709551557
theorem mixI_nonneg (n : Int) : 0 ≤ mixI n := Int.emod_nonneg _ (by decide)
theorem wp_int {i : Int} {A : AH} {P : W → AH → Prop} : Wp (sInt [.int i] A) P ↔ P (.int i) A := Wp.some
theorem mulR {i j : Int} (h1 : -(2 ^ 64) < j) (h2 : j < 2 ^ 64) : mulOkB i j = true := by
  unfold mulOkB
  rw [Bool.or_eq_true, decide_eq_true_eq, decide_eq_true_eq]
  exact .inr ⟨h1, h2⟩
theorem mulL {i j : Int} (h1 : -(2 ^ 64) < i) (h2 : i < 2 ^ 64) : mulOkB i j = true := by
  unfold mulOkB
  rw [Bool.or_eq_true, decide_eq_true_eq, decide_eq_true_eq]
  exact .inl ⟨h1, h2⟩
theorem mix_ok (n : Int) (A : AH) : Y__law_mix [.int n] A = some (.int (mixI n), A) := by
  have h : Wp (Y__law_mix [.int n] A) (fun w A' => w = .int (mixI n) ∧ A' = A) := by
    unfold Y__law_mix
    refine (wp_def rfl).mpr ?_
    unfold y__law_mix
    simp only [start1, List.replicate, wp_seq, wp_asg1, wp_ret, wp_z2, wp_zB, wp_cons, wp_nil, wp_C, wp_V0, thenS_nx, thenS_rt, retP_rt, wp_ii, wp_addI, wp_int, List.set_cons_zero]
    have b1 : 0 ≤ (n * 6364136223846793005 + 1442695040888963407) % 18446744073709551616 := Int.emod_nonneg _ (by decide)
    have b2 : (n * 6364136223846793005 + 1442695040888963407) % 18446744073709551616 < 18446744073709551616 := Int.emod_lt_of_pos _ (by decide)
    exact ⟨mulR (by decide) (by decide), by decide, mulR (by omega) (by omega), by decide, mulR (by decide) (by decide), by decide, rfl, trivial⟩
  obtain ⟨w, A', e, rfl, rfl⟩ := h
  exact e
theorem wp_mix {n : Int} {A : AH} {P : W → AH → Prop} : Wp (Y__law_mix [.int n] A) P ↔ P (.int (mixI n)) A := by rw [mix_ok]; exact Wp.some
/-! ### the tape -/
/-- the tape at n, its numbers in the list at m -/
def TapeAt (n : Nat) (A : AH) : Prop := ∃ (m : Nat) (sc : List Int) (p c s b : Int), n ≠ m ∧ A[n]? = some (.lst [.loc m, .int p, .int c, .int s, .int b]) ∧ A[m]? = some (.lst (sc.map .int)) ∧ 0 ≤ p ∧ 0 ≤ c
/-- nothing but the thing at n is another -/
def Only (n : Nat) (A A' : AH) : Prop := A'.length = A.length ∧ ∀ i, i ≠ n → A'[i]? = A[i]?
theorem Only.refl {n : Nat} {A : AH} : Only n A A := ⟨rfl, fun _ _ => rfl⟩
theorem Only.set {n : Nat} {A A' : AH} {mo : MO} (h : Only n A A') : Only n A (A'.set n mo) := ⟨by simp [h.1], fun i hi => by rw [List.getElem?_set_ne (Ne.symm hi)]; exact h.2 i hi⟩
theorem atI_nat {α : Type} {xs : List α} {k : Nat} : atI xs (k : Int) = xs[k]? := by
  unfold atI ixN
  by_cases h : k < xs.length
  · rw [if_pos (by omega), if_pos (by omega)]; simp
  · rw [if_pos (by omega), if_neg (by omega)]; simp; omega
theorem wp_ixL {n : Nat} {ws : List W} {j : Int} {w : W} {A : AH} {P : W → AH → Prop} (h : A[n]? = some (.lst ws)) (hw : atI ws j = some w) : Wp (sIx (.loc n) (.int j) A) P ↔ P w A := by
  unfold sIx sIxT sIxL
  simp only [h, hw, Option.map_some, Option.none_or, Option.some_or]
  exact Wp.some
theorem wp_len {n : Nat} {ws : List W} {A : AH} {P : W → AH → Prop} (h : A[n]? = some (.lst ws)) : Wp (sLen [.loc n] A) P ↔ P (.int ws.length) A := by
  unfold sLen itemsW
  simp only [h, Option.map_some]
  exact Wp.some
theorem wp_put1 {f fo fi : ZE} {E : EN} {A : AH} {S : Out → AH → Prop} : Wp (zsPut f fo fi E A) S ↔ Wp (f E A) fun u A1 => Wp (fo E A1) fun o A2 => Wp (fi E A2) fun i A3 => ∃ n j ws m, o = .loc n ∧ i = .int j ∧ A3[n]? = some (.lst ws) ∧ ixN ws.length j = some m ∧ S (.nx E) (A3.set n (.lst (ws.set m u))) := wp_put
/-- the tape's fields -/
structure TS (n m : Nat) (A : AH) (sc : List Int) (p c s b : Int) : Prop where
  ne : n ≠ m
  at' : A[n]? = some (.lst [.loc m, .int p, .int c, .int s, .int b])
  sc' : A[m]? = some (.lst (sc.map .int))
section
variable {n m : Nat} {A A0 : AH} {sc : List Int} {p c s b : Int}
theorem TS.put (t : TS n m A sc p c s b) (p' c' s' b' : Int) : TS n m (A.set n (.lst [.loc m, .int p', .int c', .int s', .int b'])) sc p' c' s' b' :=
  ⟨t.ne, by rw [List.getElem?_set_self (List.getElem?_eq_some_iff.mp t.at').1], by rw [List.getElem?_set_ne t.ne]; exact t.sc'⟩
theorem TS.tape (t : TS n m A sc p c s b) (hp : 0 ≤ p) (hc : 0 ≤ c) : TapeAt n A := ⟨m, sc, p, c, s, b, t.ne, t.at', t.sc', hp, hc⟩
theorem refill {many : Int} {x2 : Option W} (t : TS n m A sc p c s b) (hp : 0 ≤ p) (hc : 0 ≤ c) (g : ZS)
    (hg : g = zsIf (zBl (z2 sLt (z2 sIx (zV 0) (zC (.int 2))) (zV 1))) (zsIf (zBl (z2 sLt (z2 sIx (zV 0) (zC (.int 1))) (zB sLen (zaCons (z2 sIx (zV 0) (zC (.int 0))) zaNil)))) (zsSeq (zsAsg (z2 sIx (z2 sIx (zV 0) (zC (.int 0))) (z2 sIx (zV 0) (zC (.int 1)))) (.name 3)) (zsSeq (zsAsg (zIf (zBl (z2 sGe (zV 3) (zC (.int 0)))) (z2 sMul (zC (.int 2)) (zV 3)) (z2 sSub (z2 sMul (zNeg (zC (.int 2))) (zV 3)) (zC (.int 1)))) (.name 3)) (zsSeq (zsPut (z2 sAdd (z2 sIx (zV 0) (zC (.int 1))) (zC (.int 1))) (zV 0) (zC (.int 1))) (zsSeq (zsPut (zCall 1 Y__law_mix (zaCons (z2 sAdd (z2 sIx (zV 0) (zC (.int 3))) (zV 3)) zaNil)) (zV 0) (zC (.int 3))) (zsPut (zIf (zBl (z2 sGe (zV 3) (z2 sPow (zC (.int 10)) (zC (.int 18))))) (zV 3) (zCall 1 Y__law_mix (zaCons (zCall 1 Y__law_mix (zaCons (zV 3) zaNil)) zaNil))) (zV 0) (zC (.int 2))))))) (zsSeq (zsPut (zCall 1 Y__law_mix (zaCons (z2 sAdd (z2 sIx (zV 0) (zC (.int 3))) (zC (.int 1))) zaNil)) (zV 0) (zC (.int 3))) (zsPut (z2 sIx (zV 0) (zC (.int 3))) (zV 0) (zC (.int 2))))) zsSkip) :
    Wp (g [some (.loc n), some (.int many), x2, none] A) (fun o A1 => ∃ x3 p' c' s', o = .nx [some (.loc n), some (.int many), x2, x3] ∧ TS n m A1 sc p' c' s' b ∧ 0 ≤ p' ∧ 0 ≤ c' ∧ Only n A A1) := by
  subst hg
  have i0 : ∀ {p c s b : Int}, atI [W.loc m, .int p, .int c, .int s, .int b] 0 = some (.loc m) := rfl
  have i1 : ∀ {p c s b : Int}, atI [W.loc m, .int p, .int c, .int s, .int b] 1 = some (.int p) := rfl
  have i2 : ∀ {p c s b : Int}, atI [W.loc m, .int p, .int c, .int s, .int b] 2 = some (.int c) := rfl
  have i3 : ∀ {p c s b : Int}, atI [W.loc m, .int p, .int c, .int s, .int b] 3 = some (.int s) := rfl
  simp only [wp_sIf, wp_bl, wp_z2, wp_C, wp_V0, wp_Vs, wp_ixL t.at' i2, wp_ii, W.bl.injEq]
  refine ⟨trivial, _, rfl, fun hlt => ?_, fun hge => wp_skip.mpr ⟨none, p, c, s, rfl, t, hp, hc, .refl⟩⟩
  simp only [wp_ixL t.at' i1, wp_zB, wp_cons, wp_nil, wp_z2, wp_V0, wp_C, wp_ixL t.at' i0, wp_len t.sc', wp_ii, W.bl.injEq, List.length_map]
  refine ⟨trivial, _, rfl, fun hin => ?_, fun hout => ?_⟩
  · rw [decide_eq_true_eq] at hin
    obtain ⟨k, rfl⟩ : ∃ k : Nat, p = k := ⟨p.toNat, by omega⟩
    have hk : k < sc.length := by omega
    have hcell : atI (sc.map W.int) (k : Int) = some (.int sc[k]) := by rw [atI_nat]; simp [hk]
    simp only [wp_seq, wp_asg1, wp_z2, wp_V0, wp_C, wp_ixL t.at' i0, wp_ixL t.at' i1, wp_ixL t.sc' hcell, thenS_nx, List.set_cons_succ, List.set_cons_zero, wp_if, wp_bl, wp_Vs, wp_ii, W.bl.injEq, exists_eq_left', wp_neg, W.int.injEq]
    generalize hcv : sc[k] = cell
    have rest : ∀ v : Int, 0 ≤ v → Wp
            (zsPut (z2 sAdd (z2 sIx (zV 0) (zC (W.int 1))) (zC (W.int 1))) (zV 0) (zC (W.int 1))
              [some (W.loc n), some (W.int many), x2, some (W.int v)] A)
            (thenS
              (zsSeq
                (zsPut (zCall 1 Y__law_mix (zaCons (z2 sAdd (z2 sIx (zV 0) (zC (W.int 3))) (zV 3)) zaNil)) (zV 0)
                  (zC (W.int 3)))
                (zsPut
                  (zIf (zBl (z2 sGe (zV 3) (z2 sPow (zC (W.int 10)) (zC (W.int 18))))) (zV 3)
                    (zCall 1 Y__law_mix (zaCons (zCall 1 Y__law_mix (zaCons (zV 3) zaNil)) zaNil)))
                  (zV 0) (zC (W.int 2))))
              fun o A1 =>
              ∃ x3 p' c' s',
                o = Out.nx [some (W.loc n), some (W.int many), x2, x3] ∧
                  TS n m A1 sc p' c' s' b ∧ 0 ≤ p' ∧ 0 ≤ c' ∧ Only n A A1) := by
      intro v hv
      simp only [wp_put1, wp_z2, wp_V0, wp_C, wp_ixL t.at' i1, wp_addI]
      refine ⟨n, 1, _, 1, rfl, rfl, t.at', rfl, ?_⟩
      have t1 := t.put (k + 1) c s b
      simp only [List.set_cons_succ, List.set_cons_zero, thenS_nx, wp_seq, wp_put1, wp_call, wp_cons, wp_nil, wp_z2, wp_V0, wp_Vs, wp_C, wp_ixL t1.at' i3, wp_addI, wp_mix, List.length_cons, List.length_nil]
      refine ⟨trivial, n, 3, _, 3, rfl, rfl, t1.at', rfl, ?_⟩
      have t2 := t1.put (k + 1) c (mixI (s + v)) b
      simp only [List.set_cons_succ, List.set_cons_zero, thenS_nx, wp_if, wp_bl, wp_z2, wp_Vs, wp_V0, wp_C, wp_ii, W.bl.injEq, wp_call, wp_cons, wp_nil, wp_mix, List.length_cons, List.length_nil]
      refine ⟨by decide, trivial, _, rfl, fun hbig => ⟨n, 2, _, 2, rfl, rfl, t2.at', rfl, _, (k : Int) + 1, v, mixI (s + v), rfl, t2.put _ _ _ _, by omega, hv, Only.refl.set.set.set⟩,
        fun hsm => ⟨trivial, trivial, n, 2, _, 2, rfl, rfl, t2.at', rfl, _, (k : Int) + 1, mixI (mixI v), mixI (s + v), rfl, t2.put _ _ _ _, by omega, mixI_nonneg _, Only.refl.set.set.set⟩⟩
    refine ⟨trivial, fun h => ⟨mulL (by decide) (by decide), rest _ (by rw [decide_eq_true_eq] at h; omega)⟩, fun h => ⟨mulL (by decide) (by decide), trivial, rest _ (by rw [decide_eq_false_iff_not] at h; omega)⟩⟩
  · simp only [wp_seq, wp_put1, wp_call, wp_cons, wp_nil, wp_z2, wp_V0, wp_C, wp_ixL t.at' i3, wp_addI, wp_mix, thenS_nx, List.length_cons, List.length_nil, true_and]
    refine ⟨n, 3, _, 3, rfl, rfl, t.at', rfl, ?_⟩
    have t1 := t.put p c (mixI (s + 1)) b
    simp only [List.set_cons_succ, List.set_cons_zero]
    rw [wp_ixL t1.at' i3]
    refine ⟨n, 2, _, 2, rfl, rfl, t1.at', rfl, none, p, mixI (s + 1), mixI (s + 1), rfl, ?_, hp, mixI_nonneg _, Only.refl.set.set⟩
    exact t1.put p (mixI (s + 1)) (mixI (s + 1)) b
end
theorem take_ok {n : Nat} {many : Int} {A : AH} (t : TapeAt n A) (h0 : 0 < many) (h1 : many < 2 ^ 64) :
    Wp (Y__law_take Y__law_mix [.loc n, .int many] A) (fun w A' => ∃ d : Int, w = .int d ∧ 0 ≤ d ∧ d < many ∧ Only n A A' ∧ TapeAt n A') := by
  obtain ⟨m, sc, p, c, s, b, hnm, hn, hm, hp, hc⟩ := t
  unfold Y__law_take
  refine (wp_def rfl).mpr ?_
  unfold y__law_take
  simp only [start2, List.replicate]
  refine wp_seq.mpr (Wp.mono (refill ⟨hnm, hn, hm⟩ hp hc _ rfl) ?_)
  rintro o A1 ⟨x3, p', c', s', rfl, t, hp', hc', ho⟩
  rw [thenS_nx]
  have i2 : atI [W.loc m, .int p', .int c', .int s', .int b] 2 = some (.int c') := rfl
  simp only [wp_seq, wp_asg1, wp_z2, wp_zB, wp_cons, wp_nil, wp_V0, wp_Vs, wp_C, wp_ixL t.at' i2, wp_int, wp_ii, thenS_nx, List.set_cons_succ, List.set_cons_zero, wp_put1, wp_ret, thenS_rt, retP_rt]
  refine ⟨decide_eq_true h0, decide_eq_true ⟨h0, h1⟩, n, 2, _, 2, rfl, rfl, t.at', rfl, _, rfl, Int.emod_nonneg _ (by omega), Int.emod_lt_of_pos _ h0, ho.set, ?_⟩
  exact (t.put p' (c' / many) s' b).tape hp' (Int.ediv_nonneg hc' (by omega))
theorem tape_ok {sc : List Int} {b : Int} {A : AH} : Y__law_tape [.frl (sc.map .int), .int b] A = some (.loc (A.length + 1), A ++ [.lst (sc.map .int)] ++ [.lst [.loc A.length, .int 0, .int 0, .int 1, .int b]]) := by
  have h : Wp (Y__law_tape [.frl (sc.map .int), .int b] A) (fun w A' => w = .loc (A.length + 1) ∧ A' = A ++ [.lst (sc.map .int)] ++ [.lst [.loc A.length, .int 0, .int 0, .int 1, .int b]]) := by
    unfold Y__law_tape
    refine (wp_def rfl).mpr ?_
    unfold y__law_tape
    simp only [start2, List.replicate, wp_ret, wp_lst, wp_cons, wp_nil, wp_zB, wp_V0, wp_Vs, wp_C, retP_rt]
    refine Wp.of (a := .loc A.length) (A := A ++ [.lst (sc.map .int)]) rfl ?_
    exact ⟨by show 5 ≤ sizeLine; decide, by simp, rfl⟩
  obtain ⟨w, A', e, rfl, rfl⟩ := h
  exact e
theorem tape_at {sc : List Int} {b : Int} {A : AH} : TapeAt (A.length + 1) (A ++ [.lst (sc.map .int)] ++ [.lst [.loc A.length, .int 0, .int 0, .int 1, .int b]]) :=
  ⟨A.length, sc, 0, 0, 1, b, by omega, by simp, by simp, by decide, by decide⟩
end Z
set_option Elab.async false
set_option linter.all false
set_option maxRecDepth 100000
set_option maxHeartbeats 4000000
/-! M1: working out loops, comprehensions, tests of generator expressions -/
namespace Z
open PySem L2
section
variable {E : EN} {A : AH} {S : Out → AH → Prop} {P : W → AH → Prop} {t : Tg}
/-- a loop over fixed items -/
theorem wp_forFix {iter : ZI} {body : ZS} {ws : List W} {A1 : AH} (hi : iter E A = some (.fix ws, A1)) (inv : Nat → EN → AH → Prop) (h0 : inv 0 E A1)
    (step : ∀ i w E A, ws[i]? = some w → inv i E A → ∃ E1, asg t w E = some E1 ∧ Wp (body E1 A) (fun o A' => match o with
      | .nx E' => inv (i + 1) E' A'
      | .ct E' => inv (i + 1) E' A'
      | .bk E' => S (.nx E') A'
      | .rt u => S (.rt u) A'))
    (fin : ∀ E A, inv ws.length E A → S (.nx E) A) : Wp (zsFor iter t body E A) S := by
  have go : ∀ k i E A, ws.length = i + k → inv i E A → Wp (loopS (.fix ws) t body k i E A) S := by
    intro k
    induction k with
    | zero =>
      intro i E A hl h
      refine ⟨.nx E, A, ?_, fin E A (by rw [hl]; exact h)⟩
      simp [loopS, itemsS, hl]
    | succ k ih =>
      intro i E A hl h
      have hlt : i < ws.length := by omega
      have hw : ws[i]? = some ws[i] := List.getElem?_eq_getElem hlt
      obtain ⟨E1, ea, o, A2, eb, q⟩ := step i _ E A hw h
      have e0 : loopS (.fix ws) t body (k + 1) i E A = (match o with
        | .nx E2 => loopS (.fix ws) t body k (i + 1) E2 A2
        | .ct E2 => loopS (.fix ws) t body k (i + 1) E2 A2
        | .bk E2 => some (.nx E2, A2)
        | .rt w => some (.rt w, A2)) := by
        rw [loopS]
        simp only [itemsS, Option.bind_some, hw, ea, eb]
        cases o <;> rfl
      rw [e0]
      cases o with
      | nx E2 => exact ih (i + 1) E2 A2 (by omega) q
      | ct E2 => exact ih (i + 1) E2 A2 (by omega) q
      | bk E2 => exact Wp.some.mpr q
      | rt u => exact Wp.some.mpr q
  unfold zsFor
  rw [hi]
  simp only [Option.bind_some, lenS, itemsS, Option.getD_some]
  exact go ws.length 0 E A1 (by omega) h0
/-- a loop over a list that it doesn't change -/
theorem wp_forLst {iter : ZI} {body : ZS} {ws : List W} {n : Nat} {A1 : AH} (hi : iter E A = some (.lst n, A1)) (inv : Nat → EN → AH → Prop) (h0 : inv 0 E A1) (hn : ∀ i E A, inv i E A → A[n]? = some (.lst ws))
    (step : ∀ i w E A, ws[i]? = some w → inv i E A → ∃ E1, asg t w E = some E1 ∧ Wp (body E1 A) (fun o A' => match o with
      | .nx E' => inv (i + 1) E' A'
      | .ct E' => inv (i + 1) E' A'
      | .bk E' => S (.nx E') A'
      | .rt u => S (.rt u) A'))
    (fin : ∀ E A, inv ws.length E A → S (.nx E) A) : Wp (zsFor iter t body E A) S := by
  have go : ∀ k i E A, ws.length = i + k → inv i E A → Wp (loopS (.lst n) t body k i E A) S := by
    intro k
    induction k with
    | zero =>
      intro i E A hl h
      refine ⟨.nx E, A, ?_, fin E A (by rw [hl]; exact h)⟩
      simp [loopS, itemsS, hn i E A h, hl]
    | succ k ih =>
      intro i E A hl h
      have hlt : i < ws.length := by omega
      have hw : ws[i]? = some ws[i] := List.getElem?_eq_getElem hlt
      obtain ⟨E1, ea, o, A2, eb, q⟩ := step i _ E A hw h
      have e0 : loopS (.lst n) t body (k + 1) i E A = (match o with
        | .nx E2 => loopS (.lst n) t body k (i + 1) E2 A2
        | .ct E2 => loopS (.lst n) t body k (i + 1) E2 A2
        | .bk E2 => some (.nx E2, A2)
        | .rt w => some (.rt w, A2)) := by
        rw [loopS]
        simp only [itemsS, hn i E A h, Option.bind_some, hw, ea, eb]
        cases o <;> rfl
      rw [e0]
      cases o with
      | nx E2 => exact ih (i + 1) E2 A2 (by omega) q
      | ct E2 => exact ih (i + 1) E2 A2 (by omega) q
      | bk E2 => exact Wp.some.mpr q
      | rt u => exact Wp.some.mpr q
  have l0 : lenS A1 (.lst n) = ws.length := by unfold lenS itemsS; simp [hn 0 E A1 h0]
  unfold zsFor
  rw [hi]
  simp only [Option.bind_some, l0]
  exact go ws.length 0 E A1 (by omega) h0
/-- a list comprehension over fixed items -/
theorem wp_lcFix {iter : ZI} {elt : ZE} {vs : List Nat} {ws : List W} {A1 : AH} (hi : iter E A = some (.fix ws, A1)) (inv : Nat → List W → AH → Prop) (h0 : inv 0 [] (A1 ++ [.lst []]))
    (step : ∀ i w acc A, ws[i]? = some w → inv i acc A → ∃ E1, asg t w (wipeE E vs) = some E1 ∧ Wp (elt E1 A) (fun u A' => A'[A1.length]? = some (.lst acc) ∧ acc.length < sizeLine ∧ inv (i + 1) (acc ++ [u]) (A'.set A1.length (.lst (acc ++ [u])))))
    (fin : ∀ acc A, inv ws.length acc A → P (.loc A1.length) A) : Wp (zLc iter t ztYes elt vs E A) P := by
  have go : ∀ k i acc A, ws.length = i + k → inv i acc A → ∃ acc' A', loopC (.fix ws) t ztYes elt A1.length (wipeE E vs) k i A = some A' ∧ inv ws.length acc' A' := by
    intro k
    induction k with
    | zero =>
      intro i acc A hl h
      exact ⟨acc, A, by simp [loopC, itemsS, hl], by rw [hl]; exact h⟩
    | succ k ih =>
      intro i acc A hl h
      have hlt : i < ws.length := by omega
      have hw : ws[i]? = some ws[i] := List.getElem?_eq_getElem hlt
      obtain ⟨E1, ea, u, A2, eb, q1, q2, q3⟩ := step i _ acc A hw h
      obtain ⟨acc', A', e, q⟩ := ih (i + 1) (acc ++ [u]) _ (by omega) q3
      refine ⟨acc', A', ?_, q⟩
      rw [loopC]
      simp only [itemsS, Option.bind_some, hw, ea, ztYes, if_true, eb, q1, q2]
      exact e
  obtain ⟨acc', A', e, q⟩ := go ws.length 0 [] _ (by omega) h0
  refine ⟨.loc A1.length, A', ?_, fin acc' A' q⟩
  unfold zLc
  rw [hi]
  simp only [Option.bind_some, lenS, itemsS, Option.getD_some, e, Option.map_some]
/-- a while by a measure -/
theorem wp_wh {c : ZB} {body : ZS} (inv : EN → AH → Prop) (m : EN → AH → Nat) (h0 : inv E A)
    (step : ∀ E A, inv E A → Wp (c E A) fun b A1 => (b = true → Wp (body E A1) (fun o A' => match o with
      | .nx E' => inv E' A' ∧ m E' A' < m E A
      | .ct E' => inv E' A' ∧ m E' A' < m E A
      | .bk E' => S (.nx E') A'
      | .rt u => S (.rt u) A')) ∧ (b = false → S (.nx E) A1)) : Wp (zsWh c body E A) S := by
  have go : ∀ k E A, m E A < k → inv E A → ∃ j o A', loopW c body j E A = some (o, A') ∧ S o A' := by
    intro k
    induction k with
    | zero => intro E A h; omega
    | succ k ih =>
      intro E A hk h
      obtain ⟨b, A1, eb, q1, q2⟩ := step E A h
      cases b with
      | false => exact ⟨1, .nx E, A1, by simp [loopW, eb], q2 rfl⟩
      | true =>
        obtain ⟨o, A2, eo, q⟩ := q1 rfl
        cases o with
        | nx E2 =>
          obtain ⟨j, o', A', e, s⟩ := ih E2 A2 (by have := q.2; omega) q.1
          exact ⟨j + 1, o', A', by rw [loopW]; simp only [eb, Option.bind_some, if_true, eo]; exact e, s⟩
        | ct E2 =>
          obtain ⟨j, o', A', e, s⟩ := ih E2 A2 (by have := q.2; omega) q.1
          exact ⟨j + 1, o', A', by rw [loopW]; simp only [eb, Option.bind_some, if_true, eo]; exact e, s⟩
        | bk E2 => exact ⟨1, .nx E2, A2, by simp [loopW, eb, eo], q⟩
        | rt u => exact ⟨1, .rt u, A2, by simp [loopW, eb, eo], q⟩
  obtain ⟨j, o, A', e, s⟩ := go _ E A (Nat.lt_succ_self _) h0
  exact ⟨o, A', zsWh_of e, s⟩
/-- all(..) over fixed items, where the element changes nothing and hangs on the item alone -/
theorem wp_allFix {iter : ZI} {elt : ZE} {n : Nat} {cap : List Nat} {ws : List W} {A1 : AH} (hi : iter E A = some (.fix ws, A1)) (i0 : Nat) (f : W → Bool) (ht : t = .name i0) (hE : EN → Prop) (h0 : hE (startE n E cap)) (hset : ∀ E w, hE E → hE (E.set i0 (some w)))
    (step : ∀ E w, w ∈ ws → hE E → elt (E.set i0 (some w)) A1 = some (.bl (f w), A1)) (q : P (.bl (ws.all f)) A1) : Wp (zAA false n cap iter t elt E A) P := by
  subst ht
  have go : ∀ k i E, ws.length = i + k → hE E → loopG false (.fix ws) (.name i0) elt k i E A1 = some (.bl ((ws.drop i).all f), A1) := by
    intro k
    induction k with
    | zero =>
      intro i E hl h
      have : ws.drop i = [] := by rw [List.drop_eq_nil_iff]; omega
      simp [loopG, itemsS, hl, this]
    | succ k ih =>
      intro i E hl h
      have hlt : i < ws.length := by omega
      have hw : ws[i]? = some ws[i] := List.getElem?_eq_getElem hlt
      have hd : ws.drop i = ws[i] :: ws.drop (i + 1) := List.drop_eq_getElem_cons hlt
      rw [loopG]
      simp only [itemsS, Option.bind_some, hw, asg, step E _ (List.getElem_mem hlt) h]
      rw [hd, List.all_cons]
      cases hf : f ws[i] with
      | false => simp
      | true =>
        simp only [Bool.true_eq_false, if_false, Bool.true_and]
        exact ih (i + 1) _ (by omega) (hset _ _ h)
  refine ⟨_, A1, ?_, q⟩
  unfold zAA
  rw [hi]
  simp only [Option.bind_some, lenS, itemsS, Option.getD_some]
  rw [go ws.length 0 _ (by omega) h0, List.drop_zero]
end
end Z
namespace Z
open PySem L2
section
variable {E : EN} {A : AH} {S : Out → AH → Prop} {P : W → AH → Prop}
/-- all(.. for .. for ..) over fixed items, where nothing changes -/
theorem wp_all2Fix {iter iter1 : ZI} {elt : ZE} {n : Nat} {cap : List Nat} {ws : List W} {A1 : AH} (hi : iter E A = some (.fix ws, A1)) (i0 i1 : Nat) (es : W → List W) (f : W → Bool) (hE : EN → Prop) (h0 : hE (startE n E cap)) (hset : ∀ E i w, i = i0 ∨ i = i1 → hE E → hE (E.set i (some w)))
    (step1 : ∀ E w, w ∈ ws → hE E → iter1 (E.set i0 (some w)) A1 = some (.fix (es w), A1)) (step2 : ∀ E w x, w ∈ ws → x ∈ es w → hE E → elt (E.set i1 (some x)) A1 = some (.bl (f x), A1)) (q : P (.bl (ws.all fun w => (es w).all f)) A1) : Wp (zAA2 false n cap iter (.name i0) iter1 (.name i1) elt E A) P := by
  have inn : ∀ (w : W), w ∈ ws → ∀ k j E, (es w).length = j + k → hE E → ∃ E', hE E' ∧ loopI false (.fix (es w)) (.name i1) elt k j E A1 = some ((if ((es w).drop j).all f = true then none else some (.bl false), E'), A1) := by
    intro w hw k
    induction k with
    | zero =>
      intro j E hl h
      have : (es w).drop j = [] := by rw [List.drop_eq_nil_iff]; omega
      exact ⟨E, h, by simp [loopI, itemsS, hl, this]⟩
    | succ k ih =>
      intro j E hl h
      have hlt : j < (es w).length := by omega
      have hx : (es w)[j]? = some (es w)[j] := List.getElem?_eq_getElem hlt
      have hd : (es w).drop j = (es w)[j] :: (es w).drop (j + 1) := List.drop_eq_getElem_cons hlt
      have h1 := hset E i1 (es w)[j] (.inr rfl) h
      rw [loopI]
      simp only [itemsS, Option.bind_some, hx, asg, step2 E w _ hw (List.getElem_mem hlt) h]
      rw [hd, List.all_cons]
      cases hf : f (es w)[j] with
      | false => exact ⟨_, h1, by simp⟩
      | true =>
        simp only [Bool.true_eq_false, if_false, Bool.true_and]
        exact ih (j + 1) _ (by omega) h1
  have go : ∀ k i E, ws.length = i + k → hE E → loopO false (.fix ws) (.name i0) iter1 (.name i1) elt k i E A1 = some (.bl ((ws.drop i).all fun w => (es w).all f), A1) := by
    intro k
    induction k with
    | zero =>
      intro i E hl h
      have : ws.drop i = [] := by rw [List.drop_eq_nil_iff]; omega
      simp [loopO, itemsS, hl, this]
    | succ k ih =>
      intro i E hl h
      have hlt : i < ws.length := by omega
      have hw : ws[i]? = some ws[i] := List.getElem?_eq_getElem hlt
      have hd : ws.drop i = ws[i] :: ws.drop (i + 1) := List.drop_eq_getElem_cons hlt
      have h1 := hset E i0 ws[i] (.inl rfl) h
      obtain ⟨E', hE', el⟩ := inn ws[i] (List.getElem_mem hlt) (es ws[i]).length 0 _ (by omega) h1
      rw [loopO]
      simp only [itemsS, Option.bind_some, hw, asg, step1 E _ (List.getElem_mem hlt) h, lenS, Option.getD_some, el, List.drop_zero]
      rw [hd, List.all_cons]
      cases hf : (es ws[i]).all f with
      | false => simp
      | true =>
        simp only [if_true, Bool.true_and]
        exact ih (i + 1) _ (by omega) hE'
  refine ⟨_, A1, ?_, q⟩
  unfold zAA2
  rw [hi]
  simp only [Option.bind_some, lenS, itemsS, Option.getD_some]
  rw [go ws.length 0 _ (by omega) h0, List.drop_zero]
theorem wp_not1 {f : ZE} : Wp (zNotB f E A) P ↔ Wp (f E A) fun u A1 => ∃ b, u = .bl b ∧ P (.bl (!b)) A1 := by
  unfold zNotB; simp only [Wp.bind]
  constructor
  · rintro ⟨a, A', e, h⟩
    refine ⟨a, A', e, ?_⟩
    cases a with
    | bl b => exact ⟨b, rfl, Wp.some.mp h⟩
    | _ => exact (Wp.none.mp h).elim
  · rintro ⟨a, A', e, b, rfl, h⟩
    exact ⟨_, A', e, Wp.some.mpr h⟩
end
/-! types of data -/
def isTup : W → Bool
  | .tup _ => true
  | _ => false
def isBl : W → Bool
  | .bl _ => true
  | _ => false
def isInt : W → Bool
  | .int _ => true
  | _ => false
def isStr : W → Bool
  | .str _ => true
  | _ => false
/-- a value of its own, not in the heap -/
def isDat : W → Bool
  | .loc _ => false
  | .ty _ => false
  | .frl _ => false
  | _ => true
section
variable {w : W} {A : AH}
theorem isi_tuple (h : isDat w = true) : sIsi [w, .ty "tuple"] A = some (.bl (isTup w), A) := by
  cases w <;> first | rfl | cases h
theorem isi_bool (h : isDat w = true) : sIsi [w, .ty "bool"] A = some (.bl (isBl w), A) := by
  cases w <;> first | rfl | cases h
theorem isi_int (h : isDat w = true) : sIsi [w, .ty "int"] A = some (.bl (isInt w || isBl w), A) := by
  cases w <;> first | rfl | cases h
theorem isi_str (h : isDat w = true) : sIsi [w, .ty "str"] A = some (.bl (isStr w), A) := by
  cases w <;> first | rfl | cases h
end
end Z
set_option Elab.async false
set_option linter.all false
set_option maxRecDepth 100000
set_option maxHeartbeats 4000000
/-! M0: what the words do, for simp -/
namespace Z
open PySem L2
section
variable {E : EN} {A : AH} {f g h fo fi fv : ZE} {w : W} {i : Nat} {ga gb : ZA} {c d : ZB} {gs hs : ZS}
@[simp] theorem ev_V0 : zV 0 (some w :: E) A = some (w, A) := rfl
@[simp] theorem ev_Vs {x : Option W} : zV (i + 1) (x :: E) A = zV i E A := by unfold zV; simp
@[simp] theorem ev_V1 {x : Option W} : zV 1 (x :: E) A = zV 0 E A := ev_Vs
@[simp] theorem ev_V2 {x : Option W} : zV 2 (x :: E) A = zV 1 E A := ev_Vs
@[simp] theorem ev_V3 {x : Option W} : zV 3 (x :: E) A = zV 2 E A := ev_Vs
@[simp] theorem ev_V4 {x : Option W} : zV 4 (x :: E) A = zV 3 E A := ev_Vs
@[simp] theorem ev_V5 {x : Option W} : zV 5 (x :: E) A = zV 4 E A := ev_Vs
@[simp] theorem ev_V6 {x : Option W} : zV 6 (x :: E) A = zV 5 E A := ev_Vs
@[simp] theorem ev_V7 {x : Option W} : zV 7 (x :: E) A = zV 6 E A := ev_Vs
@[simp] theorem ev_V8 {x : Option W} : zV 8 (x :: E) A = zV 7 E A := ev_Vs
@[simp] theorem ev_V9 {x : Option W} : zV 9 (x :: E) A = zV 8 E A := ev_Vs
@[simp] theorem ev_V10 {x : Option W} : zV 10 (x :: E) A = zV 9 E A := ev_Vs
@[simp] theorem ev_C : zC w E A = some (w, A) := rfl
@[simp] theorem ev_aNil : zaNil E A = some ([], A) := rfl
@[simp] theorem ev_aCons : zaCons f ga E A = (f E A).bind fun p => (ga E p.2).map fun q => (p.1 :: q.1, q.2) := rfl
@[simp] theorem ev_z2 {s : S2} : z2 s f g E A = (f E A).bind fun p => (g E p.2).bind fun q => s p.1 q.1 q.2 := rfl
@[simp] theorem ev_z3 {s : S3} {lo hi : ZO} : z3 s f lo hi E A = (f E A).bind fun p => (lo E p.2).bind fun q => (hi E q.2).bind fun z => s p.1 q.1 z.1 z.2 := rfl
@[simp] theorem ev_oN : zoNone E A = some (none, A) := rfl
@[simp] theorem ev_oS : zoSome f E A = (f E A).bind fun p => match p.1 with
  | .int i => some (some i, p.2)
  | _ => none := rfl
@[simp] theorem ev_B {s : SN} : zB s ga E A = (ga E A).bind fun p => s p.1 p.2 := rfl
@[simp] theorem ev_M {tst : W → AH → Bool} {s : SM} : zM tst s f ga E A = (f E A).bind fun p => if tst p.1 p.2 = true then (ga E p.2).bind fun q => s p.1 q.1 q.2 else none := rfl
@[simp] theorem ev_call {n : Nat} {F : ZF} : zCall n F ga E A = (ga E A).bind fun p => if p.1.length = n then F p.1 p.2 else none := rfl
@[simp] theorem ev_tup : zTup ga E A = (ga E A).bind fun p => if p.1.length ≤ sizeLine then some (.tup p.1, p.2) else none := rfl
@[simp] theorem ev_lst : zLst ga E A = (ga E A).bind fun p => if p.1.length ≤ sizeLine then some (.loc p.2.length, p.2 ++ [.lst p.1]) else none := rfl
@[simp] theorem ev_bl : zBl f E A = (f E A).bind fun p => match p.1 with
  | .bl b => some (b, p.2)
  | _ => none := rfl
@[simp] theorem ev_tru : zTru f E A = (f E A).bind fun p => (truW p.2 p.1).map fun k => (k, p.2) := rfl
@[simp] theorem ev_not : zNot c E A = (c E A).map fun p => (.bl (!p.1), p.2) := rfl
@[simp] theorem ev_tnot : tzNot c E A = (c E A).map fun p => (!p.1, p.2) := rfl
@[simp] theorem ev_tand : tzAnd c d E A = (c E A).bind fun p => if p.1 = true then d E p.2 else some (false, p.2) := rfl
@[simp] theorem ev_tor : tzOr c d E A = (c E A).bind fun p => if p.1 = true then some (true, p.2) else d E p.2 := rfl
@[simp] theorem ev_and : zAnd f g E A = (f E A).bind fun p => (truW p.2 p.1).bind fun k => if k = true then g E p.2 else some p := rfl
@[simp] theorem ev_or : zOr f g E A = (f E A).bind fun p => (truW p.2 p.1).bind fun k => if k = true then some p else g E p.2 := rfl
@[simp] theorem ev_if : zIf c f g E A = (c E A).bind fun p => if p.1 = true then f E p.2 else g E p.2 := rfl
@[simp] theorem ev_yes : ztYes E A = some (true, A) := rfl
@[simp] theorem ev_neg : zNeg f E A = (f E A).bind fun p => match p.1 with
  | .int i => some (.int (-i), p.2)
  | _ => none := by rfl
@[simp] theorem ev_chain {s s' : S2} : zChain s s' f g h E A = (f E A).bind fun p => (g E p.2).bind fun q => (s p.1 q.1 q.2).bind fun z => match z.1 with
  | .bl true => (h E z.2).bind fun y => s' q.1 y.1 y.2
  | .bl false => some (.bl false, z.2)
  | _ => none := rfl
@[simp] theorem ev_skip : zsSkip E A = some (.nx E, A) := rfl
@[simp] theorem ev_ret : zsRet f E A = (f E A).map fun p => (.rt p.1, p.2) := rfl
@[simp] theorem ev_retN : zsRetN E A = some (.rt .non, A) := rfl
@[simp] theorem ev_drop : zsDrop f E A = (f E A).map fun p => (.nx E, p.2) := rfl
@[simp] theorem ev_sif : zsIf c gs hs E A = (c E A).bind fun p => if p.1 = true then gs E p.2 else hs E p.2 := rfl
@[simp] theorem ev_asg {t : Tg} : zsAsg f t E A = (f E A).bind fun p => (asg t p.1 E).map fun E' => (.nx E', p.2) := rfl
@[simp] theorem ev_asg1 : asg (.name i) w E = some (E.set i (some w)) := rfl
@[simp] theorem ev_asgT {ts : List Tg} {ws : List W} : asg (.tup ts) (.tup ws) E = asgs ts ws E := rfl
@[simp] theorem ev_asgs0 : asgs [] [] E = some E := rfl
@[simp] theorem ev_asgs1 {t : Tg} {ts : List Tg} {ws : List W} : asgs (t :: ts) (w :: ws) E = (asg t w E).bind fun E1 => asgs ts ws E1 := rfl
@[simp] theorem ev_seq : zsSeq gs hs E A = (gs E A).bind fun p => match p.1 with
  | .nx E1 => hs E1 p.2
  | o => some (o, p.2) := by
  unfold zsSeq
  cases gs E A with
  | none => rfl
  | some p => obtain ⟨o, A'⟩ := p; cases o <;> rfl
@[simp] theorem ev_def {N n : Nat} {ws : List W} : defZ N n gs ws A = if ws.length = n then (gs (start0 N ws) A).bind fun p => match p.1 with
    | .rt w => some (w, p.2)
    | .nx _ => some (.non, p.2)
    | _ => none
  else none := rfl
@[simp] theorem ev_start {N : Nat} {ws : List W} : start0 N ws = ws.map some ++ List.replicate (N - ws.length) none := rfl
@[simp] theorem ev_ii {C : Int → Int → Bool} {o : Int → Int → W} {a b : Int} : sII C o (.int a) (.int b) A = if C a b then some (o a b, A) else none := rfl
@[simp] theorem ev_truB {b : Bool} : truW A (.bl b) = some b := rfl
@[simp] theorem ev_truT {ws : List W} : truW A (.tup ws) = some (!ws.isEmpty) := rfl
@[simp] theorem ev_addI {a b : Int} : sAdd (.int a) (.int b) A = some (.int (a + b), A) := by simp [sAdd]
@[simp] theorem ev_addT {a b : List W} : sAdd (.tup a) (.tup b) A = if a.length + b.length ≤ sizeLine then some (.tup (a ++ b), A) else none := by
  simp [sAdd, sAddI, sII, sAddS, sAddT, sAddL]
@[simp] theorem ev_ixT {ws : List W} {a : Int} : sIx (.tup ws) (.int a) A = (atI ws a).map fun w => (w, A) := by
  simp [sIx, sIxT, sIxL, sIxS]
@[simp] theorem ev_lenT {ws : List W} : sLen [.tup ws] A = some (.int ws.length, A) := rfl
@[simp] theorem ev_isN : sIsN w .non A = some (.bl (isNonW w), A) := rfl
@[simp] theorem ev_notN : sNotN w .non A = some (.bl (!isNonW w), A) := rfl
@[simp] theorem ev_notB {a b : Bool} : sNotB (.bl a) (.bl b) A = some (.bl (!decide (a = b)), A) := rfl
@[simp] theorem ev_tupT {ws : List W} : sTuple [.tup ws] A = some (.tup ws, A) := rfl
end
section
variable {A : AH}
@[simp] theorem isi_tuple_non : sIsi [.non, .ty "tuple"] A = some (.bl false, A) := by rfl
@[simp] theorem isi_tuple_bl {b : Bool} : sIsi [.bl b, .ty "tuple"] A = some (.bl false, A) := by rfl
@[simp] theorem isi_tuple_int {i : Int} : sIsi [.int i, .ty "tuple"] A = some (.bl false, A) := by rfl
@[simp] theorem isi_tuple_str {z : Str} : sIsi [.str z, .ty "tuple"] A = some (.bl false, A) := by rfl
@[simp] theorem isi_tuple_tup {ws : List W} : sIsi [.tup ws, .ty "tuple"] A = some (.bl true, A) := by rfl
@[simp] theorem isi_bool_non : sIsi [.non, .ty "bool"] A = some (.bl false, A) := by rfl
@[simp] theorem isi_bool_bl {b : Bool} : sIsi [.bl b, .ty "bool"] A = some (.bl true, A) := by rfl
@[simp] theorem isi_bool_int {i : Int} : sIsi [.int i, .ty "bool"] A = some (.bl false, A) := by rfl
@[simp] theorem isi_bool_str {z : Str} : sIsi [.str z, .ty "bool"] A = some (.bl false, A) := by rfl
@[simp] theorem isi_bool_tup {ws : List W} : sIsi [.tup ws, .ty "bool"] A = some (.bl false, A) := by rfl
@[simp] theorem isi_int_non : sIsi [.non, .ty "int"] A = some (.bl false, A) := by rfl
@[simp] theorem isi_int_bl {b : Bool} : sIsi [.bl b, .ty "int"] A = some (.bl true, A) := by rfl
@[simp] theorem isi_int_int {i : Int} : sIsi [.int i, .ty "int"] A = some (.bl true, A) := by rfl
@[simp] theorem isi_int_str {z : Str} : sIsi [.str z, .ty "int"] A = some (.bl false, A) := by rfl
@[simp] theorem isi_int_tup {ws : List W} : sIsi [.tup ws, .ty "int"] A = some (.bl false, A) := by rfl
@[simp] theorem isi_str_non : sIsi [.non, .ty "str"] A = some (.bl false, A) := by rfl
@[simp] theorem isi_str_bl {b : Bool} : sIsi [.bl b, .ty "str"] A = some (.bl false, A) := by rfl
@[simp] theorem isi_str_int {i : Int} : sIsi [.int i, .ty "str"] A = some (.bl false, A) := by rfl
@[simp] theorem isi_str_str {z : Str} : sIsi [.str z, .ty "str"] A = some (.bl true, A) := by rfl
@[simp] theorem isi_str_tup {ws : List W} : sIsi [.tup ws, .ty "str"] A = some (.bl false, A) := by rfl
@[simp] theorem dat_non : isDat (.non) = true := rfl
@[simp] theorem isTup_non : isTup (.non) = false := rfl
@[simp] theorem isBl_non : isBl (.non) = false := rfl
@[simp] theorem dat_bl {b : Bool} : isDat (.bl b) = true := rfl
@[simp] theorem isTup_bl {b : Bool} : isTup (.bl b) = false := rfl
@[simp] theorem isBl_bl {b : Bool} : isBl (.bl b) = true := rfl
@[simp] theorem dat_int {i : Int} : isDat (.int i) = true := rfl
@[simp] theorem isTup_int {i : Int} : isTup (.int i) = false := rfl
@[simp] theorem isBl_int {i : Int} : isBl (.int i) = false := rfl
@[simp] theorem dat_str {z : Str} : isDat (.str z) = true := rfl
@[simp] theorem isTup_str {z : Str} : isTup (.str z) = false := rfl
@[simp] theorem isBl_str {z : Str} : isBl (.str z) = false := rfl
@[simp] theorem dat_tup {ws : List W} : isDat (.tup ws) = true := rfl
@[simp] theorem isTup_tup {ws : List W} : isTup (.tup ws) = true := rfl
@[simp] theorem isBl_tup {ws : List W} : isBl (.tup ws) = false := rfl
end
@[simp] theorem sz1 : (1 ≤ sizeLine) = True := by simp; decide
@[simp] theorem sz2 : (2 ≤ sizeLine) = True := by simp; decide
@[simp] theorem sz3 : (3 ≤ sizeLine) = True := by simp; decide
end Z
set_option Elab.async false
set_option linter.all false
set_option maxRecDepth 100000
set_option maxHeartbeats 4000000
namespace Z
open PySem L2
noncomputable section
def top (i : Nat) : Stmt := PySem.Challenge.pw_everytick_k55_forms_of_machines.main.body.getD i (.Pass ⟨0, 0, 0, 0⟩)
/-! is_whole -/
abbrev s_is_whole : Stmt := top 1
abbrev N_is_whole : List Str := ["value", "low", "high"]
theorem sc_is_whole : FnScope N_is_whole ["value", "low", "high"] (defScope s_is_whole) := ⟨rfl, rfl, rfl, by decide +kernel, rfl, by decide +kernel, by decide +kernel⟩
def g_is_whole : ZS :=
  (zsRet (zAnd (zB sIsi (zaCons (zV 0) (zaCons (zC (.ty "int")) zaNil))) (zAnd (zNot (zTru (zB sIsi (zaCons (zV 0) (zaCons (zC (.ty "bool")) zaNil))))) (zChain sLe sLe (zV 1) (zV 0) (zV 2)))))
def F_is_whole : ZF := defZ 3 3 (g_is_whole)
theorem ok_is_whole [Tabs] {P : Program} {w : World} {K : PySem.W.Frag} {mg : Str → Option Value} {base : Heap} {f : Addr} {fd : FuncData} {k : Nat} (B : Blt mg) (F : Fun K "is_whole" "is_whole" s_is_whole f fd) (m : mg "is_whole" = some (.ref f)) : Cal P w K mg base (k + 1) "is_whole" 3 (F_is_whole) :=
  ⟨f, fd, ["value", "low", "high"], z_def F sc_is_whole (g_is_whole) (fun cdv A outer s H E hr =>
    (zs_one (zs_ret (z_and (z_bi call_isi ok_isi rfl B.isinstance bt_isinstance (za_cons (zv 0) (za_cons (z_tyname rfl B.int bt_int) za_nil))) (z_and (z_not (z_bi call_isi ok_isi rfl B.isinstance bt_isinstance (za_cons (zv 0) (za_cons (z_tyname rfl B.bool bt_bool) za_nil)))) (z_one (z_chain op_le ok_le op_le ok_le (zv 1) (zv 0) (zv 2)))))))), m, F.kp, F.binds fun _ _ _ _ _ _ us hl => match us, hl with | [_, _, _], _ => rfl⟩
/-! is_tuple -/
abbrev s_is_tuple : Stmt := top 2
abbrev N_is_tuple : List Str := ["value", "least", "most"]
theorem sc_is_tuple : FnScope N_is_tuple ["value", "least", "most"] (defScope s_is_tuple) := ⟨rfl, rfl, rfl, by decide +kernel, rfl, by decide +kernel, by decide +kernel⟩
def g_is_tuple : ZS :=
  (zsRet (zAnd (zB sIsi (zaCons (zV 0) (zaCons (zC (.ty "tuple")) zaNil))) (zChain sLe sLe (zV 1) (zB sLen (zaCons (zV 0) zaNil)) (zV 2))))
def F_is_tuple : ZF := defZ 3 3 (g_is_tuple)
theorem ok_is_tuple [Tabs] {P : Program} {w : World} {K : PySem.W.Frag} {mg : Str → Option Value} {base : Heap} {f : Addr} {fd : FuncData} {k : Nat} (B : Blt mg) (F : Fun K "is_tuple" "is_tuple" s_is_tuple f fd) (m : mg "is_tuple" = some (.ref f)) : Cal P w K mg base (k + 1) "is_tuple" 3 (F_is_tuple) :=
  ⟨f, fd, ["value", "least", "most"], z_def F sc_is_tuple (g_is_tuple) (fun cdv A outer s H E hr =>
    (zs_one (zs_ret (z_and (z_bi call_isi ok_isi rfl B.isinstance bt_isinstance (za_cons (zv 0) (za_cons (z_tyname rfl B.tuple bt_tuple) za_nil))) (z_one (z_chain op_le ok_le op_le ok_le (zv 1) (z_bi call_len ok_len rfl B.len bt_len (za_cons (zv 0) za_nil)) (zv 2))))))), m, F.kp, F.binds fun _ _ _ _ _ _ us hl => match us, hl with | [_, _, _], _ => rfl⟩
/-! are_different -/
abbrev s_are_different : Stmt := top 3
abbrev N_are_different : List Str := ["texts"]
theorem sc_are_different : FnScope N_are_different ["texts"] (defScope s_are_different) := ⟨rfl, rfl, rfl, by decide +kernel, rfl, by decide +kernel, by decide +kernel⟩
def g_are_different : ZS :=
  (zsRet (z2 sEq (zLenSet (zV 0)) (zB sLen (zaCons (zV 0) zaNil))))
def F_are_different : ZF := defZ 1 1 (g_are_different)
theorem ok_are_different [Tabs] {P : Program} {w : World} {K : PySem.W.Frag} {mg : Str → Option Value} {base : Heap} {f : Addr} {fd : FuncData} {k : Nat} (B : Blt mg) (F : Fun K "are_different" "are_different" s_are_different f fd) (m : mg "are_different" = some (.ref f)) : Cal P w K mg base (k + 1) "are_different" 1 (F_are_different) :=
  ⟨f, fd, ["texts"], z_def F sc_are_different (g_are_different) (fun cdv A outer s H E hr =>
    (zs_one (zs_ret (z_cmp (op_eqD hr.units) ok_eq (z_lenSet hr rfl rfl B.len rfl B.set (zv 0)) (z_bi call_len ok_len rfl B.len bt_len (za_cons (zv 0) za_nil)) (nomark _))))), m, F.kp, F.binds fun _ _ _ _ _ _ us hl => match us, hl with | [_], _ => rfl⟩
/-! marked -/
abbrev s_marked : Stmt := top 4
abbrev N_marked : List Str := ["value"]
theorem sc_marked : FnScope N_marked ["value"] (defScope s_marked) := ⟨rfl, rfl, rfl, by decide +kernel, rfl, by decide +kernel, by decide +kernel⟩
def g_marked : ZS :=
  (zsRet (zTup (zaCons (zB sIsi (zaCons (zV 0) (zaCons (zC (.ty "bool")) zaNil))) (zaCons (zV 0) zaNil))))
def F_marked : ZF := defZ 1 1 (g_marked)
theorem ok_marked [Tabs] {P : Program} {w : World} {K : PySem.W.Frag} {mg : Str → Option Value} {base : Heap} {f : Addr} {fd : FuncData} {k : Nat} (B : Blt mg) (F : Fun K "marked" "marked" s_marked f fd) (m : mg "marked" = some (.ref f)) : Cal P w K mg base (k + 1) "marked" 1 (F_marked) :=
  ⟨f, fd, ["value"], z_def F sc_marked (g_marked) (fun cdv A outer s H E hr =>
    (zs_one (zs_ret (z_tup (za_cons (z_bi call_isi ok_isi rfl B.isinstance bt_isinstance (za_cons (zv 0) (za_cons (z_tyname rfl B.bool bt_bool) za_nil))) (za_cons (zv 0) za_nil)))))), m, F.kp, F.binds fun _ _ _ _ _ _ us hl => match us, hl with | [_], _ => rfl⟩
/-! key_of -/
abbrev s_key_of : Stmt := top 6
abbrev N_key_of : List Str := ["value", "found", "rest", "part"]
theorem sc_key_of : FnScope N_key_of ["value"] (defScope s_key_of) := ⟨rfl, rfl, rfl, by decide +kernel, rfl, by decide +kernel, by decide +kernel⟩
def g_key_of (c_marked : ZF) : ZS :=
  (zsSeq (zsAsg (zLst zaNil) (.name 1)) (zsSeq (zsAsg (zLst (zaCons (zV 0) zaNil)) (.name 2)) (zsSeq (zsWh (zTru (zV 2)) (zsSeq (zsAsg (zM isLstB sPop (zV 2) zaNil) (.name 3)) (zsIf (zTru (zB sIsi (zaCons (zV 3) (zaCons (zC (.ty "tuple")) zaNil)))) (zsSeq (zsDrop (zM isLstB sAppend (zV 1) (zaCons (zTup (zaCons (zB sLen (zaCons (zV 3) zaNil)) zaNil)) zaNil))) (zsDrop (zM isLstB sExtU (zV 2) (zaCons (zV 3) zaNil)))) (zsDrop (zM isLstB sAppend (zV 1) (zaCons (zCall 1 c_marked (zaCons (zV 3) zaNil)) zaNil)))))) (zsRet (zB sTuple (zaCons (zV 1) zaNil))))))
def F_key_of (c_marked : ZF) : ZF := defZ 4 1 (g_key_of c_marked)
theorem ok_key_of [Tabs] {P : Program} {w : World} {K : PySem.W.Frag} {mg : Str → Option Value} {base : Heap} {f : Addr} {fd : FuncData} {k : Nat} (B : Blt mg) (F : Fun K "key_of" "key_of" s_key_of f fd) (m : mg "key_of" = some (.ref f)) {c_marked : ZF} (C_marked : Cal P w K mg base k "marked" 1 c_marked) : Cal P w K mg base (k + 1) "key_of" 1 (F_key_of c_marked) :=
  ⟨f, fd, ["value"], z_def F sc_key_of (g_key_of c_marked) (fun cdv A outer s H E hr =>
    (zs_cons (zs_set (i := 1) sc_key_of.nd rfl (by first | exact Or.inl rfl | exact Or.inr rfl) (z_lst za_nil)) (zs_cons (zs_set (i := 2) sc_key_of.nd rfl (by first | exact Or.inl rfl | exact Or.inr rfl) (z_lst (za_cons (zv 0) za_nil))) (zs_cons (zs_wh PySem.PassesOwn.never (zt_val (zv 2)) (zs_cons (zs_set (i := 3) sc_key_of.nd rfl (by first | exact Or.inl rfl | exact Or.inr rfl) (z_m0 PySem.F.plainAttrs_list PySem.F.slot_list_pop PySem.F.type_list_pop mt_pop ok_pop (zv 2))) (zs_one (zs_if (zt_val (z_bi call_isi ok_isi rfl B.isinstance bt_isinstance (za_cons (zv 3) (za_cons (z_tyname rfl B.tuple bt_tuple) za_nil)))) (zs_cons (zs_expr (z_m PySem.F.plainAttrs_list PySem.F.slot_list_append PySem.F.type_list_append mt_append ok_append (zv 1) (za_cons (z_tup (za_cons (z_bi call_len ok_len rfl B.len bt_len (za_cons (zv 3) za_nil)) za_nil)) za_nil))) (zs_one (zs_expr (z_m PySem.F.plainAttrs_list PySem.F.slot_list_extend PySem.F.type_list_extend mt_extU ok_extU (zv 2) (za_cons (zv 3) za_nil))))) (zs_one (zs_expr (z_m PySem.F.plainAttrs_list PySem.F.slot_list_append PySem.F.type_list_append mt_append ok_append (zv 1) (za_cons (z_cal C_marked hr rfl (za_cons (zv 3) za_nil)) za_nil)))))))) (zs_one (zs_ret (z_ty call_tupleN ok_tuple rfl B.tuple bt_tuple (za_cons (zv 1) za_nil)))))))), m, F.kp, F.binds fun _ _ _ _ _ _ us hl => match us, hl with | [_], _ => rfl⟩
/-! Walk___init__ -/
abbrev s_Walk___init__ : Stmt := inClass (top 8) 0
abbrev N_Walk___init__ : List Str := ["self", "start"]
theorem sc_Walk___init__ : FnScope N_Walk___init__ ["self", "start"] (defScope s_Walk___init__) := ⟨rfl, rfl, rfl, by decide +kernel, rfl, by decide +kernel, by decide +kernel⟩
def g_Walk___init__ (C_Walk : Addr) : ZS :=
  (zsSeq (zsFld C_Walk "queue" (zLst (zaCons (zV 1) zaNil)) (zV 0)) (zsSeq (zsFld C_Walk "steps" (zDisp [((zV 1), (zC .non))]) (zV 0)) (zsFld C_Walk "at" (zC (.int 0)) (zV 0))))
def F_Walk___init__ (C_Walk : Addr) : ZF := defZ 2 2 (g_Walk___init__ C_Walk)
theorem ok_Walk___init__ [Tabs] {P : Program} {w : World} {K : PySem.W.Frag} {mg : Str → Option Value} {base : Heap} {f : Addr} {fd : FuncData} {k : Nat} (B : Blt mg) (F : Fun K "__init__" "Walk.__init__" s_Walk___init__ f fd) {C_Walk : Addr} (K_Walk : ClsZ K C_Walk ["queue", "steps", "at"]) {x : Str} (mk : Mk K C_Walk f) (m : mg x = some (.ref C_Walk)) : MkZ P w K mg base (k + 1) x C_Walk 2 (F_Walk___init__ C_Walk) :=
  ⟨f, fd, ["self", "start"], z_def F sc_Walk___init__ (g_Walk___init__ C_Walk) (fun cdv A outer s H E hr =>
    (zs_cons (zs_fld K_Walk.cls (K_Walk.na "queue" (by decide)) (zv 0) (z_lst (za_cons (zv 1) za_nil))) (zs_cons (zs_fld K_Walk.cls (K_Walk.na "steps" (by decide)) (zv 0) (z_disp (trs := [((zV 1), (zC .non))]) (pps_cons (zv 1) z_non pps_nil))) (zs_one (zs_fld K_Walk.cls (K_Walk.na "at" (by decide)) (zv 0) z_int))))), mk, F.binds fun _ _ _ _ _ _ us hl => match us, hl with | [_, _], _ => rfl, m⟩
/-! Walk_is_over -/
abbrev s_Walk_is_over : Stmt := inClass (top 8) 1
abbrev N_Walk_is_over : List Str := ["self"]
theorem sc_Walk_is_over : FnScope N_Walk_is_over ["self"] (defScope s_Walk_is_over) := ⟨rfl, rfl, rfl, by decide +kernel, rfl, by decide +kernel, by decide +kernel⟩
def g_Walk_is_over (C_Walk : Addr) : ZS :=
  (zsRet (z2 sEq (zFld C_Walk "at" (zV 0)) (zB sLen (zaCons (zFld C_Walk "queue" (zV 0)) zaNil))))
def F_Walk_is_over (C_Walk : Addr) : ZF := defZ 1 1 (g_Walk_is_over C_Walk)
theorem ok_Walk_is_over [Tabs] {P : Program} {w : World} {K : PySem.W.Frag} {mg : Str → Option Value} {base : Heap} {f : Addr} {fd : FuncData} {k : Nat} (B : Blt mg) (F : Fun K "is_over" "Walk.is_over" s_Walk_is_over f fd) {C_Walk : Addr} (K_Walk : ClsZ K C_Walk ["queue", "steps", "at"]) (m : Meth K C_Walk "is_over" f) : Mth P w K mg base (k + 1) C_Walk "is_over" 1 (F_Walk_is_over C_Walk) :=
  ⟨f, fd, ["self"], z_def F sc_Walk_is_over (g_Walk_is_over C_Walk) (fun cdv A outer s H E hr =>
    (zs_one (zs_ret (z_cmp (op_eqD hr.units) ok_eq (z_fld K_Walk.cls (K_Walk.na "at" (by decide)) (zv 0)) (z_bi call_len ok_len rfl B.len bt_len (za_cons (z_fld K_Walk.cls (K_Walk.na "queue" (by decide)) (zv 0)) za_nil)) (nomark _))))), m, F.binds fun _ _ _ _ _ _ us hl => match us, hl with | [_], _ => rfl⟩
/-! Walk_take -/
abbrev s_Walk_take : Stmt := inClass (top 8) 2
abbrev N_Walk_take : List Str := ["self"]
theorem sc_Walk_take : FnScope N_Walk_take ["self"] (defScope s_Walk_take) := ⟨rfl, rfl, rfl, by decide +kernel, rfl, by decide +kernel, by decide +kernel⟩
def g_Walk_take (C_Walk : Addr) : ZS :=
  (zsSeq (zsFldAug C_Walk "at" (zV 0) (zC (.int 1))) (zsRet (z2 sIx (zFld C_Walk "queue" (zV 0)) (z2 sSub (zFld C_Walk "at" (zV 0)) (zC (.int 1))))))
def F_Walk_take (C_Walk : Addr) : ZF := defZ 1 1 (g_Walk_take C_Walk)
theorem ok_Walk_take [Tabs] {P : Program} {w : World} {K : PySem.W.Frag} {mg : Str → Option Value} {base : Heap} {f : Addr} {fd : FuncData} {k : Nat} (B : Blt mg) (F : Fun K "take" "Walk.take" s_Walk_take f fd) {C_Walk : Addr} (K_Walk : ClsZ K C_Walk ["queue", "steps", "at"]) (m : Meth K C_Walk "take" f) : Mth P w K mg base (k + 1) C_Walk "take" 1 (F_Walk_take C_Walk) :=
  ⟨f, fd, ["self"], z_def F sc_Walk_take (g_Walk_take C_Walk) (fun cdv A outer s H E hr =>
    (zs_cons (zs_fldAug K_Walk.cls (K_Walk.na "at" (by decide)) (zv 0) z_int) (zs_one (zs_ret (z_ix ix_U ok_ix (z_fld K_Walk.cls (K_Walk.na "queue" (by decide)) (zv 0)) (z_op op_sub ok_sub (z_fld K_Walk.cls (K_Walk.na "at" (by decide)) (zv 0)) z_int) (fun _ _ => rfl)))))), m, F.binds fun _ _ _ _ _ _ us hl => match us, hl with | [_], _ => rfl⟩
/-! Walk_come_to -/
abbrev s_Walk_come_to : Stmt := inClass (top 8) 3
abbrev N_Walk_come_to : List Str := ["self", "state", "before", "r"]
theorem sc_Walk_come_to : FnScope N_Walk_come_to ["self", "state", "before", "r"] (defScope s_Walk_come_to) := ⟨rfl, rfl, rfl, by decide +kernel, rfl, by decide +kernel, by decide +kernel⟩
def g_Walk_come_to (C_Walk : Addr) : ZS :=
  (zsIf (zBl (zNotB (z2 sDIn (zV 1) (zFld C_Walk "steps" (zV 0))))) (zsSeq (zsDPut (zTup (zaCons (zV 2) (zaCons (zV 3) zaNil))) (zFld C_Walk "steps" (zV 0)) (zV 1)) (zsDrop (zM isLstB sAppend (zFld C_Walk "queue" (zV 0)) (zaCons (zV 1) zaNil)))) zsSkip)
def F_Walk_come_to (C_Walk : Addr) : ZF := defZ 4 4 (g_Walk_come_to C_Walk)
theorem ok_Walk_come_to [Tabs] {P : Program} {w : World} {K : PySem.W.Frag} {mg : Str → Option Value} {base : Heap} {f : Addr} {fd : FuncData} {k : Nat} (B : Blt mg) (F : Fun K "come_to" "Walk.come_to" s_Walk_come_to f fd) {C_Walk : Addr} (K_Walk : ClsZ K C_Walk ["queue", "steps", "at"]) (m : Meth K C_Walk "come_to" f) : Mth P w K mg base (k + 1) C_Walk "come_to" 4 (F_Walk_come_to C_Walk) :=
  ⟨f, fd, ["self", "state", "before", "r"], z_def F sc_Walk_come_to (g_Walk_come_to C_Walk) (fun cdv A outer s H E hr =>
    (zs_one (zs_if (zt_dnotin (hu_of hr) (zv 1) (z_fld K_Walk.cls (K_Walk.na "steps" (by decide)) (zv 0))) (zs_cons (zs_dput (hu_of hr) (z_fld K_Walk.cls (K_Walk.na "steps" (by decide)) (zv 0)) (zv 1) (z_tup (za_cons (zv 2) (za_cons (zv 3) za_nil)))) (zs_one (zs_expr (z_m PySem.F.plainAttrs_list PySem.F.slot_list_append PySem.F.type_list_append mt_append ok_append (z_fld K_Walk.cls (K_Walk.na "queue" (by decide)) (zv 0)) (za_cons (zv 1) za_nil))))) zs_nil))), m, F.binds fun _ _ _ _ _ _ us hl => match us, hl with | [_, _, _, _], _ => rfl⟩
/-! Walk_way_to -/
abbrev s_Walk_way_to : Stmt := inClass (top 8) 4
abbrev N_Walk_way_to : List Str := ["self", "state", "r", "way", "step"]
theorem sc_Walk_way_to : FnScope N_Walk_way_to ["self", "state", "r"] (defScope s_Walk_way_to) := ⟨rfl, rfl, rfl, by decide +kernel, rfl, by decide +kernel, by decide +kernel⟩
def g_Walk_way_to (C_Walk : Addr) : ZS :=
  (zsSeq (zsAsg (zLst (zaCons (zV 2) zaNil)) (.name 3)) (zsSeq (zsAsg (z2 sDGet (zFld C_Walk "steps" (zV 0)) (zV 1)) (.name 4)) (zsSeq (zsWh (zBl (z2 sNotN (zV 4) (zC .non))) (zsSeq (zsDrop (zM isLstB sAppend (zV 3) (zaCons (z2 sIx (zV 4) (zC (.int 1))) zaNil))) (zsAsg (z2 sDGet (zFld C_Walk "steps" (zV 0)) (z2 sIx (zV 4) (zC (.int 0)))) (.name 4)))) (zsRet (zB sTuple (zaCons (zRevL (zV 3)) zaNil))))))
def F_Walk_way_to (C_Walk : Addr) : ZF := defZ 5 3 (g_Walk_way_to C_Walk)
theorem ok_Walk_way_to [Tabs] {P : Program} {w : World} {K : PySem.W.Frag} {mg : Str → Option Value} {base : Heap} {f : Addr} {fd : FuncData} {k : Nat} (B : Blt mg) (F : Fun K "way_to" "Walk.way_to" s_Walk_way_to f fd) {C_Walk : Addr} (K_Walk : ClsZ K C_Walk ["queue", "steps", "at"]) (m : Meth K C_Walk "way_to" f) : Mth P w K mg base (k + 1) C_Walk "way_to" 3 (F_Walk_way_to C_Walk) :=
  ⟨f, fd, ["self", "state", "r"], z_def F sc_Walk_way_to (g_Walk_way_to C_Walk) (fun cdv A outer s H E hr =>
    (zs_cons (zs_set (i := 3) sc_Walk_way_to.nd rfl (by first | exact Or.inl rfl | exact Or.inr rfl) (z_lst (za_cons (zv 2) za_nil))) (zs_cons (zs_set (i := 4) sc_Walk_way_to.nd rfl (by first | exact Or.inl rfl | exact Or.inr rfl) (z_dget (hu_of hr) (z_fld K_Walk.cls (K_Walk.na "steps" (by decide)) (zv 0)) (zv 1) (fun _ _ => rfl))) (zs_cons (zs_wh PySem.PassesOwn.never (zt_cmp op_notN ok_notN (zv 4) z_non (nomark _)) (zs_cons (zs_expr (z_m PySem.F.plainAttrs_list PySem.F.slot_list_append PySem.F.type_list_append mt_append ok_append (zv 3) (za_cons (z_ix ix_U ok_ix (zv 4) z_int (fun _ _ => rfl)) za_nil))) (zs_one (zs_set (i := 4) sc_Walk_way_to.nd rfl (by first | exact Or.inl rfl | exact Or.inr rfl) (z_dget (hu_of hr) (z_fld K_Walk.cls (K_Walk.na "steps" (by decide)) (zv 0)) (z_ix ix_U ok_ix (zv 4) z_int (fun _ _ => rfl)) (fun _ _ => rfl)))))) (zs_one (zs_ret (z_ty call_tupleN ok_tuple rfl B.tuple bt_tuple (za_cons (z_revL (zv 3)) za_nil)))))))), m, F.binds fun _ _ _ _ _ _ us hl => match us, hl with | [_, _, _], _ => rfl⟩
/-! is_machine -/
abbrev s_is_machine : Stmt := top 10
abbrev N_is_machine : List Str := ["value", "rows", "table", "entries", "entry", "row"]
theorem sc_is_machine : FnScope N_is_machine ["value"] (defScope s_is_machine) := ⟨rfl, rfl, rfl, by decide +kernel, rfl, by decide +kernel, by decide +kernel⟩
def g_is_machine (c_is_tuple : ZF) (c__are_tuples : ZF) (c_are_different : ZF) (c_key_of : ZF) (c__is_entry : ZF) (c__are_numbered : ZF) : ZS :=
  (zsSeq (zsIf (tzNot (zTru (zCall 3 c_is_tuple (zaCons (zV 0) (zaCons (zC (.int 2)) (zaCons (zC (.int 2)) zaNil)))))) (zsRet (zC (.bl false))) zsSkip) (zsSeq (zsAsg (zV 0) (.tup [(.name 1), (.name 2)])) (zsSeq (zsIf (tzOr (tzNot (zTru (zCall 1 c__are_tuples (zaCons (zV 1) zaNil)))) (tzOr (tzNot (zTru (zCall 1 c_are_different (zaCons (zLc (ziSeq (zV 1)) (.name 5) ztYes (zCall 1 c_key_of (zaCons (zV 5) zaNil)) [5]) zaNil)))) (tzNot (zTru (zCall 1 c__are_tuples (zaCons (zV 2) zaNil)))))) (zsRet (zC (.bl false))) zsSkip) (zsSeq (zsIf (tzNot (zTru (zAA false 1 [1] (ziSeq (zV 2)) (.name 0) (z2 sEq (zB sLen (zaCons (zV 0) zaNil)) (zB sLen (zaCons (zV 1) zaNil)))))) (zsRet (zC (.bl false))) zsSkip) (zsSeq (zsIf (tzNot (zTru (zAA2 false 2 [2] (ziSeq (zV 2)) (.name 0) (ziSeq (zV 0)) (.name 1) (zCall 2 c__is_entry (zaCons (zV 1) (zaCons (zB sLen (zaCons (zV 2) zaNil)) zaNil)))))) (zsRet (zC (.bl false))) zsSkip) (zsRet (zCall 1 c__are_numbered (zaCons (zV 2) zaNil))))))))
def F_is_machine (c_is_tuple : ZF) (c__are_tuples : ZF) (c_are_different : ZF) (c_key_of : ZF) (c__is_entry : ZF) (c__are_numbered : ZF) : ZF := defZ 6 1 (g_is_machine c_is_tuple c__are_tuples c_are_different c_key_of c__is_entry c__are_numbered)
theorem ok_is_machine [Tabs] {P : Program} {w : World} {K : PySem.W.Frag} {mg : Str → Option Value} {base : Heap} {f : Addr} {fd : FuncData} {k : Nat} (B : Blt mg) (F : Fun K "is_machine" "is_machine" s_is_machine f fd) (m : mg "is_machine" = some (.ref f)) {c P0 : Addr} (hP_is_machine : P0 ∈ Tabs.T) (TB_is_machine : GxR.TabB base mg c P0) (hc_is_machine : fd.code = .ref c) {c_is_tuple : ZF} (C_is_tuple : Cal P w K mg base k "is_tuple" 3 c_is_tuple) {c__are_tuples : ZF} (C__are_tuples : Cal P w K mg base k "_are_tuples" 1 c__are_tuples) {c_are_different : ZF} (C_are_different : Cal P w K mg base k "are_different" 1 c_are_different) {c_key_of : ZF} (C_key_of : Cal P w K mg base k "key_of" 1 c_key_of) {c__is_entry : ZF} (C__is_entry : Cal P w K mg base k "_is_entry" 2 c__is_entry) {c__are_numbered : ZF} (C__are_numbered : Cal P w K mg base k "_are_numbered" 1 c__are_numbered) : Cal P w K mg base (k + 2) "is_machine" 1 (F_is_machine c_is_tuple c__are_tuples c_are_different c_key_of c__is_entry c__are_numbered) :=
  ⟨f, fd, ["value"], z_defC F hc_is_machine sc_is_machine (g_is_machine c_is_tuple c__are_tuples c_are_different c_key_of c__is_entry c__are_numbered) (fun A outer s H E hr =>
    (zs_cons (zs_if (zt_not (zt_val (z_cal (C_is_tuple.mono (Nat.le_succ k)) hr rfl (za_cons (zv 0) (za_cons z_int (za_cons z_int za_nil)))))) (zs_one (zs_ret z_bl)) zs_nil) (zs_cons (zs_asg (zv 0) (pg_tup rfl (pgs_cons (pg_name (i := 1) sc_is_machine.nd rfl (by first | exact Or.inl rfl | exact Or.inr rfl)) (pgs_cons (pg_name (i := 2) sc_is_machine.nd rfl (by first | exact Or.inl rfl | exact Or.inr rfl)) pgs_nil)))) (zs_cons (zs_if (zw (zw_or (zt_not (zt_val (z_cal (C__are_tuples.mono (Nat.le_succ k)) hr rfl (za_cons (zv 1) za_nil)))) (zw_or (zt_not (zt_val (z_cal (C_are_different.mono (Nat.le_succ k)) hr rfl (za_cons (z_lc [("row", 5)] (by decide) rfl sc_is_machine.nd (zi_seq (zv 1)) (blkOk_by (N := N_is_machine) (sc := defScope s_is_machine) (own := [("row", 5)]) (by decide +kernel)) (fun _ _ _ _ _ => (pg_name (i := 5) sc_is_machine.nd rfl (by first | exact Or.inl rfl | exact Or.inr rfl))) (fun _ _ _ _ _ => zts_nil) (fun _ _ _ _ _ => (z_cal (C_key_of.mono (Nat.le_succ k)) hr rfl (za_cons (zv 5) za_nil)))) za_nil)))) (zw_or1 (zt_not (zt_val (z_cal (C__are_tuples.mono (Nat.le_succ k)) hr rfl (za_cons (zv 2) za_nil)))))))) (zs_one (zs_ret z_bl)) zs_nil) (zs_cons (zs_if (zt_not (zt_val (z_all (N0 := ["entries"]) (fr := ["rows"]) (cap := [1]) hP_is_machine TB_is_machine hr rfl B.all rfl (gsc_by (by decide +kernel)) (caps_by (show capsB N_is_machine (defScope s_is_machine) ["rows"] [1] = true from by decide +kernel)) (zi_seq (zv 2)) (fun _ _ _ _ _ _ => (pg_name (i := 0) (show ((["entries"] : List Str) ++ (["rows"] : List Str)).Nodup from by decide) rfl (by first | exact Or.inl rfl | exact Or.inr rfl))) (fun _ _ _ _ _ _ => (z_cmp (op_eqD (room_gx hr).units) ok_eq (z_bi call_len ok_len rfl B.len bt_len (za_cons (zv 0) za_nil)) (z_bi call_len ok_len rfl B.len bt_len (za_cons (zv 1) za_nil)) (nomark _)))))) (zs_one (zs_ret z_bl)) zs_nil) (zs_cons (zs_if (zt_not (zt_val (z_all2 (N0 := ["entries", "entry"]) (fr := ["table"]) (cap := [2]) hP_is_machine TB_is_machine hr rfl B.all rfl (gsc_by (by decide +kernel)) (caps_by (show capsB N_is_machine (defScope s_is_machine) ["table"] [2] = true from by decide +kernel)) (zi_seq (zv 2)) (fun _ _ _ _ _ _ => (zi_seq (zv 0))) (fun _ _ _ _ _ _ => (pg_name (i := 1) (show ((["entries", "entry"] : List Str) ++ (["table"] : List Str)).Nodup from by decide) rfl (by first | exact Or.inl rfl | exact Or.inr rfl))) (fun _ _ _ _ _ _ => (pg_name (i := 0) (show ((["entries", "entry"] : List Str) ++ (["table"] : List Str)).Nodup from by decide) rfl (by first | exact Or.inl rfl | exact Or.inr rfl))) (fun _ _ _ _ _ _ => (z_cal C__is_entry (room_gx hr) rfl (za_cons (zv 1) (za_cons (z_bi call_len ok_len rfl B.len bt_len (za_cons (zv 2) za_nil)) za_nil))))))) (zs_one (zs_ret z_bl)) zs_nil) (zs_one (zs_ret (z_cal (C__are_numbered.mono (Nat.le_succ k)) hr rfl (za_cons (zv 2) za_nil)))))))))), m, F.kp, F.binds fun _ _ _ _ _ _ us hl => match us, hl with | [_], _ => rfl⟩
/-! _are_tuples -/
abbrev s__are_tuples : Stmt := top 11
abbrev N__are_tuples : List Str := ["value", "part"]
theorem sc__are_tuples : FnScope N__are_tuples ["value"] (defScope s__are_tuples) := ⟨rfl, rfl, rfl, by decide +kernel, rfl, by decide +kernel, by decide +kernel⟩
def g__are_tuples : ZS :=
  (zsRet (zAnd (zB sIsi (zaCons (zV 0) (zaCons (zC (.ty "tuple")) zaNil))) (zAnd (z2 sGt (zB sLen (zaCons (zV 0) zaNil)) (zC (.int 0))) (zAA false 1 [] (ziSeq (zV 0)) (.name 0) (zB sIsi (zaCons (zV 0) (zaCons (zC (.ty "tuple")) zaNil)))))))
def F__are_tuples : ZF := defZ 2 1 (g__are_tuples)
theorem ok__are_tuples [Tabs] {P : Program} {w : World} {K : PySem.W.Frag} {mg : Str → Option Value} {base : Heap} {f : Addr} {fd : FuncData} {k : Nat} (B : Blt mg) (F : Fun K "_are_tuples" "_are_tuples" s__are_tuples f fd) (m : mg "_are_tuples" = some (.ref f)) {c P0 : Addr} (hP__are_tuples : P0 ∈ Tabs.T) (TB__are_tuples : GxR.TabB base mg c P0) (hc__are_tuples : fd.code = .ref c) : Cal P w K mg base (k + 2) "_are_tuples" 1 (F__are_tuples) :=
  ⟨f, fd, ["value"], z_defC F hc__are_tuples sc__are_tuples (g__are_tuples) (fun A outer s H E hr =>
    (zs_one (zs_ret (z_and (z_bi call_isi ok_isi rfl B.isinstance bt_isinstance (za_cons (zv 0) (za_cons (z_tyname rfl B.tuple bt_tuple) za_nil))) (z_and (z_cmp op_gt ok_gt (z_bi call_len ok_len rfl B.len bt_len (za_cons (zv 0) za_nil)) z_int (nomark _)) (z_one (z_all (N0 := ["part"]) (fr := []) (cap := []) hP__are_tuples TB__are_tuples hr rfl B.all rfl (gsc_by (by decide +kernel)) (caps_by (show capsB N__are_tuples (defScope s__are_tuples) [] [] = true from by decide +kernel)) (zi_seq (zv 0)) (fun _ _ _ _ _ _ => (pg_name (i := 0) (show ((["part"] : List Str) ++ ([] : List Str)).Nodup from by decide) rfl (by first | exact Or.inl rfl | exact Or.inr rfl))) (fun _ _ _ _ _ _ => (z_bi call_isi ok_isi rfl B.isinstance bt_isinstance (za_cons (zv 0) (za_cons (z_tyname rfl B.tuple bt_tuple) za_nil))))))))))), m, F.kp, F.binds fun _ _ _ _ _ _ us hl => match us, hl with | [_], _ => rfl⟩
/-! _is_entry -/
abbrev s__is_entry : Stmt := top 12
abbrev N__is_entry : List Str := ["value", "many"]
theorem sc__is_entry : FnScope N__is_entry ["value", "many"] (defScope s__is_entry) := ⟨rfl, rfl, rfl, by decide +kernel, rfl, by decide +kernel, by decide +kernel⟩
def g__is_entry (c_is_tuple : ZF) (c_is_whole : ZF) : ZS :=
  (zsSeq (zsIf (zBl (z2 sIsN (zV 0) (zC .non))) (zsRet (zC (.bl true))) zsSkip) (zsRet (zAnd (zCall 3 c_is_tuple (zaCons (zV 0) (zaCons (zC (.int 2)) (zaCons (zC (.int 2)) zaNil)))) (zAnd (zB sIsi (zaCons (z2 sIx (zV 0) (zC (.int 0))) (zaCons (zC (.ty "tuple")) zaNil))) (zCall 3 c_is_whole (zaCons (z2 sIx (zV 0) (zC (.int 1))) (zaCons (zC (.int 0)) (zaCons (z2 sSub (zV 1) (zC (.int 1))) zaNil))))))))
def F__is_entry (c_is_tuple : ZF) (c_is_whole : ZF) : ZF := defZ 2 2 (g__is_entry c_is_tuple c_is_whole)
theorem ok__is_entry [Tabs] {P : Program} {w : World} {K : PySem.W.Frag} {mg : Str → Option Value} {base : Heap} {f : Addr} {fd : FuncData} {k : Nat} (B : Blt mg) (F : Fun K "_is_entry" "_is_entry" s__is_entry f fd) (m : mg "_is_entry" = some (.ref f)) {c_is_tuple : ZF} (C_is_tuple : Cal P w K mg base k "is_tuple" 3 c_is_tuple) {c_is_whole : ZF} (C_is_whole : Cal P w K mg base k "is_whole" 3 c_is_whole) : Cal P w K mg base (k + 1) "_is_entry" 2 (F__is_entry c_is_tuple c_is_whole) :=
  ⟨f, fd, ["value", "many"], z_def F sc__is_entry (g__is_entry c_is_tuple c_is_whole) (fun cdv A outer s H E hr =>
    (zs_cons (zs_if (zt_cmp op_isN ok_isN (zv 0) z_non (nomark _)) (zs_one (zs_ret z_bl)) zs_nil) (zs_one (zs_ret (z_and (z_cal C_is_tuple hr rfl (za_cons (zv 0) (za_cons z_int (za_cons z_int za_nil)))) (z_and (z_bi call_isi ok_isi rfl B.isinstance bt_isinstance (za_cons (z_ix ix_U ok_ix (zv 0) z_int (fun _ _ => rfl)) (za_cons (z_tyname rfl B.tuple bt_tuple) za_nil))) (z_one (z_cal C_is_whole hr rfl (za_cons (z_ix ix_U ok_ix (zv 0) z_int (fun _ _ => rfl)) (za_cons z_int (za_cons (z_op op_sub ok_sub (zv 1) z_int) za_nil))))))))))), m, F.kp, F.binds fun _ _ _ _ _ _ us hl => match us, hl with | [_, _], _ => rfl⟩
/-! _are_numbered -/
abbrev s__are_numbered : Stmt := top 13
abbrev N__are_numbered : List Str := ["table", "met", "s", "entries", "entry"]
theorem sc__are_numbered : FnScope N__are_numbered ["table"] (defScope s__are_numbered) := ⟨rfl, rfl, rfl, by decide +kernel, rfl, by decide +kernel, by decide +kernel⟩
def g__are_numbered : ZS :=
  (zsSeq (zsAsg (zC (.int 1)) (.name 1)) (zsSeq (zsFor (ziEnum (zV 0)) (.tup [(.name 2), (.name 3)]) (zsSeq (zsIf (zBl (z2 sGe (zV 2) (zV 1))) (zsRet (zC (.bl false))) zsSkip) (zsFor (ziSeq (zV 3)) (.name 4) (zsIf (tzAnd (zBl (z2 sNotN (zV 4) (zC .non))) (zBl (z2 sGe (z2 sIx (zV 4) (zC (.int 1))) (zV 1)))) (zsSeq (zsIf (zBl (z2 sGt (z2 sIx (zV 4) (zC (.int 1))) (zV 1))) (zsRet (zC (.bl false))) zsSkip) (zsAug 1 (zC (.int 1)))) zsSkip)))) (zsRet (zC (.bl true)))))
def F__are_numbered : ZF := defZ 5 1 (g__are_numbered)
theorem ok__are_numbered [Tabs] {P : Program} {w : World} {K : PySem.W.Frag} {mg : Str → Option Value} {base : Heap} {f : Addr} {fd : FuncData} {k : Nat} (B : Blt mg) (F : Fun K "_are_numbered" "_are_numbered" s__are_numbered f fd) (m : mg "_are_numbered" = some (.ref f)) : Cal P w K mg base (k + 1) "_are_numbered" 1 (F__are_numbered) :=
  ⟨f, fd, ["table"], z_def F sc__are_numbered (g__are_numbered) (fun cdv A outer s H E hr =>
    (zs_cons (zs_set (i := 1) sc__are_numbered.nd rfl (by first | exact Or.inl rfl | exact Or.inr rfl) z_int) (zs_cons (zs_for PySem.PassesOwn.never rfl (zi_enum rfl B.enumerate (zv 0)) (pg_tup rfl (pgs_cons (pg_name (i := 2) sc__are_numbered.nd rfl (by first | exact Or.inl rfl | exact Or.inr rfl)) (pgs_cons (pg_name (i := 3) sc__are_numbered.nd rfl (by first | exact Or.inl rfl | exact Or.inr rfl)) pgs_nil))) (zs_cons (zs_if (zt_cmp op_ge ok_ge (zv 2) (zv 1) (nomark _)) (zs_one (zs_ret z_bl)) zs_nil) (zs_one (zs_for PySem.PassesOwn.never rfl (zi_seq (zv 3)) (pg_name (i := 4) sc__are_numbered.nd rfl (by first | exact Or.inl rfl | exact Or.inr rfl)) (zs_one (zs_if (zw (zw_and (zt_cmp op_notN ok_notN (zv 4) z_non (nomark _)) (zw_and1 (zt_cmp op_ge ok_ge (z_ix ix_U ok_ix (zv 4) z_int (fun _ _ => rfl)) (zv 1) (nomark _))))) (zs_cons (zs_if (zt_cmp op_gt ok_gt (z_ix ix_U ok_ix (zv 4) z_int (fun _ _ => rfl)) (zv 1) (nomark _)) (zs_one (zs_ret z_bl)) zs_nil) (zs_one (zs_augAdd (i := 1) sc__are_numbered.nd rfl (by first | exact Or.inl rfl | exact Or.inr rfl) z_int))) zs_nil)))))) (zs_one (zs_ret z_bl))))), m, F.kp, F.binds fun _ _ _ _ _ _ us hl => match us, hl with | [_], _ => rfl⟩
/-! run_machine -/
abbrev s_run_machine : Stmt := top 14
abbrev N_run_machine : List Str := ["machine", "indexes", "state", "found", "r", "_", "table", "entry", "outputs"]
theorem sc_run_machine : FnScope N_run_machine ["machine", "indexes"] (defScope s_run_machine) := ⟨rfl, rfl, rfl, by decide +kernel, rfl, by decide +kernel, by decide +kernel⟩
def g_run_machine : ZS :=
  (zsSeq (zsAsg (zV 0) (.tup [(.name 5), (.name 6)])) (zsSeq (zsAsg (zC (.int 0)) (.name 2)) (zsSeq (zsAsg (zLst zaNil) (.name 3)) (zsSeq (zsFor (ziSeq (zV 1)) (.name 4) (zsSeq (zsAsg (z2 sIx (z2 sIx (zV 6) (zV 2)) (zV 4)) (.name 7)) (zsSeq (zsIf (zBl (z2 sIsN (zV 7) (zC .non))) (zsRet (zTup (zaCons (zB sTuple (zaCons (zV 3) zaNil)) (zaCons (zB sLen (zaCons (zV 3) zaNil)) zaNil)))) zsSkip) (zsSeq (zsAsg (zV 7) (.tup [(.name 8), (.name 2)])) (zsDrop (zM isLstB sAppend (zV 3) (zaCons (zV 8) zaNil))))))) (zsRet (zTup (zaCons (zB sTuple (zaCons (zV 3) zaNil)) (zaCons (zC .non) zaNil))))))))
def F_run_machine : ZF := defZ 9 2 (g_run_machine)
theorem ok_run_machine [Tabs] {P : Program} {w : World} {K : PySem.W.Frag} {mg : Str → Option Value} {base : Heap} {f : Addr} {fd : FuncData} {k : Nat} (B : Blt mg) (F : Fun K "run_machine" "run_machine" s_run_machine f fd) (m : mg "run_machine" = some (.ref f)) : Cal P w K mg base (k + 1) "run_machine" 2 (F_run_machine) :=
  ⟨f, fd, ["machine", "indexes"], z_def F sc_run_machine (g_run_machine) (fun cdv A outer s H E hr =>
    (zs_cons (zs_asg (zv 0) (pg_tup rfl (pgs_cons (pg_name (i := 5) sc_run_machine.nd rfl (by first | exact Or.inl rfl | exact Or.inr rfl)) (pgs_cons (pg_name (i := 6) sc_run_machine.nd rfl (by first | exact Or.inl rfl | exact Or.inr rfl)) pgs_nil)))) (zs_cons (zs_set (i := 2) sc_run_machine.nd rfl (by first | exact Or.inl rfl | exact Or.inr rfl) z_int) (zs_cons (zs_set (i := 3) sc_run_machine.nd rfl (by first | exact Or.inl rfl | exact Or.inr rfl) (z_lst za_nil)) (zs_cons (zs_for PySem.PassesOwn.never rfl (zi_seq (zv 1)) (pg_name (i := 4) sc_run_machine.nd rfl (by first | exact Or.inl rfl | exact Or.inr rfl)) (zs_cons (zs_set (i := 7) sc_run_machine.nd rfl (by first | exact Or.inl rfl | exact Or.inr rfl) (z_ix ix_U ok_ix (z_ix ix_U ok_ix (zv 6) (zv 2) (fun _ _ => rfl)) (zv 4) (fun _ _ => rfl))) (zs_cons (zs_if (zt_cmp op_isN ok_isN (zv 7) z_non (nomark _)) (zs_one (zs_ret (z_tup (za_cons (z_ty call_tupleN ok_tuple rfl B.tuple bt_tuple (za_cons (zv 3) za_nil)) (za_cons (z_bi call_len ok_len rfl B.len bt_len (za_cons (zv 3) za_nil)) za_nil))))) zs_nil) (zs_cons (zs_asg (zv 7) (pg_tup rfl (pgs_cons (pg_name (i := 8) sc_run_machine.nd rfl (by first | exact Or.inl rfl | exact Or.inr rfl)) (pgs_cons (pg_name (i := 2) sc_run_machine.nd rfl (by first | exact Or.inl rfl | exact Or.inr rfl)) pgs_nil)))) (zs_one (zs_expr (z_m PySem.F.plainAttrs_list PySem.F.slot_list_append PySem.F.type_list_append mt_append ok_append (zv 3) (za_cons (zv 8) za_nil)))))))) (zs_one (zs_ret (z_tup (za_cons (z_ty call_tupleN ok_tuple rfl B.tuple bt_tuple (za_cons (zv 3) za_nil)) (za_cons z_non za_nil)))))))))), m, F.kp, F.binds fun _ _ _ _ _ _ us hl => match us, hl with | [_, _], _ => rfl⟩
/-! first_fault -/
abbrev s_first_fault : Stmt := top 15
abbrev N_first_fault : List Str := ["machine"]
theorem sc_first_fault : FnScope N_first_fault ["machine"] (defScope s_first_fault) := ⟨rfl, rfl, rfl, by decide +kernel, rfl, by decide +kernel, by decide +kernel⟩
def g_first_fault (c_first_way_out : ZF) : ZS :=
  (zsRet (zCall 2 c_first_way_out (zaCons (z2 sIx (zV 0) (zC (.int 1))) (zaCons (zC .non) zaNil))))
def F_first_fault (c_first_way_out : ZF) : ZF := defZ 1 1 (g_first_fault c_first_way_out)
theorem ok_first_fault [Tabs] {P : Program} {w : World} {K : PySem.W.Frag} {mg : Str → Option Value} {base : Heap} {f : Addr} {fd : FuncData} {k : Nat} (B : Blt mg) (F : Fun K "first_fault" "first_fault" s_first_fault f fd) (m : mg "first_fault" = some (.ref f)) {c_first_way_out : ZF} (C_first_way_out : Cal P w K mg base k "first_way_out" 2 c_first_way_out) : Cal P w K mg base (k + 1) "first_fault" 1 (F_first_fault c_first_way_out) :=
  ⟨f, fd, ["machine"], z_def F sc_first_fault (g_first_fault c_first_way_out) (fun cdv A outer s H E hr =>
    (zs_one (zs_ret (z_cal C_first_way_out hr rfl (za_cons (z_ix ix_U ok_ix (zv 0) z_int (fun _ _ => rfl)) (za_cons z_non za_nil)))))), m, F.kp, F.binds fun _ _ _ _ _ _ us hl => match us, hl with | [_], _ => rfl⟩
/-! first_way_out -/
abbrev s_first_way_out : Stmt := top 16
abbrev N_first_way_out : List Str := ["table", "wanted", "walk", "state", "r", "entry"]
theorem sc_first_way_out : FnScope N_first_way_out ["table", "wanted"] (defScope s_first_way_out) := ⟨rfl, rfl, rfl, by decide +kernel, rfl, by decide +kernel, by decide +kernel⟩
def g_first_way_out (C_Walk : Addr) (c_Walk : ZF) (c_Walk_is_over : ZF) (c_Walk_take : ZF) (c_Walk_way_to : ZF) (c_Walk_come_to : ZF) : ZS :=
  (zsSeq (zsAsg (zMake C_Walk 2 c_Walk (zaCons (zC (.int 0)) zaNil)) (.name 2)) (zsSeq (zsWh (tzNot (zTru (zMeth C_Walk "is_over" 1 c_Walk_is_over (zV 2) zaNil))) (zsSeq (zsAsg (zMeth C_Walk "take" 1 c_Walk_take (zV 2) zaNil) (.name 3)) (zsFor (ziEnum (z2 sIx (zV 0) (zV 3))) (.tup [(.name 4), (.name 5)]) (zsSeq (zsIf (tzOr (zBl (z2 sIsN (zV 5) (zC .non))) (tzAnd (zBl (z2 sNotN (zV 1) (zC .non))) (zBl (z2 sNe (z2 sIx (zV 5) (zC (.int 0))) (zV 1))))) (zsRet (zMeth C_Walk "way_to" 3 c_Walk_way_to (zV 2) (zaCons (zV 3) (zaCons (zV 4) zaNil)))) zsSkip) (zsDrop (zMeth C_Walk "come_to" 4 c_Walk_come_to (zV 2) (zaCons (z2 sIx (zV 5) (zC (.int 1))) (zaCons (zV 3) (zaCons (zV 4) zaNil))))))))) (zsRet (zC .non))))
def F_first_way_out (C_Walk : Addr) (c_Walk : ZF) (c_Walk_is_over : ZF) (c_Walk_take : ZF) (c_Walk_way_to : ZF) (c_Walk_come_to : ZF) : ZF := defZ 6 2 (g_first_way_out C_Walk c_Walk c_Walk_is_over c_Walk_take c_Walk_way_to c_Walk_come_to)
theorem ok_first_way_out [Tabs] {P : Program} {w : World} {K : PySem.W.Frag} {mg : Str → Option Value} {base : Heap} {f : Addr} {fd : FuncData} {k : Nat} (B : Blt mg) (F : Fun K "first_way_out" "first_way_out" s_first_way_out f fd) (m : mg "first_way_out" = some (.ref f)) {C_Walk : Addr} (K_Walk : ClsZ K C_Walk ["queue", "steps", "at"]) {c_Walk : ZF} {k_Walk : Nat} (M_Walk : MkZ P w K mg base k_Walk "Walk" C_Walk 2 c_Walk) (hk_Walk : k_Walk + 1 ≤ k) {c_Walk_is_over : ZF} (M_Walk_is_over : Mth P w K mg base k C_Walk "is_over" 1 c_Walk_is_over) {c_Walk_take : ZF} (M_Walk_take : Mth P w K mg base k C_Walk "take" 1 c_Walk_take) {c_Walk_way_to : ZF} (M_Walk_way_to : Mth P w K mg base k C_Walk "way_to" 3 c_Walk_way_to) {c_Walk_come_to : ZF} (M_Walk_come_to : Mth P w K mg base k C_Walk "come_to" 4 c_Walk_come_to) : Cal P w K mg base (k + 1) "first_way_out" 2 (F_first_way_out C_Walk c_Walk c_Walk_is_over c_Walk_take c_Walk_way_to c_Walk_come_to) :=
  ⟨f, fd, ["table", "wanted"], z_def F sc_first_way_out (g_first_way_out C_Walk c_Walk c_Walk_is_over c_Walk_take c_Walk_way_to c_Walk_come_to) (fun cdv A outer s H E hr =>
    (zs_cons (zs_set (i := 2) sc_first_way_out.nd rfl (by first | exact Or.inl rfl | exact Or.inr rfl) (z_make M_Walk (hr.mono hk_Walk) rfl (za_cons z_int za_nil))) (zs_cons (zs_wh PySem.PassesOwn.never (zt_not (zt_val (z_meth0 M_Walk_is_over K_Walk.cls hr (zv 2)))) (zs_cons (zs_set (i := 3) sc_first_way_out.nd rfl (by first | exact Or.inl rfl | exact Or.inr rfl) (z_meth0 M_Walk_take K_Walk.cls hr (zv 2))) (zs_one (zs_for PySem.PassesOwn.never rfl (zi_enum rfl B.enumerate (z_ix ix_U ok_ix (zv 0) (zv 3) (fun _ _ => rfl))) (pg_tup rfl (pgs_cons (pg_name (i := 4) sc_first_way_out.nd rfl (by first | exact Or.inl rfl | exact Or.inr rfl)) (pgs_cons (pg_name (i := 5) sc_first_way_out.nd rfl (by first | exact Or.inl rfl | exact Or.inr rfl)) pgs_nil))) (zs_cons (zs_if (zw (zw_or (zt_cmp op_isN ok_isN (zv 5) z_non (nomark _)) (zw_or1 (zw (zw_and (zt_cmp op_notN ok_notN (zv 1) z_non (nomark _)) (zw_and1 (zt_cmp (op_neD hr.units) ok_ne (z_ix ix_U ok_ix (zv 5) z_int (fun _ _ => rfl)) (zv 1) (nomark _)))))))) (zs_one (zs_ret (z_meth M_Walk_way_to K_Walk.cls hr (zv 2) (za_cons (zv 3) (za_cons (zv 4) za_nil))))) zs_nil) (zs_one (zs_expr (z_meth M_Walk_come_to K_Walk.cls hr (zv 2) (za_cons (z_ix ix_U ok_ix (zv 5) z_int (fun _ _ => rfl)) (za_cons (zv 3) (za_cons (zv 4) za_nil))))))))))) (zs_one (zs_ret z_non))))), m, F.kp, F.binds fun _ _ _ _ _ _ us hl => match us, hl with | [_, _], _ => rfl⟩
/-! _law_mix -/
abbrev s__law_mix : Stmt := top 18
abbrev N__law_mix : List Str := ["number"]
theorem sc__law_mix : FnScope N__law_mix ["number"] (defScope s__law_mix) := ⟨rfl, rfl, rfl, by decide +kernel, rfl, by decide +kernel, by decide +kernel⟩
def g__law_mix : ZS :=
  (zsSeq (zsAsg (z2 sMod (zB sInt (zaCons (z2 sAdd (z2 sMul (zV 0) (zC (.int 6364136223846793005))) (zC (.int 1442695040888963407))) zaNil)) (zC (.int 18446744073709551616))) (.name 0)) (zsRet (z2 sMod (zB sInt (zaCons (z2 sAdd (z2 sDiv (z2 sMul (zV 0) (zV 0)) (zC (.int 4294967296))) (z2 sMul (zV 0) (zC (.int 69621)))) zaNil)) (zC (.int 18446744073709551557)))))
def F__law_mix : ZF := defZ 1 1 (g__law_mix)
theorem ok__law_mix [Tabs] {P : Program} {w : World} {K : PySem.W.Frag} {mg : Str → Option Value} {base : Heap} {f : Addr} {fd : FuncData} {k : Nat} (B : Blt mg) (F : Fun K "_law_mix" "_law_mix" s__law_mix f fd) (m : mg "_law_mix" = some (.ref f)) : Cal P w K mg base (k + 1) "_law_mix" 1 (F__law_mix) :=
  ⟨f, fd, ["number"], z_def F sc__law_mix (g__law_mix) (fun cdv A outer s H E hr =>
    (zs_cons (zs_set (i := 0) sc__law_mix.nd rfl (by first | exact Or.inl rfl | exact Or.inr rfl) (z_op op_mod ok_mod (z_ty call_int1 ok_int rfl B.int bt_int (za_cons (z_op op_addU ok_addU (z_op op_mulU ok_mul (zv 0) z_int) z_int) za_nil)) z_int)) (zs_one (zs_ret (z_op op_mod ok_mod (z_ty call_int1 ok_int rfl B.int bt_int (za_cons (z_op op_addU ok_addU (z_op op_fdivW ok_div (z_op op_mulU ok_mul (zv 0) (zv 0)) z_int) (z_op op_mulU ok_mul (zv 0) z_int)) za_nil)) z_int))))), m, F.kp, F.binds fun _ _ _ _ _ _ us hl => match us, hl with | [_], _ => rfl⟩
/-! _law_tape -/
abbrev s__law_tape : Stmt := top 19
abbrev N__law_tape : List Str := ["script", "budget"]
theorem sc__law_tape : FnScope N__law_tape ["script", "budget"] (defScope s__law_tape) := ⟨rfl, rfl, rfl, by decide +kernel, rfl, by decide +kernel, by decide +kernel⟩
def g__law_tape : ZS :=
  (zsRet (zLst (zaCons (zB sList (zaCons (zV 0) zaNil)) (zaCons (zC (.int 0)) (zaCons (zC (.int 0)) (zaCons (zC (.int 1)) (zaCons (zV 1) zaNil)))))))
def F__law_tape : ZF := defZ 2 2 (g__law_tape)
theorem ok__law_tape [Tabs] {P : Program} {w : World} {K : PySem.W.Frag} {mg : Str → Option Value} {base : Heap} {f : Addr} {fd : FuncData} {k : Nat} (B : Blt mg) (F : Fun K "_law_tape" "_law_tape" s__law_tape f fd) (m : mg "_law_tape" = some (.ref f)) : Cal P w K mg base (k + 1) "_law_tape" 2 (F__law_tape) :=
  ⟨f, fd, ["script", "budget"], z_def F sc__law_tape (g__law_tape) (fun cdv A outer s H E hr =>
    (zs_one (zs_ret (z_lst (za_cons (z_ty call_list_of ok_list rfl B.list bt_list (za_cons (zv 0) za_nil)) (za_cons z_int (za_cons z_int (za_cons z_int (za_cons (zv 1) za_nil))))))))), m, F.kp, F.binds fun _ _ _ _ _ _ us hl => match us, hl with | [_, _], _ => rfl⟩
/-! _law_take -/
abbrev s__law_take : Stmt := top 20
abbrev N__law_take : List Str := ["tape", "many", "digit", "cell"]
theorem sc__law_take : FnScope N__law_take ["tape", "many"] (defScope s__law_take) := ⟨rfl, rfl, rfl, by decide +kernel, rfl, by decide +kernel, by decide +kernel⟩
def g__law_take (c__law_mix : ZF) : ZS :=
  (zsSeq (zsIf (zBl (z2 sLt (z2 sIx (zV 0) (zC (.int 2))) (zV 1))) (zsIf (zBl (z2 sLt (z2 sIx (zV 0) (zC (.int 1))) (zB sLen (zaCons (z2 sIx (zV 0) (zC (.int 0))) zaNil)))) (zsSeq (zsAsg (z2 sIx (z2 sIx (zV 0) (zC (.int 0))) (z2 sIx (zV 0) (zC (.int 1)))) (.name 3)) (zsSeq (zsAsg (zIf (zBl (z2 sGe (zV 3) (zC (.int 0)))) (z2 sMul (zC (.int 2)) (zV 3)) (z2 sSub (z2 sMul (zNeg (zC (.int 2))) (zV 3)) (zC (.int 1)))) (.name 3)) (zsSeq (zsPut (z2 sAdd (z2 sIx (zV 0) (zC (.int 1))) (zC (.int 1))) (zV 0) (zC (.int 1))) (zsSeq (zsPut (zCall 1 c__law_mix (zaCons (z2 sAdd (z2 sIx (zV 0) (zC (.int 3))) (zV 3)) zaNil)) (zV 0) (zC (.int 3))) (zsPut (zIf (zBl (z2 sGe (zV 3) (z2 sPow (zC (.int 10)) (zC (.int 18))))) (zV 3) (zCall 1 c__law_mix (zaCons (zCall 1 c__law_mix (zaCons (zV 3) zaNil)) zaNil))) (zV 0) (zC (.int 2))))))) (zsSeq (zsPut (zCall 1 c__law_mix (zaCons (z2 sAdd (z2 sIx (zV 0) (zC (.int 3))) (zC (.int 1))) zaNil)) (zV 0) (zC (.int 3))) (zsPut (z2 sIx (zV 0) (zC (.int 3))) (zV 0) (zC (.int 2))))) zsSkip) (zsSeq (zsAsg (z2 sMod (zB sInt (zaCons (z2 sIx (zV 0) (zC (.int 2))) zaNil)) (zV 1)) (.name 2)) (zsSeq (zsPut (z2 sDiv (z2 sIx (zV 0) (zC (.int 2))) (zV 1)) (zV 0) (zC (.int 2))) (zsRet (zV 2)))))
def F__law_take (c__law_mix : ZF) : ZF := defZ 4 2 (g__law_take c__law_mix)
theorem ok__law_take [Tabs] {P : Program} {w : World} {K : PySem.W.Frag} {mg : Str → Option Value} {base : Heap} {f : Addr} {fd : FuncData} {k : Nat} (B : Blt mg) (F : Fun K "_law_take" "_law_take" s__law_take f fd) (m : mg "_law_take" = some (.ref f)) {c__law_mix : ZF} (C__law_mix : Cal P w K mg base k "_law_mix" 1 c__law_mix) : Cal P w K mg base (k + 1) "_law_take" 2 (F__law_take c__law_mix) :=
  ⟨f, fd, ["tape", "many"], z_def F sc__law_take (g__law_take c__law_mix) (fun cdv A outer s H E hr =>
    (zs_cons (zs_if (zt_cmp op_lt ok_lt (z_ix ix_U ok_ix (zv 0) z_int (fun _ _ => rfl)) (zv 1) (nomark _)) (zs_one (zs_if (zt_cmp op_lt ok_lt (z_ix ix_U ok_ix (zv 0) z_int (fun _ _ => rfl)) (z_bi call_len ok_len rfl B.len bt_len (za_cons (z_ix ix_U ok_ix (zv 0) z_int (fun _ _ => rfl)) za_nil)) (nomark _)) (zs_cons (zs_set (i := 3) sc__law_take.nd rfl (by first | exact Or.inl rfl | exact Or.inr rfl) (z_ix ix_U ok_ix (z_ix ix_U ok_ix (zv 0) z_int (fun _ _ => rfl)) (z_ix ix_U ok_ix (zv 0) z_int (fun _ _ => rfl)) (fun _ _ => rfl))) (zs_cons (zs_set (i := 3) sc__law_take.nd rfl (by first | exact Or.inl rfl | exact Or.inr rfl) (z_ifExp (zt_cmp op_ge ok_ge (zv 3) z_int (nomark _)) (z_op op_mulU ok_mul z_int (zv 3)) (z_op op_sub ok_sub (z_op op_mulU ok_mul (z_neg z_int) (zv 3)) z_int))) (zs_cons (zs_putL (z_op op_addU ok_addU (z_ix ix_U ok_ix (zv 0) z_int (fun _ _ => rfl)) z_int) (zv 0) z_int) (zs_cons (zs_putL (z_cal C__law_mix hr rfl (za_cons (z_op op_addU ok_addU (z_ix ix_U ok_ix (zv 0) z_int (fun _ _ => rfl)) (zv 3)) za_nil)) (zv 0) z_int) (zs_one (zs_putL (z_ifExp (zt_cmp op_ge ok_ge (zv 3) (z_op op_pow ok_pow z_int z_int) (nomark _)) (zv 3) (z_cal C__law_mix hr rfl (za_cons (z_cal C__law_mix hr rfl (za_cons (zv 3) za_nil)) za_nil))) (zv 0) z_int)))))) (zs_cons (zs_putL (z_cal C__law_mix hr rfl (za_cons (z_op op_addU ok_addU (z_ix ix_U ok_ix (zv 0) z_int (fun _ _ => rfl)) z_int) za_nil)) (zv 0) z_int) (zs_one (zs_putL (z_ix ix_U ok_ix (zv 0) z_int (fun _ _ => rfl)) (zv 0) z_int))))) zs_nil) (zs_cons (zs_set (i := 2) sc__law_take.nd rfl (by first | exact Or.inl rfl | exact Or.inr rfl) (z_op op_mod ok_mod (z_ty call_int1 ok_int rfl B.int bt_int (za_cons (z_ix ix_U ok_ix (zv 0) z_int (fun _ _ => rfl)) za_nil)) (zv 1))) (zs_cons (zs_putL (z_op op_fdivW ok_div (z_ix ix_U ok_ix (zv 0) z_int (fun _ _ => rfl)) (zv 1)) (zv 0) z_int) (zs_one (zs_ret (zv 2))))))), m, F.kp, F.binds fun _ _ _ _ _ _ us hl => match us, hl with | [_, _], _ => rfl⟩
/-! _law_same -/
abbrev s__law_same : Stmt := top 21
abbrev N__law_same : List Str := ["a", "b", "k"]
theorem sc__law_same : FnScope N__law_same ["a", "b"] (defScope s__law_same) := ⟨rfl, rfl, rfl, by decide +kernel, rfl, by decide +kernel, by decide +kernel⟩
def g__law_same (c__law_same : ZF) : ZS :=
  (zsSeq (zsIf (tzAnd (zTru (zB sIsi (zaCons (zV 0) (zaCons (zC (.ty "tuple")) zaNil)))) (zTru (zB sIsi (zaCons (zV 1) (zaCons (zC (.ty "tuple")) zaNil))))) (zsSeq (zsIf (zBl (z2 sNe (zB sLen (zaCons (zV 0) zaNil)) (zB sLen (zaCons (zV 1) zaNil)))) (zsRet (zC (.bl false))) zsSkip) (zsSeq (zsFor (ziRng1 (zaCons (zB sLen (zaCons (zV 0) zaNil)) zaNil)) (.name 2) (zsIf (tzNot (zTru (zCall 2 c__law_same (zaCons (z2 sIx (zV 0) (zV 2)) (zaCons (z2 sIx (zV 1) (zV 2)) zaNil))))) (zsRet (zC (.bl false))) zsSkip)) (zsRet (zC (.bl true))))) zsSkip) (zsSeq (zsIf (tzOr (zTru (zB sIsi (zaCons (zV 0) (zaCons (zC (.ty "bool")) zaNil)))) (zTru (zB sIsi (zaCons (zV 1) (zaCons (zC (.ty "bool")) zaNil))))) (zsRet (zAnd (zB sIsi (zaCons (zV 0) (zaCons (zC (.ty "bool")) zaNil))) (zAnd (zB sIsi (zaCons (zV 1) (zaCons (zC (.ty "bool")) zaNil))) (z2 sEq (zV 0) (zV 1))))) zsSkip) (zsSeq (zsIf (tzOr (tzAnd (zTru (zB sIsi (zaCons (zV 0) (zaCons (zC (.ty "int")) zaNil)))) (zTru (zB sIsi (zaCons (zV 1) (zaCons (zC (.ty "int")) zaNil))))) (tzAnd (zTru (zB sIsi (zaCons (zV 0) (zaCons (zC (.ty "str")) zaNil)))) (zTru (zB sIsi (zaCons (zV 1) (zaCons (zC (.ty "str")) zaNil)))))) (zsRet (z2 sEq (zV 0) (zV 1))) zsSkip) (zsRet (zAnd (z2 sIsN (zV 0) (zC .non)) (z2 sIsN (zV 1) (zC .non)))))))
def F__law_same (c__law_same : ZF) : ZF := defZ 3 2 (g__law_same c__law_same)
theorem ok__law_same [Tabs] {P : Program} {w : World} {K : PySem.W.Frag} {mg : Str → Option Value} {base : Heap} {f : Addr} {fd : FuncData} {k : Nat} (B : Blt mg) (F : Fun K "_law_same" "_law_same" s__law_same f fd) (m : mg "_law_same" = some (.ref f)) {c__law_same : ZF} (C__law_same : Cal P w K mg base k "_law_same" 2 c__law_same) : Cal P w K mg base (k + 1) "_law_same" 2 (F__law_same c__law_same) :=
  ⟨f, fd, ["a", "b"], z_def F sc__law_same (g__law_same c__law_same) (fun cdv A outer s H E hr =>
    (zs_cons (zs_if (zw (zw_and (zt_val (z_bi call_isi ok_isi rfl B.isinstance bt_isinstance (za_cons (zv 0) (za_cons (z_tyname rfl B.tuple bt_tuple) za_nil)))) (zw_and1 (zt_val (z_bi call_isi ok_isi rfl B.isinstance bt_isinstance (za_cons (zv 1) (za_cons (z_tyname rfl B.tuple bt_tuple) za_nil))))))) (zs_cons (zs_if (zt_cmp (op_neD hr.units) ok_ne (z_bi call_len ok_len rfl B.len bt_len (za_cons (zv 0) za_nil)) (z_bi call_len ok_len rfl B.len bt_len (za_cons (zv 1) za_nil)) (nomark _)) (zs_one (zs_ret z_bl)) zs_nil) (zs_cons (zs_for PySem.PassesOwn.never rfl (zi_rng1 rfl B.range (za_cons (z_bi call_len ok_len rfl B.len bt_len (za_cons (zv 0) za_nil)) za_nil)) (pg_name (i := 2) sc__law_same.nd rfl (by first | exact Or.inl rfl | exact Or.inr rfl)) (zs_one (zs_if (zt_not (zt_val (z_cal C__law_same hr rfl (za_cons (z_ix ix_U ok_ix (zv 0) (zv 2) (fun _ _ => rfl)) (za_cons (z_ix ix_U ok_ix (zv 1) (zv 2) (fun _ _ => rfl)) za_nil))))) (zs_one (zs_ret z_bl)) zs_nil))) (zs_one (zs_ret z_bl)))) zs_nil) (zs_cons (zs_if (zw (zw_or (zt_val (z_bi call_isi ok_isi rfl B.isinstance bt_isinstance (za_cons (zv 0) (za_cons (z_tyname rfl B.bool bt_bool) za_nil)))) (zw_or1 (zt_val (z_bi call_isi ok_isi rfl B.isinstance bt_isinstance (za_cons (zv 1) (za_cons (z_tyname rfl B.bool bt_bool) za_nil))))))) (zs_one (zs_ret (z_and (z_bi call_isi ok_isi rfl B.isinstance bt_isinstance (za_cons (zv 0) (za_cons (z_tyname rfl B.bool bt_bool) za_nil))) (z_and (z_bi call_isi ok_isi rfl B.isinstance bt_isinstance (za_cons (zv 1) (za_cons (z_tyname rfl B.bool bt_bool) za_nil))) (z_one (z_cmp (op_eqD hr.units) ok_eq (zv 0) (zv 1) (nomark _))))))) zs_nil) (zs_cons (zs_if (zw (zw_or (zw (zw_and (zt_val (z_bi call_isi ok_isi rfl B.isinstance bt_isinstance (za_cons (zv 0) (za_cons (z_tyname rfl B.int bt_int) za_nil)))) (zw_and1 (zt_val (z_bi call_isi ok_isi rfl B.isinstance bt_isinstance (za_cons (zv 1) (za_cons (z_tyname rfl B.int bt_int) za_nil))))))) (zw_or1 (zw (zw_and (zt_val (z_bi call_isi ok_isi rfl B.isinstance bt_isinstance (za_cons (zv 0) (za_cons (z_tyname rfl B.str bt_str) za_nil)))) (zw_and1 (zt_val (z_bi call_isi ok_isi rfl B.isinstance bt_isinstance (za_cons (zv 1) (za_cons (z_tyname rfl B.str bt_str) za_nil)))))))))) (zs_one (zs_ret (z_cmp (op_eqD hr.units) ok_eq (zv 0) (zv 1) (nomark _)))) zs_nil) (zs_one (zs_ret (z_and (z_cmp op_isN ok_isN (zv 0) z_non (nomark _)) (z_one (z_cmp op_isN ok_isN (zv 1) z_non (nomark _)))))))))), m, F.kp, F.binds fun _ _ _ _ _ _ us hl => match us, hl with | [_, _], _ => rfl⟩
/-! _law_numbered -/
abbrev s__law_numbered : Stmt := top 22
abbrev N__law_numbered : List Str := ["rows", "table", "order", "lines", "turn", "line", "place"]
theorem sc__law_numbered : FnScope N__law_numbered ["rows", "table"] (defScope s__law_numbered) := ⟨rfl, rfl, rfl, by decide +kernel, rfl, by decide +kernel, by decide +kernel⟩
def g__law_numbered : ZS :=
  (zsSeq (zsAsg (zLst (zaCons (zC (.int 0)) zaNil)) (.name 2)) (zsSeq (zsAsg (zLst zaNil) (.name 3)) (zsSeq (zsFor (ziRng1 (zaCons (zB sLen (zaCons (zV 1) zaNil)) zaNil)) (.name 4) (zsIf (zBl (z2 sLt (zV 4) (zB sLen (zaCons (zV 2) zaNil)))) (zsSeq (zsAsg (zLst zaNil) (.name 5)) (zsSeq (zsFor (ziSeq (z2 sIx (zV 1) (z2 sIx (zV 2) (zV 4)))) (.name 6) (zsSeq (zsIf (tzAnd (zBl (z2 sNotN (zV 6) (zC .non))) (zBl (z2 sNotInU (z2 sIx (zV 6) (zC (.int 1))) (zV 2)))) (zsDrop (zM isLstB sAppend (zV 2) (zaCons (z2 sIx (zV 6) (zC (.int 1))) zaNil))) zsSkip) (zsDrop (zM isLstB sAppend (zV 5) (zaCons (zIf (zBl (z2 sIsN (zV 6) (zC .non))) (zC .non) (zTup (zaCons (z2 sIx (zV 6) (zC (.int 0))) (zaCons (zM isLstB sIndex (zV 2) (zaCons (z2 sIx (zV 6) (zC (.int 1))) zaNil)) zaNil)))) zaNil))))) (zsDrop (zM isLstB sAppend (zV 3) (zaCons (zB sTuple (zaCons (zV 5) zaNil)) zaNil))))) zsSkip)) (zsRet (zTup (zaCons (zV 0) (zaCons (zB sTuple (zaCons (zV 3) zaNil)) zaNil)))))))
def F__law_numbered : ZF := defZ 7 2 (g__law_numbered)
theorem ok__law_numbered [Tabs] {P : Program} {w : World} {K : PySem.W.Frag} {mg : Str → Option Value} {base : Heap} {f : Addr} {fd : FuncData} {k : Nat} (B : Blt mg) (F : Fun K "_law_numbered" "_law_numbered" s__law_numbered f fd) (m : mg "_law_numbered" = some (.ref f)) : Cal P w K mg base (k + 1) "_law_numbered" 2 (F__law_numbered) :=
  ⟨f, fd, ["rows", "table"], z_def F sc__law_numbered (g__law_numbered) (fun cdv A outer s H E hr =>
    (zs_cons (zs_set (i := 2) sc__law_numbered.nd rfl (by first | exact Or.inl rfl | exact Or.inr rfl) (z_lst (za_cons z_int za_nil))) (zs_cons (zs_set (i := 3) sc__law_numbered.nd rfl (by first | exact Or.inl rfl | exact Or.inr rfl) (z_lst za_nil)) (zs_cons (zs_for PySem.PassesOwn.never rfl (zi_rng1 rfl B.range (za_cons (z_bi call_len ok_len rfl B.len bt_len (za_cons (zv 1) za_nil)) za_nil)) (pg_name (i := 4) sc__law_numbered.nd rfl (by first | exact Or.inl rfl | exact Or.inr rfl)) (zs_one (zs_if (zt_cmp op_lt ok_lt (zv 4) (z_bi call_len ok_len rfl B.len bt_len (za_cons (zv 2) za_nil)) (nomark _)) (zs_cons (zs_set (i := 5) sc__law_numbered.nd rfl (by first | exact Or.inl rfl | exact Or.inr rfl) (z_lst za_nil)) (zs_cons (zs_for PySem.PassesOwn.never rfl (zi_seq (z_ix ix_U ok_ix (zv 1) (z_ix ix_U ok_ix (zv 2) (zv 4) (fun _ _ => rfl)) (fun _ _ => rfl))) (pg_name (i := 6) sc__law_numbered.nd rfl (by first | exact Or.inl rfl | exact Or.inr rfl)) (zs_cons (zs_if (zw (zw_and (zt_cmp op_notN ok_notN (zv 6) z_non (nomark _)) (zw_and1 (zt_cmp (op_notInU (hu65 hr)) ok_notInU (z_ix ix_U ok_ix (zv 6) z_int (fun _ _ => rfl)) (zv 2) rfl)))) (zs_one (zs_expr (z_m PySem.F.plainAttrs_list PySem.F.slot_list_append PySem.F.type_list_append mt_append ok_append (zv 2) (za_cons (z_ix ix_U ok_ix (zv 6) z_int (fun _ _ => rfl)) za_nil)))) zs_nil) (zs_one (zs_expr (z_m PySem.F.plainAttrs_list PySem.F.slot_list_append PySem.F.type_list_append mt_append ok_append (zv 5) (za_cons (z_ifExp (zt_cmp op_isN ok_isN (zv 6) z_non (nomark _)) z_non (z_tup (za_cons (z_ix ix_U ok_ix (zv 6) z_int (fun _ _ => rfl)) (za_cons (z_m PySem.F.plainAttrs_list PySem.F.slot_list_index PySem.F.type_list_index mt_index ok_index (zv 2) (za_cons (z_ix ix_U ok_ix (zv 6) z_int (fun _ _ => rfl)) za_nil)) za_nil)))) za_nil)))))) (zs_one (zs_expr (z_m PySem.F.plainAttrs_list PySem.F.slot_list_append PySem.F.type_list_append mt_append ok_append (zv 3) (za_cons (z_ty call_tupleN ok_tuple rfl B.tuple bt_tuple (za_cons (zv 5) za_nil)) za_nil)))))) zs_nil))) (zs_one (zs_ret (z_tup (za_cons (zv 0) (za_cons (z_ty call_tupleN ok_tuple rfl B.tuple bt_tuple (za_cons (zv 3) za_nil)) za_nil))))))))), m, F.kp, F.binds fun _ _ _ _ _ _ us hl => match us, hl with | [_, _], _ => rfl⟩
/-! _law_menu -/
abbrev s__law_menu : Stmt := top 23
abbrev N__law_menu : List Str := ["tape", "menus"]
theorem sc__law_menu : FnScope N__law_menu ["tape"] (defScope s__law_menu) := ⟨rfl, rfl, rfl, by decide +kernel, rfl, by decide +kernel, by decide +kernel⟩
def g__law_menu (c__law_take : ZF) : ZS :=
  (zsSeq (zsAsg (zLst (zaCons (zLst (zaCons (zTup (zaCons (zC (.int 0)) zaNil)) (zaCons (zTup (zaCons (zC (.int 1)) zaNil)) zaNil))) (zaCons (zLst (zaCons (zTup (zaCons (zC (.bl false)) zaNil)) (zaCons (zTup (zaCons (zC (.bl true)) zaNil)) zaNil))) (zaCons (zLst (zaCons (zTup (zaCons (zC (.int 0)) zaNil)) (zaCons (zTup (zaCons (zC (.int 1)) zaNil)) (zaCons (zTup (zaCons (zC (.int 2)) zaNil)) zaNil)))) (zaCons (zLst (zaCons (zTup (zaCons (zC (.int 1)) zaNil)) (zaCons (zTup (zaCons (zC (.bl true)) zaNil)) (zaCons (zTup (zaCons (zC (.int 0)) zaNil)) zaNil)))) (zaCons (zLst (zaCons (zTup zaNil) (zaCons (zTup (zaCons (zC (.int 0)) zaNil)) (zaCons (zTup (zaCons (zC (.int 0)) (zaCons (zC (.int 1)) zaNil))) zaNil)))) (zaCons (zLst (zaCons (zTup (zaCons (zC (.str "A")) (zaCons (zC (.int 0)) (zaCons (zC (.int 1)) zaNil)))) (zaCons (zTup (zaCons (zC (.str "A")) (zaCons (zC (.int 0)) (zaCons (zC (.int 2)) zaNil)))) (zaCons (zTup (zaCons (zC (.str "B")) (zaCons (zC (.int 0)) (zaCons (zC (.int 1)) zaNil)))) zaNil)))) (zaCons (zLst (zaCons (zTup (zaCons (zC (.bl false)) (zaCons (zC (.int 0)) (zaCons (zC (.int 0)) (zaCons (zC (.int 0)) zaNil))))) (zaCons (zTup (zaCons (zC (.bl false)) (zaCons (zC (.int 0)) (zaCons (zC (.int 0)) (zaCons (zC (.bl false)) zaNil))))) (zaCons (zTup (zaCons (zC (.int 0)) (zaCons (zC (.int 0)) (zaCons (zC (.int 0)) (zaCons (zC (.int 0)) zaNil))))) zaNil)))) (zaCons (zLst (zaCons (zTup (zaCons (zC (.str "On")) zaNil)) (zaCons (zTup (zaCons (zC (.str "Off")) zaNil)) zaNil))) zaNil))))))))) (.name 1)) (zsRet (z2 sIx (zV 1) (zCall 2 c__law_take (zaCons (zV 0) (zaCons (zB sLen (zaCons (zV 1) zaNil)) zaNil))))))
def F__law_menu (c__law_take : ZF) : ZF := defZ 2 1 (g__law_menu c__law_take)
theorem ok__law_menu [Tabs] {P : Program} {w : World} {K : PySem.W.Frag} {mg : Str → Option Value} {base : Heap} {f : Addr} {fd : FuncData} {k : Nat} (B : Blt mg) (F : Fun K "_law_menu" "_law_menu" s__law_menu f fd) (m : mg "_law_menu" = some (.ref f)) {c__law_take : ZF} (C__law_take : Cal P w K mg base k "_law_take" 2 c__law_take) : Cal P w K mg base (k + 1) "_law_menu" 1 (F__law_menu c__law_take) :=
  ⟨f, fd, ["tape"], z_def F sc__law_menu (g__law_menu c__law_take) (fun cdv A outer s H E hr =>
    (zs_cons (zs_set (i := 1) sc__law_menu.nd rfl (by first | exact Or.inl rfl | exact Or.inr rfl) (z_lst (za_cons (z_lst (za_cons (z_tup (za_cons z_int za_nil)) (za_cons (z_tup (za_cons z_int za_nil)) za_nil))) (za_cons (z_lst (za_cons (z_tup (za_cons z_bl za_nil)) (za_cons (z_tup (za_cons z_bl za_nil)) za_nil))) (za_cons (z_lst (za_cons (z_tup (za_cons z_int za_nil)) (za_cons (z_tup (za_cons z_int za_nil)) (za_cons (z_tup (za_cons z_int za_nil)) za_nil)))) (za_cons (z_lst (za_cons (z_tup (za_cons z_int za_nil)) (za_cons (z_tup (za_cons z_bl za_nil)) (za_cons (z_tup (za_cons z_int za_nil)) za_nil)))) (za_cons (z_lst (za_cons (z_tup za_nil) (za_cons (z_tup (za_cons z_int za_nil)) (za_cons (z_tup (za_cons z_int (za_cons z_int za_nil))) za_nil)))) (za_cons (z_lst (za_cons (z_tup (za_cons z_str (za_cons z_int (za_cons z_int za_nil)))) (za_cons (z_tup (za_cons z_str (za_cons z_int (za_cons z_int za_nil)))) (za_cons (z_tup (za_cons z_str (za_cons z_int (za_cons z_int za_nil)))) za_nil)))) (za_cons (z_lst (za_cons (z_tup (za_cons z_bl (za_cons z_int (za_cons z_int (za_cons z_int za_nil))))) (za_cons (z_tup (za_cons z_bl (za_cons z_int (za_cons z_int (za_cons z_bl za_nil))))) (za_cons (z_tup (za_cons z_int (za_cons z_int (za_cons z_int (za_cons z_int za_nil))))) za_nil)))) (za_cons (z_lst (za_cons (z_tup (za_cons z_str za_nil)) (za_cons (z_tup (za_cons z_str za_nil)) za_nil))) za_nil)))))))))) (zs_one (zs_ret (z_ix ix_U ok_ix (zv 1) (z_cal C__law_take hr rfl (za_cons (zv 0) (za_cons (z_bi call_len ok_len rfl B.len bt_len (za_cons (zv 1) za_nil)) za_nil))) (fun _ _ => rfl)))))), m, F.kp, F.binds fun _ _ _ _ _ _ us hl => match us, hl with | [_], _ => rfl⟩
/-! _law_machine -/
abbrev s__law_machine : Stmt := top 24
abbrev N__law_machine : List Str := ["tape", "rows", "faults", "menu", "many", "table", "s", "line", "row", "shown", "after"]
theorem sc__law_machine : FnScope N__law_machine ["tape", "rows", "faults", "menu"] (defScope s__law_machine) := ⟨rfl, rfl, rfl, by decide +kernel, rfl, by decide +kernel, by decide +kernel⟩
def g__law_machine (c__law_take : ZF) (c__law_numbered : ZF) : ZS :=
  (zsSeq (zsAsg (z2 sAdd (zC (.int 1)) (zCall 2 c__law_take (zaCons (zV 0) (zaCons (zC (.int 7)) zaNil)))) (.name 4)) (zsSeq (zsAsg (zLst zaNil) (.name 5)) (zsSeq (zsFor (ziRng1 (zaCons (zV 4) zaNil)) (.name 6) (zsSeq (zsAsg (zLst zaNil) (.name 7)) (zsSeq (zsFor (ziSeq (zV 1)) (.name 8) (zsSeq (zsAsg (zIf (zBl (z2 sEq (zCall 2 c__law_take (zaCons (zV 0) (zaCons (zC (.int 3)) zaNil))) (zC (.int 0)))) (z2 sIx (zV 3) (zCall 2 c__law_take (zaCons (zV 0) (zaCons (zB sLen (zaCons (zV 3) zaNil)) zaNil)))) (z2 sIx (zV 3) (z2 sMod (zB sInt (zaCons (zV 6) zaNil)) (zC (.int 2))))) (.name 9)) (zsSeq (zsAsg (zCall 2 c__law_take (zaCons (zV 0) (zaCons (zV 4) zaNil))) (.name 10)) (zsDrop (zM isLstB sAppend (zV 7) (zaCons (zIf (tzAnd (zTru (zV 2)) (zBl (z2 sEq (zCall 2 c__law_take (zaCons (zV 0) (zaCons (zC (.int 14)) zaNil))) (zC (.int 0))))) (zC .non) (zTup (zaCons (zV 9) (zaCons (zV 10) zaNil)))) zaNil)))))) (zsDrop (zM isLstB sAppend (zV 5) (zaCons (zB sTuple (zaCons (zV 7) zaNil)) zaNil)))))) (zsRet (zCall 2 c__law_numbered (zaCons (zV 1) (zaCons (zV 5) zaNil)))))))
def F__law_machine (c__law_take : ZF) (c__law_numbered : ZF) : ZF := defZ 11 4 (g__law_machine c__law_take c__law_numbered)
theorem ok__law_machine [Tabs] {P : Program} {w : World} {K : PySem.W.Frag} {mg : Str → Option Value} {base : Heap} {f : Addr} {fd : FuncData} {k : Nat} (B : Blt mg) (F : Fun K "_law_machine" "_law_machine" s__law_machine f fd) (m : mg "_law_machine" = some (.ref f)) {c__law_take : ZF} (C__law_take : Cal P w K mg base k "_law_take" 2 c__law_take) {c__law_numbered : ZF} (C__law_numbered : Cal P w K mg base k "_law_numbered" 2 c__law_numbered) : Cal P w K mg base (k + 1) "_law_machine" 4 (F__law_machine c__law_take c__law_numbered) :=
  ⟨f, fd, ["tape", "rows", "faults", "menu"], z_def F sc__law_machine (g__law_machine c__law_take c__law_numbered) (fun cdv A outer s H E hr =>
    (zs_cons (zs_set (i := 4) sc__law_machine.nd rfl (by first | exact Or.inl rfl | exact Or.inr rfl) (z_op op_addU ok_addU z_int (z_cal C__law_take hr rfl (za_cons (zv 0) (za_cons z_int za_nil))))) (zs_cons (zs_set (i := 5) sc__law_machine.nd rfl (by first | exact Or.inl rfl | exact Or.inr rfl) (z_lst za_nil)) (zs_cons (zs_for PySem.PassesOwn.never rfl (zi_rng1 rfl B.range (za_cons (zv 4) za_nil)) (pg_name (i := 6) sc__law_machine.nd rfl (by first | exact Or.inl rfl | exact Or.inr rfl)) (zs_cons (zs_set (i := 7) sc__law_machine.nd rfl (by first | exact Or.inl rfl | exact Or.inr rfl) (z_lst za_nil)) (zs_cons (zs_for PySem.PassesOwn.never rfl (zi_seq (zv 1)) (pg_name (i := 8) sc__law_machine.nd rfl (by first | exact Or.inl rfl | exact Or.inr rfl)) (zs_cons (zs_set (i := 9) sc__law_machine.nd rfl (by first | exact Or.inl rfl | exact Or.inr rfl) (z_ifExp (zt_cmp (op_eqD hr.units) ok_eq (z_cal C__law_take hr rfl (za_cons (zv 0) (za_cons z_int za_nil))) z_int (nomark _)) (z_ix ix_U ok_ix (zv 3) (z_cal C__law_take hr rfl (za_cons (zv 0) (za_cons (z_bi call_len ok_len rfl B.len bt_len (za_cons (zv 3) za_nil)) za_nil))) (fun _ _ => rfl)) (z_ix ix_U ok_ix (zv 3) (z_op op_mod ok_mod (z_ty call_int1 ok_int rfl B.int bt_int (za_cons (zv 6) za_nil)) z_int) (fun _ _ => rfl)))) (zs_cons (zs_set (i := 10) sc__law_machine.nd rfl (by first | exact Or.inl rfl | exact Or.inr rfl) (z_cal C__law_take hr rfl (za_cons (zv 0) (za_cons (zv 4) za_nil)))) (zs_one (zs_expr (z_m PySem.F.plainAttrs_list PySem.F.slot_list_append PySem.F.type_list_append mt_append ok_append (zv 7) (za_cons (z_ifExp (zw (zw_and (zt_val (zv 2)) (zw_and1 (zt_cmp (op_eqD hr.units) ok_eq (z_cal C__law_take hr rfl (za_cons (zv 0) (za_cons z_int za_nil))) z_int (nomark _))))) z_non (z_tup (za_cons (zv 9) (za_cons (zv 10) za_nil)))) za_nil))))))) (zs_one (zs_expr (z_m PySem.F.plainAttrs_list PySem.F.slot_list_append PySem.F.type_list_append mt_append ok_append (zv 5) (za_cons (z_ty call_tupleN ok_tuple rfl B.tuple bt_tuple (za_cons (zv 7) za_nil)) za_nil))))))) (zs_one (zs_ret (z_cal C__law_numbered hr rfl (za_cons (zv 1) (za_cons (zv 5) za_nil))))))))), m, F.kp, F.binds fun _ _ _ _ _ _ us hl => match us, hl with | [_, _, _, _], _ => rfl⟩
/-! _law_ring -/
abbrev s__law_ring : Stmt := top 25
abbrev N__law_ring : List Str := ["tape", "menu", "many", "odd", "table", "s"]
theorem sc__law_ring : FnScope N__law_ring ["tape", "menu"] (defScope s__law_ring) := ⟨rfl, rfl, rfl, by decide +kernel, rfl, by decide +kernel, by decide +kernel⟩
def g__law_ring (c__law_take : ZF) : ZS :=
  (zsSeq (zsAsg (z2 sAdd (zC (.int 17)) (zCall 2 c__law_take (zaCons (zV 0) (zaCons (zC (.int 24)) zaNil)))) (.name 2)) (zsSeq (zsAsg (zCall 2 c__law_take (zaCons (zV 0) (zaCons (zV 2) zaNil))) (.name 3)) (zsSeq (zsAsg (zLst zaNil) (.name 4)) (zsSeq (zsFor (ziRng1 (zaCons (zV 2) zaNil)) (.name 5) (zsDrop (zM isLstB sAppend (zV 4) (zaCons (zTup (zaCons (zTup (zaCons (zIf (zBl (z2 sEq (zV 5) (zV 3))) (z2 sIx (zV 1) (zC (.int 1))) (z2 sIx (zV 1) (zC (.int 0)))) (zaCons (z2 sMod (zB sInt (zaCons (z2 sAdd (zV 5) (zC (.int 1))) zaNil)) (zV 2)) zaNil))) zaNil)) zaNil)))) (zsRet (zTup (zaCons (zTup (zaCons (zTup zaNil) zaNil)) (zaCons (zB sTuple (zaCons (zV 4) zaNil)) zaNil))))))))
def F__law_ring (c__law_take : ZF) : ZF := defZ 6 2 (g__law_ring c__law_take)
theorem ok__law_ring [Tabs] {P : Program} {w : World} {K : PySem.W.Frag} {mg : Str → Option Value} {base : Heap} {f : Addr} {fd : FuncData} {k : Nat} (B : Blt mg) (F : Fun K "_law_ring" "_law_ring" s__law_ring f fd) (m : mg "_law_ring" = some (.ref f)) {c__law_take : ZF} (C__law_take : Cal P w K mg base k "_law_take" 2 c__law_take) : Cal P w K mg base (k + 1) "_law_ring" 2 (F__law_ring c__law_take) :=
  ⟨f, fd, ["tape", "menu"], z_def F sc__law_ring (g__law_ring c__law_take) (fun cdv A outer s H E hr =>
    (zs_cons (zs_set (i := 2) sc__law_ring.nd rfl (by first | exact Or.inl rfl | exact Or.inr rfl) (z_op op_addU ok_addU z_int (z_cal C__law_take hr rfl (za_cons (zv 0) (za_cons z_int za_nil))))) (zs_cons (zs_set (i := 3) sc__law_ring.nd rfl (by first | exact Or.inl rfl | exact Or.inr rfl) (z_cal C__law_take hr rfl (za_cons (zv 0) (za_cons (zv 2) za_nil)))) (zs_cons (zs_set (i := 4) sc__law_ring.nd rfl (by first | exact Or.inl rfl | exact Or.inr rfl) (z_lst za_nil)) (zs_cons (zs_for PySem.PassesOwn.never rfl (zi_rng1 rfl B.range (za_cons (zv 2) za_nil)) (pg_name (i := 5) sc__law_ring.nd rfl (by first | exact Or.inl rfl | exact Or.inr rfl)) (zs_one (zs_expr (z_m PySem.F.plainAttrs_list PySem.F.slot_list_append PySem.F.type_list_append mt_append ok_append (zv 4) (za_cons (z_tup (za_cons (z_tup (za_cons (z_ifExp (zt_cmp (op_eqD hr.units) ok_eq (zv 5) (zv 3) (nomark _)) (z_ix ix_U ok_ix (zv 1) z_int (fun _ _ => rfl)) (z_ix ix_U ok_ix (zv 1) z_int (fun _ _ => rfl))) (za_cons (z_op op_mod ok_mod (z_ty call_int1 ok_int rfl B.int bt_int (za_cons (z_op op_addU ok_addU (zv 5) z_int) za_nil)) (zv 2)) za_nil))) za_nil)) za_nil))))) (zs_one (zs_ret (z_tup (za_cons (z_tup (za_cons (z_tup za_nil) za_nil)) (za_cons (z_ty call_tupleN ok_tuple rfl B.tuple bt_tuple (za_cons (zv 4) za_nil)) za_nil)))))))))), m, F.kp, F.binds fun _ _ _ _ _ _ us hl => match us, hl with | [_, _], _ => rfl⟩
/-! _law_input_rows -/
abbrev s__law_input_rows : Stmt := top 26
abbrev N__law_input_rows : List Str := ["tape", "many", "rows", "k"]
theorem sc__law_input_rows : FnScope N__law_input_rows ["tape"] (defScope s__law_input_rows) := ⟨rfl, rfl, rfl, by decide +kernel, rfl, by decide +kernel, by decide +kernel⟩
def g__law_input_rows (c__law_take : ZF) : ZS :=
  (zsSeq (zsAsg (z2 sAdd (zC (.int 17)) (zCall 2 c__law_take (zaCons (zV 0) (zaCons (zC (.int 6)) zaNil)))) (.name 1)) (zsSeq (zsAsg (zLst (zaCons (zTup (zaCons (zTup (zaCons (zC (.bl false)) zaNil)) (zaCons (zTup (zaCons (zC (.bl true)) zaNil)) zaNil))) (zaCons (zTup (zaCons (zTup zaNil) zaNil)) (zaCons (zTup (zaCons (zTup (zaCons (zC (.int 0)) zaNil)) (zaCons (zTup (zaCons (zC (.int 1)) zaNil)) (zaCons (zTup (zaCons (zC (.int 2)) zaNil)) zaNil)))) (zaCons (zTup (zaCons (zTup (zaCons (zC (.str "A")) (zaCons (zC (.bl true)) zaNil))) (zaCons (zTup (zaCons (zC (.str "B")) (zaCons (zC (.bl true)) zaNil))) zaNil))) (zaCons (zTup (zaCons (zTup (zaCons (zC (.int 1)) zaNil)) (zaCons (zTup (zaCons (zC (.bl true)) zaNil)) zaNil))) (zaCons (zB sTuple (zaCons (zLc (ziRng1 (zaCons (zV 1) zaNil)) (.name 3) ztYes (zTup (zaCons (zV 3) zaNil)) [3]) zaNil)) zaNil))))))) (.name 2)) (zsRet (z2 sIx (zV 2) (zCall 2 c__law_take (zaCons (zV 0) (zaCons (zC (.int 6)) zaNil)))))))
def F__law_input_rows (c__law_take : ZF) : ZF := defZ 4 1 (g__law_input_rows c__law_take)
theorem ok__law_input_rows [Tabs] {P : Program} {w : World} {K : PySem.W.Frag} {mg : Str → Option Value} {base : Heap} {f : Addr} {fd : FuncData} {k : Nat} (B : Blt mg) (F : Fun K "_law_input_rows" "_law_input_rows" s__law_input_rows f fd) (m : mg "_law_input_rows" = some (.ref f)) {c__law_take : ZF} (C__law_take : Cal P w K mg base k "_law_take" 2 c__law_take) : Cal P w K mg base (k + 1) "_law_input_rows" 1 (F__law_input_rows c__law_take) :=
  ⟨f, fd, ["tape"], z_def F sc__law_input_rows (g__law_input_rows c__law_take) (fun cdv A outer s H E hr =>
    (zs_cons (zs_set (i := 1) sc__law_input_rows.nd rfl (by first | exact Or.inl rfl | exact Or.inr rfl) (z_op op_addU ok_addU z_int (z_cal C__law_take hr rfl (za_cons (zv 0) (za_cons z_int za_nil))))) (zs_cons (zs_set (i := 2) sc__law_input_rows.nd rfl (by first | exact Or.inl rfl | exact Or.inr rfl) (z_lst (za_cons (z_tup (za_cons (z_tup (za_cons z_bl za_nil)) (za_cons (z_tup (za_cons z_bl za_nil)) za_nil))) (za_cons (z_tup (za_cons (z_tup za_nil) za_nil)) (za_cons (z_tup (za_cons (z_tup (za_cons z_int za_nil)) (za_cons (z_tup (za_cons z_int za_nil)) (za_cons (z_tup (za_cons z_int za_nil)) za_nil)))) (za_cons (z_tup (za_cons (z_tup (za_cons z_str (za_cons z_bl za_nil))) (za_cons (z_tup (za_cons z_str (za_cons z_bl za_nil))) za_nil))) (za_cons (z_tup (za_cons (z_tup (za_cons z_int za_nil)) (za_cons (z_tup (za_cons z_bl za_nil)) za_nil))) (za_cons (z_ty call_tupleN ok_tuple rfl B.tuple bt_tuple (za_cons (z_lc [("k", 3)] (by decide) rfl sc__law_input_rows.nd (zi_rng1 rfl B.range (za_cons (zv 1) za_nil)) (blkOk_by (N := N__law_input_rows) (sc := defScope s__law_input_rows) (own := [("k", 3)]) (by decide +kernel)) (fun _ _ _ _ _ => (pg_name (i := 3) sc__law_input_rows.nd rfl (by first | exact Or.inl rfl | exact Or.inr rfl))) (fun _ _ _ _ _ => zts_nil) (fun _ _ _ _ _ => (z_tup (za_cons (zv 3) za_nil)))) za_nil)) za_nil)))))))) (zs_one (zs_ret (z_ix ix_U ok_ix (zv 2) (z_cal C__law_take hr rfl (za_cons (zv 0) (za_cons z_int za_nil))) (fun _ _ => rfl))))))), m, F.kp, F.binds fun _ _ _ _ _ _ us hl => match us, hl with | [_], _ => rfl⟩
/-! _law_copied -/
abbrev s__law_copied : Stmt := top 27
abbrev N__law_copied : List Str := ["tape", "machine", "many", "lines", "line", "rows", "table", "place"]
theorem sc__law_copied : FnScope N__law_copied ["tape", "machine"] (defScope s__law_copied) := ⟨rfl, rfl, rfl, by decide +kernel, rfl, by decide +kernel, by decide +kernel⟩
def g__law_copied (c__law_take : ZF) (c__law_numbered : ZF) : ZS :=
  (zsSeq (zsAsg (zV 1) (.tup [(.name 5), (.name 6)])) (zsSeq (zsAsg (zB sLen (zaCons (zV 6) zaNil)) (.name 2)) (zsSeq (zsAsg (zLst zaNil) (.name 3)) (zsSeq (zsFor (ziSeq (z2 sAdd (zV 6) (zV 6))) (.name 4) (zsDrop (zM isLstB sAppend (zV 3) (zaCons (zB sTuple (zaCons (zLc (ziSeq (zV 4)) (.name 7) ztYes (zIf (zBl (z2 sIsN (zV 7) (zC .non))) (zC .non) (zTup (zaCons (z2 sIx (zV 7) (zC (.int 0))) (zaCons (z2 sAdd (z2 sIx (zV 7) (zC (.int 1))) (z2 sMul (zV 2) (zCall 2 c__law_take (zaCons (zV 0) (zaCons (zC (.int 2)) zaNil))))) zaNil)))) [7]) zaNil)) zaNil)))) (zsRet (zCall 2 c__law_numbered (zaCons (zV 5) (zaCons (zV 3) zaNil))))))))
def F__law_copied (c__law_take : ZF) (c__law_numbered : ZF) : ZF := defZ 8 2 (g__law_copied c__law_take c__law_numbered)
theorem ok__law_copied [Tabs] {P : Program} {w : World} {K : PySem.W.Frag} {mg : Str → Option Value} {base : Heap} {f : Addr} {fd : FuncData} {k : Nat} (B : Blt mg) (F : Fun K "_law_copied" "_law_copied" s__law_copied f fd) (m : mg "_law_copied" = some (.ref f)) {c__law_take : ZF} (C__law_take : Cal P w K mg base k "_law_take" 2 c__law_take) {c__law_numbered : ZF} (C__law_numbered : Cal P w K mg base k "_law_numbered" 2 c__law_numbered) : Cal P w K mg base (k + 1) "_law_copied" 2 (F__law_copied c__law_take c__law_numbered) :=
  ⟨f, fd, ["tape", "machine"], z_def F sc__law_copied (g__law_copied c__law_take c__law_numbered) (fun cdv A outer s H E hr =>
    (zs_cons (zs_asg (zv 1) (pg_tup rfl (pgs_cons (pg_name (i := 5) sc__law_copied.nd rfl (by first | exact Or.inl rfl | exact Or.inr rfl)) (pgs_cons (pg_name (i := 6) sc__law_copied.nd rfl (by first | exact Or.inl rfl | exact Or.inr rfl)) pgs_nil)))) (zs_cons (zs_set (i := 2) sc__law_copied.nd rfl (by first | exact Or.inl rfl | exact Or.inr rfl) (z_bi call_len ok_len rfl B.len bt_len (za_cons (zv 6) za_nil))) (zs_cons (zs_set (i := 3) sc__law_copied.nd rfl (by first | exact Or.inl rfl | exact Or.inr rfl) (z_lst za_nil)) (zs_cons (zs_for PySem.PassesOwn.never rfl (zi_seq (z_op op_addU ok_addU (zv 6) (zv 6))) (pg_name (i := 4) sc__law_copied.nd rfl (by first | exact Or.inl rfl | exact Or.inr rfl)) (zs_one (zs_expr (z_m PySem.F.plainAttrs_list PySem.F.slot_list_append PySem.F.type_list_append mt_append ok_append (zv 3) (za_cons (z_ty call_tupleN ok_tuple rfl B.tuple bt_tuple (za_cons (z_lc [("place", 7)] (by decide) rfl sc__law_copied.nd (zi_seq (zv 4)) (blkOk_by (N := N__law_copied) (sc := defScope s__law_copied) (own := [("place", 7)]) (by decide +kernel)) (fun _ _ _ _ _ => (pg_name (i := 7) sc__law_copied.nd rfl (by first | exact Or.inl rfl | exact Or.inr rfl))) (fun _ _ _ _ _ => zts_nil) (fun _ _ _ _ _ => (z_ifExp (zt_cmp op_isN ok_isN (zv 7) z_non (nomark _)) z_non (z_tup (za_cons (z_ix ix_U ok_ix (zv 7) z_int (fun _ _ => rfl)) (za_cons (z_op op_addU ok_addU (z_ix ix_U ok_ix (zv 7) z_int (fun _ _ => rfl)) (z_op op_mulU ok_mul (zv 2) (z_cal C__law_take hr rfl (za_cons (zv 0) (za_cons z_int za_nil))))) za_nil)))))) za_nil)) za_nil))))) (zs_one (zs_ret (z_cal C__law_numbered hr rfl (za_cons (zv 5) (za_cons (zv 3) za_nil)))))))))), m, F.kp, F.binds fun _ _ _ _ _ _ us hl => match us, hl with | [_, _], _ => rfl⟩
/-! _law_changed -/
abbrev s__law_changed : Stmt := top 28
abbrev N__law_changed : List Str := ["tape", "machine", "s", "r", "old", "place", "line", "rows", "table"]
theorem sc__law_changed : FnScope N__law_changed ["tape", "machine"] (defScope s__law_changed) := ⟨rfl, rfl, rfl, by decide +kernel, rfl, by decide +kernel, by decide +kernel⟩
def g__law_changed (c__law_take : ZF) (c__law_numbered : ZF) : ZS :=
  (zsSeq (zsAsg (zV 1) (.tup [(.name 7), (.name 8)])) (zsSeq (zsAsg (zCall 2 c__law_take (zaCons (zV 0) (zaCons (zB sLen (zaCons (zV 8) zaNil)) zaNil))) (.name 2)) (zsSeq (zsAsg (zCall 2 c__law_take (zaCons (zV 0) (zaCons (zB sLen (zaCons (zV 7) zaNil)) zaNil))) (.name 3)) (zsSeq (zsAsg (z2 sIx (z2 sIx (zV 8) (zV 2)) (zV 3)) (.name 4)) (zsSeq (zsAsg (z2 sIx (zLst (zaCons (zC .non) (zaCons (zTup (zaCons (zTup (zaCons (zC (.int 7)) zaNil)) (zaCons (zC (.int 0)) zaNil))) (zaCons (zTup (zaCons (zTup (zaCons (zC (.int 1)) zaNil)) (zaCons (zCall 2 c__law_take (zaCons (zV 0) (zaCons (zB sLen (zaCons (zV 8) zaNil)) zaNil))) zaNil))) (zaCons (zTup (zaCons (zTup (zaCons (zC (.bl true)) zaNil)) (zaCons (zC (.int 0)) zaNil))) zaNil))))) (zCall 2 c__law_take (zaCons (zV 0) (zaCons (zC (.int 4)) zaNil)))) (.name 5)) (zsSeq (zsIf (tzAnd (zBl (z2 sNotN (zV 4) (zC .non))) (zBl (z2 sEq (zCall 2 c__law_take (zaCons (zV 0) (zaCons (zC (.int 2)) zaNil))) (zC (.int 0))))) (zsAsg (zIf (tzOr (zBl (z2 sEq (zCall 2 c__law_take (zaCons (zV 0) (zaCons (zC (.int 2)) zaNil))) (zC (.int 0)))) (zBl (z2 sEq (z2 sIx (zV 4) (zC (.int 0))) (zTup zaNil)))) (zTup (zaCons (z2 sAdd (z2 sIx (zV 4) (zC (.int 0))) (zTup (zaCons (zC (.int 0)) zaNil))) (zaCons (z2 sIx (zV 4) (zC (.int 1))) zaNil))) (zTup (zaCons (z2 sAdd (z3 sSl (z2 sIx (zV 4) (zC (.int 0))) zoNone (zoSome (zNeg (zC (.int 1))))) (zTup (zaCons (zC (.str "last")) zaNil))) (zaCons (z2 sIx (zV 4) (zC (.int 1))) zaNil)))) (.name 5)) zsSkip) (zsSeq (zsAsg (z2 sAdd (z2 sAdd (z3 sSl (z2 sIx (zV 8) (zV 2)) zoNone (zoSome (zV 3))) (zTup (zaCons (zV 5) zaNil))) (z3 sSl (z2 sIx (zV 8) (zV 2)) (zoSome (z2 sAdd (zV 3) (zC (.int 1)))) zoNone)) (.name 6)) (zsRet (zCall 2 c__law_numbered (zaCons (zV 7) (zaCons (z2 sAdd (z2 sAdd (z3 sSl (zV 8) zoNone (zoSome (zV 2))) (zTup (zaCons (zV 6) zaNil))) (z3 sSl (zV 8) (zoSome (z2 sAdd (zV 2) (zC (.int 1)))) zoNone)) zaNil)))))))))))
def F__law_changed (c__law_take : ZF) (c__law_numbered : ZF) : ZF := defZ 9 2 (g__law_changed c__law_take c__law_numbered)
theorem ok__law_changed [Tabs] {P : Program} {w : World} {K : PySem.W.Frag} {mg : Str → Option Value} {base : Heap} {f : Addr} {fd : FuncData} {k : Nat} (B : Blt mg) (F : Fun K "_law_changed" "_law_changed" s__law_changed f fd) (m : mg "_law_changed" = some (.ref f)) {c__law_take : ZF} (C__law_take : Cal P w K mg base k "_law_take" 2 c__law_take) {c__law_numbered : ZF} (C__law_numbered : Cal P w K mg base k "_law_numbered" 2 c__law_numbered) : Cal P w K mg base (k + 1) "_law_changed" 2 (F__law_changed c__law_take c__law_numbered) :=
  ⟨f, fd, ["tape", "machine"], z_def F sc__law_changed (g__law_changed c__law_take c__law_numbered) (fun cdv A outer s H E hr =>
    (zs_cons (zs_asg (zv 1) (pg_tup rfl (pgs_cons (pg_name (i := 7) sc__law_changed.nd rfl (by first | exact Or.inl rfl | exact Or.inr rfl)) (pgs_cons (pg_name (i := 8) sc__law_changed.nd rfl (by first | exact Or.inl rfl | exact Or.inr rfl)) pgs_nil)))) (zs_cons (zs_set (i := 2) sc__law_changed.nd rfl (by first | exact Or.inl rfl | exact Or.inr rfl) (z_cal C__law_take hr rfl (za_cons (zv 0) (za_cons (z_bi call_len ok_len rfl B.len bt_len (za_cons (zv 8) za_nil)) za_nil)))) (zs_cons (zs_set (i := 3) sc__law_changed.nd rfl (by first | exact Or.inl rfl | exact Or.inr rfl) (z_cal C__law_take hr rfl (za_cons (zv 0) (za_cons (z_bi call_len ok_len rfl B.len bt_len (za_cons (zv 7) za_nil)) za_nil)))) (zs_cons (zs_set (i := 4) sc__law_changed.nd rfl (by first | exact Or.inl rfl | exact Or.inr rfl) (z_ix ix_U ok_ix (z_ix ix_U ok_ix (zv 8) (zv 2) (fun _ _ => rfl)) (zv 3) (fun _ _ => rfl))) (zs_cons (zs_set (i := 5) sc__law_changed.nd rfl (by first | exact Or.inl rfl | exact Or.inr rfl) (z_ix ix_U ok_ix (z_lst (za_cons z_non (za_cons (z_tup (za_cons (z_tup (za_cons z_int za_nil)) (za_cons z_int za_nil))) (za_cons (z_tup (za_cons (z_tup (za_cons z_int za_nil)) (za_cons (z_cal C__law_take hr rfl (za_cons (zv 0) (za_cons (z_bi call_len ok_len rfl B.len bt_len (za_cons (zv 8) za_nil)) za_nil))) za_nil))) (za_cons (z_tup (za_cons (z_tup (za_cons z_bl za_nil)) (za_cons z_int za_nil))) za_nil))))) (z_cal C__law_take hr rfl (za_cons (zv 0) (za_cons z_int za_nil))) (fun _ _ => rfl))) (zs_cons (zs_if (zw (zw_and (zt_cmp op_notN ok_notN (zv 4) z_non (nomark _)) (zw_and1 (zt_cmp (op_eqD hr.units) ok_eq (z_cal C__law_take hr rfl (za_cons (zv 0) (za_cons z_int za_nil))) z_int (nomark _))))) (zs_one (zs_set (i := 5) sc__law_changed.nd rfl (by first | exact Or.inl rfl | exact Or.inr rfl) (z_ifExp (zw (zw_or (zt_cmp (op_eqD hr.units) ok_eq (z_cal C__law_take hr rfl (za_cons (zv 0) (za_cons z_int za_nil))) z_int (nomark _)) (zw_or1 (zt_cmp (op_eqD hr.units) ok_eq (z_ix ix_U ok_ix (zv 4) z_int (fun _ _ => rfl)) (z_tup za_nil) (nomark _))))) (z_tup (za_cons (z_op op_addU ok_addU (z_ix ix_U ok_ix (zv 4) z_int (fun _ _ => rfl)) (z_tup (za_cons z_int za_nil))) (za_cons (z_ix ix_U ok_ix (zv 4) z_int (fun _ _ => rfl)) za_nil))) (z_tup (za_cons (z_op op_addU ok_addU (z_sl sl_U ok_sl (z_ix ix_U ok_ix (zv 4) z_int (fun _ _ => rfl)) zo_none (zo_some (z_neg z_int))) (z_tup (za_cons z_str za_nil))) (za_cons (z_ix ix_U ok_ix (zv 4) z_int (fun _ _ => rfl)) za_nil)))))) zs_nil) (zs_cons (zs_set (i := 6) sc__law_changed.nd rfl (by first | exact Or.inl rfl | exact Or.inr rfl) (z_op op_addU ok_addU (z_op op_addU ok_addU (z_sl sl_U ok_sl (z_ix ix_U ok_ix (zv 8) (zv 2) (fun _ _ => rfl)) zo_none (zo_some (zv 3))) (z_tup (za_cons (zv 5) za_nil))) (z_sl sl_U ok_sl (z_ix ix_U ok_ix (zv 8) (zv 2) (fun _ _ => rfl)) (zo_some (z_op op_addU ok_addU (zv 3) z_int)) zo_none))) (zs_one (zs_ret (z_cal C__law_numbered hr rfl (za_cons (zv 7) (za_cons (z_op op_addU ok_addU (z_op op_addU ok_addU (z_sl sl_U ok_sl (zv 8) zo_none (zo_some (zv 2))) (z_tup (za_cons (zv 6) za_nil))) (z_sl sl_U ok_sl (zv 8) (zo_some (z_op op_addU ok_addU (zv 2) z_int)) zo_none)) za_nil))))))))))))), m, F.kp, F.binds fun _ _ _ _ _ _ us hl => match us, hl with | [_, _], _ => rfl⟩
/-! _law_differ -/
abbrev s__law_differ : Stmt := top 29
abbrev N__law_differ : List Str := ["a", "b"]
theorem sc__law_differ : FnScope N__law_differ ["a", "b"] (defScope s__law_differ) := ⟨rfl, rfl, rfl, by decide +kernel, rfl, by decide +kernel, by decide +kernel⟩
def g__law_differ (c__law_same : ZF) : ZS :=
  (zsSeq (zsIf (tzOr (zBl (z2 sIsN (zV 0) (zC .non))) (zBl (z2 sIsN (zV 1) (zC .non)))) (zsRet (zOr (z2 sNotN (zV 0) (zC .non)) (z2 sNotN (zV 1) (zC .non)))) zsSkip) (zsRet (zNot (zTru (zCall 2 c__law_same (zaCons (z2 sIx (zV 0) (zC (.int 0))) (zaCons (z2 sIx (zV 1) (zC (.int 0))) zaNil)))))))
def F__law_differ (c__law_same : ZF) : ZF := defZ 2 2 (g__law_differ c__law_same)
theorem ok__law_differ [Tabs] {P : Program} {w : World} {K : PySem.W.Frag} {mg : Str → Option Value} {base : Heap} {f : Addr} {fd : FuncData} {k : Nat} (B : Blt mg) (F : Fun K "_law_differ" "_law_differ" s__law_differ f fd) (m : mg "_law_differ" = some (.ref f)) {c__law_same : ZF} (C__law_same : Cal P w K mg base k "_law_same" 2 c__law_same) : Cal P w K mg base (k + 1) "_law_differ" 2 (F__law_differ c__law_same) :=
  ⟨f, fd, ["a", "b"], z_def F sc__law_differ (g__law_differ c__law_same) (fun cdv A outer s H E hr =>
    (zs_cons (zs_if (zw (zw_or (zt_cmp op_isN ok_isN (zv 0) z_non (nomark _)) (zw_or1 (zt_cmp op_isN ok_isN (zv 1) z_non (nomark _))))) (zs_one (zs_ret (z_or (z_cmp op_notN ok_notN (zv 0) z_non (nomark _)) (z_one (z_cmp op_notN ok_notN (zv 1) z_non (nomark _)))))) zs_nil) (zs_one (zs_ret (z_not (z_cal C__law_same hr rfl (za_cons (z_ix ix_U ok_ix (zv 0) z_int (fun _ _ => rfl)) (za_cons (z_ix ix_U ok_ix (zv 1) z_int (fun _ _ => rfl)) za_nil)))))))), m, F.kp, F.binds fun _ _ _ _ _ _ us hl => match us, hl with | [_, _], _ => rfl⟩
/-! _law_bad -/
abbrev s__law_bad : Stmt := top 30
abbrev N__law_bad : List Str := ["tape", "machine", "many", "line", "bad", "rows", "table", "row"]
theorem sc__law_bad : FnScope N__law_bad ["tape", "machine"] (defScope s__law_bad) := ⟨rfl, rfl, rfl, by decide +kernel, rfl, by decide +kernel, by decide +kernel⟩
def g__law_bad (c__law_take : ZF) : ZS :=
  (zsSeq (zsAsg (zV 1) (.tup [(.name 5), (.name 6)])) (zsSeq (zsAsg (zB sLen (zaCons (zV 6) zaNil)) (.name 2)) (zsSeq (zsAsg (z2 sIx (zV 6) (zC (.int 0))) (.name 3)) (zsSeq (zsAsg (zLst (zaCons (zTup (zaCons (zV 5) zaNil)) (zaCons (zTup (zaCons (zV 5) (zaCons (zV 6) (zaCons (zC (.int 0)) zaNil)))) (zaCons (zTup (zaCons (zV 5) (zaCons (zTup zaNil) zaNil))) (zaCons (zTup (zaCons (zTup zaNil) (zaCons (zV 6) zaNil))) (zaCons (zTup (zaCons (z2 sAdd (zV 5) (z3 sSl (zV 5) (zoSome (zNeg (zC (.int 1)))) zoNone)) (zaCons (zB sTuple (zaCons (zLc (ziSeq (zV 6)) (.name 7) ztYes (z2 sAdd (zV 7) (z3 sSl (zV 7) (zoSome (zNeg (zC (.int 1)))) zoNone)) [7]) zaNil)) zaNil))) (zaCons (zTup (zaCons (zV 5) (zaCons (z2 sAdd (z3 sSl (zV 6) zoNone (zoSome (zNeg (zC (.int 1))))) (zTup (zaCons (z3 sSl (z2 sIx (zV 6) (zNeg (zC (.int 1)))) (zoSome (zC (.int 1))) zoNone) zaNil))) zaNil))) (zaCons (zTup (zaCons (zV 5) (zaCons (z2 sAdd (zV 6) (zTup (zaCons (zV 3) zaNil))) zaNil))) (zaCons (zTup (zaCons (zV 5) (zaCons (z2 sAdd (zTup (zaCons (z2 sAdd (z3 sSl (zV 3) zoNone (zoSome (zNeg (zC (.int 1))))) (zTup (zaCons (zTup (zaCons (zTup (zaCons (zC (.int 0)) zaNil)) (zaCons (zV 2) zaNil))) zaNil))) zaNil)) (z3 sSl (zV 6) (zoSome (zC (.int 1))) zoNone)) zaNil))) (zaCons (zTup (zaCons (zV 5) (zaCons (z2 sAdd (zTup (zaCons (z2 sAdd (z3 sSl (zV 3) zoNone (zoSome (zNeg (zC (.int 1))))) (zTup (zaCons (zTup (zaCons (zTup (zaCons (zC (.int 0)) zaNil)) (zaCons (zNeg (zC (.int 1))) zaNil))) zaNil))) zaNil)) (z3 sSl (zV 6) (zoSome (zC (.int 1))) zoNone)) zaNil))) (zaCons (zTup (zaCons (zV 5) (zaCons (z2 sAdd (zTup (zaCons (z2 sAdd (z3 sSl (zV 3) zoNone (zoSome (zNeg (zC (.int 1))))) (zTup (zaCons (zTup (zaCons (zTup (zaCons (zC (.int 0)) zaNil)) (zaCons (zC (.bl true)) zaNil))) zaNil))) zaNil)) (z3 sSl (zV 6) (zoSome (zC (.int 1))) zoNone)) zaNil))) (zaCons (zTup (zaCons (zV 5) (zaCons (z2 sAdd (zTup (zaCons (z2 sAdd (z3 sSl (zV 3) zoNone (zoSome (zNeg (zC (.int 1))))) (zTup (zaCons (zTup (zaCons (zC (.int 0)) (zaCons (zC (.int 0)) zaNil))) zaNil))) zaNil)) (z3 sSl (zV 6) (zoSome (zC (.int 1))) zoNone)) zaNil))) (zaCons (zTup (zaCons (zV 5) (zaCons (z2 sAdd (zTup (zaCons (z2 sAdd (z3 sSl (zV 3) zoNone (zoSome (zNeg (zC (.int 1))))) (zTup (zaCons (zTup (zaCons (zTup (zaCons (zC (.int 0)) zaNil)) zaNil)) zaNil))) zaNil)) (z3 sSl (zV 6) (zoSome (zC (.int 1))) zoNone)) zaNil))) (zaCons (zC (.str "machine")) (zaCons (zC .non) (zaCons (zTup zaNil) (zaCons (zTup (zaCons (zV 5) (zaCons (zC (.str "table")) zaNil))) (zaCons (zTup (zaCons (z2 sAdd (zTup (zaCons (zC (.int 0)) zaNil)) (z3 sSl (zV 5) (zoSome (zC (.int 1))) zoNone)) (zaCons (zV 6) zaNil))) (zaCons (zTup (zaCons (zV 5) (zaCons (z2 sAdd (zTup (zaCons (z2 sAdd (z3 sSl (zV 3) zoNone (zoSome (zNeg (zC (.int 1))))) (zTup (zaCons (zC (.str "")) zaNil))) zaNil)) (z3 sSl (zV 6) (zoSome (zC (.int 1))) zoNone)) zaNil))) (zaCons (zTup (zaCons (zV 5) (zaCons (z2 sAdd (zTup (zaCons (zC (.int 5)) zaNil)) (z3 sSl (zV 6) (zoSome (zC (.int 1))) zoNone)) zaNil))) zaNil)))))))))))))))))))) (.name 4)) (zsRet (z2 sIx (zV 4) (zCall 2 c__law_take (zaCons (zV 0) (zaCons (zC (.int 19)) zaNil)))))))))
def F__law_bad (c__law_take : ZF) : ZF := defZ 8 2 (g__law_bad c__law_take)
theorem ok__law_bad [Tabs] {P : Program} {w : World} {K : PySem.W.Frag} {mg : Str → Option Value} {base : Heap} {f : Addr} {fd : FuncData} {k : Nat} (B : Blt mg) (F : Fun K "_law_bad" "_law_bad" s__law_bad f fd) (m : mg "_law_bad" = some (.ref f)) {c__law_take : ZF} (C__law_take : Cal P w K mg base k "_law_take" 2 c__law_take) : Cal P w K mg base (k + 1) "_law_bad" 2 (F__law_bad c__law_take) :=
  ⟨f, fd, ["tape", "machine"], z_def F sc__law_bad (g__law_bad c__law_take) (fun cdv A outer s H E hr =>
    (zs_cons (zs_asg (zv 1) (pg_tup rfl (pgs_cons (pg_name (i := 5) sc__law_bad.nd rfl (by first | exact Or.inl rfl | exact Or.inr rfl)) (pgs_cons (pg_name (i := 6) sc__law_bad.nd rfl (by first | exact Or.inl rfl | exact Or.inr rfl)) pgs_nil)))) (zs_cons (zs_set (i := 2) sc__law_bad.nd rfl (by first | exact Or.inl rfl | exact Or.inr rfl) (z_bi call_len ok_len rfl B.len bt_len (za_cons (zv 6) za_nil))) (zs_cons (zs_set (i := 3) sc__law_bad.nd rfl (by first | exact Or.inl rfl | exact Or.inr rfl) (z_ix ix_U ok_ix (zv 6) z_int (fun _ _ => rfl))) (zs_cons (zs_set (i := 4) sc__law_bad.nd rfl (by first | exact Or.inl rfl | exact Or.inr rfl) (z_lst (za_cons (z_tup (za_cons (zv 5) za_nil)) (za_cons (z_tup (za_cons (zv 5) (za_cons (zv 6) (za_cons z_int za_nil)))) (za_cons (z_tup (za_cons (zv 5) (za_cons (z_tup za_nil) za_nil))) (za_cons (z_tup (za_cons (z_tup za_nil) (za_cons (zv 6) za_nil))) (za_cons (z_tup (za_cons (z_op op_addU ok_addU (zv 5) (z_sl sl_U ok_sl (zv 5) (zo_some (z_neg z_int)) zo_none)) (za_cons (z_ty call_tupleN ok_tuple rfl B.tuple bt_tuple (za_cons (z_lc [("row", 7)] (by decide) rfl sc__law_bad.nd (zi_seq (zv 6)) (blkOk_by (N := N__law_bad) (sc := defScope s__law_bad) (own := [("row", 7)]) (by decide +kernel)) (fun _ _ _ _ _ => (pg_name (i := 7) sc__law_bad.nd rfl (by first | exact Or.inl rfl | exact Or.inr rfl))) (fun _ _ _ _ _ => zts_nil) (fun _ _ _ _ _ => (z_op op_addU ok_addU (zv 7) (z_sl sl_U ok_sl (zv 7) (zo_some (z_neg z_int)) zo_none)))) za_nil)) za_nil))) (za_cons (z_tup (za_cons (zv 5) (za_cons (z_op op_addU ok_addU (z_sl sl_U ok_sl (zv 6) zo_none (zo_some (z_neg z_int))) (z_tup (za_cons (z_sl sl_U ok_sl (z_ix ix_U ok_ix (zv 6) (z_neg z_int) (fun _ _ => rfl)) (zo_some z_int) zo_none) za_nil))) za_nil))) (za_cons (z_tup (za_cons (zv 5) (za_cons (z_op op_addU ok_addU (zv 6) (z_tup (za_cons (zv 3) za_nil))) za_nil))) (za_cons (z_tup (za_cons (zv 5) (za_cons (z_op op_addU ok_addU (z_tup (za_cons (z_op op_addU ok_addU (z_sl sl_U ok_sl (zv 3) zo_none (zo_some (z_neg z_int))) (z_tup (za_cons (z_tup (za_cons (z_tup (za_cons z_int za_nil)) (za_cons (zv 2) za_nil))) za_nil))) za_nil)) (z_sl sl_U ok_sl (zv 6) (zo_some z_int) zo_none)) za_nil))) (za_cons (z_tup (za_cons (zv 5) (za_cons (z_op op_addU ok_addU (z_tup (za_cons (z_op op_addU ok_addU (z_sl sl_U ok_sl (zv 3) zo_none (zo_some (z_neg z_int))) (z_tup (za_cons (z_tup (za_cons (z_tup (za_cons z_int za_nil)) (za_cons (z_neg z_int) za_nil))) za_nil))) za_nil)) (z_sl sl_U ok_sl (zv 6) (zo_some z_int) zo_none)) za_nil))) (za_cons (z_tup (za_cons (zv 5) (za_cons (z_op op_addU ok_addU (z_tup (za_cons (z_op op_addU ok_addU (z_sl sl_U ok_sl (zv 3) zo_none (zo_some (z_neg z_int))) (z_tup (za_cons (z_tup (za_cons (z_tup (za_cons z_int za_nil)) (za_cons z_bl za_nil))) za_nil))) za_nil)) (z_sl sl_U ok_sl (zv 6) (zo_some z_int) zo_none)) za_nil))) (za_cons (z_tup (za_cons (zv 5) (za_cons (z_op op_addU ok_addU (z_tup (za_cons (z_op op_addU ok_addU (z_sl sl_U ok_sl (zv 3) zo_none (zo_some (z_neg z_int))) (z_tup (za_cons (z_tup (za_cons z_int (za_cons z_int za_nil))) za_nil))) za_nil)) (z_sl sl_U ok_sl (zv 6) (zo_some z_int) zo_none)) za_nil))) (za_cons (z_tup (za_cons (zv 5) (za_cons (z_op op_addU ok_addU (z_tup (za_cons (z_op op_addU ok_addU (z_sl sl_U ok_sl (zv 3) zo_none (zo_some (z_neg z_int))) (z_tup (za_cons (z_tup (za_cons (z_tup (za_cons z_int za_nil)) za_nil)) za_nil))) za_nil)) (z_sl sl_U ok_sl (zv 6) (zo_some z_int) zo_none)) za_nil))) (za_cons z_str (za_cons z_non (za_cons (z_tup za_nil) (za_cons (z_tup (za_cons (zv 5) (za_cons z_str za_nil))) (za_cons (z_tup (za_cons (z_op op_addU ok_addU (z_tup (za_cons z_int za_nil)) (z_sl sl_U ok_sl (zv 5) (zo_some z_int) zo_none)) (za_cons (zv 6) za_nil))) (za_cons (z_tup (za_cons (zv 5) (za_cons (z_op op_addU ok_addU (z_tup (za_cons (z_op op_addU ok_addU (z_sl sl_U ok_sl (zv 3) zo_none (zo_some (z_neg z_int))) (z_tup (za_cons z_str za_nil))) za_nil)) (z_sl sl_U ok_sl (zv 6) (zo_some z_int) zo_none)) za_nil))) (za_cons (z_tup (za_cons (zv 5) (za_cons (z_op op_addU ok_addU (z_tup (za_cons z_int za_nil)) (z_sl sl_U ok_sl (zv 6) (zo_some z_int) zo_none)) za_nil))) za_nil))))))))))))))))))))) (zs_one (zs_ret (z_ix ix_U ok_ix (zv 4) (z_cal C__law_take hr rfl (za_cons (zv 0) (za_cons z_int za_nil))) (fun _ _ => rfl))))))))), m, F.kp, F.binds fun _ _ _ _ _ _ us hl => match us, hl with | [_, _], _ => rfl⟩
/-! _law_run -/
abbrev s__law_run : Stmt := top 31
abbrev N__law_run : List Str := ["machine", "indexes", "state", "outputs", "k", "place"]
theorem sc__law_run : FnScope N__law_run ["machine", "indexes"] (defScope s__law_run) := ⟨rfl, rfl, rfl, by decide +kernel, rfl, by decide +kernel, by decide +kernel⟩
def g__law_run : ZS :=
  (zsSeq (zsAsg (zC (.int 0)) (.name 2)) (zsSeq (zsAsg (zLst zaNil) (.name 3)) (zsSeq (zsFor (ziRng1 (zaCons (zB sLen (zaCons (zV 1) zaNil)) zaNil)) (.name 4) (zsSeq (zsAsg (z2 sIx (z2 sIx (z2 sIx (zV 0) (zC (.int 1))) (zV 2)) (z2 sIx (zV 1) (zV 4))) (.name 5)) (zsSeq (zsIf (zBl (z2 sIsN (zV 5) (zC .non))) (zsRet (zTup (zaCons (zB sTuple (zaCons (zV 3) zaNil)) (zaCons (zV 4) zaNil)))) zsSkip) (zsSeq (zsDrop (zM isLstB sAppend (zV 3) (zaCons (z2 sIx (zV 5) (zC (.int 0))) zaNil))) (zsAsg (z2 sIx (zV 5) (zC (.int 1))) (.name 2)))))) (zsRet (zTup (zaCons (zB sTuple (zaCons (zV 3) zaNil)) (zaCons (zC .non) zaNil)))))))
def F__law_run : ZF := defZ 6 2 (g__law_run)
theorem ok__law_run [Tabs] {P : Program} {w : World} {K : PySem.W.Frag} {mg : Str → Option Value} {base : Heap} {f : Addr} {fd : FuncData} {k : Nat} (B : Blt mg) (F : Fun K "_law_run" "_law_run" s__law_run f fd) (m : mg "_law_run" = some (.ref f)) : Cal P w K mg base (k + 1) "_law_run" 2 (F__law_run) :=
  ⟨f, fd, ["machine", "indexes"], z_def F sc__law_run (g__law_run) (fun cdv A outer s H E hr =>
    (zs_cons (zs_set (i := 2) sc__law_run.nd rfl (by first | exact Or.inl rfl | exact Or.inr rfl) z_int) (zs_cons (zs_set (i := 3) sc__law_run.nd rfl (by first | exact Or.inl rfl | exact Or.inr rfl) (z_lst za_nil)) (zs_cons (zs_for PySem.PassesOwn.never rfl (zi_rng1 rfl B.range (za_cons (z_bi call_len ok_len rfl B.len bt_len (za_cons (zv 1) za_nil)) za_nil)) (pg_name (i := 4) sc__law_run.nd rfl (by first | exact Or.inl rfl | exact Or.inr rfl)) (zs_cons (zs_set (i := 5) sc__law_run.nd rfl (by first | exact Or.inl rfl | exact Or.inr rfl) (z_ix ix_U ok_ix (z_ix ix_U ok_ix (z_ix ix_U ok_ix (zv 0) z_int (fun _ _ => rfl)) (zv 2) (fun _ _ => rfl)) (z_ix ix_U ok_ix (zv 1) (zv 4) (fun _ _ => rfl)) (fun _ _ => rfl))) (zs_cons (zs_if (zt_cmp op_isN ok_isN (zv 5) z_non (nomark _)) (zs_one (zs_ret (z_tup (za_cons (z_ty call_tupleN ok_tuple rfl B.tuple bt_tuple (za_cons (zv 3) za_nil)) (za_cons (zv 4) za_nil))))) zs_nil) (zs_cons (zs_expr (z_m PySem.F.plainAttrs_list PySem.F.slot_list_append PySem.F.type_list_append mt_append ok_append (zv 3) (za_cons (z_ix ix_U ok_ix (zv 5) z_int (fun _ _ => rfl)) za_nil))) (zs_one (zs_set (i := 2) sc__law_run.nd rfl (by first | exact Or.inl rfl | exact Or.inr rfl) (z_ix ix_U ok_ix (zv 5) z_int (fun _ _ => rfl)))))))) (zs_one (zs_ret (z_tup (za_cons (z_ty call_tupleN ok_tuple rfl B.tuple bt_tuple (za_cons (zv 3) za_nil)) (za_cons z_non za_nil))))))))), m, F.kp, F.binds fun _ _ _ _ _ _ us hl => match us, hl with | [_, _], _ => rfl⟩
/-! _law_shortest -/
abbrev s__law_shortest : Stmt := top 32
abbrev N__law_shortest : List Str := ["machine", "ways", "length", "longer", "seen", "way", "s", "r"]
theorem sc__law_shortest : FnScope N__law_shortest ["machine"] (defScope s__law_shortest) := ⟨rfl, rfl, rfl, by decide +kernel, rfl, by decide +kernel, by decide +kernel⟩
def g__law_shortest : ZS :=
  (zsSeq (zsAsg (zLst (zaCons (zTup (zaCons (zTup zaNil) (zaCons (zC (.int 0)) zaNil))) zaNil)) (.name 1)) (zsSeq (zsFor (ziRng1 (zaCons (z2 sAdd (zB sLen (zaCons (z2 sIx (zV 0) (zC (.int 1))) zaNil)) (zC (.int 1))) zaNil)) (.name 2) (zsSeq (zsAsg (zLst zaNil) (.name 3)) (zsSeq (zsAsg (zLst zaNil) (.name 4)) (zsSeq (zsFor (ziSeq (zV 1)) (.tup [(.name 5), (.name 6)]) (zsFor (ziRng1 (zaCons (zB sLen (zaCons (z2 sIx (zV 0) (zC (.int 0))) zaNil)) zaNil)) (.name 7) (zsSeq (zsIf (zBl (z2 sIsN (z2 sIx (z2 sIx (z2 sIx (zV 0) (zC (.int 1))) (zV 6)) (zV 7)) (zC .non))) (zsRet (z2 sAdd (zV 5) (zTup (zaCons (zV 7) zaNil)))) zsSkip) (zsIf (zBl (z2 sNotInU (z2 sIx (z2 sIx (z2 sIx (z2 sIx (zV 0) (zC (.int 1))) (zV 6)) (zV 7)) (zC (.int 1))) (zV 4))) (zsSeq (zsDrop (zM isLstB sAppend (zV 4) (zaCons (z2 sIx (z2 sIx (z2 sIx (z2 sIx (zV 0) (zC (.int 1))) (zV 6)) (zV 7)) (zC (.int 1))) zaNil))) (zsDrop (zM isLstB sAppend (zV 3) (zaCons (zTup (zaCons (z2 sAdd (zV 5) (zTup (zaCons (zV 7) zaNil))) (zaCons (z2 sIx (z2 sIx (z2 sIx (z2 sIx (zV 0) (zC (.int 1))) (zV 6)) (zV 7)) (zC (.int 1))) zaNil))) zaNil)))) zsSkip)))) (zsAsg (zV 3) (.name 1)))))) (zsRet (zC .non))))
def F__law_shortest : ZF := defZ 8 1 (g__law_shortest)
theorem ok__law_shortest [Tabs] {P : Program} {w : World} {K : PySem.W.Frag} {mg : Str → Option Value} {base : Heap} {f : Addr} {fd : FuncData} {k : Nat} (B : Blt mg) (F : Fun K "_law_shortest" "_law_shortest" s__law_shortest f fd) (m : mg "_law_shortest" = some (.ref f)) : Cal P w K mg base (k + 1) "_law_shortest" 1 (F__law_shortest) :=
  ⟨f, fd, ["machine"], z_def F sc__law_shortest (g__law_shortest) (fun cdv A outer s H E hr =>
    (zs_cons (zs_set (i := 1) sc__law_shortest.nd rfl (by first | exact Or.inl rfl | exact Or.inr rfl) (z_lst (za_cons (z_tup (za_cons (z_tup za_nil) (za_cons z_int za_nil))) za_nil))) (zs_cons (zs_for PySem.PassesOwn.never rfl (zi_rng1 rfl B.range (za_cons (z_op op_addU ok_addU (z_bi call_len ok_len rfl B.len bt_len (za_cons (z_ix ix_U ok_ix (zv 0) z_int (fun _ _ => rfl)) za_nil)) z_int) za_nil)) (pg_name (i := 2) sc__law_shortest.nd rfl (by first | exact Or.inl rfl | exact Or.inr rfl)) (zs_cons (zs_set (i := 3) sc__law_shortest.nd rfl (by first | exact Or.inl rfl | exact Or.inr rfl) (z_lst za_nil)) (zs_cons (zs_set (i := 4) sc__law_shortest.nd rfl (by first | exact Or.inl rfl | exact Or.inr rfl) (z_lst za_nil)) (zs_cons (zs_for PySem.PassesOwn.never rfl (zi_seq (zv 1)) (pg_tup rfl (pgs_cons (pg_name (i := 5) sc__law_shortest.nd rfl (by first | exact Or.inl rfl | exact Or.inr rfl)) (pgs_cons (pg_name (i := 6) sc__law_shortest.nd rfl (by first | exact Or.inl rfl | exact Or.inr rfl)) pgs_nil))) (zs_one (zs_for PySem.PassesOwn.never rfl (zi_rng1 rfl B.range (za_cons (z_bi call_len ok_len rfl B.len bt_len (za_cons (z_ix ix_U ok_ix (zv 0) z_int (fun _ _ => rfl)) za_nil)) za_nil)) (pg_name (i := 7) sc__law_shortest.nd rfl (by first | exact Or.inl rfl | exact Or.inr rfl)) (zs_cons (zs_if (zt_cmp op_isN ok_isN (z_ix ix_U ok_ix (z_ix ix_U ok_ix (z_ix ix_U ok_ix (zv 0) z_int (fun _ _ => rfl)) (zv 6) (fun _ _ => rfl)) (zv 7) (fun _ _ => rfl)) z_non (nomark _)) (zs_one (zs_ret (z_op op_addU ok_addU (zv 5) (z_tup (za_cons (zv 7) za_nil))))) zs_nil) (zs_one (zs_if (zt_cmp (op_notInU (hu65 hr)) ok_notInU (z_ix ix_U ok_ix (z_ix ix_U ok_ix (z_ix ix_U ok_ix (z_ix ix_U ok_ix (zv 0) z_int (fun _ _ => rfl)) (zv 6) (fun _ _ => rfl)) (zv 7) (fun _ _ => rfl)) z_int (fun _ _ => rfl)) (zv 4) rfl) (zs_cons (zs_expr (z_m PySem.F.plainAttrs_list PySem.F.slot_list_append PySem.F.type_list_append mt_append ok_append (zv 4) (za_cons (z_ix ix_U ok_ix (z_ix ix_U ok_ix (z_ix ix_U ok_ix (z_ix ix_U ok_ix (zv 0) z_int (fun _ _ => rfl)) (zv 6) (fun _ _ => rfl)) (zv 7) (fun _ _ => rfl)) z_int (fun _ _ => rfl)) za_nil))) (zs_one (zs_expr (z_m PySem.F.plainAttrs_list PySem.F.slot_list_append PySem.F.type_list_append mt_append ok_append (zv 3) (za_cons (z_tup (za_cons (z_op op_addU ok_addU (zv 5) (z_tup (za_cons (zv 7) za_nil))) (za_cons (z_ix ix_U ok_ix (z_ix ix_U ok_ix (z_ix ix_U ok_ix (z_ix ix_U ok_ix (zv 0) z_int (fun _ _ => rfl)) (zv 6) (fun _ _ => rfl)) (zv 7) (fun _ _ => rfl)) z_int (fun _ _ => rfl)) za_nil))) za_nil))))) zs_nil)))))) (zs_one (zs_set (i := 1) sc__law_shortest.nd rfl (by first | exact Or.inl rfl | exact Or.inr rfl) (zv 3))))))) (zs_one (zs_ret z_non))))), m, F.kp, F.binds fun _ _ _ _ _ _ us hl => match us, hl with | [_], _ => rfl⟩
/-! law -/
abbrev s_law : Stmt := top 33
abbrev N_law : List Str := ["script", "tape", "machine", "indexes", "swapped", "lines", "s", "k", "place"]
theorem sc_law : FnScope N_law ["script"] (defScope s_law) := ⟨rfl, rfl, rfl, by decide +kernel, rfl, by decide +kernel, by decide +kernel⟩
def g_law (c__law_tape : ZF) (c__law_machine : ZF) (c__law_menu : ZF) (c__law_take : ZF) (c__law_input_rows : ZF) (c_is_machine : ZF) (c__law_bad : ZF) (c__law_numbered : ZF) (c__law_same : ZF) (c__law_run : ZF) (c_run_machine : ZF) (c__law_shortest : ZF) (c_first_fault : ZF) : ZS :=
  (zsSeq (zsAsg (zCall 2 c__law_tape (zaCons (zV 0) (zaCons (zC (.int 0)) zaNil))) (.name 1)) (zsSeq (zsAsg (zCall 4 c__law_machine (zaCons (zV 1) (zaCons (zCall 1 c__law_input_rows (zaCons (zV 1) zaNil)) (zaCons (z2 sEq (zCall 2 c__law_take (zaCons (zV 1) (zaCons (zC (.int 2)) zaNil))) (zC (.int 0))) (zaCons (zCall 1 c__law_menu (zaCons (zV 1) zaNil)) zaNil))))) (.name 2)) (zsSeq (zsIf (tzOr (zBl (z2 sNotB (zCall 1 c_is_machine (zaCons (zV 2) zaNil)) (zC (.bl true)))) (zBl (z2 sNotB (zCall 1 c_is_machine (zaCons (zCall 2 c__law_bad (zaCons (zV 1) (zaCons (zV 2) zaNil))) zaNil)) (zC (.bl false))))) (zsRet (zC (.bl false))) zsSkip) (zsSeq (zsIf (zBl (z2 sGt (zB sLen (zaCons (z2 sIx (zV 2) (zC (.int 1))) zaNil)) (zC (.int 2)))) (zsSeq (zsAsg (z2 sAdd (zLst (zaCons (zC (.int 0)) zaNil)) (zListDn (zaCons (z2 sSub (zB sLen (zaCons (z2 sIx (zV 2) (zC (.int 1))) zaNil)) (zC (.int 1))) (zaCons (zC (.int 0)) (zaCons (zNeg (zC (.int 1))) zaNil))))) (.name 4)) (zsSeq (zsAsg (zLst zaNil) (.name 5)) (zsSeq (zsFor (ziSeq (zV 4)) (.name 6) (zsDrop (zM isLstB sAppend (zV 5) (zaCons (zB sTuple (zaCons (zLc (ziSeq (z2 sIx (z2 sIx (zV 2) (zC (.int 1))) (zV 6))) (.name 8) ztYes (zIf (zBl (z2 sIsN (zV 8) (zC .non))) (zC .non) (zTup (zaCons (z2 sIx (zV 8) (zC (.int 0))) (zaCons (zM isLstB sIndex (zV 4) (zaCons (z2 sIx (zV 8) (zC (.int 1))) zaNil)) zaNil)))) [8]) zaNil)) zaNil)))) (zsIf (tzAnd (zBl (z2 sNe (zB sTuple (zaCons (zV 5) zaNil)) (z2 sIx (zV 2) (zC (.int 1))))) (zBl (z2 sNe (zCall 1 c_is_machine (zaCons (zTup (zaCons (z2 sIx (zV 2) (zC (.int 0))) (zaCons (zB sTuple (zaCons (zV 5) zaNil)) zaNil))) zaNil)) (z2 sEq (z2 sIx (zCall 2 c__law_numbered (zaCons (z2 sIx (zV 2) (zC (.int 0))) (zaCons (zV 5) zaNil))) (zC (.int 1))) (zB sTuple (zaCons (zV 5) zaNil)))))) (zsRet (zC (.bl false))) zsSkip)))) zsSkip) (zsSeq (zsAsg (zB sTuple (zaCons (zLc (ziRng1 (zaCons (zCall 2 c__law_take (zaCons (zV 1) (zaCons (zC (.int 9)) zaNil))) zaNil)) (.name 7) ztYes (zCall 2 c__law_take (zaCons (zV 1) (zaCons (zB sLen (zaCons (z2 sIx (zV 2) (zC (.int 0))) zaNil)) zaNil))) [7]) zaNil)) (.name 3)) (zsRet (zAnd (zCall 2 c__law_same (zaCons (zCall 2 c_run_machine (zaCons (zV 2) (zaCons (zV 3) zaNil))) (zaCons (zCall 2 c__law_run (zaCons (zV 2) (zaCons (zV 3) zaNil))) zaNil))) (zCall 2 c__law_same (zaCons (zCall 1 c_first_fault (zaCons (zV 2) zaNil)) (zaCons (zCall 1 c__law_shortest (zaCons (zV 2) zaNil)) zaNil))))))))))
def F_law (c__law_tape : ZF) (c__law_machine : ZF) (c__law_menu : ZF) (c__law_take : ZF) (c__law_input_rows : ZF) (c_is_machine : ZF) (c__law_bad : ZF) (c__law_numbered : ZF) (c__law_same : ZF) (c__law_run : ZF) (c_run_machine : ZF) (c__law_shortest : ZF) (c_first_fault : ZF) : ZF := defZ 9 1 (g_law c__law_tape c__law_machine c__law_menu c__law_take c__law_input_rows c_is_machine c__law_bad c__law_numbered c__law_same c__law_run c_run_machine c__law_shortest c_first_fault)
theorem fn_law [Tabs] {P : Program} {w : World} {K : PySem.W.Frag} {mg : Str → Option Value} {base : Heap} {f : Addr} {fd : FuncData} {k : Nat} (B : Blt mg) (F : Fun K "law" "law" s_law f fd) {c__law_tape : ZF} (C__law_tape : Cal P w K mg base k "_law_tape" 2 c__law_tape) {c__law_machine : ZF} (C__law_machine : Cal P w K mg base k "_law_machine" 4 c__law_machine) {c__law_menu : ZF} (C__law_menu : Cal P w K mg base k "_law_menu" 1 c__law_menu) {c__law_take : ZF} (C__law_take : Cal P w K mg base k "_law_take" 2 c__law_take) {c__law_input_rows : ZF} (C__law_input_rows : Cal P w K mg base k "_law_input_rows" 1 c__law_input_rows) {c_is_machine : ZF} (C_is_machine : Cal P w K mg base k "is_machine" 1 c_is_machine) {c__law_bad : ZF} (C__law_bad : Cal P w K mg base k "_law_bad" 2 c__law_bad) {c__law_numbered : ZF} (C__law_numbered : Cal P w K mg base k "_law_numbered" 2 c__law_numbered) {c__law_same : ZF} (C__law_same : Cal P w K mg base k "_law_same" 2 c__law_same) {c__law_run : ZF} (C__law_run : Cal P w K mg base k "_law_run" 2 c__law_run) {c_run_machine : ZF} (C_run_machine : Cal P w K mg base k "run_machine" 2 c_run_machine) {c__law_shortest : ZF} (C__law_shortest : Cal P w K mg base k "_law_shortest" 1 c__law_shortest) {c_first_fault : ZF} (C_first_fault : Cal P w K mg base k "first_fault" 1 c_first_fault) : FnOk P w K mg base CX0 (k + 1) f fd ["script"] (spZ ⟨K, P, w, Tabs.T⟩ 1 (F_law c__law_tape c__law_machine c__law_menu c__law_take c__law_input_rows c_is_machine c__law_bad c__law_numbered c__law_same c__law_run c_run_machine c__law_shortest c_first_fault)) :=
  z_def F sc_law (g_law c__law_tape c__law_machine c__law_menu c__law_take c__law_input_rows c_is_machine c__law_bad c__law_numbered c__law_same c__law_run c_run_machine c__law_shortest c_first_fault) (fun cdv A outer s H E hr =>
    (zs_cons (zs_set (i := 1) sc_law.nd rfl (by first | exact Or.inl rfl | exact Or.inr rfl) (z_cal C__law_tape hr rfl (za_cons (zv 0) (za_cons z_int za_nil)))) (zs_cons (zs_set (i := 2) sc_law.nd rfl (by first | exact Or.inl rfl | exact Or.inr rfl) (z_cal C__law_machine hr rfl (za_cons (zv 1) (za_cons (z_cal C__law_input_rows hr rfl (za_cons (zv 1) za_nil)) (za_cons (z_cmp (op_eqD hr.units) ok_eq (z_cal C__law_take hr rfl (za_cons (zv 1) (za_cons z_int za_nil))) z_int (nomark _)) (za_cons (z_cal C__law_menu hr rfl (za_cons (zv 1) za_nil)) za_nil)))))) (zs_cons (zs_if (zw (zw_or (zt_cmp op_notBl ok_notB (z_cal C_is_machine hr rfl (za_cons (zv 2) za_nil)) z_bl (nomark _)) (zw_or1 (zt_cmp op_notBl ok_notB (z_cal C_is_machine hr rfl (za_cons (z_cal C__law_bad hr rfl (za_cons (zv 1) (za_cons (zv 2) za_nil))) za_nil)) z_bl (nomark _))))) (zs_one (zs_ret z_bl)) zs_nil) (zs_cons (zs_if (zt_cmp op_gt ok_gt (z_bi call_len ok_len rfl B.len bt_len (za_cons (z_ix ix_U ok_ix (zv 2) z_int (fun _ _ => rfl)) za_nil)) z_int (nomark _)) (zs_cons (zs_set (i := 4) sc_law.nd rfl (by first | exact Or.inl rfl | exact Or.inr rfl) (z_op op_addU ok_addU (z_lst (za_cons z_int za_nil)) (z_listDn rfl rfl B.list rfl B.range (za_cons (z_op op_sub ok_sub (z_bi call_len ok_len rfl B.len bt_len (za_cons (z_ix ix_U ok_ix (zv 2) z_int (fun _ _ => rfl)) za_nil)) z_int) (za_cons z_int (za_cons (z_neg z_int) za_nil)))))) (zs_cons (zs_set (i := 5) sc_law.nd rfl (by first | exact Or.inl rfl | exact Or.inr rfl) (z_lst za_nil)) (zs_cons (zs_for PySem.PassesOwn.never rfl (zi_seq (zv 4)) (pg_name (i := 6) sc_law.nd rfl (by first | exact Or.inl rfl | exact Or.inr rfl)) (zs_one (zs_expr (z_m PySem.F.plainAttrs_list PySem.F.slot_list_append PySem.F.type_list_append mt_append ok_append (zv 5) (za_cons (z_ty call_tupleN ok_tuple rfl B.tuple bt_tuple (za_cons (z_lc [("place", 8)] (by decide) rfl sc_law.nd (zi_seq (z_ix ix_U ok_ix (z_ix ix_U ok_ix (zv 2) z_int (fun _ _ => rfl)) (zv 6) (fun _ _ => rfl))) (blkOk_by (N := N_law) (sc := defScope s_law) (own := [("place", 8)]) (by decide +kernel)) (fun _ _ _ _ _ => (pg_name (i := 8) sc_law.nd rfl (by first | exact Or.inl rfl | exact Or.inr rfl))) (fun _ _ _ _ _ => zts_nil) (fun _ _ _ _ _ => (z_ifExp (zt_cmp op_isN ok_isN (zv 8) z_non (nomark _)) z_non (z_tup (za_cons (z_ix ix_U ok_ix (zv 8) z_int (fun _ _ => rfl)) (za_cons (z_m PySem.F.plainAttrs_list PySem.F.slot_list_index PySem.F.type_list_index mt_index ok_index (zv 4) (za_cons (z_ix ix_U ok_ix (zv 8) z_int (fun _ _ => rfl)) za_nil)) za_nil)))))) za_nil)) za_nil))))) (zs_one (zs_if (zw (zw_and (zt_cmp (op_neD hr.units) ok_ne (z_ty call_tupleN ok_tuple rfl B.tuple bt_tuple (za_cons (zv 5) za_nil)) (z_ix ix_U ok_ix (zv 2) z_int (fun _ _ => rfl)) (nomark _)) (zw_and1 (zt_cmp (op_neD hr.units) ok_ne (z_cal C_is_machine hr rfl (za_cons (z_tup (za_cons (z_ix ix_U ok_ix (zv 2) z_int (fun _ _ => rfl)) (za_cons (z_ty call_tupleN ok_tuple rfl B.tuple bt_tuple (za_cons (zv 5) za_nil)) za_nil))) za_nil)) (z_cmp (op_eqD hr.units) ok_eq (z_ix ix_U ok_ix (z_cal C__law_numbered hr rfl (za_cons (z_ix ix_U ok_ix (zv 2) z_int (fun _ _ => rfl)) (za_cons (zv 5) za_nil))) z_int (fun _ _ => rfl)) (z_ty call_tupleN ok_tuple rfl B.tuple bt_tuple (za_cons (zv 5) za_nil)) (nomark _)) (nomark _))))) (zs_one (zs_ret z_bl)) zs_nil))))) zs_nil) (zs_cons (zs_set (i := 3) sc_law.nd rfl (by first | exact Or.inl rfl | exact Or.inr rfl) (z_ty call_tupleN ok_tuple rfl B.tuple bt_tuple (za_cons (z_lc [("k", 7)] (by decide) rfl sc_law.nd (zi_rng1 rfl B.range (za_cons (z_cal C__law_take hr rfl (za_cons (zv 1) (za_cons z_int za_nil))) za_nil)) (blkOk_by (N := N_law) (sc := defScope s_law) (own := [("k", 7)]) (by decide +kernel)) (fun _ _ _ _ _ => (pg_name (i := 7) sc_law.nd rfl (by first | exact Or.inl rfl | exact Or.inr rfl))) (fun _ _ _ _ _ => zts_nil) (fun _ _ _ _ _ => (z_cal C__law_take hr rfl (za_cons (zv 1) (za_cons (z_bi call_len ok_len rfl B.len bt_len (za_cons (z_ix ix_U ok_ix (zv 2) z_int (fun _ _ => rfl)) za_nil)) za_nil))))) za_nil))) (zs_one (zs_ret (z_and (z_cal C__law_same hr rfl (za_cons (z_cal C_run_machine hr rfl (za_cons (zv 2) (za_cons (zv 3) za_nil))) (za_cons (z_cal C__law_run hr rfl (za_cons (zv 2) (za_cons (zv 3) za_nil))) za_nil))) (z_one (z_cal C__law_same hr rfl (za_cons (z_cal C_first_fault hr rfl (za_cons (zv 2) za_nil)) (za_cons (z_cal C__law_shortest hr rfl (za_cons (zv 2) za_nil)) za_nil)))))))))))))
theorem ok_law [Tabs] {P : Program} {w : World} {K : PySem.W.Frag} {mg : Str → Option Value} {base : Heap} {f : Addr} {fd : FuncData} {k : Nat} (B : Blt mg) (F : Fun K "law" "law" s_law f fd) (m : mg "law" = some (.ref f)) {c__law_tape : ZF} (C__law_tape : Cal P w K mg base k "_law_tape" 2 c__law_tape) {c__law_machine : ZF} (C__law_machine : Cal P w K mg base k "_law_machine" 4 c__law_machine) {c__law_menu : ZF} (C__law_menu : Cal P w K mg base k "_law_menu" 1 c__law_menu) {c__law_take : ZF} (C__law_take : Cal P w K mg base k "_law_take" 2 c__law_take) {c__law_input_rows : ZF} (C__law_input_rows : Cal P w K mg base k "_law_input_rows" 1 c__law_input_rows) {c_is_machine : ZF} (C_is_machine : Cal P w K mg base k "is_machine" 1 c_is_machine) {c__law_bad : ZF} (C__law_bad : Cal P w K mg base k "_law_bad" 2 c__law_bad) {c__law_numbered : ZF} (C__law_numbered : Cal P w K mg base k "_law_numbered" 2 c__law_numbered) {c__law_same : ZF} (C__law_same : Cal P w K mg base k "_law_same" 2 c__law_same) {c__law_run : ZF} (C__law_run : Cal P w K mg base k "_law_run" 2 c__law_run) {c_run_machine : ZF} (C_run_machine : Cal P w K mg base k "run_machine" 2 c_run_machine) {c__law_shortest : ZF} (C__law_shortest : Cal P w K mg base k "_law_shortest" 1 c__law_shortest) {c_first_fault : ZF} (C_first_fault : Cal P w K mg base k "first_fault" 1 c_first_fault) : Cal P w K mg base (k + 1) "law" 1 (F_law c__law_tape c__law_machine c__law_menu c__law_take c__law_input_rows c_is_machine c__law_bad c__law_numbered c__law_same c__law_run c_run_machine c__law_shortest c_first_fault) :=
  ⟨f, fd, ["script"], z_def F sc_law (g_law c__law_tape c__law_machine c__law_menu c__law_take c__law_input_rows c_is_machine c__law_bad c__law_numbered c__law_same c__law_run c_run_machine c__law_shortest c_first_fault) (fun cdv A outer s H E hr =>
    (zs_cons (zs_set (i := 1) sc_law.nd rfl (by first | exact Or.inl rfl | exact Or.inr rfl) (z_cal C__law_tape hr rfl (za_cons (zv 0) (za_cons z_int za_nil)))) (zs_cons (zs_set (i := 2) sc_law.nd rfl (by first | exact Or.inl rfl | exact Or.inr rfl) (z_cal C__law_machine hr rfl (za_cons (zv 1) (za_cons (z_cal C__law_input_rows hr rfl (za_cons (zv 1) za_nil)) (za_cons (z_cmp (op_eqD hr.units) ok_eq (z_cal C__law_take hr rfl (za_cons (zv 1) (za_cons z_int za_nil))) z_int (nomark _)) (za_cons (z_cal C__law_menu hr rfl (za_cons (zv 1) za_nil)) za_nil)))))) (zs_cons (zs_if (zw (zw_or (zt_cmp op_notBl ok_notB (z_cal C_is_machine hr rfl (za_cons (zv 2) za_nil)) z_bl (nomark _)) (zw_or1 (zt_cmp op_notBl ok_notB (z_cal C_is_machine hr rfl (za_cons (z_cal C__law_bad hr rfl (za_cons (zv 1) (za_cons (zv 2) za_nil))) za_nil)) z_bl (nomark _))))) (zs_one (zs_ret z_bl)) zs_nil) (zs_cons (zs_if (zt_cmp op_gt ok_gt (z_bi call_len ok_len rfl B.len bt_len (za_cons (z_ix ix_U ok_ix (zv 2) z_int (fun _ _ => rfl)) za_nil)) z_int (nomark _)) (zs_cons (zs_set (i := 4) sc_law.nd rfl (by first | exact Or.inl rfl | exact Or.inr rfl) (z_op op_addU ok_addU (z_lst (za_cons z_int za_nil)) (z_listDn rfl rfl B.list rfl B.range (za_cons (z_op op_sub ok_sub (z_bi call_len ok_len rfl B.len bt_len (za_cons (z_ix ix_U ok_ix (zv 2) z_int (fun _ _ => rfl)) za_nil)) z_int) (za_cons z_int (za_cons (z_neg z_int) za_nil)))))) (zs_cons (zs_set (i := 5) sc_law.nd rfl (by first | exact Or.inl rfl | exact Or.inr rfl) (z_lst za_nil)) (zs_cons (zs_for PySem.PassesOwn.never rfl (zi_seq (zv 4)) (pg_name (i := 6) sc_law.nd rfl (by first | exact Or.inl rfl | exact Or.inr rfl)) (zs_one (zs_expr (z_m PySem.F.plainAttrs_list PySem.F.slot_list_append PySem.F.type_list_append mt_append ok_append (zv 5) (za_cons (z_ty call_tupleN ok_tuple rfl B.tuple bt_tuple (za_cons (z_lc [("place", 8)] (by decide) rfl sc_law.nd (zi_seq (z_ix ix_U ok_ix (z_ix ix_U ok_ix (zv 2) z_int (fun _ _ => rfl)) (zv 6) (fun _ _ => rfl))) (blkOk_by (N := N_law) (sc := defScope s_law) (own := [("place", 8)]) (by decide +kernel)) (fun _ _ _ _ _ => (pg_name (i := 8) sc_law.nd rfl (by first | exact Or.inl rfl | exact Or.inr rfl))) (fun _ _ _ _ _ => zts_nil) (fun _ _ _ _ _ => (z_ifExp (zt_cmp op_isN ok_isN (zv 8) z_non (nomark _)) z_non (z_tup (za_cons (z_ix ix_U ok_ix (zv 8) z_int (fun _ _ => rfl)) (za_cons (z_m PySem.F.plainAttrs_list PySem.F.slot_list_index PySem.F.type_list_index mt_index ok_index (zv 4) (za_cons (z_ix ix_U ok_ix (zv 8) z_int (fun _ _ => rfl)) za_nil)) za_nil)))))) za_nil)) za_nil))))) (zs_one (zs_if (zw (zw_and (zt_cmp (op_neD hr.units) ok_ne (z_ty call_tupleN ok_tuple rfl B.tuple bt_tuple (za_cons (zv 5) za_nil)) (z_ix ix_U ok_ix (zv 2) z_int (fun _ _ => rfl)) (nomark _)) (zw_and1 (zt_cmp (op_neD hr.units) ok_ne (z_cal C_is_machine hr rfl (za_cons (z_tup (za_cons (z_ix ix_U ok_ix (zv 2) z_int (fun _ _ => rfl)) (za_cons (z_ty call_tupleN ok_tuple rfl B.tuple bt_tuple (za_cons (zv 5) za_nil)) za_nil))) za_nil)) (z_cmp (op_eqD hr.units) ok_eq (z_ix ix_U ok_ix (z_cal C__law_numbered hr rfl (za_cons (z_ix ix_U ok_ix (zv 2) z_int (fun _ _ => rfl)) (za_cons (zv 5) za_nil))) z_int (fun _ _ => rfl)) (z_ty call_tupleN ok_tuple rfl B.tuple bt_tuple (za_cons (zv 5) za_nil)) (nomark _)) (nomark _))))) (zs_one (zs_ret z_bl)) zs_nil))))) zs_nil) (zs_cons (zs_set (i := 3) sc_law.nd rfl (by first | exact Or.inl rfl | exact Or.inr rfl) (z_ty call_tupleN ok_tuple rfl B.tuple bt_tuple (za_cons (z_lc [("k", 7)] (by decide) rfl sc_law.nd (zi_rng1 rfl B.range (za_cons (z_cal C__law_take hr rfl (za_cons (zv 1) (za_cons z_int za_nil))) za_nil)) (blkOk_by (N := N_law) (sc := defScope s_law) (own := [("k", 7)]) (by decide +kernel)) (fun _ _ _ _ _ => (pg_name (i := 7) sc_law.nd rfl (by first | exact Or.inl rfl | exact Or.inr rfl))) (fun _ _ _ _ _ => zts_nil) (fun _ _ _ _ _ => (z_cal C__law_take hr rfl (za_cons (zv 1) (za_cons (z_bi call_len ok_len rfl B.len bt_len (za_cons (z_ix ix_U ok_ix (zv 2) z_int (fun _ _ => rfl)) za_nil)) za_nil))))) za_nil))) (zs_one (zs_ret (z_and (z_cal C__law_same hr rfl (za_cons (z_cal C_run_machine hr rfl (za_cons (zv 2) (za_cons (zv 3) za_nil))) (za_cons (z_cal C__law_run hr rfl (za_cons (zv 2) (za_cons (zv 3) za_nil))) za_nil))) (z_one (z_cal C__law_same hr rfl (za_cons (z_cal C_first_fault hr rfl (za_cons (zv 2) za_nil)) (za_cons (z_cal C__law_shortest hr rfl (za_cons (zv 2) za_nil)) za_nil))))))))))))), m, F.kp, F.binds fun _ _ _ _ _ _ us hl => match us, hl with | [_], _ => rfl⟩
end
end Z
set_option Elab.async false
set_option linter.all false
set_option maxRecDepth 100000
set_option maxHeartbeats 8000000
namespace Z
open PySem L2
noncomputable section
/-! the functions, one over the other -/
def X__law_tape : ZF := F__law_tape
def X__law_mix : ZF := F__law_mix
def X__law_take : ZF := F__law_take X__law_mix
def X__law_numbered : ZF := F__law_numbered
def X__law_machine : ZF := F__law_machine X__law_take X__law_numbered
def X__law_menu : ZF := F__law_menu X__law_take
def X__law_input_rows : ZF := F__law_input_rows X__law_take
def X_is_tuple : ZF := F_is_tuple
def X__are_tuples : ZF := F__are_tuples
def X_are_different : ZF := F_are_different
def X_marked : ZF := F_marked
def X_key_of : ZF := F_key_of X_marked
def X_is_whole : ZF := F_is_whole
def X__is_entry : ZF := F__is_entry X_is_tuple X_is_whole
def X__are_numbered : ZF := F__are_numbered
def X_is_machine : ZF := F_is_machine X_is_tuple X__are_tuples X_are_different X_key_of X__is_entry X__are_numbered
def X__law_bad : ZF := F__law_bad X__law_take
def Xr__law_same : Nat → ZF
  | 0 => fun _ _ => none
  | d + 1 => F__law_same (Xr__law_same d)
def X__law_same : ZF := Xr__law_same 5
def X__law_run : ZF := F__law_run
def X_run_machine : ZF := F_run_machine
def X__law_shortest : ZF := F__law_shortest
def X_Walk___init__ (C_Walk : Addr) : ZF := F_Walk___init__ C_Walk
def X_Walk_is_over (C_Walk : Addr) : ZF := F_Walk_is_over C_Walk
def X_Walk_take (C_Walk : Addr) : ZF := F_Walk_take C_Walk
def X_Walk_way_to (C_Walk : Addr) : ZF := F_Walk_way_to C_Walk
def X_Walk_come_to (C_Walk : Addr) : ZF := F_Walk_come_to C_Walk
def X_first_way_out (C_Walk : Addr) : ZF := F_first_way_out C_Walk (X_Walk___init__ C_Walk) (X_Walk_is_over C_Walk) (X_Walk_take C_Walk) (X_Walk_way_to C_Walk) (X_Walk_come_to C_Walk)
def X_first_fault (C_Walk : Addr) : ZF := F_first_fault (X_first_way_out C_Walk)
def X_law (C_Walk : Addr) : ZF := F_law X__law_tape X__law_machine X__law_menu X__law_take X__law_input_rows X_is_machine X__law_bad X__law_numbered X__law_same X__law_run X_run_machine X__law_shortest (X_first_fault C_Walk)
/-- what the top has left -/
structure Facts (K : PySem.W.Frag) (mg : Str → Option Value) (C_Walk : Addr) : Prop where
  B : Blt mg
  f__law_tape : ∃ (f : Addr) (fd : FuncData), Fun K "_law_tape" "_law_tape" s__law_tape f fd ∧ mg "_law_tape" = some (.ref f)
  f__law_mix : ∃ (f : Addr) (fd : FuncData), Fun K "_law_mix" "_law_mix" s__law_mix f fd ∧ mg "_law_mix" = some (.ref f)
  f__law_take : ∃ (f : Addr) (fd : FuncData), Fun K "_law_take" "_law_take" s__law_take f fd ∧ mg "_law_take" = some (.ref f)
  f__law_numbered : ∃ (f : Addr) (fd : FuncData), Fun K "_law_numbered" "_law_numbered" s__law_numbered f fd ∧ mg "_law_numbered" = some (.ref f)
  f__law_machine : ∃ (f : Addr) (fd : FuncData), Fun K "_law_machine" "_law_machine" s__law_machine f fd ∧ mg "_law_machine" = some (.ref f)
  f__law_menu : ∃ (f : Addr) (fd : FuncData), Fun K "_law_menu" "_law_menu" s__law_menu f fd ∧ mg "_law_menu" = some (.ref f)
  f__law_input_rows : ∃ (f : Addr) (fd : FuncData), Fun K "_law_input_rows" "_law_input_rows" s__law_input_rows f fd ∧ mg "_law_input_rows" = some (.ref f)
  f_is_tuple : ∃ (f : Addr) (fd : FuncData), Fun K "is_tuple" "is_tuple" s_is_tuple f fd ∧ mg "is_tuple" = some (.ref f)
  f__are_tuples : ∃ (f : Addr) (fd : FuncData) (c P0 : Addr), Fun K "_are_tuples" "_are_tuples" s__are_tuples f fd ∧ mg "_are_tuples" = some (.ref f) ∧ fd.code = .ref c ∧ PySem.W.tabIn K "_are_tuples" = some (c, P0) ∧ K.lookup P0 = none
  f_are_different : ∃ (f : Addr) (fd : FuncData), Fun K "are_different" "are_different" s_are_different f fd ∧ mg "are_different" = some (.ref f)
  f_marked : ∃ (f : Addr) (fd : FuncData), Fun K "marked" "marked" s_marked f fd ∧ mg "marked" = some (.ref f)
  f_key_of : ∃ (f : Addr) (fd : FuncData), Fun K "key_of" "key_of" s_key_of f fd ∧ mg "key_of" = some (.ref f)
  f_is_whole : ∃ (f : Addr) (fd : FuncData), Fun K "is_whole" "is_whole" s_is_whole f fd ∧ mg "is_whole" = some (.ref f)
  f__is_entry : ∃ (f : Addr) (fd : FuncData), Fun K "_is_entry" "_is_entry" s__is_entry f fd ∧ mg "_is_entry" = some (.ref f)
  f__are_numbered : ∃ (f : Addr) (fd : FuncData), Fun K "_are_numbered" "_are_numbered" s__are_numbered f fd ∧ mg "_are_numbered" = some (.ref f)
  f_is_machine : ∃ (f : Addr) (fd : FuncData) (c P0 : Addr), Fun K "is_machine" "is_machine" s_is_machine f fd ∧ mg "is_machine" = some (.ref f) ∧ fd.code = .ref c ∧ PySem.W.tabIn K "is_machine" = some (c, P0) ∧ K.lookup P0 = none
  f__law_bad : ∃ (f : Addr) (fd : FuncData), Fun K "_law_bad" "_law_bad" s__law_bad f fd ∧ mg "_law_bad" = some (.ref f)
  f__law_same : ∃ (f : Addr) (fd : FuncData), Fun K "_law_same" "_law_same" s__law_same f fd ∧ mg "_law_same" = some (.ref f)
  f__law_run : ∃ (f : Addr) (fd : FuncData), Fun K "_law_run" "_law_run" s__law_run f fd ∧ mg "_law_run" = some (.ref f)
  f_run_machine : ∃ (f : Addr) (fd : FuncData), Fun K "run_machine" "run_machine" s_run_machine f fd ∧ mg "run_machine" = some (.ref f)
  f__law_shortest : ∃ (f : Addr) (fd : FuncData), Fun K "_law_shortest" "_law_shortest" s__law_shortest f fd ∧ mg "_law_shortest" = some (.ref f)
  f_first_way_out : ∃ (f : Addr) (fd : FuncData), Fun K "first_way_out" "first_way_out" s_first_way_out f fd ∧ mg "first_way_out" = some (.ref f)
  f_first_fault : ∃ (f : Addr) (fd : FuncData), Fun K "first_fault" "first_fault" s_first_fault f fd ∧ mg "first_fault" = some (.ref f)
  f_law : ∃ (f : Addr) (fd : FuncData), Fun K "law" "law" s_law f fd ∧ mg "law" = some (.ref f)
  f_Walk___init__ : ∃ (f : Addr) (fd : FuncData), Fun K "__init__" "Walk.__init__" s_Walk___init__ f fd ∧ Mk K C_Walk f ∧ mg "Walk" = some (.ref C_Walk)
  f_Walk_is_over : ∃ (f : Addr) (fd : FuncData), Fun K "is_over" "Walk.is_over" s_Walk_is_over f fd ∧ Meth K C_Walk "is_over" f
  f_Walk_take : ∃ (f : Addr) (fd : FuncData), Fun K "take" "Walk.take" s_Walk_take f fd ∧ Meth K C_Walk "take" f
  f_Walk_way_to : ∃ (f : Addr) (fd : FuncData), Fun K "way_to" "Walk.way_to" s_Walk_way_to f fd ∧ Meth K C_Walk "way_to" f
  f_Walk_come_to : ∃ (f : Addr) (fd : FuncData), Fun K "come_to" "Walk.come_to" s_Walk_come_to f fd ∧ Meth K C_Walk "come_to" f
  k_Walk : ClsZ K C_Walk ["queue", "steps", "at"]
theorem law_at {P : Program} {w : World} {K : PySem.W.Frag} {mg : Str → Option Value} {C_Walk : Addr} (T : Facts K mg C_Walk) : ∃ (f : Addr) (fd : FuncData) (cs : List (Addr × Addr)), Fun K "law" "law" s_law f fd ∧ mg "law" = some (.ref f) ∧ (∀ p ∈ cs, ∃ x, x ∈ [("_are_tuples" : Str), ("is_machine" : Str)] ∧ PySem.W.tabIn K x = some p ∧ K.lookup p.2 = none) ∧
    ∀ base : Heap, (∀ p ∈ cs, GxR.TabB base mg p.1 p.2) → FnOk P w K mg base CX0 7 f fd ["script"] (spZ ⟨K, P, w, cs.map (·.2)⟩ 1 (X_law C_Walk)) := by
  obtain ⟨f__law_tape, d__law_tape, F__law_tape, m__law_tape⟩ := T.f__law_tape
  obtain ⟨f__law_mix, d__law_mix, F__law_mix, m__law_mix⟩ := T.f__law_mix
  obtain ⟨f__law_take, d__law_take, F__law_take, m__law_take⟩ := T.f__law_take
  obtain ⟨f__law_numbered, d__law_numbered, F__law_numbered, m__law_numbered⟩ := T.f__law_numbered
  obtain ⟨f__law_machine, d__law_machine, F__law_machine, m__law_machine⟩ := T.f__law_machine
  obtain ⟨f__law_menu, d__law_menu, F__law_menu, m__law_menu⟩ := T.f__law_menu
  obtain ⟨f__law_input_rows, d__law_input_rows, F__law_input_rows, m__law_input_rows⟩ := T.f__law_input_rows
  obtain ⟨f_is_tuple, d_is_tuple, F_is_tuple, m_is_tuple⟩ := T.f_is_tuple
  obtain ⟨f__are_tuples, d__are_tuples, c__are_tuples, P__are_tuples, F__are_tuples, m__are_tuples, e__are_tuples, t__are_tuples, l__are_tuples⟩ := T.f__are_tuples
  obtain ⟨f_are_different, d_are_different, F_are_different, m_are_different⟩ := T.f_are_different
  obtain ⟨f_marked, d_marked, F_marked, m_marked⟩ := T.f_marked
  obtain ⟨f_key_of, d_key_of, F_key_of, m_key_of⟩ := T.f_key_of
  obtain ⟨f_is_whole, d_is_whole, F_is_whole, m_is_whole⟩ := T.f_is_whole
  obtain ⟨f__is_entry, d__is_entry, F__is_entry, m__is_entry⟩ := T.f__is_entry
  obtain ⟨f__are_numbered, d__are_numbered, F__are_numbered, m__are_numbered⟩ := T.f__are_numbered
  obtain ⟨f_is_machine, d_is_machine, c_is_machine, P_is_machine, F_is_machine, m_is_machine, e_is_machine, t_is_machine, l_is_machine⟩ := T.f_is_machine
  obtain ⟨f__law_bad, d__law_bad, F__law_bad, m__law_bad⟩ := T.f__law_bad
  obtain ⟨f__law_same, d__law_same, F__law_same, m__law_same⟩ := T.f__law_same
  obtain ⟨f__law_run, d__law_run, F__law_run, m__law_run⟩ := T.f__law_run
  obtain ⟨f_run_machine, d_run_machine, F_run_machine, m_run_machine⟩ := T.f_run_machine
  obtain ⟨f__law_shortest, d__law_shortest, F__law_shortest, m__law_shortest⟩ := T.f__law_shortest
  obtain ⟨f_first_way_out, d_first_way_out, F_first_way_out, m_first_way_out⟩ := T.f_first_way_out
  obtain ⟨f_first_fault, d_first_fault, F_first_fault, m_first_fault⟩ := T.f_first_fault
  obtain ⟨f_law, d_law, F_law, m_law⟩ := T.f_law
  obtain ⟨f_Walk___init__, d_Walk___init__, F_Walk___init__, m_Walk___init__, x_Walk___init__⟩ := T.f_Walk___init__
  obtain ⟨f_Walk_is_over, d_Walk_is_over, F_Walk_is_over, m_Walk_is_over⟩ := T.f_Walk_is_over
  obtain ⟨f_Walk_take, d_Walk_take, F_Walk_take, m_Walk_take⟩ := T.f_Walk_take
  obtain ⟨f_Walk_way_to, d_Walk_way_to, F_Walk_way_to, m_Walk_way_to⟩ := T.f_Walk_way_to
  obtain ⟨f_Walk_come_to, d_Walk_come_to, F_Walk_come_to, m_Walk_come_to⟩ := T.f_Walk_come_to
  refine ⟨f_law, d_law, [(c__are_tuples, P__are_tuples), (c_is_machine, P_is_machine)], F_law, m_law, ?_, fun base TB => ?_⟩
  · intro p hp
    simp only [List.mem_cons, List.not_mem_nil, or_false] at hp
    rcases hp with rfl | rfl
    · exact ⟨"_are_tuples", by simp, t__are_tuples, l__are_tuples⟩
    · exact ⟨"is_machine", by simp, t_is_machine, l_is_machine⟩
  letI : Tabs := ⟨[(c__are_tuples, P__are_tuples), (c_is_machine, P_is_machine)].map (·.2)⟩
  have A__law_tape : Cal P w K mg base 1 "_law_tape" 2 (X__law_tape) := ok__law_tape (k := 0) T.B F__law_tape m__law_tape
  have A__law_mix : Cal P w K mg base 1 "_law_mix" 1 (X__law_mix) := ok__law_mix (k := 0) T.B F__law_mix m__law_mix
  have A__law_take : Cal P w K mg base 2 "_law_take" 2 (X__law_take) := ok__law_take (k := 1) T.B F__law_take m__law_take (A__law_mix.mono (by decide))
  have A__law_numbered : Cal P w K mg base 1 "_law_numbered" 2 (X__law_numbered) := ok__law_numbered (k := 0) T.B F__law_numbered m__law_numbered
  have A__law_machine : Cal P w K mg base 3 "_law_machine" 4 (X__law_machine) := ok__law_machine (k := 2) T.B F__law_machine m__law_machine (A__law_take.mono (by decide)) (A__law_numbered.mono (by decide))
  have A__law_menu : Cal P w K mg base 3 "_law_menu" 1 (X__law_menu) := ok__law_menu (k := 2) T.B F__law_menu m__law_menu (A__law_take.mono (by decide))
  have A__law_input_rows : Cal P w K mg base 3 "_law_input_rows" 1 (X__law_input_rows) := ok__law_input_rows (k := 2) T.B F__law_input_rows m__law_input_rows (A__law_take.mono (by decide))
  have A_is_tuple : Cal P w K mg base 1 "is_tuple" 3 (X_is_tuple) := ok_is_tuple (k := 0) T.B F_is_tuple m_is_tuple
  have A__are_tuples : Cal P w K mg base 2 "_are_tuples" 1 (X__are_tuples) := ok__are_tuples (k := 0) T.B F__are_tuples m__are_tuples (by show P__are_tuples ∈ [(c__are_tuples, P__are_tuples), (c_is_machine, P_is_machine)].map (·.2); simp) (TB (c__are_tuples, P__are_tuples) (by simp)) e__are_tuples
  have A_are_different : Cal P w K mg base 1 "are_different" 1 (X_are_different) := ok_are_different (k := 0) T.B F_are_different m_are_different
  have A_marked : Cal P w K mg base 1 "marked" 1 (X_marked) := ok_marked (k := 0) T.B F_marked m_marked
  have A_key_of : Cal P w K mg base 2 "key_of" 1 (X_key_of) := ok_key_of (k := 1) T.B F_key_of m_key_of (A_marked.mono (by decide))
  have A_is_whole : Cal P w K mg base 1 "is_whole" 3 (X_is_whole) := ok_is_whole (k := 0) T.B F_is_whole m_is_whole
  have A__is_entry : Cal P w K mg base 2 "_is_entry" 2 (X__is_entry) := ok__is_entry (k := 1) T.B F__is_entry m__is_entry (A_is_tuple.mono (by decide)) (A_is_whole.mono (by decide))
  have A__are_numbered : Cal P w K mg base 1 "_are_numbered" 1 (X__are_numbered) := ok__are_numbered (k := 0) T.B F__are_numbered m__are_numbered
  have A_is_machine : Cal P w K mg base 4 "is_machine" 1 (X_is_machine) := ok_is_machine (k := 2) T.B F_is_machine m_is_machine (by show P_is_machine ∈ [(c__are_tuples, P__are_tuples), (c_is_machine, P_is_machine)].map (·.2); simp) (TB (c_is_machine, P_is_machine) (by simp)) e_is_machine (A_is_tuple.mono (by decide)) (A__are_tuples.mono (by decide)) (A_are_different.mono (by decide)) (A_key_of.mono (by decide)) (A__is_entry.mono (by decide)) (A__are_numbered.mono (by decide))
  have A__law_bad : Cal P w K mg base 3 "_law_bad" 2 (X__law_bad) := ok__law_bad (k := 2) T.B F__law_bad m__law_bad (A__law_take.mono (by decide))
  have R__law_same : ∀ d, d ≤ 5 → Cal P w K mg base (d + 1) "_law_same" 2 (Xr__law_same d) := fun d => by
    induction d with
    | zero => exact fun _ => cal_none F__law_same sc__law_same m__law_same (F__law_same.binds fun _ _ _ _ _ _ us hl => match us, hl with | [_, _], _ => rfl)
    | succ d ih => exact fun h => ok__law_same (k := d + 1) T.B F__law_same m__law_same (ih (Nat.le_of_succ_le h))
  have A__law_same : Cal P w K mg base 6 "_law_same" 2 (X__law_same) := (R__law_same 5 (Nat.le_refl _)).mono (by decide)
  have A__law_run : Cal P w K mg base 1 "_law_run" 2 (X__law_run) := ok__law_run (k := 0) T.B F__law_run m__law_run
  have A_run_machine : Cal P w K mg base 1 "run_machine" 2 (X_run_machine) := ok_run_machine (k := 0) T.B F_run_machine m_run_machine
  have A__law_shortest : Cal P w K mg base 1 "_law_shortest" 1 (X__law_shortest) := ok__law_shortest (k := 0) T.B F__law_shortest m__law_shortest
  have A_Walk___init__ : MkZ P w K mg base 1 "Walk" C_Walk 2 (X_Walk___init__ C_Walk) := ok_Walk___init__ (k := 0) T.B F_Walk___init__ T.k_Walk m_Walk___init__ x_Walk___init__
  have A_Walk_is_over : Mth P w K mg base 1 C_Walk "is_over" 1 (X_Walk_is_over C_Walk) := ok_Walk_is_over (k := 0) T.B F_Walk_is_over T.k_Walk m_Walk_is_over
  have A_Walk_take : Mth P w K mg base 1 C_Walk "take" 1 (X_Walk_take C_Walk) := ok_Walk_take (k := 0) T.B F_Walk_take T.k_Walk m_Walk_take
  have A_Walk_way_to : Mth P w K mg base 1 C_Walk "way_to" 3 (X_Walk_way_to C_Walk) := ok_Walk_way_to (k := 0) T.B F_Walk_way_to T.k_Walk m_Walk_way_to
  have A_Walk_come_to : Mth P w K mg base 1 C_Walk "come_to" 4 (X_Walk_come_to C_Walk) := ok_Walk_come_to (k := 0) T.B F_Walk_come_to T.k_Walk m_Walk_come_to
  have A_first_way_out : Cal P w K mg base 3 "first_way_out" 2 (X_first_way_out C_Walk) := ok_first_way_out (k := 2) T.B F_first_way_out m_first_way_out T.k_Walk A_Walk___init__ (by decide) (A_Walk_is_over.mono (by decide)) (A_Walk_take.mono (by decide)) (A_Walk_way_to.mono (by decide)) (A_Walk_come_to.mono (by decide))
  have A_first_fault : Cal P w K mg base 4 "first_fault" 1 (X_first_fault C_Walk) := ok_first_fault (k := 3) T.B F_first_fault m_first_fault (A_first_way_out.mono (by decide))
  exact fn_law (k := 6) T.B F_law (A__law_tape.mono (by decide)) (A__law_machine.mono (by decide)) (A__law_menu.mono (by decide)) (A__law_take.mono (by decide)) (A__law_input_rows.mono (by decide)) (A_is_machine.mono (by decide)) (A__law_bad.mono (by decide)) (A__law_numbered.mono (by decide)) (A__law_same.mono (by decide)) (A__law_run.mono (by decide)) (A_run_machine.mono (by decide)) (A__law_shortest.mono (by decide)) (A_first_fault.mono (by decide))
end
end Z
set_option Elab.async false
set_option linter.all false
set_option maxRecDepth 100000
set_option maxHeartbeats 4000000
/-! M2: the program's small functions -/
namespace Z
open PySem L2
def isPair (w : W) (a b : Nat) : Bool := match w with
  | .tup ws => decide (a ≤ ws.length) && decide (ws.length ≤ b)
  | _ => false
theorem is_tuple_ok {w : W} {a b : Nat} {A : AH} (h : isDat w = true) : X_is_tuple [w, .int a, .int b] A = some (.bl (isPair w a b), A) := by
  cases w with
  | tup ws =>
    by_cases h1 : a ≤ ws.length <;> by_cases h2 : ws.length ≤ b <;> simp [X_is_tuple, F_is_tuple, g_is_tuple, isPair, h1, h2]
  | _ => first | (cases h; done) | simp [X_is_tuple, F_is_tuple, g_is_tuple, isPair]
/-- an int from low to high -/
def isWhole (w : W) (lo hi : Int) : Bool := match w with
  | .int i => decide (lo ≤ i) && decide (i ≤ hi)
  | _ => false
theorem is_whole_ok {w : W} {lo hi : Int} {A : AH} (h : isDat w = true) : X_is_whole [w, .int lo, .int hi] A = some (.bl (isWhole w lo hi), A) := by
  cases w with
  | int i =>
    by_cases h1 : lo ≤ i <;> by_cases h2 : i ≤ hi <;> simp [X_is_whole, F_is_whole, g_is_whole, isWhole, h1, h2]
  | _ => first | (cases h; done) | simp [X_is_whole, F_is_whole, g_is_whole, isWhole]
def mkW (w : W) : W := .tup [.bl (isBl w), w]
theorem marked_ok {w : W} {A : AH} (h : isDat w = true) : X_marked [w] A = some (mkW w, A) := by
  simp [X_marked, F_marked, g_marked, isi_bool h, mkW]
def entB (w : W) (many : Int) : Bool := match w with
  | .non => true
  | .tup [o, s] => isTup o && isWhole s 0 (many - 1)
  | _ => false
/-- what may stand in a table, its parts data -/
def entD (w : W) : Bool := isDat w && match w with
  | .tup ws => ws.all isDat
  | _ => true
theorem is_entry_ok {w : W} {many : Int} {A : AH} (h : entD w = true) : X__is_entry [w, .int many] A = some (.bl (entB w many), A) := by
  unfold entD at h
  rw [Bool.and_eq_true] at h
  obtain ⟨h1, h2⟩ := h
  have ht : X_is_tuple [w, .int 2, .int 2] A = some (.bl (isPair w 2 2), A) := is_tuple_ok (a := 2) (b := 2) h1
  cases w with
  | non => simp [X__is_entry, F__is_entry, g__is_entry, entB, isNonW]
  | tup ws =>
    match ws, h2, ht with
    | [], _, ht => simp [X__is_entry, F__is_entry, g__is_entry, entB, isNonW, ht, isPair]
    | [a], _, ht => simp [X__is_entry, F__is_entry, g__is_entry, entB, isNonW, ht, isPair]
    | a :: b :: c :: r, _, ht =>
      simp [X__is_entry, F__is_entry, g__is_entry, entB, isNonW, ht, isPair]
    | [o, s], h2, ht =>
      simp only [List.all_cons, List.all_nil, Bool.and_true, Bool.and_eq_true] at h2
      have hw : X_is_whole [s, .int 0, .int (many - 1)] A = some (.bl (isWhole s 0 (many - 1)), A) := is_whole_ok h2.2
      have i0 : atI [o, s] 0 = some o := rfl
      have i1 : atI [o, s] 1 = some s := rfl
      cases ho : isTup o <;> simp [X__is_entry, F__is_entry, g__is_entry, entB, isNonW, ht, isPair, i0, i1, isi_tuple h2.1, hw, ho]
  | _ => first | (cases h1; done) | simp [X__is_entry, F__is_entry, g__is_entry, entB, isNonW, ht, isPair]
end Z
set_option Elab.async false
set_option linter.all false
set_option maxRecDepth 100000
set_option maxHeartbeats 1000000
/-! M3: tuples of tuples, keys, numbering -/
namespace Z
open PySem L2
theorem of_wp {x : Option (W × AH)} {w : W} {A : AH} (h : Wp x fun u A' => u = w ∧ A' = A) : x = some (w, A) := by
  obtain ⟨u, A', e, rfl, rfl⟩ := h
  exact e
theorem to_wp {x : Option (W × AH)} {w : W} {A : AH} {P : W → AH → Prop} (e : x = some (w, A)) (h : P w A) : Wp x P := ⟨w, A, e, h⟩
/-- a tuple of one or more tuples -/
def tupsB (w : W) : Bool := match w with
  | .tup ws => !ws.isEmpty && ws.all isTup
  | _ => false
theorem are_tuples_ok {w : W} {A : AH} (h : entD w = true) : X__are_tuples [w] A = some (.bl (tupsB w), A) := by
  unfold entD at h
  rw [Bool.and_eq_true] at h
  obtain ⟨h1, h2⟩ := h
  have all : ∀ ws : List W, ws.all isDat = true → Wp (zAA false 1 [] (ziSeq (zV 0)) (.name 0) (zB sIsi (zaCons (zV 0) (zaCons (zC (.ty "tuple")) zaNil))) [some (.tup ws), none] A) fun u A' => u = .bl (ws.all isTup) ∧ A' = A := fun ws hd => by
    refine wp_allFix (ws := ws) (A1 := A) (by simp [ziSeq]) 0 isTup rfl (fun E => E.length = 1) rfl (fun E w h => by simpa using h) (fun E w hw hE => ?_) ⟨rfl, rfl⟩
    match E, hE with
    | [x], _ =>
      show zB sIsi _ [some w] A = _
      simp only [ev_B, ev_aCons, ev_V0, ev_C, ev_aNil, Option.bind_some, Option.map_some]
      exact isi_tuple (List.all_eq_true.mp hd w hw)
  refine of_wp ?_
  unfold X__are_tuples F__are_tuples
  refine (wp_def rfl).mpr ?_
  unfold g__are_tuples
  simp only [start1, List.replicate]
  refine wp_ret.mpr (wp_and.mpr ?_)
  refine to_wp (w := .bl (isTup w)) (A := A) (by simp [isi_tuple h1]) ⟨isTup w, rfl, fun ht => ?_, fun ht => ?_⟩
  · cases w with
    | tup ws =>
      refine wp_and.mpr (to_wp (w := .bl (decide (0 < (ws.length : Int)))) (A := A) (by simp [sGt]) ⟨_, rfl, fun hl => ?_, fun hl => ?_⟩)
      · refine Wp.mono (all ws (by simpa using h2)) fun u A' ⟨e1, e2⟩ => ⟨?_, e2⟩
        rw [e1]
        show W.bl (ws.all isTup) = W.bl (!ws.isEmpty && ws.all isTup)
        have : ws.isEmpty = false := by
          cases ws with
          | nil => simp at hl
          | cons a r => rfl
        rw [this]; rfl
      · refine ⟨?_, rfl⟩
        have : ws = [] := by
          cases ws with
          | nil => rfl
          | cons a r => simp at hl
        subst this
        rfl
    | _ => cases ht
  · refine ⟨?_, rfl⟩
    cases w with
    | tup ws => cases ht
    | _ => rfl
/-! keys -/
mutual
def kfW : W → List W
  | .tup ws => .tup [.int ws.length] :: kfWs ws
  | w => [mkW w]
def kfWs : List W → List W
  | [] => []
  | w :: ws => kfWs ws ++ kfW w
end
mutual
def szW : W → Nat
  | .tup ws => szWs ws + 1
  | _ => 1
def szWs : List W → Nat
  | [] => 0
  | w :: ws => szW w + szWs ws
end
mutual
def datW : W → Bool
  | .tup ws => datWs ws
  | w => isDat w
def datWs : List W → Bool
  | [] => true
  | w :: ws => datW w && datWs ws
end
theorem kfWs_append : ∀ a b : List W, kfWs (a ++ b) = kfWs b ++ kfWs a
  | [], b => by simp [kfWs]
  | w :: a, b => by simp [kfWs, kfWs_append a b]
theorem szWs_append : ∀ a b : List W, szWs (a ++ b) = szWs a + szWs b
  | [], b => by simp [szWs]
  | w :: a, b => by simp [szWs, szWs_append a b]; omega
theorem datWs_append : ∀ a b : List W, datWs (a ++ b) = (datWs a && datWs b)
  | [], b => by simp [datWs]
  | w :: a, b => by simp [datWs, datWs_append a b, Bool.and_assoc]
theorem szW_pos : ∀ w : W, 0 < szW w
  | .tup ws => by simp [szW]
  | .non => by simp [szW]
  | .bl _ => by simp [szW]
  | .int _ => by simp [szW]
  | .str _ => by simp [szW]
  | .frl _ => by simp [szW]
  | .loc _ => by simp [szW]
  | .ty _ => by simp [szW]
theorem datW_isDat : ∀ {w : W}, datW w = true → isDat w = true
  | .tup ws, _ => rfl
  | .non, _ => rfl
  | .bl _, _ => rfl
  | .int _, _ => rfl
  | .str _, _ => rfl
  | .frl _, h => by simp [datW, isDat] at h
  | .loc _, h => by simp [datW, isDat] at h
  | .ty _, h => by simp [datW, isDat] at h
mutual
theorem kfW_len : ∀ w : W, (kfW w).length = szW w
  | .tup ws => by simp [kfW, szW, kfWs_len ws]
  | .non => by simp [kfW, szW]
  | .bl _ => by simp [kfW, szW]
  | .int _ => by simp [kfW, szW]
  | .str _ => by simp [kfW, szW]
  | .frl _ => by simp [kfW, szW]
  | .loc _ => by simp [kfW, szW]
  | .ty _ => by simp [kfW, szW]
theorem kfWs_len : ∀ ws : List W, (kfWs ws).length = szWs ws
  | [] => rfl
  | w :: ws => by simp [kfWs, szWs, kfW_len w, kfWs_len ws]; omega
end
/-- everything that was there is there -/
def Pre (A A' : AH) : Prop := ∃ G, A' = A ++ G
theorem Pre.refl {A : AH} : Pre A A := ⟨[], by simp⟩
theorem Pre.trans {A B C : AH} : Pre A B → Pre B C → Pre A C := fun ⟨G, e⟩ ⟨G', e'⟩ => ⟨G ++ G', by rw [e', e, List.append_assoc]⟩
theorem Pre.get {A A' : AH} (h : Pre A A') {i : Nat} {mo : MO} (e : A[i]? = some mo) : A'[i]? = some mo := by
  obtain ⟨G, rfl⟩ := h
  rw [List.getElem?_append_left (List.getElem?_eq_some_iff.mp e).1]
  exact e
theorem Pre.len {A A' : AH} (h : Pre A A') : A.length ≤ A'.length := by obtain ⟨G, rfl⟩ := h; simp
theorem lenle : ∀ ws : List W, ws.length ≤ szWs ws
  | [] => Nat.le_refl _
  | w :: ws => by have := lenle ws; have := szW_pos w; simp only [List.length_cons, szWs]; omega
theorem to_wp' {x : Option (Bool × AH)} {b : Bool} {A : AH} {P : Bool → AH → Prop} (e : x = some (b, A)) (h : P b A) : Wp x P := ⟨b, A, e, h⟩
theorem key_of_ok {w : W} {A : AH} (hd : datW w = true) (hz : szW w ≤ 1000) : ∃ A', Pre A A' ∧ X_key_of [w] A = some (.tup (kfW w), A') := by
  have h : Wp (X_key_of [w] A) fun u A' => u = .tup (kfW w) ∧ Pre A A' := by
    unfold X_key_of F_key_of
    refine (wp_def rfl).mpr ?_
    unfold g_key_of
    simp only [start1, List.replicate]
    refine wp_seq.mpr (wp_asg1.mpr (to_wp (w := .loc A.length) (A := A ++ [.lst []]) (by simp) ?_))
    rw [thenS_nx]
    refine wp_seq.mpr (wp_asg1.mpr (to_wp (w := .loc (A.length + 1)) (A := A ++ [.lst []] ++ [.lst [w]]) (by simp) ?_))
    rw [thenS_nx]
    have big : ∀ n, n ≤ 1000 → n ≤ sizeLine := fun n hn => Nat.le_trans hn (by decide)
    refine wp_seq.mpr (wp_wh (fun E A' => ∃ (x : Option W) (F S : List W), E = [some w, some (.loc A.length), some (.loc (A.length + 1)), x] ∧ A' = A ++ [.lst F] ++ [.lst S] ∧ datWs S = true ∧ F ++ kfWs S = kfW w ∧ F.length + szWs S = szW w)
      (fun E A' => match A'[A.length + 1]? with
        | some (.lst S) => szWs S
        | _ => 0) ⟨none, [], [w], rfl, rfl, by simp [datWs, hd], by simp [kfWs], by simp [szWs]⟩ ?_)
    rintro E A' ⟨x, F, S, rfl, rfl, hS, hk, hlen⟩
    have gF : (A ++ [MO.lst F] ++ [MO.lst S])[A.length]? = some (.lst F) := by simp
    have gS : (A ++ [MO.lst F] ++ [MO.lst S])[A.length + 1]? = some (.lst S) := by simp
    refine to_wp' (b := !S.isEmpty) (A := A ++ [.lst F] ++ [.lst S]) (by simp [truW, gS]) ⟨fun hb => ?_, fun hb => ?_⟩
    · obtain ⟨R, p, rfl⟩ : ∃ R p, S = R ++ [p] := by
        have hne : S ≠ [] := by intro z; subst z; simp at hb
        exact ⟨S.dropLast, S.getLast hne, (List.dropLast_concat_getLast hne).symm⟩
      have hpop : zM isLstB sPop (zV 2) zaNil [some w, some (.loc A.length), some (.loc (A.length + 1)), x] (A ++ [.lst F] ++ [.lst (R ++ [p])]) = some (p, A ++ [.lst F] ++ [.lst R]) := by
        simp [isLstB, sPop, gS]
      rw [datWs_append] at hS
      simp only [datWs, Bool.and_true, Bool.and_eq_true] at hS
      obtain ⟨hR, hp⟩ := hS
      rw [kfWs_append] at hk
      rw [szWs_append] at hlen
      simp only [szWs, kfWs, List.nil_append, Nat.add_zero] at hk hlen
      have pos := szW_pos p
      refine wp_seq.mpr (wp_asg1.mpr (to_wp hpop ?_))
      rw [thenS_nx]
      simp only [List.set_cons_succ, List.set_cons_zero]
      have gF' : (A ++ [MO.lst F] ++ [MO.lst R])[A.length]? = some (.lst F) := by simp
      have gR : (A ++ [MO.lst F] ++ [MO.lst R])[A.length + 1]? = some (.lst R) := by simp
      have setF : ∀ Z : List W, (A ++ [MO.lst F] ++ [MO.lst R]).set A.length (.lst Z) = A ++ [.lst Z] ++ [.lst R] := fun Z => by simp
      have setR : ∀ Y Z : List W, (A ++ [MO.lst Y] ++ [MO.lst R]).set (A.length + 1) (.lst Z) = A ++ [.lst Y] ++ [.lst Z] := fun Y Z => by
        rw [List.set_append_right _ _ (by simp)]
        simp
      have idt : sIsi [p, .ty "tuple"] (A ++ [MO.lst F] ++ [MO.lst R]) = some (.bl (isTup p), A ++ [MO.lst F] ++ [MO.lst R]) := isi_tuple (datW_isDat hp)
      refine wp_sIf.mpr (to_wp' (b := isTup p) (A := A ++ [.lst F] ++ [.lst R]) (by simp only [ev_tru, ev_B, ev_aCons, ev_aNil, ev_V3, ev_V2, ev_V1, ev_V0, ev_C, Option.bind_some, Option.map_some, idt, ev_truB]) ⟨fun ht => ?_, fun ht => ?_⟩)
      · cases p with
        | tup ys =>
          simp only [datW] at hp
          simp only [kfW, szW] at hk hlen
          have l1 : F.length < sizeLine := Nat.lt_of_lt_of_le (show F.length < 1000 by omega) (big 1000 (Nat.le_refl _))
          refine wp_seq.mpr (wp_drop.mpr (to_wp (w := .non) (A := A ++ [.lst (F ++ [.tup [.int ys.length]])] ++ [.lst R]) ?_ ?_))
          · simp only [ev_M, ev_V1, ev_V0, Option.bind_some, isLstB, gF', if_true, ev_aCons, ev_aNil, ev_tup, ev_B, ev_V3, ev_V2, ev_lenT, Option.map_some, List.length_cons, List.length_nil, Nat.zero_add, sz1, sAppend, if_pos l1, setF]
          · rw [thenS_nx]
            have gR' : (A ++ [MO.lst (F ++ [.tup [.int ys.length]])] ++ [MO.lst R])[A.length + 1]? = some (.lst R) := by simp
            have l2 : R.length + ys.length ≤ sizeLine := big _ (by have h1 := kfWs_len R; have h2 := lenle R; have h3 := lenle ys; omega)
            refine wp_drop.mpr (to_wp (w := .non) (A := A ++ [.lst (F ++ [.tup [.int ys.length]])] ++ [.lst (R ++ ys)]) ?_ ?_)
            · simp only [ev_M, ev_V2, ev_V1, ev_V0, Option.bind_some, isLstB, gR', if_true, ev_aCons, ev_aNil, ev_V3, Option.map_some, sExtU, sExtend, sExtT, Option.none_or, l2, setR]
            · refine ⟨⟨some (.tup ys), F ++ [.tup [.int ys.length]], R ++ ys, rfl, rfl, by rw [datWs_append, hR, hp]; rfl, ?_, ?_⟩, ?_⟩
              · rw [kfWs_append, ← hk]
                simp
              · rw [szWs_append, List.length_append]
                simp only [List.length_cons, List.length_nil]
                omega
              · simp [szWs_append, szWs, szW, gS]
        | _ => cases ht
      · have hp1 : kfW p = [mkW p] := by
          cases p with
          | tup ys => cases ht
          | _ => simp [kfW]
        have hp2 : szW p = 1 := by
          cases p with
          | tup ys => cases ht
          | _ => simp [szW]
        rw [hp1] at hk
        rw [hp2] at hlen
        have l1 : F.length < sizeLine := Nat.lt_of_lt_of_le (show F.length < 1000 by omega) (big 1000 (Nat.le_refl _))
        have mk : X_marked [p] (A ++ [MO.lst F] ++ [MO.lst R]) = some (mkW p, A ++ [MO.lst F] ++ [MO.lst R]) := marked_ok (datW_isDat hp)
        refine wp_drop.mpr (to_wp (w := .non) (A := A ++ [.lst (F ++ [mkW p])] ++ [.lst R]) ?_ ?_)
        · simp only [ev_M, ev_V1, ev_V0, Option.bind_some, isLstB, gF', if_true, ev_aCons, ev_aNil, ev_call, ev_V3, ev_V2, Option.map_some, List.length_cons, List.length_nil, mk, sAppend, if_pos l1, setF]
        · refine ⟨⟨some p, F ++ [mkW p], R, rfl, rfl, hR, by rw [← hk]; simp, by rw [List.length_append]; simp only [List.length_cons, List.length_nil]; omega⟩, ?_⟩
          simp [szWs_append, szWs, hp2, gS]
    · have : S = [] := by cases S with
        | nil => rfl
        | cons a r => simp at hb
      subst this
      rw [thenS_nx]
      refine wp_ret.mpr (to_wp (w := .tup F) (A := A ++ [.lst F] ++ [.lst []]) (by simp [sTuple, gF]) ?_)
      simp only [kfWs, List.append_nil] at hk
      exact ⟨by rw [hk], ⟨[.lst F, .lst []], by simp⟩⟩
  obtain ⟨u, A', e, rfl, hp⟩ := h
  exact ⟨A', hp, e⟩
end Z
set_option Elab.async false
set_option linter.all false
set_option maxRecDepth 100000
set_option maxHeartbeats 2000000
/-! M4: different keys; numbered tables -/
namespace Z
open PySem L2
theorem sEq_int {a b : Int} {A : AH} : sEq (.int a) (.int b) A = some (.bl (a == b), A) := by rfl
theorem are_different_ok {n : Nat} {ws : List W} {ks : List NestedKey} {A : AH} (h : A[n]? = some (.lst ws)) (hk : keyTs ws = some ks) (few : ks.length < 64) (hl : ws.length = ks.length) : X_are_different [.loc n] A = some (.bl (decide ((onceK ks).length = ks.length)), A) := by
  have e1 : zLenSet (zV 0) [some (.loc n)] A = some (.int (onceK ks).length, A) := by
    simp [zLenSet, lstW, h, hk, few]
  have e2 : sLen [.loc n] A = some (.int ws.length, A) := by simp [sLen, itemsW, h]
  have e3 : sEq (.int (onceK ks).length) (.int ws.length) A = some (.bl (decide ((onceK ks).length = ks.length)), A) := by
    rw [sEq_int]
    have : (((onceK ks).length : Int) == (ws.length : Int)) = decide ((onceK ks).length = ks.length) := by
      rw [Bool.eq_iff_iff, beq_iff_eq, decide_eq_true_eq, hl]; omega
    rw [this]
  unfold X_are_different F_are_different g_are_different
  simp only [ev_def, List.length_cons, List.length_nil, if_true, ev_start, List.map_cons, List.map_nil, Nat.sub_self, List.replicate, List.append_nil, ev_ret, ev_z2, e1, Option.bind_some, ev_B, ev_aCons, ev_V0, ev_aNil, Option.map_some, e2, e3]
/-! numbering -/
/-- where an entry leads -/
def nxE : W → Option Int
  | .tup [_, .int s] => some s
  | _ => none
/-- an entry: None, or a pair with an int behind -/
def okE (w : W) : Bool := match w with
  | .non => true
  | .tup [_, .int _] => true
  | _ => false
def numLine (met : Int) : List (Option Int) → Option Int
  | [] => some met
  | none :: r => numLine met r
  | some s :: r => if s ≥ met then (if s > met then none else numLine (met + 1) r) else numLine met r
def numGo (met : Int) (s : Int) : List (List (Option Int)) → Bool
  | [] => true
  | l :: r => if s ≥ met then false else match numLine met l with
    | none => false
    | some m => numGo m (s + 1) r
theorem numGo_cons {met s : Int} {l : List (Option Int)} {r : List (List (Option Int))} : numGo met s (l :: r) = if s ≥ met then false else match numLine met l with
    | none => false
    | some m => numGo m (s + 1) r := rfl
theorem numLine_cons {met s : Int} {r : List (Option Int)} : numLine met (some s :: r) = if s ≥ met then (if s > met then none else numLine (met + 1) r) else numLine met r := rfl
theorem numLine_ge : ∀ {l : List (Option Int)} {met m : Int}, numLine met l = some m → met ≤ m
  | [], met, m, h => by cases h; exact Int.le_refl _
  | none :: r, met, m, h => numLine_ge (l := r) h
  | some s :: r, met, m, h => by
    unfold numLine at h
    split at h
    · split at h
      · cases h
      · have := numLine_ge (l := r) h; omega
    · exact numLine_ge (l := r) h
theorem okE_nx {w : W} (h : okE w = true) : (w = .non ∧ nxE w = none) ∨ ∃ o s, w = .tup [o, .int s] ∧ nxE w = some s := by
  unfold okE at h
  split at h
  · exact .inl ⟨rfl, rfl⟩
  · exact .inr ⟨_, _, rfl, rfl⟩
  · cases h
theorem are_numbered_ok {T : List (List W)} {A : AH} (h : ∀ l ∈ T, l.all okE = true) : X__are_numbered [.tup (T.map .tup)] A = some (.bl (numGo 1 0 (T.map fun l => l.map nxE)), A) := by
  have i1 : ∀ (o : W) (s : Int), atI [o, W.int s] 1 = some (.int s) := fun o s => rfl
  refine of_wp ?_
  unfold X__are_numbered F__are_numbered
  refine (wp_def rfl).mpr ?_
  unfold g__are_numbered
  simp only [start1, List.replicate]
  refine wp_seq.mpr (wp_asg1.mpr (to_wp (w := .int 1) (A := A) rfl ?_))
  rw [thenS_nx]
  simp only [List.set_cons_succ, List.set_cons_zero]
  refine wp_seq.mpr (wp_forFix (ws := enumW (T.map .tup)) (A1 := A) (by simp [ziEnum])
    (fun i E A' => A' = A ∧ ∃ (m : Int) (x y z : Option W), E = [some (.tup (T.map .tup)), some (.int m), x, y, z] ∧ numGo 1 0 (T.map fun l => l.map nxE) = numGo m i ((T.drop i).map fun l => l.map nxE))
    ⟨rfl, 1, none, none, none, rfl, rfl⟩ ?_ ?_)
  · rintro i w E A' hw ⟨rfl, m, x, y, z, rfl, hn⟩
    obtain ⟨v, hv, rfl⟩ := enumW_get hw
    rw [List.getElem?_map] at hv
    cases hl : T[i]? with
    | none => rw [hl] at hv; cases hv
    | some l =>
      rw [hl] at hv
      simp only [Option.map_some, Option.some.injEq] at hv
      subst hv
      have hlt := (List.getElem?_eq_some_iff.mp hl).1
      have hd : T.drop i = l :: T.drop (i + 1) := by
        rw [List.drop_eq_getElem_cons hlt]
        congr 1
        exact (List.getElem?_eq_some_iff.mp hl).2
      have hok := h l (List.mem_of_getElem? hl)
      rw [hd, List.map_cons] at hn
      refine ⟨_, rfl, ?_⟩
      simp only [List.set_cons_succ, List.set_cons_zero]
      refine wp_seq.mpr (wp_sIf.mpr (to_wp' (b := decide ((i : Int) ≥ m)) (A := A') (by simp [sGe]) ⟨fun hb => ?_, fun hb => ?_⟩))
      · rw [decide_eq_true_eq] at hb
        refine wp_ret.mpr (to_wp (w := .bl false) (A := A') rfl ?_)
        show W.bl false = W.bl (numGo 1 0 (T.map fun l => l.map nxE)) ∧ A' = A'
        refine ⟨?_, rfl⟩
        rw [hn]
        rw [numGo_cons, if_pos hb]
      · rw [decide_eq_false_iff_not] at hb
        refine wp_skip.mpr ?_
        rw [thenS_nx]
        rw [numGo_cons, if_neg hb] at hn
        refine wp_forFix (ws := l) (A1 := A') (by simp [ziSeq])
          (fun j E A2 => A2 = A' ∧ ∃ (m' : Int) (z' : Option W), E = [some (.tup (T.map .tup)), some (.int m'), some (.int (i : Nat)), some (.tup l), z'] ∧ numLine m (l.map nxE) = numLine m' ((l.drop j).map nxE))
          ⟨rfl, m, z, rfl, rfl⟩ ?_ ?_
        · rintro j u E A2 hu ⟨rfl, m', z', rfl, hm⟩
          have hlt2 := (List.getElem?_eq_some_iff.mp hu).1
          have hd2 : l.drop j = u :: l.drop (j + 1) := by
            rw [List.drop_eq_getElem_cons hlt2]
            congr 1
            exact (List.getElem?_eq_some_iff.mp hu).2
          rw [hd2, List.map_cons] at hm
          refine ⟨_, rfl, ?_⟩
          simp only [List.set_cons_succ, List.set_cons_zero]
          rcases okE_nx (List.all_eq_true.mp hok u (List.mem_of_getElem? hu)) with ⟨rfl, hx⟩ | ⟨o, s, rfl, hx⟩
          · rw [hx] at hm
            refine wp_sIf.mpr (to_wp' (b := false) (A := A2) (by simp [isNonW]) ⟨fun hb => (by cases hb), fun _ => ?_⟩)
            refine wp_skip.mpr ⟨rfl, m', _, rfl, ?_⟩
            rw [hm]; rfl
          · rw [hx] at hm
            rw [numLine_cons] at hm
            refine wp_sIf.mpr (to_wp' (b := decide (s ≥ m')) (A := A2) (by simp [isNonW, i1, sGe]) ⟨fun hb => ?_, fun hb => ?_⟩)
            · rw [decide_eq_true_eq] at hb
              rw [if_pos hb] at hm
              refine wp_seq.mpr (wp_sIf.mpr (to_wp' (b := decide (m' < s)) (A := A2) (by simp [i1, sGt]) ⟨fun hc => ?_, fun hc => ?_⟩))
              · rw [decide_eq_true_eq] at hc
                rw [if_pos (show s > m' from hc)] at hm
                refine wp_ret.mpr (to_wp (w := .bl false) (A := A2) rfl ?_)
                show W.bl false = W.bl (numGo 1 0 (T.map fun l => l.map nxE)) ∧ A2 = A2
                refine ⟨?_, rfl⟩
                rw [hn, hm]
              · rw [decide_eq_false_iff_not] at hc
                rw [if_neg (show ¬ s > m' from hc)] at hm
                refine wp_skip.mpr ?_
                rw [thenS_nx]
                refine Wp.of (a := .nx [some (.tup (T.map .tup)), some (.int (m' + 1)), some (.int (i : Nat)), some (.tup l), some (.tup [o, .int s])]) (A := A2) (by simp [zsAug]) ⟨rfl, m' + 1, _, rfl, hm⟩
            · rw [decide_eq_false_iff_not] at hb
              rw [if_neg hb] at hm
              exact wp_skip.mpr ⟨rfl, m', _, rfl, hm⟩
        · rintro E A2 ⟨rfl, m', z', rfl, hm⟩
          rw [List.drop_length] at hm
          refine ⟨rfl, m', _, _, _, rfl, ?_⟩
          rw [hn, hm]
          show numGo m' ((i : Int) + 1) _ = _
          rfl
  · rintro E A' ⟨rfl, m, x, y, z, rfl, hn⟩
    rw [thenS_nx]
    refine wp_ret.mpr (to_wp (w := .bl true) (A := A') rfl ?_)
    show W.bl true = W.bl (numGo 1 0 (T.map fun l => l.map nxE)) ∧ A' = A'
    refine ⟨?_, rfl⟩
    rw [hn, enumW_len, List.length_map, List.drop_length]
    rfl
end Z
set_option Elab.async false
set_option linter.all false
set_option maxRecDepth 100000
set_option maxHeartbeats 2000000
/-! M5: is_machine -/
namespace Z
open PySem L2
def tups : W → List W
  | .tup ws => ws
  | _ => []
theorem tups_map : ∀ {ws : List W}, ws.all isTup = true → ws = (ws.map tups).map .tup
  | [], _ => rfl
  | w :: ws, h => by
    rw [List.all_cons, Bool.and_eq_true] at h
    have := tups_map h.2
    cases w with
    | tup ys => rw [List.map_cons, List.map_cons, ← this]; rfl
    | _ => cases h.1
def kts (R : List W) : Option (List NestedKey) := keyTs (R.map fun x => .tup (kfW x))
def difB (R : List W) : Bool := match kts R with
  | some ks => decide ((onceK ks).length = ks.length)
  | none => false
def lensB (R T : List W) : Bool := T.all fun l => decide ((tups l).length = R.length)
def entsB (T : List W) : Bool := T.all fun l => (tups l).all fun e => entB e T.length
def numB (T : List W) : Bool := numGo 1 0 (T.map fun l => (tups l).map nxE)
def isM : W → Bool
  | .tup [r, t] => tupsB r && (difB (tups r) && (tupsB t && (lensB (tups r) (tups t) && (entsB (tups t) && numB (tups t)))))
  | _ => false
def RowsOk (R : List W) : Prop := (∀ x ∈ R, datW x = true ∧ szW x ≤ 1000) ∧ ∃ ks, kts R = some ks ∧ ks.length < 64
def MOk (v : W) : Prop := isDat v = true ∧ ∀ r t, v = .tup [r, t] → entD r = true ∧ entD t = true ∧ (tupsB r = true → RowsOk (tups r)) ∧ (∀ l ∈ tups t, ∀ e ∈ tups l, entD e = true)
theorem keyTs_len : ∀ {ws : List W} {ks}, keyTs ws = some ks → ks.length = ws.length
  | [], ks, h => by cases h; rfl
  | w :: ws, ks, h => by
    unfold keyTs at h
    split at h
    · rw [Option.bind_eq_some_iff] at h
      obtain ⟨k, hk, h⟩ := h
      split at h
      · rw [Option.map_eq_some_iff] at h
        obtain ⟨ks', hs, rfl⟩ := h
        rw [List.length_cons, List.length_cons, keyTs_len hs]
      · cases h
    · cases h
theorem ents_okE {e : W} {m : Int} (h : entB e m = true) : okE e = true := by
  unfold entB at h
  split at h
  · rfl
  · rw [Bool.and_eq_true] at h
    unfold isWhole at h
    split at h
    · rfl
    · exact absurd h.2 (by simp)
  · cases h
theorem to_wpS {x : Option (Out × AH)} {o : Out} {A : AH} {P : Out → AH → Prop} (e : x = some (o, A)) (h : P o A) : Wp x P := ⟨o, A, e, h⟩
/-- the keys of the rows -/
theorem keys_ok {E : EN} {A : AH} {R : List W} (h5 : E.length = 6) (h1 : E[1]? = some (some (.tup R))) (h : RowsOk R) : Wp (zLc (ziSeq (zV 1)) (.name 5) ztYes (zCall 1 X_key_of (zaCons (zV 5) zaNil)) [5] E A) fun u A' => u = .loc A.length ∧ Pre A A' ∧ A'[A.length]? = some (.lst (R.map fun x => .tup (kfW x))) := by
  match E, h5, h1 with
  | [a, _, c, d, e, f], _, h1 =>
  simp only [List.getElem?_cons_succ, List.getElem?_cons_zero, Option.some.injEq] at h1
  subst h1
  refine wp_lcFix (ws := R) (A1 := A) (by simp [ziSeq]) (fun i acc A' => (∃ G, A' = A ++ [.lst acc] ++ G) ∧ acc = (R.take i).map fun x => .tup (kfW x)) ⟨⟨[], by simp⟩, rfl⟩ ?_ ?_
  · rintro i w acc A' hw ⟨⟨G, rfl⟩, hacc⟩
    refine ⟨_, rfl, ?_⟩
    have hm := List.mem_of_getElem? hw
    have hlt := (List.getElem?_eq_some_iff.mp hw).1
    obtain ⟨A2, ⟨G2, rfl⟩, e2⟩ := key_of_ok (A := A ++ [.lst acc] ++ G) (h.1 w hm).1 (h.1 w hm).2
    refine to_wp (w := .tup (kfW w)) (A := A ++ [.lst acc] ++ G ++ G2) ?_ ⟨?_, ?_, ⟨G ++ G2, ?_⟩, ?_⟩
    · show (zaCons (zV 5) zaNil [a, some (.tup R), c, d, e, some w] (A ++ [.lst acc] ++ G)).bind _ = _
      simp only [ev_aCons, ev_V5, ev_V4, ev_V3, ev_V2, ev_V1, ev_V0, ev_aNil, Option.bind_some, Option.map_some, List.length_cons, List.length_nil, Nat.zero_add, if_true, e2]
    · simp
    · obtain ⟨ks, hk, few⟩ := h.2
      have := keyTs_len hk
      rw [List.length_map] at this
      have hl : acc.length ≤ R.length := by rw [hacc]; simp; omega
      exact Nat.lt_of_le_of_lt hl (Nat.lt_of_lt_of_le (by omega : R.length < 64) (by decide))
    · simp
    · rw [hacc]
      have : w = R[i] := ((List.getElem?_eq_some_iff.mp hw).2).symm
      subst this
      rw [List.take_succ_eq_append_getElem hlt, List.map_append]
      rfl
  · rintro acc A' ⟨⟨G, rfl⟩, hacc⟩
    refine ⟨rfl, ⟨[.lst acc] ++ G, by simp⟩, ?_⟩
    rw [hacc, List.take_length]
    simp
/-- is_machine tells of data what isM tells -/
theorem is_machine_ok {v : W} {A : AH} (h : MOk v) : ∃ A', Pre A A' ∧ X_is_machine [v] A = some (.bl (isM v), A') := by
  have hw : Wp (X_is_machine [v] A) fun u A' => u = .bl (isM v) ∧ Pre A A' := by
    unfold X_is_machine F_is_machine
    refine (wp_def rfl).mpr ?_
    unfold g_is_machine
    simp only [start1, List.replicate]
    have ht : X_is_tuple [v, .int 2, .int 2] A = some (.bl (isPair v 2 2), A) := is_tuple_ok (a := 2) (b := 2) h.1
    refine wp_seq.mpr (wp_sIf.mpr (to_wp' (b := !isPair v 2 2) (A := A) (by simp [ht]) ⟨fun hb => ?_, fun hb => ?_⟩))
    · refine wp_ret.mpr (to_wp (w := .bl false) (A := A) rfl ⟨?_, (Pre.refl (A := A))⟩)
      congr 1
      unfold isM
      split
      · simp [isPair] at hb
      · rfl
    rw [Bool.not_eq_false'] at hb
    obtain ⟨r, t, rfl⟩ : ∃ r t, v = .tup [r, t] := by
      cases v with
      | tup ws => match ws, hb with
        | [r, t], _ => exact ⟨r, t, rfl⟩
        | [], hb => simp [isPair] at hb
        | [_], hb => simp [isPair] at hb
        | _ :: _ :: _ :: _, hb => simp [isPair] at hb
      | _ => cases hb
    obtain ⟨dr, dt, hR, hT⟩ := h.2 r t rfl
    refine wp_skip.mpr ?_
    rw [thenS_nx]
    refine wp_seq.mpr (to_wpS (o := .nx [some (.tup [r, t]), some r, some t, none, none, none]) (A := A) (by simp) ?_)
    rw [thenS_nx]
    have a1 : ∀ A, X__are_tuples [r] A = some (.bl (tupsB r), A) := fun A => are_tuples_ok dr
    have a2 : ∀ A, X__are_tuples [t] A = some (.bl (tupsB t), A) := fun A => are_tuples_ok dt
    have e0 : isM (.tup [r, t]) = (tupsB r && (difB (tups r) && (tupsB t && (lensB (tups r) (tups t) && (entsB (tups t) && numB (tups t)))))) := rfl
    rw [e0]
    -- the three tests
    have h3 : Wp ((tzOr (tzNot (zTru (zCall 1 X__are_tuples (zaCons (zV 1) zaNil)))) (tzOr (tzNot (zTru (zCall 1 X_are_different (zaCons (zLc (ziSeq (zV 1)) (.name 5) ztYes (zCall 1 X_key_of (zaCons (zV 5) zaNil)) [5]) zaNil)))) (tzNot (zTru (zCall 1 X__are_tuples (zaCons (zV 2) zaNil)))))) [some (.tup [r, t]), some r, some t, none, none, none] A) fun b A' => b = !(tupsB r && (difB (tups r) && tupsB t)) ∧ Pre A A' := by
      cases hr : tupsB r with
      | false => exact to_wp' (b := true) (A := A) (by simp [a1, hr]) ⟨rfl, (Pre.refl (A := A))⟩
      | true =>
        obtain ⟨R, rfl⟩ : ∃ R, r = .tup R := by
          cases r with
          | tup R => exact ⟨R, rfl⟩
          | _ => cases hr
        have ro := hR hr
        obtain ⟨u, A1, e1, rfl, pr, g1⟩ := keys_ok (E := [some (.tup [.tup R, t]), some (.tup R), some t, none, none, none]) (A := A) rfl rfl ro
        obtain ⟨ks, hk, few⟩ := ro.2
        have hl := keyTs_len hk
        have d1 := are_different_ok (A := A1) g1 hk few hl.symm
        have hd : difB R = decide ((onceK ks).length = ks.length) := by unfold difB; rw [show kts R = some ks from hk]
        rw [← hd] at d1
        refine to_wp' (b := !(true && (difB R && tupsB t))) (A := A1) ?_ ⟨rfl, pr⟩
        cases hdf : difB R with
        | false => simp [a1, a2, hr, e1, d1, hdf]
        | true => simp [a1, a2, hr, e1, d1, hdf]
    obtain ⟨b, A1, e1, rfl, pr⟩ := h3
    refine wp_seq.mpr (wp_sIf.mpr (to_wp' e1 ⟨fun hb => ?_, fun hb => ?_⟩))
    · refine wp_ret.mpr (to_wp (w := .bl false) (A := A1) rfl ⟨?_, pr⟩)
      congr 1
      cases h1 : tupsB r <;> cases h2 : difB (tups r) <;> cases h3 : tupsB t <;> simp [h1, h2, h3] at hb ⊢
    simp only [Bool.not_eq_false', Bool.and_eq_true] at hb
    obtain ⟨b1, b2, b3⟩ := hb
    rw [b1, b2, b3]
    simp only [Bool.true_and]
    obtain ⟨R, rfl⟩ : ∃ R, r = .tup R := by
      cases r with
      | tup R => exact ⟨R, rfl⟩
      | _ => cases b1
    obtain ⟨T0, rfl⟩ : ∃ T, t = .tup T := by
      cases t with
      | tup T => exact ⟨T, rfl⟩
      | _ => cases b3
    have b4 : T0.all isTup = true := by unfold tupsB at b3; rw [Bool.and_eq_true] at b3; exact b3.2
    refine wp_skip.mpr ?_
    rw [thenS_nx]
    show Wp _ fun o A' => _
    have hz : ∀ w ∈ T0, ∃ l, w = .tup l := fun w hw => by
      have := List.all_eq_true.mp b4 w hw
      cases w with
      | tup l => exact ⟨l, rfl⟩
      | _ => cases this
    have h4 : Wp (zAA false 1 [1] (ziSeq (zV 2)) (.name 0) (z2 sEq (zB sLen (zaCons (zV 0) zaNil)) (zB sLen (zaCons (zV 1) zaNil))) [some (.tup [.tup R, .tup T0]), some (.tup R), some (.tup T0), none, none, none] A1) fun u A' => u = .bl (lensB R T0) ∧ A' = A1 := by
      refine wp_allFix (ws := T0) (A1 := A1) (by simp [ziSeq]) 0 (fun l => decide ((tups l).length = R.length)) rfl (fun E => E.length = 2 ∧ E[1]? = some (some (.tup R))) ⟨rfl, rfl⟩ (fun E w h => ⟨by simpa using h.1, by rw [List.getElem?_set_ne (by decide)]; exact h.2⟩) (fun E w hw hE => ?_) ⟨rfl, rfl⟩
      obtain ⟨l, rfl⟩ := hz w hw
      match E, hE with
      | [x, y], ⟨_, hy⟩ =>
        simp only [List.getElem?_cons_succ, List.getElem?_cons_zero, Option.some.injEq] at hy
        subst hy
        have hq : (((l.length : Nat) : Int) == ((R.length : Nat) : Int)) = decide ((tups (.tup l)).length = R.length) := by
          show _ = decide (l.length = R.length)
          rw [Bool.eq_iff_iff, beq_iff_eq, decide_eq_true_eq]; omega
        simp only [List.set_cons_zero, ev_z2, ev_B, ev_aCons, ev_V0, ev_V1, ev_aNil, Option.bind_some, Option.map_some, ev_lenT, sEq_int, hq]
    obtain ⟨u, A2, e2, rfl, rfl⟩ := h4
    refine wp_seq.mpr (wp_sIf.mpr (to_wp' (b := !lensB R T0) (A := A2) (by simp [e2]) ⟨fun hb => ?_, fun hb => ?_⟩))
    · refine wp_ret.mpr (to_wp (w := .bl false) (A := A2) rfl ⟨?_, pr⟩)
      rw [Bool.not_eq_true'] at hb
      show W.bl false = W.bl (lensB R T0 && _)
      rw [hb]; rfl
    rw [Bool.not_eq_false'] at hb
    refine wp_skip.mpr ?_
    rw [thenS_nx]
    have h5 : Wp (zAA2 false 2 [2] (ziSeq (zV 2)) (.name 0) (ziSeq (zV 0)) (.name 1) (zCall 2 X__is_entry (zaCons (zV 1) (zaCons (zB sLen (zaCons (zV 2) zaNil)) zaNil))) [some (.tup [.tup R, .tup T0]), some (.tup R), some (.tup T0), none, none, none] A2) fun u A' => u = .bl (entsB T0) ∧ A' = A2 := by
      refine wp_all2Fix (ws := T0) (A1 := A2) (by simp [ziSeq]) 0 1 tups (fun e => entB e T0.length) (fun E => E.length = 3 ∧ E[2]? = some (some (.tup T0))) ⟨rfl, rfl⟩ (fun E i w hi h => ⟨by simpa using h.1, by rw [List.getElem?_set_ne (by omega)]; exact h.2⟩) (fun E w hw hE => ?_) (fun E w x hw hx hE => ?_) ⟨rfl, rfl⟩
      · obtain ⟨l, rfl⟩ := hz w hw
        match E, hE with
        | [x, y, z], _ => simp [ziSeq, tups]
      · match E, hE with
        | [a, b, c], ⟨_, hy⟩ =>
          simp only [List.getElem?_cons_succ, List.getElem?_cons_zero, Option.some.injEq] at hy
          subst hy
          have hx1 : X__is_entry [x, .int T0.length] A2 = some (.bl (entB x T0.length), A2) := is_entry_ok (hT w hw x hx)
          simp [hx1]
    obtain ⟨u, A3, e3, rfl, rfl⟩ := h5
    refine wp_seq.mpr (wp_sIf.mpr (to_wp' (b := !entsB T0) (A := A3) (by simp [e3]) ⟨fun hb => ?_, fun hb5 => ?_⟩))
    · refine wp_ret.mpr (to_wp (w := .bl false) (A := A3) rfl ⟨?_, pr⟩)
      rw [Bool.not_eq_true'] at hb
      show W.bl false = W.bl (lensB R T0 && (entsB T0 && _))
      rw [hb, Bool.false_and, Bool.and_false]
    rw [Bool.not_eq_false'] at hb5
    refine wp_skip.mpr ?_
    rw [thenS_nx]
    have hn := are_numbered_ok (T := T0.map tups) (A := A3) (fun l hl => by
      rw [List.mem_map] at hl
      obtain ⟨w, hw, rfl⟩ := hl
      rw [List.all_eq_true]
      intro e he
      exact ents_okE (List.all_eq_true.mp (List.all_eq_true.mp hb5 w hw) e he))
    rw [← tups_map b4] at hn
    refine wp_ret.mpr (to_wp (w := .bl (numB T0)) (A := A3) ?_ ⟨?_, pr⟩)
    · simp only [ev_call, ev_aCons, ev_V2, ev_V1, ev_V0, ev_aNil, Option.bind_some, Option.map_some, List.length_cons, List.length_nil, Nat.zero_add, if_true, hn, numB, List.map_map]
      rfl
    · show W.bl (numB T0) = W.bl (lensB R T0 && (entsB T0 && numB T0))
      rw [hb, hb5]; rfl
  obtain ⟨u, A', e, rfl, hp⟩ := hw
  exact ⟨A', hp, e⟩
end Z
set_option Elab.async false
set_option linter.all false
set_option maxRecDepth 100000
set_option maxHeartbeats 1000000
/-! M6: lists of numbers; the law's numbering -/
namespace Z
open PySem L2
def natsW (ks : List Nat) : List W := ks.map fun (k : Nat) => W.int k
section
variable {A : AH} {n s : Nat} {ks : List Nat}
theorem natsW_append {a b : List Nat} : natsW (a ++ b) = natsW a ++ natsW b := List.map_append
theorem natsW_len : (natsW ks).length = ks.length := List.length_map _
theorem natsW_get {i : Nat} : (natsW ks)[i]? = (ks[i]?).map fun (k : Nat) => W.int k := List.getElem?_map
theorem flat_nats : ∀ ks : List Nat, flatWs (natsW ks) = some (ks.map fun (k : Nat) => V.int k)
  | [] => rfl
  | k :: ks => by
    show (flatWs (natsW ks)).map (fun vs => V.int k :: vs) = _
    rw [flat_nats ks]; rfl
theorem idx_nats : ∀ ks : List Nat, s ∈ ks → idxF (.int s) (ks.map fun (k : Nat) => V.int k) = some (ks.idxOf s)
  | [], h => by cases h
  | k :: ks, h => by
    rw [List.map_cons, idxF, List.idxOf_cons]
    by_cases e : k = s
    · subst e
      rw [if_pos (by show ((k : Int) == k) = true; simp)]
      simp
    · rw [if_neg (by show ¬ ((k : Int) == s) = true; rw [beq_iff_eq]; omega), idx_nats ks ((List.mem_cons.mp h).resolve_left (Ne.symm e))]
      have : (k == s) = false := by rw [beq_eq_false_iff_ne]; exact e
      rw [this]; rfl
theorem sIndex_nats (h : A[n]? = some (.lst (natsW ks))) (hs : s ∈ ks) : sIndex (.loc n) [.int s] A = some (.int (ks.idxOf s), A) := by
  unfold sIndex
  simp only [h, flatW, flat_nats, Option.bind_some]
  rw [idx_nats ks hs]
  rfl
theorem toPs_nats : ∀ ks : List Nat, toPs (natsW ks) = some (ks.map fun (k : Nat) => PyData.int k)
  | [] => rfl
  | k :: ks => by
    show (toPs (natsW ks)).map (fun ds => PyData.int k :: ds) = _
    rw [toPs_nats ks]; rfl
theorem can_nats : ∀ ks : List Nat, PyData.canLayAll0 (ks.map fun (k : Nat) => PyData.int k) = true
  | [] => rfl
  | k :: ks => by
    rw [List.map_cons, PyData.canLayAll0, can_nats ks]; rfl
theorem dep_nats : ∀ ks : List Nat, PyData.depthAll (ks.map fun (k : Nat) => PyData.int k) ≤ 1
  | [] => by simp [PyData.depthAll]
  | k :: ks => by
    rw [List.map_cons, PyData.depthAll]
    have := dep_nats ks
    have : PyData.depth (.int (k : Int)) ≤ 1 := by simp [PyData.depth]
    omega
theorem shaped_nats : SeqAt.shaped (.list (ks.map fun (k : Nat) => PyData.int k)) = true := by
  unfold SeqAt.shaped
  rw [Bool.and_eq_true, decide_eq_true_eq]
  refine ⟨by rw [PyData.canLay0]; exact can_nats ks, ?_⟩
  have := dep_nats ks
  rw [PyData.depth]; omega
theorem any_nats : ∀ ks : List Nat, ((ks.map fun (k : Nat) => PyData.int k).any fun z => PyData.eqv z (.int s)) = decide (s ∈ ks)
  | [] => by simp
  | k :: ks => by
    rw [List.map_cons, List.any_cons, any_nats ks, PyData.eqv]
    by_cases e : k = s
    · subst e; simp
    · have h1 : ((k : Int) == (s : Int)) = false := by rw [beq_eq_false_iff_ne]; omega
      have h2 : ¬ s = k := fun z => e z.symm
      rw [h1, Bool.false_or]
      congr 1
      rw [List.mem_cons, eq_false h2, false_or]
theorem sNotIn_nats (h : A[n]? = some (.lst (natsW ks))) : sNotInU (.int s) (.loc n) A = some (.bl (!decide (s ∈ ks)), A) := by
  have h1 : inP A (.int s) (.loc n) = some (decide (s ∈ ks)) := by
    unfold inP
    have e1 : toPA A (.int s) = some (.int s) := rfl
    have e2 : toPA A (.loc n) = some (.list (ks.map fun (k : Nat) => PyData.int k)) := by simp [toPA, h, toPs_nats]
    rw [e1, e2]
    simp only [shaped_nats, Bool.and_true]
    rw [if_pos (by rfl), any_nats]
  unfold sNotInU sNotInF sNotIn
  rw [h1]
  rfl
end
end Z
set_option Elab.async false
set_option linter.all false
set_option maxRecDepth 100000
set_option maxHeartbeats 1000000
/-! M7: the law's numbering, worked out -/
namespace Z
open PySem L2
abbrev Pl := Option (List W × Nat)
def encP : Pl → W
  | none => .non
  | some (o, s) => .tup [.tup o, .int s]
def encL (l : List Pl) : W := .tup (l.map encP)
def visO (ord : List Nat) : Pl → List Nat
  | none => ord
  | some (_, s) => if s ∈ ord then ord else ord ++ [s]
def visP (ord : List Nat) : Pl → Pl
  | none => none
  | some (o, s) => some (o, ord.idxOf s)
def numL (ord : List Nat) : List Pl → List Nat × List Pl
  | [] => (ord, [])
  | p :: r => ((numL (visO ord p) r).1, visP (visO ord p) p :: (numL (visO ord p) r).2)
def lineAt (T : List (List Pl)) (s : Nat) : List Pl := (T[s]?).getD []
def numT (T : List (List Pl)) : List Nat → Nat → Nat → List (List Pl)
  | _, _, 0 => []
  | ord, i, k + 1 => if i < ord.length then (numL ord (lineAt T (ord[i]?.getD 0))).2 :: numT T (numL ord (lineAt T (ord[i]?.getD 0))).1 (i + 1) k else numT T ord (i + 1) k
def num (T : List (List Pl)) : List (List Pl) := numT T [0] 0 T.length
/-- a table whose next ones are there -/
structure TabOk (T : List (List Pl)) : Prop where
  pos : 0 < T.length
  few : T.length ≤ 500
  wid : ∀ l ∈ T, l.length ≤ 500
  nxt : ∀ l ∈ T, ∀ o s, some (o, s) ∈ l → s < T.length
structure OrdOk (m : Nat) (ord : List Nat) : Prop where
  nd : ord.Nodup
  lt : ∀ s ∈ ord, s < m
theorem OrdOk.len {m : Nat} {ord : List Nat} (h : OrdOk m ord) : ord.length ≤ m := by
  have : ord ⊆ List.range m := fun s hs => List.mem_range.mpr (h.lt s hs)
  have := List.Nodup.length_le_of_subset h.nd this
  rwa [List.length_range] at this
theorem OrdOk.vis {m : Nat} {ord : List Nat} (h : OrdOk m ord) {p : Pl} (hp : ∀ o s, p = some (o, s) → s < m) : OrdOk m (visO ord p) := by
  cases p with
  | none => exact h
  | some q =>
    obtain ⟨o, s⟩ := q
    unfold visO
    by_cases hs : s ∈ ord
    · simp only [if_pos hs]; exact h
    · simp only [if_neg hs]
      refine ⟨?_, ?_⟩
      · rw [List.nodup_append]
        exact ⟨h.nd, by simp, fun a ha b hb => by rw [List.mem_singleton] at hb; subst hb; exact fun e => hs (e ▸ ha)⟩
      · intro x hx
        rcases List.mem_append.mp hx with hx | hx
        · exact h.lt x hx
        · rw [List.mem_singleton] at hx; subst hx; exact hp o x rfl
theorem sIx_loc {n : Nat} {ws : List W} {j : Int} {w : W} {A : AH} (h : A[n]? = some (.lst ws)) (hw : atI ws j = some w) : sIx (.loc n) (.int j) A = some (w, A) := by
  unfold sIx sIxT sIxL
  simp only [h, hw, Option.map_some, Option.none_or, Option.some_or]
theorem big500 {n : Nat} (h : n ≤ 500) : n < sizeLine := Nat.lt_of_le_of_lt h (by decide)
section
variable {A : AH} {x y z : MO} {G L : AH}
theorem hg0 : (A ++ x :: y :: G)[A.length]? = some x := by simp
theorem hg1 : (A ++ x :: y :: G)[A.length + 1]? = some y := by simp
theorem hs0 : (A ++ x :: y :: G).set A.length z = A ++ z :: y :: G := by simp
theorem hs1 : (A ++ x :: y :: G).set (A.length + 1) z = A ++ x :: z :: G := by
  rw [List.set_append_right _ _ (by omega)]; simp
theorem hg2 : (A ++ x :: y :: (G ++ [z]))[A.length + 2 + G.length]? = some z := by
  rw [List.getElem?_append_right (by omega), show A.length + 2 + G.length - A.length = G.length + 2 from by omega]; simp
theorem hs2 {z' : MO} : (A ++ x :: y :: (G ++ [z])).set (A.length + 2 + G.length) z' = A ++ x :: y :: (G ++ [z']) := by
  rw [List.set_append_right _ _ (by omega), show A.length + 2 + G.length - A.length = G.length + 2 from by omega]; simp
end
theorem visO_mem {ord : List Nat} {o : List W} {s : Nat} : s ∈ visO ord (some (o, s)) := by
  unfold visO; by_cases h : s ∈ ord <;> simp [h]
/-- one place of a line -/
theorem visit_ok {A G : AH} {rows x4 x6 : Option W} {n : Nat} {ord : List Nat} {L : List W} {acc : List W} {p : Pl} (ho : ord.length ≤ 500) (ha : acc.length ≤ 500) :
    zsSeq (zsIf (tzAnd (zBl (z2 sNotN (zV 6) (zC .non))) (zBl (z2 sNotInU (z2 sIx (zV 6) (zC (.int 1))) (zV 2)))) (zsDrop (zM isLstB sAppend (zV 2) (zaCons (z2 sIx (zV 6) (zC (.int 1))) zaNil))) zsSkip) (zsDrop (zM isLstB sAppend (zV 5) (zaCons (zIf (zBl (z2 sIsN (zV 6) (zC .non))) (zC .non) (zTup (zaCons (z2 sIx (zV 6) (zC (.int 0))) (zaCons (zM isLstB sIndex (zV 2) (zaCons (z2 sIx (zV 6) (zC (.int 1))) zaNil)) zaNil)))) zaNil)))
      [rows, some (.loc n), some (.loc A.length), some (.loc (A.length + 1)), x4, some (.loc (A.length + 2 + G.length)), some (encP p)] (A ++ .lst (natsW ord) :: .lst L :: (G ++ [.lst acc]))
    = some (.nx [rows, some (.loc n), some (.loc A.length), some (.loc (A.length + 1)), x4, some (.loc (A.length + 2 + G.length)), some (encP p)], A ++ .lst (natsW (visO ord p)) :: .lst L :: (G ++ [.lst (acc ++ [encP (visP (visO ord p) p)])])) := by
  have lo : (natsW ord).length < sizeLine := by rw [natsW_len]; exact big500 ho
  have la : acc.length < sizeLine := big500 ha
  cases p with
  | none => simp [encP, visO, visP, isNonW, isLstB, sAppend, hg2, hs2, la, ev_Vs]
  | some q =>
    obtain ⟨o, s⟩ := q
    have i0 : atI [W.tup o, W.int s] 0 = some (.tup o) := rfl
    have i1 : atI [W.tup o, W.int s] 1 = some (.int s) := rfl
    by_cases hs : s ∈ ord
    · have e1 := sNotIn_nats (A := A ++ .lst (natsW ord) :: .lst L :: (G ++ [.lst acc])) (n := A.length) (s := s) hg0
      have e2 := sIndex_nats (A := A ++ .lst (natsW ord) :: .lst L :: (G ++ [.lst acc])) (n := A.length) (s := s) hg0 hs
      have hv : visO ord (some (o, s)) = ord := by simp [visO, hs]
      simp [encP, hv, visP, isNonW, isLstB, sAppend, hg0, hg2, hs2, la, i0, i1, e1, e2, hs]
    · have hv : visO ord (some (o, s)) = ord ++ [s] := by simp [visO, hs]
      have e1 := sNotIn_nats (A := A ++ .lst (natsW ord) :: .lst L :: (G ++ [.lst acc])) (n := A.length) (s := s) hg0
      have e2 := sIndex_nats (A := A ++ .lst (natsW (ord ++ [s])) :: .lst L :: (G ++ [.lst acc])) (n := A.length) (s := s) hg0 (by simp)
      have e3 : natsW ord ++ [.int s] = natsW (ord ++ [s]) := by rw [natsW_append]; rfl
      simp [encP, hv, visP, isNonW, isLstB, sAppend, hg0, hg2, hs0, hs2, la, lo, i0, i1, e1, e2, e3, hs]
end Z
set_option Elab.async false
set_option linter.all false
set_option maxRecDepth 100000
set_option maxHeartbeats 1000000
/-! M8: numbered_ok -/
namespace Z
open PySem L2
theorem numL_ord {m : Nat} : ∀ {l : List Pl} {ord : List Nat}, OrdOk m ord → (∀ o s, some (o, s) ∈ l → s < m) → OrdOk m (numL ord l).1
  | [], ord, h, _ => h
  | p :: r, ord, h, hn => numL_ord (l := r) (h.vis fun o s e => hn o s (by subst e; exact List.mem_cons_self)) fun o s e => hn o s (List.mem_cons_of_mem _ e)
theorem numL_len : ∀ {l : List Pl} {ord : List Nat}, (numL ord l).2.length = l.length
  | [], _ => rfl
  | p :: r, ord => by simp only [numL, List.length_cons]; rw [numL_len]
def visit : ZS := zsSeq (zsIf (tzAnd (zBl (z2 sNotN (zV 6) (zC .non))) (zBl (z2 sNotInU (z2 sIx (zV 6) (zC (.int 1))) (zV 2)))) (zsDrop (zM isLstB sAppend (zV 2) (zaCons (z2 sIx (zV 6) (zC (.int 1))) zaNil))) zsSkip) (zsDrop (zM isLstB sAppend (zV 5) (zaCons (zIf (zBl (z2 sIsN (zV 6) (zC .non))) (zC .non) (zTup (zaCons (z2 sIx (zV 6) (zC (.int 0))) (zaCons (zM isLstB sIndex (zV 2) (zaCons (z2 sIx (zV 6) (zC (.int 1))) zaNil)) zaNil)))) zaNil)))
theorem line_ok {A G : AH} {rows x4 x6 : Option W} {n m : Nat} {ord : List Nat} {L : List W} {l : List Pl} {iter : ZI} (hi : iter [rows, some (.loc n), some (.loc A.length), some (.loc (A.length + 1)), x4, some (.loc (A.length + 2 + G.length)), x6] (A ++ .lst (natsW ord) :: .lst L :: (G ++ [.lst []])) = some (.fix (l.map encP), A ++ .lst (natsW ord) :: .lst L :: (G ++ [.lst []])))
    (ho : OrdOk m ord) (hm : m ≤ 500) (hl : l.length ≤ 500) (hn : ∀ o s, some (o, s) ∈ l → s < m) :
    Wp (zsFor iter (.name 6) visit [rows, some (.loc n), some (.loc A.length), some (.loc (A.length + 1)), x4, some (.loc (A.length + 2 + G.length)), x6] (A ++ .lst (natsW ord) :: .lst L :: (G ++ [.lst []]))) fun o A' => ∃ y6, o = .nx [rows, some (.loc n), some (.loc A.length), some (.loc (A.length + 1)), x4, some (.loc (A.length + 2 + G.length)), y6] ∧ A' = A ++ .lst (natsW (numL ord l).1) :: .lst L :: (G ++ [.lst ((numL ord l).2.map encP)]) := by
  refine wp_forFix hi (fun j E A' => ∃ (ord' : List Nat) (acc : List Pl) (y6 : Option W), E = [rows, some (.loc n), some (.loc A.length), some (.loc (A.length + 1)), x4, some (.loc (A.length + 2 + G.length)), y6] ∧ A' = A ++ .lst (natsW ord') :: .lst L :: (G ++ [.lst (acc.map encP)]) ∧ OrdOk m ord' ∧ acc.length = j ∧ (numL ord l).1 = (numL ord' (l.drop j)).1 ∧ (numL ord l).2 = acc ++ (numL ord' (l.drop j)).2)
    ⟨ord, [], x6, rfl, rfl, ho, rfl, rfl, rfl⟩ ?_ ?_
  · rintro j w E A' hw ⟨ord', acc, y6, rfl, rfl, ho', ha, h1, h2⟩
    rw [List.getElem?_map] at hw
    cases hp : l[j]? with
    | none => rw [hp] at hw; cases hw
    | some p =>
      rw [hp, Option.map_some, Option.some.injEq] at hw
      subst hw
      have hlt := (List.getElem?_eq_some_iff.mp hp).1
      have hd : l.drop j = p :: l.drop (j + 1) := by
        rw [List.drop_eq_getElem_cons hlt]
        congr 1
        exact (List.getElem?_eq_some_iff.mp hp).2
      have hmem := List.mem_of_getElem? hp
      refine ⟨_, rfl, ?_⟩
      have e := visit_ok (A := A) (G := G) (rows := rows) (x4 := x4) (x6 := none) (n := n) (ord := ord') (L := L) (acc := acc.map encP) (p := p) (Nat.le_trans ho'.len hm) (by rw [List.length_map]; omega)
      refine to_wpS e ⟨visO ord' p, acc ++ [visP (visO ord' p) p], some (encP p), rfl, ?_, ho'.vis fun o s e => hn o s (e ▸ hmem), by rw [List.length_append, ha]; rfl, ?_, ?_⟩
      · rw [List.map_append]; rfl
      · rw [h1, hd]; rfl
      · rw [h2, hd, List.append_assoc]; rfl
  · rintro E A' ⟨ord', acc, y6, rfl, rfl, ho', ha, h1, h2⟩
    rw [List.length_map, List.drop_length] at h1 h2
    refine ⟨y6, rfl, ?_⟩
    rw [h1, h2]
    simp [numL]
theorem lineAt_mem {T : List (List Pl)} {s : Nat} (h : s < T.length) : lineAt T s ∈ T ∧ T[s]? = some (lineAt T s) := by
  have e : T[s]? = some T[s] := List.getElem?_eq_getElem h
  unfold lineAt
  rw [e]
  exact ⟨List.getElem_mem h, rfl⟩
theorem tA (k : Nat) (hk : k < 1000) : (k : Int) < 2 ^ 62 := by omega
theorem tB (k : Nat) : -(2 ^ 62) ≤ (k : Int) := by omega
theorem rng1_eq {ga : ZA} {E : EN} {A : AH} {j : Int} {A1 : AH} (h : ga E A = some ([.int j], A1)) (h0 : -(2 ^ 62) ≤ j ∧ j < 2 ^ 62) : ziRng1 ga E A = some (.fix (rngW 0 j.toNat), A1) := by
  unfold ziRng1
  rw [h, Option.bind_some]
  exact if_pos h0
theorem rng1_ok {ga : ZA} {E : EN} {A A1 : AH} {k : Nat} (h : ga E A = some ([.int (k : Nat)], A1)) (hk : k < 1000) : ziRng1 ga E A = some (.fix (rngW 0 k), A1) := by
  have := rng1_eq h ⟨tB k, tA k hk⟩
  rw [Int.toNat_natCast] at this
  exact this
theorem numbered_ok {A : AH} {rows : W} {n : Nat} {T : List (List Pl)} (h : A[n]? = some (.lst (T.map encL))) (ok : TabOk T) : ∃ A', Pre A A' ∧ X__law_numbered [rows, .loc n] A = some (.tup [rows, .tup ((num T).map encL)], A') := by
  have hw : Wp (X__law_numbered [rows, .loc n] A) fun u A' => u = .tup [rows, .tup ((num T).map encL)] ∧ Pre A A' := by
    unfold X__law_numbered F__law_numbered
    refine (wp_def rfl).mpr ?_
    unfold g__law_numbered
    simp only [start2, List.replicate]
    refine wp_seq.mpr (to_wpS (o := .nx [some rows, some (.loc n), some (.loc A.length), none, none, none, none]) (A := A ++ [.lst [.int 0]]) (by simp) ?_)
    rw [thenS_nx]
    refine wp_seq.mpr (to_wpS (o := .nx [some rows, some (.loc n), some (.loc A.length), some (.loc (A.length + 1)), none, none, none]) (A := A ++ .lst (natsW [0]) :: .lst [] :: []) (by simp [natsW]) ?_)
    rw [thenS_nx]
    have hT : ∀ {x y : MO} {G : AH}, (A ++ x :: y :: G)[n]? = some (.lst (T.map encL)) := fun {x y G} => by
      rw [List.getElem?_append_left (List.getElem?_eq_some_iff.mp h).1]; exact h
    refine wp_seq.mpr (wp_forFix (ws := rngW 0 T.length) (A1 := A ++ .lst (natsW [0]) :: .lst [] :: []) (rng1_ok (by simp [sLen, itemsW, hT]) (Nat.lt_of_le_of_lt ok.few (by decide)))
      (fun i E A' => ∃ (ord : List Nat) (lines : List (List Pl)) (G : AH) (x4 x5 x6 : Option W), E = [some rows, some (.loc n), some (.loc A.length), some (.loc (A.length + 1)), x4, x5, x6] ∧ A' = A ++ .lst (natsW ord) :: .lst (lines.map encL) :: G ∧ OrdOk T.length ord ∧ lines.length ≤ i ∧ num T = lines ++ numT T ord i (T.length - i))
      ⟨[0], [], [], none, none, none, rfl, rfl, ⟨by simp, fun s hs => by rw [List.mem_singleton] at hs; subst hs; exact ok.pos⟩, Nat.le_refl _, rfl⟩ ?_ ?_)
    · rintro i w E A' hw ⟨ord, lines, G, x4, x5, x6, rfl, rfl, ho, hl, hnum⟩
      obtain ⟨hlt, rfl⟩ := rngW_get hw
      have hk : T.length - i = (T.length - (i + 1)) + 1 := by omega
      rw [hk, numT] at hnum
      refine ⟨_, rfl, ?_⟩
      simp only [List.set_cons_succ, List.set_cons_zero]
      have i4 : (0 : Int) + (i : Nat) = (i : Nat) := by omega
      rw [i4]
      refine wp_sIf.mpr (to_wp' (b := decide (i < ord.length)) (A := A ++ .lst (natsW ord) :: .lst (lines.map encL) :: G) ?_ ⟨fun hb => ?_, fun hb => ?_⟩)
      · simp [sLt, sLen, itemsW, hg0, natsW_len]
      · rw [decide_eq_true_eq] at hb
        rw [if_pos hb] at hnum
        have hoi : ord[i]? = some ord[i] := List.getElem?_eq_getElem hb
        rw [hoi, Option.getD_some] at hnum
        have hsl := ho.lt _ (List.getElem_mem hb)
        obtain ⟨hmem, hat⟩ := lineAt_mem hsl
        have hc : A.length + 2 + G.length = (A ++ .lst (natsW ord) :: .lst (lines.map encL) :: G).length := by simp; omega
        refine wp_seq.mpr (to_wpS (o := .nx [some rows, some (.loc n), some (.loc A.length), some (.loc (A.length + 1)), some (.int i), some (.loc (A.length + 2 + G.length)), x6]) (A := A ++ .lst (natsW ord) :: .lst (lines.map encL) :: (G ++ [.lst []])) (by simp [hc]) ?_)
        rw [thenS_nx]
        have e1 : sIx (.loc A.length) (.int (i : Nat)) (A ++ .lst (natsW ord) :: .lst (lines.map encL) :: (G ++ [.lst []])) = some (.int (ord[i] : Nat), A ++ .lst (natsW ord) :: .lst (lines.map encL) :: (G ++ [.lst []])) := sIx_loc hg0 (by rw [atI_nat, natsW_get, hoi]; rfl)
        have e2 : sIx (.loc n) (.int (ord[i] : Nat)) (A ++ .lst (natsW ord) :: .lst (lines.map encL) :: (G ++ [.lst []])) = some (encL (lineAt T ord[i]), A ++ .lst (natsW ord) :: .lst (lines.map encL) :: (G ++ [.lst []])) := sIx_loc hT (by rw [atI_nat, List.getElem?_map, hat]; rfl)
        refine wp_seq.mpr (Wp.mono (line_ok (m := T.length) (l := lineAt T ord[i]) ?_ ho ok.few (ok.wid _ hmem) (ok.nxt _ hmem)) ?_)
        · simp [ziSeq, e1, e2, encL]
        · rintro o A2 ⟨y6, rfl, rfl⟩
          rw [thenS_nx]
          have lb : (lines.map encL).length < sizeLine := by rw [List.length_map]; exact big500 (by have := ok.few; omega)
          refine to_wpS (o := .nx [some rows, some (.loc n), some (.loc A.length), some (.loc (A.length + 1)), some (.int (i : Nat)), some (.loc (A.length + 2 + G.length)), y6]) (A := A ++ .lst (natsW (numL ord (lineAt T ord[i])).1) :: .lst ((lines ++ [(numL ord (lineAt T ord[i])).2]).map encL) :: (G ++ [.lst ((numL ord (lineAt T ord[i])).2.map encP)])) ?_ ?_
          · have lb' : lines.length < sizeLine := by rw [List.length_map] at lb; exact lb
            simp [isLstB, sAppend, sTuple, hg1, hs1, hg2, lb', encL]
          · exact ⟨_, lines ++ [(numL ord (lineAt T ord[i])).2], _, _, _, _, rfl, rfl, numL_ord ho (ok.nxt _ hmem), by rw [List.length_append]; simp only [List.length_cons, List.length_nil]; omega, by rw [hnum, List.append_assoc]; rfl⟩
      · rw [decide_eq_false_iff_not] at hb
        rw [if_neg hb] at hnum
        exact wp_skip.mpr ⟨ord, lines, G, _, x5, x6, rfl, rfl, ho, by omega, hnum⟩
    · rintro E A' ⟨ord, lines, G, x4, x5, x6, rfl, rfl, ho, hl, hnum⟩
      rw [rngW_len, Nat.sub_self, numT, List.append_nil] at hnum
      rw [thenS_nx]
      refine wp_ret.mpr (to_wp (w := .tup [rows, .tup (lines.map encL)]) (A := A ++ .lst (natsW ord) :: .lst (lines.map encL) :: G) (by simp [sTuple, hg1]) ?_)
      rw [hnum]
      exact ⟨rfl, _, rfl⟩
  obtain ⟨u, A', e, rfl, hp⟩ := hw
  exact ⟨A', hp, e⟩
end Z
set_option Elab.async false
set_option linter.all false
set_option maxRecDepth 100000
set_option maxHeartbeats 1000000
/-! M9: what the numbering gives is numbered -/
namespace Z
open PySem L2
def nxP (p : Pl) : Option Int := p.map fun q => ((q.2 : Nat) : Int)
theorem nx_enc (p : Pl) : nxE (encP p) = nxP p := by
  cases p with
  | none => rfl
  | some q => rfl
theorem nx_line (l : List Pl) : (l.map encP).map nxE = l.map nxP := by
  rw [List.map_map]; exact List.map_congr_left fun p _ => nx_enc p
theorem visO_len {ord : List Nat} {p : Pl} : ord.length ≤ (visO ord p).length := by
  unfold visO
  split
  · exact Nat.le_refl _
  · split
    · exact Nat.le_refl _
    · simp
theorem numL_mono : ∀ {l : List Pl} {ord : List Nat}, ord.length ≤ (numL ord l).1.length
  | [], _ => Nat.le_refl _
  | p :: r, ord => Nat.le_trans visO_len (numL_mono (l := r))
/-- the line that comes out leads on in order -/
theorem numL_line : ∀ {l : List Pl} {ord : List Nat}, numLine ord.length ((numL ord l).2.map nxP) = some ((numL ord l).1.length : Int)
  | [], ord => rfl
  | none :: r, ord => by
    show numLine ord.length ((numL ord r).2.map nxP) = _
    exact numL_line (l := r)
  | some (o, s) :: r, ord => by
    show numLine ord.length (some (((visO ord (some (o, s))).idxOf s : Nat) : Int) :: (numL (visO ord (some (o, s))) r).2.map nxP) = some (((numL (visO ord (some (o, s))) r).1.length : Nat) : Int)
    rw [numLine_cons]
    by_cases hs : s ∈ ord
    · have hv : visO ord (some (o, s)) = ord := by simp [visO, hs]
      rw [hv]
      have := List.idxOf_lt_length_of_mem hs
      rw [if_neg (by omega)]
      exact numL_line (l := r)
    · have hv : visO ord (some (o, s)) = ord ++ [s] := by simp [visO, hs]
      have hi : (ord ++ [s]).idxOf s = ord.length := by
        rw [List.idxOf_append, if_neg hs]; simp
      rw [hv, hi, if_pos (by omega), if_neg (by omega)]
      have := numL_line (l := r) (ord := ord ++ [s])
      rw [List.length_append, List.length_singleton] at this
      rw [← this]
      congr 1
theorem numL_lt : ∀ {l : List Pl} {ord : List Nat} {o : List W} {s : Nat}, some (o, s) ∈ (numL ord l).2 → s < (numL ord l).1.length
  | [], _, _, _, h => by cases h
  | p :: r, ord, o, s, h => by
    rcases List.mem_cons.mp h with h | h
    · cases p with
      | none => cases h
      | some q =>
        obtain ⟨o', s'⟩ := q
        simp only [visP, Option.some.injEq, Prod.mk.injEq] at h
        obtain ⟨rfl, rfl⟩ := h
        exact Nat.lt_of_lt_of_le (List.idxOf_lt_length_of_mem visO_mem) (numL_mono (l := r))
    · exact numL_lt (l := r) h
theorem numL_out {Q : List W → Prop} : ∀ {l : List Pl} {ord : List Nat}, (∀ o s, some (o, s) ∈ l → Q o) → ∀ o s, some (o, s) ∈ (numL ord l).2 → Q o
  | [], _, _, _, _, h => by cases h
  | p :: r, ord, hq, o, s, h => by
    rcases List.mem_cons.mp h with h | h
    · cases p with
      | none => cases h
      | some q =>
        obtain ⟨o', s'⟩ := q
        simp only [visP, Option.some.injEq, Prod.mk.injEq] at h
        obtain ⟨rfl, rfl⟩ := h
        exact hq _ s' List.mem_cons_self
    · exact numL_out (l := r) (fun o s e => hq o s (List.mem_cons_of_mem _ e)) o s h
theorem numT_over {T : List (List Pl)} {ord : List Nat} : ∀ {k i : Nat}, ord.length ≤ i → numT T ord i k = []
  | 0, _, _ => rfl
  | k + 1, i, h => by rw [numT, if_neg (by omega)]; exact numT_over (by omega)
theorem numT_all {T : List (List Pl)} {R : Nat} {Q : List W → Prop} (ok : TabOk T) (hR : ∀ l ∈ T, l.length = R) (hQ : ∀ l ∈ T, ∀ o s, some (o, s) ∈ l → Q o) : ∀ {k i : Nat} {ord : List Nat}, OrdOk T.length ord → i ≤ ord.length → i + k = T.length →
    numGo ord.length i ((numT T ord i k).map fun l => l.map nxP) = true ∧ ord.length ≤ i + (numT T ord i k).length ∧ (∀ l ∈ numT T ord i k, l.length = R ∧ ∀ o s, some (o, s) ∈ l → s < i + (numT T ord i k).length ∧ Q o)
  | 0, i, ord, ho, hi, hk => ⟨rfl, by have := ho.len; simp [numT]; omega, fun l h => by cases h⟩
  | k + 1, i, ord, ho, hi, hk => by
    by_cases hb : i < ord.length
    · have hoi : ord[i]? = some ord[i] := List.getElem?_eq_getElem hb
      have hsl := ho.lt _ (List.getElem_mem hb)
      obtain ⟨hmem, hat⟩ := lineAt_mem hsl
      rw [numT, if_pos hb, hoi, Option.getD_some]
      have mono := numL_mono (l := lineAt T ord[i]) (ord := ord)
      obtain ⟨h1, h2, h3⟩ := numT_all ok hR hQ (k := k) (i := i + 1) (numL_ord (l := lineAt T ord[i]) ho (ok.nxt _ hmem)) (by omega) (by omega)
      refine ⟨?_, by rw [List.length_cons]; omega, fun l hl => ?_⟩
      · rw [List.map_cons, numGo_cons, if_neg (by omega), numL_line]
        exact h1
      · rw [List.length_cons]
        rcases List.mem_cons.mp hl with rfl | hl
        · refine ⟨by rw [numL_len]; exact hR _ hmem, fun o s h => ⟨?_, numL_out (hQ _ hmem) o s h⟩⟩
          have := numL_lt h
          omega
        · obtain ⟨a, b⟩ := h3 l hl
          exact ⟨a, fun o s h => by have := b o s h; exact ⟨by omega, this.2⟩⟩
    · have : ord.length ≤ i := by omega
      rw [numT_over this]
      exact ⟨rfl, by simp; omega, fun l h => by cases h⟩
/-- a machine's table -/
structure MTab (R : Nat) (Q : List W → Prop) (M : List (List Pl)) : Prop where
  ok : TabOk M
  wide : ∀ l ∈ M, l.length = R
  out : ∀ l ∈ M, ∀ o s, some (o, s) ∈ l → Q o
  go : numGo 1 0 (M.map fun l => l.map nxP) = true
theorem numT_le {T : List (List Pl)} : ∀ {k i : Nat} {ord : List Nat}, (numT T ord i k).length ≤ k
  | 0, _, _ => Nat.le_refl _
  | k + 1, i, ord => by
    rw [numT]
    split
    · rw [List.length_cons]; have := numT_le (T := T) (k := k) (i := i + 1) (ord := (numL ord (lineAt T (ord[i]?.getD 0))).1); omega
    · have := numT_le (T := T) (k := k) (i := i + 1) (ord := ord); omega
theorem num_ok {T : List (List Pl)} {R : Nat} {Q : List W → Prop} (ok : TabOk T) (hR : ∀ l ∈ T, l.length = R) (hQ : ∀ l ∈ T, ∀ o s, some (o, s) ∈ l → Q o) : MTab R Q (num T) := by
  obtain ⟨h1, h2, h3⟩ := numT_all ok hR hQ (k := T.length) (i := 0) (ord := [0]) ⟨by simp, fun s hs => by rw [List.mem_singleton] at hs; subst hs; exact ok.pos⟩ (Nat.zero_le _) (by omega)
  have le := numT_le (T := T) (k := T.length) (i := 0) (ord := [0])
  refine ⟨⟨?_, ?_, ?_, ?_⟩, fun l hl => (h3 l hl).1, fun l hl o s h => ((h3 l hl).2 o s h).2, h1⟩
  · show 0 < (numT T [0] 0 T.length).length
    simp at h2; omega
  · show (numT T [0] 0 T.length).length ≤ 500
    have := ok.few; omega
  · intro l hl
    rw [(h3 l hl).1]
    have := ok.pos
    rw [← hR _ (lineAt_mem ok.pos).1]
    exact ok.wid _ (lineAt_mem ok.pos).1
  · intro l hl o s h
    have := ((h3 l hl).2 o s h).1
    show s < (numT T [0] 0 T.length).length
    omega
end Z
set_option Elab.async false
set_option linter.all false
set_option maxRecDepth 100000
set_option maxHeartbeats 1000000
/-! M10: is_machine of the law's machines -/
namespace Z
open PySem L2
def mach (R : List W) (T : List (List Pl)) : W := .tup [.tup R, .tup (T.map encL)]
theorem ent_enc {p : Pl} {m : Nat} (h : ∀ o s, p = some (o, s) → s < m) : entB (encP p) m = true := by
  cases p with
  | none => rfl
  | some q =>
    obtain ⟨o, s⟩ := q
    have := h o s rfl
    show (isTup (.tup o) && isWhole (.int s) 0 ((m : Int) - 1)) = true
    unfold isWhole
    simp only [isTup, Bool.true_and, Bool.and_eq_true, decide_eq_true_eq]
    omega
theorem lens_enc {R : List W} {T : List (List Pl)} (h : ∀ l ∈ T, l.length = R.length) : lensB R (T.map encL) = true := by
  unfold lensB
  rw [List.all_eq_true]
  intro w hw
  obtain ⟨l, hl, rfl⟩ := List.mem_map.mp hw
  rw [decide_eq_true_eq]
  show (l.map encP).length = _
  rw [List.length_map]; exact h l hl
theorem ents_enc {T : List (List Pl)} (ok : TabOk T) : entsB (T.map encL) = true := by
  unfold entsB
  rw [List.all_eq_true]
  intro w hw
  obtain ⟨l, hl, rfl⟩ := List.mem_map.mp hw
  rw [List.all_eq_true]
  intro e he
  obtain ⟨p, hp, rfl⟩ := List.mem_map.mp (show e ∈ l.map encP from he)
  rw [List.length_map]
  exact ent_enc fun o s e => ok.nxt l hl o s (e ▸ hp)
theorem nums_enc {T : List (List Pl)} : numB (T.map encL) = numGo 1 0 (T.map fun l => l.map nxP) := by
  unfold numB
  rw [List.map_map]
  congr 1
  exact List.map_congr_left fun l _ => nx_line l
theorem tups_enc {T : List (List Pl)} (h : 0 < T.length) : tupsB (.tup (T.map encL)) = true := by
  unfold tupsB
  rw [Bool.and_eq_true]
  refine ⟨?_, ?_⟩
  · cases T with
    | nil => simp at h
    | cons a r => rfl
  · rw [List.all_eq_true]
    intro w hw
    obtain ⟨l, hl, rfl⟩ := List.mem_map.mp hw
    rfl
theorem isM_enc {R : List W} {T : List (List Pl)} (hR : tupsB (.tup R) = true) (hd : difB R = true) (ok : TabOk T) (hl : ∀ l ∈ T, l.length = R.length) : isM (mach R T) = numGo 1 0 (T.map fun l => l.map nxP) := by
  show (tupsB (.tup R) && (difB R && (tupsB (.tup (T.map encL)) && (lensB R (T.map encL) && (entsB (T.map encL) && numB (T.map encL)))))) = _
  rw [hR, tups_enc ok.pos]
  show (true && (difB R && (true && (lensB R (T.map encL) && (entsB (T.map encL) && numB (T.map encL)))))) = _
  rw [hd, lens_enc hl, ents_enc ok, nums_enc]
  rfl
/-- the rows of a machine -/
structure RowsGood (R : List W) : Prop where
  ts : tupsB (.tup R) = true
  dif : difB R = true
  ok : RowsOk R
theorem entD_enc (p : Pl) : entD (encP p) = true := by
  cases p with
  | none => rfl
  | some q => rfl
theorem entD_tups {ws : List W} (h : ∀ w ∈ ws, isDat w = true) : entD (.tup ws) = true := by
  unfold entD
  rw [Bool.and_eq_true]
  exact ⟨rfl, List.all_eq_true.mpr h⟩
theorem isDat_of_tupsB {ws : List W} (h : tupsB (.tup ws) = true) : ∀ w ∈ ws, isDat w = true := by
  intro w hw
  unfold tupsB at h
  rw [Bool.and_eq_true] at h
  have := List.all_eq_true.mp h.2 w hw
  cases w with
  | tup _ => rfl
  | _ => cases this
theorem mok_enc {R : List W} {T : List (List Pl)} (g : RowsGood R) : MOk (mach R T) := by
  refine ⟨rfl, fun r t e => ?_⟩
  unfold mach at e
  simp only [W.tup.injEq, List.cons.injEq, and_true] at e
  obtain ⟨rfl, rfl⟩ := e
  refine ⟨entD_tups (isDat_of_tupsB g.ts), entD_tups fun w hw => ?_, fun _ => g.ok, fun l hl e he => ?_⟩
  · obtain ⟨l, hl, rfl⟩ := List.mem_map.mp hw; rfl
  · obtain ⟨l', hl', rfl⟩ := List.mem_map.mp (show l ∈ T.map encL from hl)
    obtain ⟨p, hp, rfl⟩ := List.mem_map.mp (show e ∈ l'.map encP from he)
    exact entD_enc p
/-- is_machine of a machine of the law -/
theorem is_machine_enc {R : List W} {T : List (List Pl)} {A : AH} (g : RowsGood R) (ok : TabOk T) (hl : ∀ l ∈ T, l.length = R.length) : ∃ A', Pre A A' ∧ X_is_machine [mach R T] A = some (.bl (numGo 1 0 (T.map fun l => l.map nxP)), A') := by
  rw [← isM_enc g.ts g.dif ok hl]
  exact is_machine_ok (mok_enc g)
/-! the rows of the law -/
def rowsList (m : Nat) : List (List W) := [
  [.tup [.bl false], .tup [.bl true]], [.tup []], [.tup [.int 0], .tup [.int 1], .tup [.int 2]],
  [.tup [.str "A", .bl true], .tup [.str "B", .bl true]], [.tup [.int 1], .tup [.bl true]],
  (rngW 0 m).map fun k => .tup [k]]
def rowsB (R : List W) : Bool := tupsB (.tup R) && (difB R && (R.all fun x => datW x && decide (szW x ≤ 1000))) && match kts R with
  | some ks => decide (ks.length < 64)
  | none => false
theorem rowsB_good {R : List W} (h : rowsB R = true) : RowsGood R := by
  unfold rowsB at h
  rw [Bool.and_eq_true, Bool.and_eq_true, Bool.and_eq_true] at h
  obtain ⟨⟨h1, h2, h3⟩, h4⟩ := h
  refine ⟨h1, h2, fun x hx => ?_, ?_⟩
  · have := List.all_eq_true.mp h3 x hx
    rw [Bool.and_eq_true, decide_eq_true_eq] at this
    exact this
  · split at h4
    · rename_i ks e
      rw [decide_eq_true_eq] at h4
      exact ⟨ks, e, h4⟩
    · cases h4
theorem rows_all : ∀ m ∈ [17, 18, 19, 20, 21, 22], ∀ R ∈ rowsList m, rowsB R = true := by decide +kernel
end Z
set_option Elab.async false
set_option linter.all false
set_option maxRecDepth 100000
set_option maxHeartbeats 1000000
/-! M11: the tape in the law's drawing: rows, menus -/
namespace Z
open PySem L2
def TapeM (n m : Nat) (A : AH) : Prop := ∃ (sc : List Int) (p c s b : Int), TS n m A sc p c s b ∧ 0 ≤ p ∧ 0 ≤ c
theorem TapeM.keep {n m : Nat} {A A' : AH} (h : TapeM n m A) (h1 : A'[n]? = A[n]?) (h2 : A'[m]? = A[m]?) : TapeM n m A' := by
  obtain ⟨sc, p, c, s, b, t, hp, hc⟩ := h
  exact ⟨sc, p, c, s, b, ⟨t.ne, by rw [h1]; exact t.at', by rw [h2]; exact t.sc'⟩, hp, hc⟩
theorem TapeM.ltn {n m : Nat} {A : AH} (h : TapeM n m A) : n < A.length := by
  obtain ⟨sc, p, c, s, b, t, _⟩ := h
  exact (List.getElem?_eq_some_iff.mp t.at').1
theorem TapeM.ltm {n m : Nat} {A : AH} (h : TapeM n m A) : m < A.length := by
  obtain ⟨sc, p, c, s, b, t, _⟩ := h
  exact (List.getElem?_eq_some_iff.mp t.sc').1
theorem TapeM.grow {n m : Nat} {A G : AH} (h : TapeM n m A) : TapeM n m (A ++ G) :=
  h.keep (List.getElem?_append_left h.ltn) (List.getElem?_append_left h.ltm)
theorem TapeM.pre {n m : Nat} {A A' : AH} (h : TapeM n m A) (p : Pre A A') : TapeM n m A' := by
  obtain ⟨G, rfl⟩ := p; exact h.grow
theorem TapeM.set {n m i : Nat} {A : AH} {x : MO} (h : TapeM n m A) (h1 : i ≠ n) (h2 : i ≠ m) : TapeM n m (A.set i x) :=
  h.keep (List.getElem?_set_ne h1) (List.getElem?_set_ne h2)
theorem take_okM {n m : Nat} {many : Int} {A : AH} (t : TapeM n m A) (h0 : 0 < many) (h1 : many < 2 ^ 64) :
    Wp (X__law_take [.loc n, .int many] A) (fun w A' => ∃ d : Nat, w = .int d ∧ (d : Int) < many ∧ Only n A A' ∧ TapeM n m A') := by
  obtain ⟨sc, p, c, s, b, t0, hp, hc⟩ := t
  show Wp (Y__law_take Y__law_mix [.loc n, .int many] A) _
  unfold Y__law_take
  refine (wp_def rfl).mpr ?_
  unfold y__law_take
  simp only [start2, List.replicate]
  refine wp_seq.mpr (Wp.mono (refill t0 hp hc _ rfl) ?_)
  rintro o A1 ⟨x3, p', c', s', rfl, t, hp', hc', ho⟩
  rw [thenS_nx]
  have i2 : atI [W.loc m, .int p', .int c', .int s', .int b] 2 = some (.int c') := rfl
  simp only [wp_seq, wp_asg1, wp_z2, wp_zB, wp_cons, wp_nil, wp_V0, wp_Vs, wp_C, wp_ixL t.at' i2, wp_int, wp_ii, thenS_nx, List.set_cons_succ, List.set_cons_zero, wp_put1, wp_ret, thenS_rt, retP_rt]
  have d0 : 0 ≤ c' % many := Int.emod_nonneg _ (by omega)
  have d1 : c' % many < many := Int.emod_lt_of_pos _ h0
  refine ⟨decide_eq_true h0, decide_eq_true ⟨h0, h1⟩, n, 2, _, 2, rfl, rfl, t.at', rfl, (c' % many).toNat, ?_, by omega, ho.set, _, _, _, _, _, t.put p' (c' / many) s' b, hp', Int.ediv_nonneg hc' (by omega)⟩
  rw [Int.toNat_of_nonneg d0]
theorem wp_take {n m : Nat} {many : Int} {E : EN} {A : AH} {ga : ZA} {P : W → AH → Prop} (e : ga E A = some ([.loc n, .int many], A)) (t : TapeM n m A) (h0 : 0 < many) (h1 : many < 2 ^ 64) (h : ∀ (d : Nat) A', (d : Int) < many → Only n A A' → TapeM n m A' → P (.int d) A') : Wp (zCall 2 X__law_take ga E A) P := by
  refine wp_call.mpr (Wp.of e ⟨rfl, Wp.mono (take_okM t h0 h1) ?_⟩)
  rintro w A' ⟨d, rfl, hd, ho, ht⟩
  exact h d A' hd ho ht
theorem wp_z2s {f g : ZE} {s : S2} {E : EN} {A : AH} {P : W → AH → Prop} (h : Wp (f E A) fun u A1 => Wp (g E A1) fun v A2 => Wp (s u v A2) P) : Wp (z2 s f g E A) P := wp_z2.mpr h
/-- (k,) for k below m, as a comprehension -/
theorem ones_ok {E : EN} {A : AH} {m : Nat} (hE : E.length = 4) (h1 : E[1]? = some (some (.int m))) (hm : m < 100) : Wp (zLc (ziRng1 (zaCons (zV 1) zaNil)) (.name 3) ztYes (zTup (zaCons (zV 3) zaNil)) [3] E A) fun u A' => u = .loc A.length ∧ A' = A ++ [.lst ((rngW 0 m).map fun k => .tup [k])] := by
  match E, hE, h1 with
  | [a, _, c, d], _, h1 =>
  simp only [List.getElem?_cons_succ, List.getElem?_cons_zero, Option.some.injEq] at h1
  subst h1
  refine wp_lcFix (ws := rngW 0 m) (A1 := A) (rng1_ok (by simp) (by omega)) (fun i acc A' => A' = A ++ [.lst acc] ∧ acc = ((rngW 0 m).take i).map fun k => .tup [k]) ⟨rfl, rfl⟩ ?_ ?_
  · rintro i w acc A' hw ⟨rfl, hacc⟩
    refine ⟨_, rfl, ?_⟩
    have hlt := (List.getElem?_eq_some_iff.mp hw).1
    have hl : acc.length ≤ m := by rw [hacc, List.length_map, List.length_take, rngW_len]; omega
    refine to_wp (w := .tup [w]) (A := A ++ [.lst acc]) ?_ ⟨by simp, big500 (by omega), by simp, ?_⟩
    · show zTup (zaCons (zV 3) zaNil) [a, some (.int m), c, some w] _ = _
      simp
    · have : w = (rngW 0 m)[i] := ((List.getElem?_eq_some_iff.mp hw).2).symm
      subst this
      rw [hacc, List.take_succ_eq_append_getElem hlt, List.map_append]
      rfl
  · rintro acc A' ⟨rfl, hacc⟩
    refine ⟨rfl, ?_⟩
    rw [hacc, List.take_length]
theorem rows_ok {n m : Nat} {A : AH} (t : TapeM n m A) : Wp (X__law_input_rows [.loc n] A) fun w A' => ∃ R, w = .tup R ∧ RowsGood R ∧ 0 < R.length ∧ R.length ≤ 22 ∧ TapeM n m A' := by
  unfold X__law_input_rows F__law_input_rows
  refine (wp_def rfl).mpr ?_
  unfold g__law_input_rows
  simp only [start1, List.replicate]
  refine wp_seq.mpr (wp_asg1.mpr (wp_z2s (Wp.of (a := .int 17) (A := A) rfl (wp_take (many := 6) (by simp) t (by decide) (by decide) fun d A1 hd ho1 t1 => ?_))))
  rw [wp_addI]
  rw [thenS_nx]
  have hk : (17 : Int) + (d : Nat) = ((17 + d : Nat) : Int) := by omega
  rw [hk]
  simp only [List.set_cons_succ, List.set_cons_zero]
  generalize hkk : 17 + d = k
  have hd' : d < 6 := by omega
  obtain ⟨u, A2, e2, rfl, rfl⟩ := ones_ok (E := [some (.loc n), some (.int (k : Nat)), none, none]) (A := A1) (m := k) rfl rfl (by omega)
  have ev : ∀ {f : ZE} {ga : ZA} {E : EN} {A : AH} {u : W} {A' : AH}, f E A = some (u, A') → zaCons f ga E A = (ga E A').map fun q => (u :: q.1, q.2) := fun h => by rw [ev_aCons, h]; rfl
  have six : (6 : Nat) ≤ sizeLine := by decide
  have e3 : sTuple [.loc A1.length] (A1 ++ [.lst ((rngW 0 k).map fun j => .tup [j])]) = some (.tup ((rngW 0 k).map fun j => .tup [j]), A1 ++ [.lst ((rngW 0 k).map fun j => .tup [j])]) := by simp [sTuple]
  have key : Wp (zLst (zaCons (zTup (zaCons (zTup (zaCons (zC (.bl false)) zaNil)) (zaCons (zTup (zaCons (zC (.bl true)) zaNil)) zaNil))) (zaCons (zTup (zaCons (zTup zaNil) zaNil)) (zaCons (zTup (zaCons (zTup (zaCons (zC (.int 0)) zaNil)) (zaCons (zTup (zaCons (zC (.int 1)) zaNil)) (zaCons (zTup (zaCons (zC (.int 2)) zaNil)) zaNil)))) (zaCons (zTup (zaCons (zTup (zaCons (zC (.str "A")) (zaCons (zC (.bl true)) zaNil))) (zaCons (zTup (zaCons (zC (.str "B")) (zaCons (zC (.bl true)) zaNil))) zaNil))) (zaCons (zTup (zaCons (zTup (zaCons (zC (.int 1)) zaNil)) (zaCons (zTup (zaCons (zC (.bl true)) zaNil)) zaNil))) (zaCons (zB sTuple (zaCons (zLc (ziRng1 (zaCons (zV 1) zaNil)) (.name 3) ztYes (zTup (zaCons (zV 3) zaNil)) [3]) zaNil)) zaNil)))))) [some (.loc n), some (.int (k : Nat)), none, none] A1) fun u A' => u = .loc (A1.length + 1) ∧ A' = A1 ++ [.lst ((rngW 0 k).map fun j => .tup [j])] ++ [.lst ((rowsList k).map .tup)] := by
    refine wp_lst.mpr ?_
    refine wp_cons.mpr (Wp.of (a := .tup [.tup [.bl false], .tup [.bl true]]) (A := A1) (by simp) ?_)
    refine wp_cons.mpr (Wp.of (a := .tup [.tup []]) (A := A1) (by simp) ?_)
    refine wp_cons.mpr (Wp.of (a := .tup [.tup [.int 0], .tup [.int 1], .tup [.int 2]]) (A := A1) (by simp) ?_)
    refine wp_cons.mpr (Wp.of (a := .tup [.tup [.str "A", .bl true], .tup [.str "B", .bl true]]) (A := A1) (by simp) ?_)
    refine wp_cons.mpr (Wp.of (a := .tup [.tup [.int 1], .tup [.bl true]]) (A := A1) (by simp) ?_)
    refine wp_cons.mpr (Wp.of (a := .tup ((rngW 0 k).map fun j => .tup [j])) (A := A1 ++ [.lst ((rngW 0 k).map fun j => .tup [j])]) (by rw [ev_B, ev_aCons, e2]; exact e3) ?_)
    refine wp_nil.mpr ⟨six, ?_, ?_⟩
    · simp
    · rfl
  refine wp_seq.mpr (wp_asg1.mpr (Wp.mono key ?_))
  rintro u A2 ⟨rfl, rfl⟩
  · rw [thenS_nx]
    simp only [List.set_cons_succ, List.set_cons_zero]
    have hlist : (A1 ++ [MO.lst ((rngW 0 k).map fun j => .tup [j])] ++ [.lst ((rowsList k).map .tup)])[A1.length + 1]? = some (.lst ((rowsList k).map .tup)) := by simp
    refine wp_ret.mpr (wp_z2s (Wp.of (a := .loc (A1.length + 1)) (A := A1 ++ [.lst ((rngW 0 k).map fun j => .tup [j])] ++ [.lst ((rowsList k).map .tup)]) rfl (wp_take (many := 6) (by simp) (t1.grow.grow) (by decide) (by decide) fun i A3 hi ho3 t3 => ?_)))
    have hne : A1.length + 1 ≠ n := by have := t1.ltn; omega
    have h6 : (rowsList k).length = 6 := rfl
    have hi' : i < (rowsList k).length := by rw [h6]; omega
    have e4 : sIx (.loc (A1.length + 1)) (.int (i : Nat)) A3 = some (.tup (rowsList k)[i], A3) := sIx_loc (by rw [ho3.2 _ hne]; exact hlist) (by rw [atI_nat, List.getElem?_map, List.getElem?_eq_getElem hi']; rfl)
    refine Wp.of e4 ⟨_, rfl, rowsB_good (rows_all k (by simp; omega) _ (List.getElem_mem hi')), ?_, ?_, t3⟩
    · have : ∀ R ∈ rowsList k, 0 < R.length := by
        intro R hR
        simp only [rowsList, List.mem_cons, List.not_mem_nil, or_false] at hR
        rcases hR with rfl | rfl | rfl | rfl | rfl | rfl <;> simp [rngW_len]
        omega
      exact this _ (List.getElem_mem hi')
    · have : ∀ R ∈ rowsList k, R.length ≤ 22 := by
        intro R hR
        simp only [rowsList, List.mem_cons, List.not_mem_nil, or_false] at hR
        rcases hR with rfl | rfl | rfl | rfl | rfl | rfl <;> simp [rngW_len]
        omega
      exact this _ (List.getElem_mem hi')
end Z
set_option Elab.async false
set_option linter.all false
set_option maxRecDepth 100000
set_option maxHeartbeats 1000000
/-! M12: the law's menus -/
namespace Z
open PySem L2
def menus : List (List (List W)) := [[[.int 0], [.int 1]], [[.bl false], [.bl true]], [[.int 0], [.int 1], [.int 2]], [[.int 1], [.bl true], [.int 0]], [[], [.int 0], [.int 0, .int 1]], [[.str "A", .int 0, .int 1], [.str "A", .int 0, .int 2], [.str "B", .int 0, .int 1]], [[.bl false, .int 0, .int 0, .int 0], [.bl false, .int 0, .int 0, .bl false], [.int 0, .int 0, .int 0, .int 0]], [[.str "On"], [.str "Off"]]]
def menuH : AH := menus.map fun o => .lst (o.map .tup)
def locsFrom (n k : Nat) : List W := (List.range k).map fun i => .loc (n + i)
theorem eight : (8 : Nat) ≤ sizeLine := by decide
theorem four : (4 ≤ sizeLine) = True := by simp; decide
theorem menu_list {n : Nat} {A : AH} : Wp ((zLst (zaCons (zLst (zaCons (zTup (zaCons (zC (.int 0)) zaNil)) (zaCons (zTup (zaCons (zC (.int 1)) zaNil)) zaNil))) (zaCons (zLst (zaCons (zTup (zaCons (zC (.bl false)) zaNil)) (zaCons (zTup (zaCons (zC (.bl true)) zaNil)) zaNil))) (zaCons (zLst (zaCons (zTup (zaCons (zC (.int 0)) zaNil)) (zaCons (zTup (zaCons (zC (.int 1)) zaNil)) (zaCons (zTup (zaCons (zC (.int 2)) zaNil)) zaNil)))) (zaCons (zLst (zaCons (zTup (zaCons (zC (.int 1)) zaNil)) (zaCons (zTup (zaCons (zC (.bl true)) zaNil)) (zaCons (zTup (zaCons (zC (.int 0)) zaNil)) zaNil)))) (zaCons (zLst (zaCons (zTup zaNil) (zaCons (zTup (zaCons (zC (.int 0)) zaNil)) (zaCons (zTup (zaCons (zC (.int 0)) (zaCons (zC (.int 1)) zaNil))) zaNil)))) (zaCons (zLst (zaCons (zTup (zaCons (zC (.str "A")) (zaCons (zC (.int 0)) (zaCons (zC (.int 1)) zaNil)))) (zaCons (zTup (zaCons (zC (.str "A")) (zaCons (zC (.int 0)) (zaCons (zC (.int 2)) zaNil)))) (zaCons (zTup (zaCons (zC (.str "B")) (zaCons (zC (.int 0)) (zaCons (zC (.int 1)) zaNil)))) zaNil)))) (zaCons (zLst (zaCons (zTup (zaCons (zC (.bl false)) (zaCons (zC (.int 0)) (zaCons (zC (.int 0)) (zaCons (zC (.int 0)) zaNil))))) (zaCons (zTup (zaCons (zC (.bl false)) (zaCons (zC (.int 0)) (zaCons (zC (.int 0)) (zaCons (zC (.bl false)) zaNil))))) (zaCons (zTup (zaCons (zC (.int 0)) (zaCons (zC (.int 0)) (zaCons (zC (.int 0)) (zaCons (zC (.int 0)) zaNil))))) zaNil)))) (zaCons (zLst (zaCons (zTup (zaCons (zC (.str "On")) zaNil)) (zaCons (zTup (zaCons (zC (.str "Off")) zaNil)) zaNil))) zaNil))))))))) [some (.loc n), none] A) fun u A' => u = .loc (A.length + 8) ∧ A' = A ++ menuH ++ [.lst (locsFrom A.length 8)] := by
  refine wp_lst.mpr ?_
  refine wp_cons.mpr (Wp.of (a := .loc (A.length + 0)) (A := A ++ [.lst [.tup [.int 0], .tup [.int 1]]]) (by simp [four]) ?_)
  refine wp_cons.mpr (Wp.of (a := .loc (A.length + 1)) (A := A ++ [.lst [.tup [.int 0], .tup [.int 1]], .lst [.tup [.bl false], .tup [.bl true]]]) (by simp [four]) ?_)
  refine wp_cons.mpr (Wp.of (a := .loc (A.length + 2)) (A := A ++ [.lst [.tup [.int 0], .tup [.int 1]], .lst [.tup [.bl false], .tup [.bl true]], .lst [.tup [.int 0], .tup [.int 1], .tup [.int 2]]]) (by simp [four]) ?_)
  refine wp_cons.mpr (Wp.of (a := .loc (A.length + 3)) (A := A ++ [.lst [.tup [.int 0], .tup [.int 1]], .lst [.tup [.bl false], .tup [.bl true]], .lst [.tup [.int 0], .tup [.int 1], .tup [.int 2]], .lst [.tup [.int 1], .tup [.bl true], .tup [.int 0]]]) (by simp [four]) ?_)
  refine wp_cons.mpr (Wp.of (a := .loc (A.length + 4)) (A := A ++ [.lst [.tup [.int 0], .tup [.int 1]], .lst [.tup [.bl false], .tup [.bl true]], .lst [.tup [.int 0], .tup [.int 1], .tup [.int 2]], .lst [.tup [.int 1], .tup [.bl true], .tup [.int 0]], .lst [.tup [], .tup [.int 0], .tup [.int 0, .int 1]]]) (by simp [four]) ?_)
  refine wp_cons.mpr (Wp.of (a := .loc (A.length + 5)) (A := A ++ [.lst [.tup [.int 0], .tup [.int 1]], .lst [.tup [.bl false], .tup [.bl true]], .lst [.tup [.int 0], .tup [.int 1], .tup [.int 2]], .lst [.tup [.int 1], .tup [.bl true], .tup [.int 0]], .lst [.tup [], .tup [.int 0], .tup [.int 0, .int 1]], .lst [.tup [.str "A", .int 0, .int 1], .tup [.str "A", .int 0, .int 2], .tup [.str "B", .int 0, .int 1]]]) (by simp [four]) ?_)
  refine wp_cons.mpr (Wp.of (a := .loc (A.length + 6)) (A := A ++ [.lst [.tup [.int 0], .tup [.int 1]], .lst [.tup [.bl false], .tup [.bl true]], .lst [.tup [.int 0], .tup [.int 1], .tup [.int 2]], .lst [.tup [.int 1], .tup [.bl true], .tup [.int 0]], .lst [.tup [], .tup [.int 0], .tup [.int 0, .int 1]], .lst [.tup [.str "A", .int 0, .int 1], .tup [.str "A", .int 0, .int 2], .tup [.str "B", .int 0, .int 1]], .lst [.tup [.bl false, .int 0, .int 0, .int 0], .tup [.bl false, .int 0, .int 0, .bl false], .tup [.int 0, .int 0, .int 0, .int 0]]]) (by simp [four]) ?_)
  refine wp_cons.mpr (Wp.of (a := .loc (A.length + 7)) (A := A ++ [.lst [.tup [.int 0], .tup [.int 1]], .lst [.tup [.bl false], .tup [.bl true]], .lst [.tup [.int 0], .tup [.int 1], .tup [.int 2]], .lst [.tup [.int 1], .tup [.bl true], .tup [.int 0]], .lst [.tup [], .tup [.int 0], .tup [.int 0, .int 1]], .lst [.tup [.str "A", .int 0, .int 1], .tup [.str "A", .int 0, .int 2], .tup [.str "B", .int 0, .int 1]], .lst [.tup [.bl false, .int 0, .int 0, .int 0], .tup [.bl false, .int 0, .int 0, .bl false], .tup [.int 0, .int 0, .int 0, .int 0]], .lst [.tup [.str "On"], .tup [.str "Off"]]]) (by simp [four]) ?_)
  refine wp_nil.mpr ⟨eight, ?_, ?_⟩
  · simp
  · rfl
theorem menus_len : ∀ o ∈ menus, 2 ≤ o.length ∧ o.length ≤ 3 := by decide
theorem menus_dat : ∀ o ∈ menus, ∀ x ∈ o, datWs x = true ∧ x.length ≤ 4 := by decide +kernel
theorem wp_take1 {n m : Nat} {many : Int} {E : EN} {A : AH} {ga : ZA} {P : W → AH → Prop} (e : Wp (ga E A) fun us A' => us = [.loc n, .int many] ∧ A' = A) (t : TapeM n m A) (h0 : 0 < many) (h1 : many < 2 ^ 64) (h : ∀ (d : Nat) A', (d : Int) < many → Only n A A' → TapeM n m A' → P (.int d) A') : Wp (zCall 2 X__law_take ga E A) P := by
  obtain ⟨us, A', e, rfl, rfl⟩ := e
  exact wp_take e t h0 h1 h
theorem menu_ok {n m : Nat} {A : AH} (t : TapeM n m A) : Wp (X__law_menu [.loc n] A) fun w A' => ∃ (c : Nat) (outs : List (List W)), w = .loc c ∧ A'[c]? = some (.lst (outs.map .tup)) ∧ outs ∈ menus ∧ c ≠ n ∧ c ≠ m ∧ TapeM n m A' := by
  unfold X__law_menu F__law_menu
  refine (wp_def rfl).mpr ?_
  unfold g__law_menu
  simp only [start1, List.replicate]
  refine wp_seq.mpr (wp_asg1.mpr (Wp.mono menu_list ?_))
  rintro u A1 ⟨rfl, rfl⟩
  rw [thenS_nx]
  simp only [List.set_cons_succ, List.set_cons_zero]
  have h8 : menuH.length = 8 := rfl
  have hl : (A ++ menuH ++ [MO.lst (locsFrom A.length 8)])[A.length + 8]? = some (.lst (locsFrom A.length 8)) := by
    rw [List.getElem?_append_right (by rw [List.length_append, h8]; omega), List.length_append, h8, Nat.sub_self]; rfl
  have hlen : sLen [.loc (A.length + 8)] (A ++ menuH ++ [MO.lst (locsFrom A.length 8)]) = some (.int 8, A ++ menuH ++ [MO.lst (locsFrom A.length 8)]) := by
    unfold sLen itemsW; simp only [hl, Option.map_some]; rfl
  refine wp_ret.mpr (wp_z2s (Wp.of (a := .loc (A.length + 8)) (A := A ++ menuH ++ [MO.lst (locsFrom A.length 8)]) rfl (wp_take (many := 8) ?_ t.grow.grow (by decide) (by decide) fun i A3 hi ho3 t3 => ?_)))
  · simp only [ev_aCons, ev_V0, ev_V1, ev_aNil, ev_B, Option.bind_some, Option.map_some, hlen]
  · have hn := t.ltn
    have hm := t.ltm
    have hi' : i < menus.length := by show i < 8; omega
    have e4 : sIx (.loc (A.length + 8)) (.int (i : Nat)) A3 = some (.loc (A.length + i), A3) := sIx_loc (by rw [ho3.2 _ (by omega)]; exact hl) (by rw [atI_nat]; unfold locsFrom; rw [List.getElem?_map, List.getElem?_range (show i < 8 from hi')]; rfl)
    refine Wp.of e4 ⟨A.length + i, menus[i], rfl, ?_, List.getElem_mem hi', by omega, by omega, t3⟩
    rw [ho3.2 _ (by omega), List.getElem?_append_left (by rw [List.length_append, h8]; omega), List.getElem?_append_right (by omega), show A.length + i - A.length = i from by omega]
    unfold menuH
    rw [List.getElem?_map, List.getElem?_eq_getElem hi']
    rfl
end Z
set_option Elab.async false
set_option linter.all false
set_option maxRecDepth 100000
set_option maxHeartbeats 1000000
/-! M13: the law's machine -/
namespace Z
open PySem L2
theorem Only.trans {n : Nat} {A B C : AH} (h : Only n A B) (k : Only n B C) : Only n A C := ⟨k.1.trans h.1, fun i hi => (k.2 i hi).trans (h.2 i hi)⟩
section
variable {n m c : Nat} {E : EN} {A : AH} {outs : List (List W)} {B : Bool → AH → Prop} {P : W → AH → Prop} {ga : ZA} {many : Int}
theorem wp_takeEq (e : ga E A = some ([.loc n, .int many], A)) (t : TapeM n m A) (h0 : 0 < many) (h1 : many < 2 ^ 64) (h : ∀ (b : Bool) A', Only n A A' → TapeM n m A' → B b A') : Wp (zBl (z2 sEq (zCall 2 X__law_take ga) (zC (.int 0))) E A) B := by
  refine wp_bl.mpr (wp_z2s (wp_take e t h0 h1 fun d A' hd ho t' => wp_C.mpr (Wp.of sEq_int ⟨_, rfl, h _ A' ho t'⟩)))
theorem menu_at {i : Nat} (h : A[c]? = some (.lst (outs.map .tup))) (hi : i < outs.length) : sIx (.loc c) (.int (i : Nat)) A = some (.tup outs[i], A) :=
  sIx_loc h (by rw [atI_nat, List.getElem?_map, List.getElem?_eq_getElem hi]; rfl)
end
theorem shown_ok {n m c s : Nat} {A : AH} {outs : List (List W)} {r f k tl ll x8 x9 x10 : Option W} (t : TapeM n m A) (hc : A[c]? = some (.lst (outs.map .tup))) (hcn : c ≠ n) (h2 : 2 ≤ outs.length) (h3 : outs.length ≤ 3) :
    Wp ((zIf (zBl (z2 sEq (zCall 2 X__law_take (zaCons (zV 0) (zaCons (zC (.int 3)) zaNil))) (zC (.int 0)))) (z2 sIx (zV 3) (zCall 2 X__law_take (zaCons (zV 0) (zaCons (zB sLen (zaCons (zV 3) zaNil)) zaNil)))) (z2 sIx (zV 3) (z2 sMod (zB sInt (zaCons (zV 6) zaNil)) (zC (.int 2))))) [some (.loc n), r, f, some (.loc c), k, tl, some (.int (s : Nat)), ll, x8, x9, x10] A) fun w A' => ∃ o ∈ outs, w = .tup o ∧ Only n A A' ∧ TapeM n m A' := by
  refine wp_if.mpr (wp_takeEq (many := 3) (by simp) t (by decide) (by decide) fun b A1 ho t1 => ⟨fun _ => ?_, fun _ => ?_⟩)
  · have hc1 : A1[c]? = some (.lst (outs.map .tup)) := by rw [ho.2 c hcn]; exact hc
    have hlen : sLen [.loc c] A1 = some (.int outs.length, A1) := by unfold sLen itemsW; simp only [hc1, Option.map_some, List.length_map]
    refine wp_z2s (Wp.of (a := .loc c) (A := A1) (by simp) (wp_take (many := outs.length) (by simp [hlen]) t1 (by omega) (by omega) fun i A2 hi ho2 t2 => ?_))
    have hi' : i < outs.length := by omega
    exact Wp.of (menu_at (by rw [ho2.2 c hcn]; exact hc1) hi') ⟨_, List.getElem_mem hi', rfl, ho.trans ho2, t2⟩
  · have hc1 : A1[c]? = some (.lst (outs.map .tup)) := by rw [ho.2 c hcn]; exact hc
    have hi' : s % 2 < outs.length := by omega
    refine wp_z2s (Wp.of (a := .loc c) (A := A1) (by simp) (Wp.of (a := .int ((s % 2 : Nat) : Int)) (A := A1) ?_ ?_))
    · have : ((s % 2 : Nat) : Int) = (s : Int) % 2 := by omega
      rw [this]
      simp [sInt, sMod]
    · exact Wp.of (menu_at hc1 hi') ⟨_, List.getElem_mem hi', rfl, ho, t1⟩
end Z
set_option Elab.async false
set_option linter.all false
set_option maxRecDepth 100000
set_option maxHeartbeats 1000000
/-! M14: the law's machine, its loops -/
namespace Z
open PySem L2
def LineOk (k : Nat) (outs : List (List W)) (l : List Pl) : Prop := ∀ o s, some (o, s) ∈ l → s < k ∧ o ∈ outs
/-- what the drawing of a machine keeps -/
structure HM (n m c tl : Nat) (outs : List (List W)) (T : List (List Pl)) (A : AH) : Prop where
  t : TapeM n m A
  hc : A[c]? = some (.lst (outs.map .tup))
  ht : A[tl]? = some (.lst (T.map encL))
structure NE (n m c tl : Nat) : Prop where
  cn : c ≠ n
  tn : tl ≠ n
  tm : tl ≠ m
  tc : tl ≠ c
def mBody : ZS := zsSeq (zsAsg (zIf (zBl (z2 sEq (zCall 2 X__law_take (zaCons (zV 0) (zaCons (zC (.int 3)) zaNil))) (zC (.int 0)))) (z2 sIx (zV 3) (zCall 2 X__law_take (zaCons (zV 0) (zaCons (zB sLen (zaCons (zV 3) zaNil)) zaNil)))) (z2 sIx (zV 3) (z2 sMod (zB sInt (zaCons (zV 6) zaNil)) (zC (.int 2))))) (.name 9)) (zsSeq (zsAsg (zCall 2 X__law_take (zaCons (zV 0) (zaCons (zV 4) zaNil))) (.name 10)) (zsDrop (zM isLstB sAppend (zV 7) (zaCons (zIf (tzAnd (zTru (zV 2)) (zBl (z2 sEq (zCall 2 X__law_take (zaCons (zV 0) (zaCons (zC (.int 14)) zaNil))) (zC (.int 0))))) (zC .non) (zTup (zaCons (zV 9) (zaCons (zV 10) zaNil)))) zaNil))))
/-- one line -/
theorem mline_ok {n m c tl ll k s : Nat} {R : List W} {f : Bool} {outs : List (List W)} {T : List (List Pl)} {A : AH} {x8 x9 x10 : Option W} (ne : NE n m c tl) (l1 : ll ≠ n) (l2 : ll ≠ m) (l3 : ll ≠ c) (l4 : ll ≠ tl) (h : HM n m c tl outs T A) (hl : A[ll]? = some (.lst [])) (k0 : 0 < k) (k1 : k ≤ 500) (hR : R.length ≤ 500) (h2 : 2 ≤ outs.length) (h3 : outs.length ≤ 3) :
    Wp (zsFor (ziSeq (zV 1)) (.name 8) mBody [some (.loc n), some (.tup R), some (.bl f), some (.loc c), some (.int (k : Nat)), some (.loc tl), some (.int (s : Nat)), some (.loc ll), x8, x9, x10] A) fun o A' => ∃ y8 y9 y10 line, o = .nx [some (.loc n), some (.tup R), some (.bl f), some (.loc c), some (.int (k : Nat)), some (.loc tl), some (.int (s : Nat)), some (.loc ll), y8, y9, y10] ∧ HM n m c tl outs T A' ∧ A'[ll]? = some (.lst (line.map encP)) ∧ line.length = R.length ∧ LineOk k outs line := by
  refine wp_forFix (ws := R) (A1 := A) (by simp [ziSeq]) (fun j E A' => ∃ (y8 y9 y10 : Option W) (line : List Pl), E = [some (.loc n), some (.tup R), some (.bl f), some (.loc c), some (.int (k : Nat)), some (.loc tl), some (.int (s : Nat)), some (.loc ll), y8, y9, y10] ∧ HM n m c tl outs T A' ∧ A'[ll]? = some (.lst (line.map encP)) ∧ line.length = j ∧ LineOk k outs line)
    ⟨x8, x9, x10, [], rfl, h, hl, rfl, fun o s hh => by cases hh⟩ ?_ ?_
  · rintro j w E A' hw ⟨y8, y9, y10, line, rfl, hm, hll, hlen, hok⟩
    have hj := (List.getElem?_eq_some_iff.mp hw).1
    refine ⟨_, rfl, ?_⟩
    simp only [List.set_cons_succ, List.set_cons_zero]
    unfold mBody
    refine wp_seq.mpr (wp_asg1.mpr (Wp.mono (shown_ok hm.t hm.hc ne.cn h2 h3) ?_))
    rintro u A1 ⟨o, ho, rfl, on1, t1⟩
    rw [thenS_nx]
    simp only [List.set_cons_succ, List.set_cons_zero]
    refine wp_seq.mpr (wp_asg1.mpr (wp_take (many := (k : Nat)) (by simp) t1 (by omega) (by omega) fun d A2 hd on2 t2 => ?_))
    rw [thenS_nx]
    simp only [List.set_cons_succ, List.set_cons_zero]
    have on12 := on1.trans on2
    have app : ∀ {A3 : AH} {p : Pl}, Only n A' A3 → TapeM n m A3 → (∀ o s, p = some (o, s) → s < k ∧ o ∈ outs) → Wp (sAppend (.loc ll) [encP p] A3) fun _ A' => ∃ (z8 z9 z10 : Option W) (line' : List Pl), [some (W.loc n), some (.tup R), some (.bl f), some (.loc c), some (.int (k : Nat)), some (.loc tl), some (.int (s : Nat)), some (.loc ll), some w, some (.tup o), some (.int (d : Nat))] = [some (W.loc n), some (.tup R), some (.bl f), some (.loc c), some (.int (k : Nat)), some (.loc tl), some (.int (s : Nat)), some (.loc ll), z8, z9, z10] ∧ HM n m c tl outs T A' ∧ A'[ll]? = some (.lst (line'.map encP)) ∧ line'.length = j + 1 ∧ LineOk k outs line' := by
      intro A3 p on t3 hp
      have g3 : A3[ll]? = some (.lst (line.map encP)) := by rw [on.2 _ l1]; exact hll
      have lb : (line.map encP).length < sizeLine := by rw [List.length_map, hlen]; exact big500 (by omega)
      refine Wp.of (a := .non) (A := A3.set ll (.lst (line.map encP ++ [encP p]))) (by simp only [sAppend, g3, if_pos lb]) ⟨_, _, _, line ++ [p], rfl, ⟨t3.set l1 l2, ?_, ?_⟩, ?_, by rw [List.length_append, hlen]; rfl, ?_⟩
      · rw [List.getElem?_set_ne l3, on.2 _ ne.cn]; exact hm.hc
      · rw [List.getElem?_set_ne l4, on.2 _ ne.tn]; exact hm.ht
      · rw [List.getElem?_set_self (List.getElem?_eq_some_iff.mp g3).1, List.map_append]; rfl
      · intro o s hh
        rcases List.mem_append.mp hh with hh | hh
        · exact hok o s hh
        · rw [List.mem_singleton] at hh; exact hp o s hh.symm
    have g2 : A2[ll]? = some (.lst (line.map encP)) := by rw [on12.2 _ l1]; exact hll
    refine wp_drop.mpr (wp_zM.mpr (Wp.of (a := .loc ll) (A := A2) (by simp) ⟨by simp [isLstB, g2], wp_cons.mpr (wp_if.mpr (wp_tzAnd.mpr ?_))⟩))
    refine to_wp' (b := f) (A := A2) (by simp) ⟨fun hf => ?_, fun hf => ?_⟩
    · refine wp_takeEq (many := 14) (by simp) t2 (by decide) (by decide) fun b A3 on3 t3 => ⟨fun _ => ?_, fun _ => ?_⟩
      · exact wp_C.mpr (wp_nil.mpr (app (p := none) (on12.trans on3) t3 (fun _ _ e => by cases e)))
      · exact Wp.of (a := encP (some (o, d))) (A := A3) (by simp [encP]) (wp_nil.mpr (app (p := some (o, d)) (on12.trans on3) t3 (fun _ _ e => by cases e; exact ⟨by omega, ho⟩)))
    · exact ⟨fun h => (by cases h), fun _ => Wp.of (a := encP (some (o, d))) (A := A2) (by simp [encP]) (wp_nil.mpr (app (p := some (o, d)) on12 t2 (fun _ _ e => by cases e; exact ⟨by omega, ho⟩)))⟩
  · rintro E A' ⟨y8, y9, y10, line, rfl, hm, hll, hlen, hok⟩
    exact ⟨y8, y9, y10, line, rfl, hm, hll, hlen, hok⟩
end Z
set_option Elab.async false
set_option linter.all false
set_option maxRecDepth 100000
set_option maxHeartbeats 1000000
/-! M15: the law's machine -/
namespace Z
open PySem L2
theorem start4 {N : Nat} {a b c d : W} : start0 (N + 4) [a, b, c, d] = some a :: some b :: some c :: some d :: List.replicate N none := by simp [start0]
theorem machine_ok {n m c : Nat} {R : List W} {f : Bool} {outs : List (List W)} {A : AH} (t : TapeM n m A) (hc : A[c]? = some (.lst (outs.map .tup))) (cn : c ≠ n) (hR : R.length ≤ 500) (h2 : 2 ≤ outs.length) (h3 : outs.length ≤ 3) :
    Wp (X__law_machine [.loc n, .tup R, .bl f, .loc c] A) fun w A' => ∃ M, w = mach R M ∧ MTab R.length (· ∈ outs) M ∧ M.length ≤ 7 ∧ TapeM n m A' := by
  unfold X__law_machine F__law_machine
  refine (wp_def rfl).mpr ?_
  unfold g__law_machine
  simp only [start4, List.replicate]
  refine wp_seq.mpr (wp_asg1.mpr (wp_z2s (Wp.of (a := .int 1) (A := A) rfl (wp_take (many := 7) (by simp) t (by decide) (by decide) fun d A1 hd on1 t1 => ?_))))
  rw [wp_addI]
  rw [thenS_nx]
  have hk : (1 : Int) + (d : Nat) = ((1 + d : Nat) : Int) := by omega
  rw [hk]
  simp only [List.set_cons_succ, List.set_cons_zero]
  generalize hkk : 1 + d = k
  have k0 : 0 < k := by omega
  have k1 : k ≤ 7 := by omega
  have hc1 : A1[c]? = some (.lst (outs.map .tup)) := by rw [on1.2 _ cn]; exact hc
  have cl : c < A1.length := (List.getElem?_eq_some_iff.mp hc1).1
  have ne : NE n m c A1.length := ⟨cn, by have := t1.ltn; omega, by have := t1.ltm; omega, by omega⟩
  refine wp_seq.mpr (wp_asg1.mpr (Wp.of (a := .loc A1.length) (A := A1 ++ [.lst []]) (by simp) ?_))
  rw [thenS_nx]
  simp only [List.set_cons_succ, List.set_cons_zero]
  refine wp_seq.mpr (wp_forFix (ws := rngW 0 k) (A1 := A1 ++ [.lst []]) (rng1_ok (by simp) (by omega)) (fun i E A' => ∃ (x6 x7 x8 x9 x10 : Option W) (T : List (List Pl)), E = [some (.loc n), some (.tup R), some (.bl f), some (.loc c), some (.int (k : Nat)), some (.loc A1.length), x6, x7, x8, x9, x10] ∧ HM n m c A1.length outs T A' ∧ T.length = i ∧ ∀ l ∈ T, l.length = R.length ∧ LineOk k outs l)
    ⟨none, none, none, none, none, [], rfl, ⟨t1.grow, by rw [List.getElem?_append_left cl]; exact hc1, by simp⟩, rfl, fun l hl => by cases hl⟩ ?_ ?_)
  · rintro i w E A' hw ⟨x6, x7, x8, x9, x10, T, rfl, hm, hT, hall⟩
    obtain ⟨hlt, rfl⟩ := rngW_get hw
    have i4 : (0 : Int) + (i : Nat) = (i : Nat) := by omega
    rw [i4]
    refine ⟨_, rfl, ?_⟩
    simp only [List.set_cons_succ, List.set_cons_zero]
    have tl : A1.length < A'.length := (List.getElem?_eq_some_iff.mp hm.ht).1
    have cl' : c < A'.length := (List.getElem?_eq_some_iff.mp hm.hc).1
    refine wp_seq.mpr (wp_asg1.mpr (Wp.of (a := .loc A'.length) (A := A' ++ [.lst []]) (by simp) ?_))
    rw [thenS_nx]
    simp only [List.set_cons_succ, List.set_cons_zero]
    refine wp_seq.mpr (Wp.mono (mline_ok (s := i) (k := k) (R := R) (f := f) (T := T) (outs := outs) (ll := A'.length) ne (by have := hm.t.ltn; omega) (by have := hm.t.ltm; omega) (by omega) (by omega) ⟨hm.t.grow, by rw [List.getElem?_append_left cl']; exact hm.hc, by rw [List.getElem?_append_left tl]; exact hm.ht⟩ (by simp) k0 (by omega) hR h2 h3) ?_)
    rintro o A2 ⟨y8, y9, y10, line, rfl, hm2, hll, hlen, hok⟩
    rw [thenS_nx]
    have e1 : sTuple [.loc A'.length] A2 = some (encL line, A2) := by simp [sTuple, hll, encL]
    have lb : (T.map encL).length < sizeLine := by rw [List.length_map, hT]; exact big500 (by omega)
    refine wp_drop.mpr (wp_zM.mpr (Wp.of (a := .loc A1.length) (A := A2) (by simp) ⟨by simp [isLstB, hm2.ht], wp_cons.mpr (Wp.of (a := encL line) (A := A2) (by simp [e1]) (wp_nil.mpr (Wp.of (a := .non) (A := A2.set A1.length (.lst (T.map encL ++ [encL line]))) (by simp only [sAppend, hm2.ht, if_pos lb]) ?_)))⟩))
    refine ⟨_, _, _, _, _, T ++ [line], rfl, ⟨hm2.t.set ne.tn ne.tm, ?_, ?_⟩, by rw [List.length_append, hT]; rfl, ?_⟩
    · rw [List.getElem?_set_ne ne.tc]; exact hm2.hc
    · rw [List.getElem?_set_self (List.getElem?_eq_some_iff.mp hm2.ht).1, List.map_append]; rfl
    · intro l hl
      rcases List.mem_append.mp hl with hl | hl
      · exact hall l hl
      · rw [List.mem_singleton] at hl; subst hl; exact ⟨hlen, hok⟩
  · rintro E A' ⟨x6, x7, x8, x9, x10, T, rfl, hm, hT, hall⟩
    rw [rngW_len] at hT
    rw [thenS_nx]
    have ok : TabOk T := ⟨by omega, by omega, fun l hl => by rw [(hall l hl).1]; exact hR, fun l hl o s h => by rw [hT]; exact ((hall l hl).2 o s h).1⟩
    obtain ⟨A2, pr, e⟩ := numbered_ok (rows := .tup R) hm.ht ok
    refine wp_ret.mpr (wp_call.mpr (Wp.of (a := [.tup R, .loc A1.length]) (A := A') (by simp) ⟨rfl, Wp.of e ?_⟩))
    exact ⟨num T, rfl, num_ok ok (fun l hl => (hall l hl).1) (fun l hl o s h => ((hall l hl).2 o s h).2), (by have := numT_le (T := T) (k := T.length) (i := 0) (ord := [0]); show (numT T [0] 0 T.length).length ≤ 7; omega), hm.t.pre pr⟩
end Z
set_option Elab.async false
set_option linter.all false
set_option maxRecDepth 100000
set_option maxHeartbeats 1000000
/-! M16: values that are no machines -/
namespace Z
open PySem L2
theorem cut_last {ws : List W} : cutW ws (some (-1)) none = ws.drop (ws.length - 1) := by
  unfold cutW HT.sIx
  simp only [show ((-1 : Int) < 0) from by decide, if_true]
  rw [show ((-1 : Int) + (ws.length : Int)).toNat = ws.length - 1 from by omega]
  exact List.take_of_length_le (by rw [List.length_drop]; omega)
theorem cut_init {ws : List W} : cutW ws none (some (-1)) = ws.take (ws.length - 1) := by
  unfold cutW HT.sIx
  simp only [show ((-1 : Int) < 0) from by decide, if_true, List.drop_zero, Nat.sub_zero]
  rw [show ((-1 : Int) + (ws.length : Int)).toNat = ws.length - 1 from by omega]
theorem cut_tail {ws : List W} : cutW ws (some 1) none = ws.drop 1 := by
  unfold cutW HT.sIx
  simp only [show ¬ ((1 : Int) < 0) from by decide, if_false]
  cases ws with
  | nil => rfl
  | cons a r =>
    rw [show min (1 : Int).toNat (a :: r).length = 1 from by simp]
    exact List.take_of_length_le (by rw [List.length_drop]; exact Nat.le_refl _)
def badE (R Tw l0 : List W) (e : W) : W := .tup [.tup R, .tup ([.tup (l0.take (l0.length - 1) ++ [e])] ++ Tw.drop 1)]
def lastTw (Tw : List W) : W := (Tw[Tw.length - 1]?).getD .non
def bads (R Tw l0 : List W) : List W := [
  .tup [.tup R], .tup [.tup R, .tup Tw, .int 0], .tup [.tup R, .tup []], .tup [.tup [], .tup Tw],
  .tup [.tup (R ++ R.drop (R.length - 1)), .tup (Tw.map fun x => .tup (tups x ++ (tups x).drop ((tups x).length - 1)))],
  .tup [.tup R, .tup (Tw.take (Tw.length - 1) ++ [.tup ((tups (lastTw Tw)).drop 1)])],
  .tup [.tup R, .tup (Tw ++ [.tup l0])],
  badE R Tw l0 (.tup [.tup [.int 0], .int Tw.length]), badE R Tw l0 (.tup [.tup [.int 0], .int (-1)]), badE R Tw l0 (.tup [.tup [.int 0], .bl true]),
  badE R Tw l0 (.tup [.int 0, .int 0]), badE R Tw l0 (.tup [.tup [.int 0]]),
  .str "machine", .non, .tup [], .tup [.tup R, .str "table"], .tup [.tup ([.int 0] ++ R.drop 1), .tup Tw], badE R Tw l0 (.str ""), .tup [.tup R, .tup ([.int 5] ++ Tw.drop 1)]]
/-- what is shown of each of them -/
def BadOk (v : W) : Prop := MOk v ∧ isM v = false
theorem isM_pair (r t : W) : isM (.tup [r, t]) = (tupsB r && (difB (tups r) && (tupsB t && (lensB (tups r) (tups t) && (entsB (tups t) && numB (tups t)))))) := rfl
theorem bad_np {v : W} (hd : isDat v = true) (h : ∀ r t, v ≠ .tup [r, t]) (hm : isM v = false) : BadOk v := ⟨⟨hd, fun r t e => absurd e (h r t)⟩, hm⟩
theorem bad_pair {r t : W} (hr : entD r = true) (ht : entD t = true) (ro : tupsB r = true → RowsOk (tups r)) (he : ∀ l ∈ tups t, ∀ e ∈ tups l, entD e = true) (hf : tupsB r = false ∨ difB (tups r) = false ∨ tupsB t = false ∨ lensB (tups r) (tups t) = false ∨ entsB (tups t) = false ∨ numB (tups t) = false) : BadOk (.tup [r, t]) := by
  refine ⟨⟨rfl, fun r' t' e => ?_⟩, ?_⟩
  · simp only [W.tup.injEq, List.cons.injEq, and_true] at e
    obtain ⟨rfl, rfl⟩ := e
    exact ⟨hr, ht, ro, he⟩
  · rw [isM_pair]
    rcases hf with h | h | h | h | h | h <;> simp [h]
theorem numLine_le {N : Int} : ∀ {l : List (Option Int)} {met m : Int}, (∀ s, some s ∈ l → s < N) → met ≤ N → numLine met l = some m → m ≤ N
  | [], met, m, _, h, e => by cases e; exact h
  | none :: r, met, m, hl, h, e => numLine_le (l := r) (fun s hs => hl s (List.mem_cons_of_mem _ hs)) h e
  | some s :: r, met, m, hl, h, e => by
    rw [numLine_cons] at e
    have hs := hl s List.mem_cons_self
    split at e
    · split at e
      · cases e
      · exact numLine_le (l := r) (fun s hs => hl s (List.mem_cons_of_mem _ hs)) (by omega) e
    · exact numLine_le (l := r) (fun s hs => hl s (List.mem_cons_of_mem _ hs)) h e
theorem numGo_extra {N : Int} {x : List (Option Int)} : ∀ {T : List (List (Option Int))} {met s : Int}, (∀ l ∈ T, ∀ s, some s ∈ l → s < N) → met ≤ N → s + T.length = N → numGo met s (T ++ [x]) = false
  | [], met, s, _, h, e => by
    show numGo met s [x] = false
    simp only [List.length_nil] at e
    rw [numGo_cons, if_pos (by omega)]
  | l :: r, met, s, hl, h, e => by
    rw [List.cons_append, numGo_cons]
    simp only [List.length_cons] at e
    split
    · rfl
    · split
      · rfl
      · rename_i m hm
        exact numGo_extra (T := r) (fun l' h' => hl l' (List.mem_cons_of_mem _ h')) (numLine_le (hl l List.mem_cons_self) h hm) (by omega)
theorem keyTs_snoc {w : W} : ∀ {ws : List W} {ks : List NestedKey}, keyTs ws = some ks → w ∈ ws → ∃ k ∈ ks, keyTs (ws ++ [w]) = some (ks ++ [k])
  | [], ks, h, hw => by cases hw
  | x :: ws, ks, h, hw => by
    have h' := h
    unfold keyTs at h'
    split at h'
    · rename_i ht
      rw [Option.bind_eq_some_iff] at h'
      obtain ⟨k, hk, h'⟩ := h'
      split at h'
      · rename_i hd
        rw [Option.map_eq_some_iff] at h'
        obtain ⟨ks', hs, rfl⟩ := h'
        have one : ∀ {v : W} {us : List W} {js : List NestedKey}, v = x → keyTs us = some js → keyTs (us ++ [v]) = some (js ++ [k]) := by
          intro v us
          induction us with
          | nil =>
            intro js e1 e2
            cases e2
            subst e1
            simp [keyTs, ht, hk, hd]
          | cons y us ih =>
            intro js e1 e2
            unfold keyTs at e2
            split at e2
            · rename_i hy
              rw [Option.bind_eq_some_iff] at e2
              obtain ⟨k2, hk2, e2⟩ := e2
              split at e2
              · rename_i hd2
                rw [Option.map_eq_some_iff] at e2
                obtain ⟨js', hj, rfl⟩ := e2
                rw [List.cons_append, keyTs, if_pos hy, hk2, Option.bind_some, if_pos hd2, ih e1 hj]
                rfl
              · cases e2
            · cases e2
        by_cases e : w = x
        · exact ⟨k, List.mem_cons_self, one e h⟩
        · obtain ⟨k2, hm, e2⟩ := keyTs_snoc (w := w) hs ((List.mem_cons.mp hw).resolve_left e)
          refine ⟨k2, List.mem_cons_of_mem _ hm, ?_⟩
          rw [List.cons_append, keyTs, if_pos ht, hk, Option.bind_some, if_pos hd, e2]
          rfl
      · cases h'
    · cases h'
theorem onceK_snoc {k : NestedKey} : ∀ {ks : List NestedKey}, k ∈ ks → (onceK (ks ++ [k])).length < (ks ++ [k]).length
  | [], h => by cases h
  | x :: r, h => by
    rw [List.cons_append]
    have le : ∀ l : List NestedKey, (onceK l).length ≤ l.length := by
      intro l
      induction l with
      | nil => exact Nat.le_refl _
      | cons a l ih =>
        unfold onceK
        split
        · rw [List.length_cons]; omega
        · rw [List.length_cons, List.length_cons]; omega
    unfold onceK
    by_cases e : x = k
    · subst e
      rw [if_pos (by simp)]
      have := le (r ++ [x])
      rw [List.length_cons]; omega
    · have := onceK_snoc (ks := r) ((List.mem_cons.mp h).resolve_left (Ne.symm e))
      split
      · rw [List.length_cons]; omega
      · rw [List.length_cons, List.length_cons]; omega
end Z
set_option Elab.async false
set_option linter.all false
set_option maxRecDepth 100000
set_option maxHeartbeats 1000000
/-! M17: each of the bad ones is none -/
namespace Z
open PySem L2
theorem datTw {M : List (List Pl)} : ∀ w ∈ M.map encL, isDat w = true := fun w hw => by
  obtain ⟨l, _, rfl⟩ := List.mem_map.mp hw; rfl
theorem entTw {M : List (List Pl)} : ∀ l ∈ M.map encL, ∀ e ∈ tups l, entD e = true := fun w hw e he => by
  obtain ⟨l, _, rfl⟩ := List.mem_map.mp hw
  obtain ⟨p, _, rfl⟩ := List.mem_map.mp (show e ∈ l.map encP from he)
  exact entD_enc p
theorem mem_drop' {α : Type} {a : α} {k : Nat} {l : List α} (h : a ∈ l.drop k) : a ∈ l := List.mem_of_mem_drop h
section
variable {R : List W} {Q : List W → Prop} {M : List (List Pl)} {l0 : List Pl}
theorem lens_false {R : List W} {T : List W} {l : W} (h : l ∈ T) (hl : (tups l).length ≠ R.length) : lensB R T = false := by
  unfold lensB
  rw [← Bool.not_eq_true, List.all_eq_true]
  intro z
  have := z l h
  rw [decide_eq_true_eq] at this
  exact hl this
theorem ents_false {T : List W} {l e : W} (h : l ∈ T) (he : e ∈ tups l) (hf : entB e T.length = false) : entsB T = false := by
  unfold entsB
  rw [← Bool.not_eq_true, List.all_eq_true]
  intro z
  have := List.all_eq_true.mp (z l h) e he
  rw [hf] at this
  cases this
theorem badE_ok (g : RowsGood R) (m : MTab R.length Q M) {e : W} (h0 : 0 < M.length) (hd : entD e = true) (hf : entB e M.length = false) : BadOk (badE R (M.map encL) (l0.map encP) e) := by
  unfold badE
  have len : ([W.tup ((l0.map encP).take ((l0.map encP).length - 1) ++ [e])] ++ (M.map encL).drop 1).length = M.length := by
    simp only [List.length_append, List.length_cons, List.length_nil, List.length_drop, List.length_map]; omega
  refine bad_pair (entD_tups (isDat_of_tupsB g.ts)) (entD_tups fun w hw => ?_) (fun _ => g.ok) (fun l hl e' he => ?_) (.inr (.inr (.inr (.inr (.inl ?_)))))
  · rcases List.mem_append.mp hw with hw | hw
    · rw [List.mem_singleton] at hw; subst hw; rfl
    · exact datTw w (mem_drop' hw)
  · rcases List.mem_append.mp (show l ∈ [W.tup ((l0.map encP).take ((l0.map encP).length - 1) ++ [e])] ++ (M.map encL).drop 1 from hl) with hl | hl
    · rw [List.mem_singleton] at hl; subst hl
      rcases List.mem_append.mp (show e' ∈ (l0.map encP).take ((l0.map encP).length - 1) ++ [e] from he) with he | he
      · obtain ⟨p, _, rfl⟩ := List.mem_map.mp (List.mem_of_mem_take he)
        exact entD_enc p
      · rw [List.mem_singleton] at he; subst he; exact hd
    · exact entTw l (mem_drop' hl) e' he
  · refine ents_false (l := .tup ((l0.map encP).take ((l0.map encP).length - 1) ++ [e])) (e := e) ?_ (List.mem_append_right _ (List.mem_singleton_self e)) ?_
    · exact List.mem_append_left _ (List.mem_singleton_self _)
    · show entB e (([W.tup ((l0.map encP).take ((l0.map encP).length - 1) ++ [e])] ++ (M.map encL).drop 1).length : Nat) = false
      rw [len]; exact hf
theorem all_bad (g : RowsGood R) (m : MTab R.length Q M) (r0 : 0 < R.length) (r1 : R.length ≤ 22) (hl0 : M[0]? = some l0) : ∀ v ∈ bads R (M.map encL) (l0.map encP), BadOk v := by
  have h0 : 0 < M.length := m.ok.pos
  have rD := entD_tups (isDat_of_tupsB g.ts)
  have tD : entD (.tup (M.map encL)) = true := entD_tups datTw
  have tlen : (M.map encL).length = M.length := List.length_map _
  intro v hv
  simp only [bads, List.mem_cons, List.not_mem_nil, or_false] at hv
  rcases hv with rfl | rfl | rfl | rfl | rfl | rfl | rfl | rfl | rfl | rfl | rfl | rfl | rfl | rfl | rfl | rfl | rfl | rfl | rfl
  · exact bad_np rfl (fun r t h => by simp at h) rfl
  · exact bad_np rfl (fun r t h => by simp at h) rfl
  · exact bad_pair rD rfl (fun _ => g.ok) (fun l hl => by cases hl) (.inr (.inr (.inl rfl)))
  · exact bad_pair rfl tD (fun h => by cases h) entTw (.inl rfl)
  · have hlast : R.drop (R.length - 1) = [R[R.length - 1]] := by
      rw [List.drop_eq_getElem_cons (by omega)]
      congr 1
      exact List.drop_of_length_le (by omega)
    have hmem : R[R.length - 1] ∈ R := List.getElem_mem _
    obtain ⟨ks, hk, few⟩ := g.ok.2
    have hl := keyTs_len hk
    rw [List.length_map] at hl
    obtain ⟨k, hkm, hk2⟩ := keyTs_snoc (w := .tup (kfW R[R.length - 1])) hk (List.mem_map.mpr ⟨_, hmem, rfl⟩)
    have hk3 : kts (R ++ R.drop (R.length - 1)) = some (ks ++ [k]) := by
      unfold kts
      rw [hlast, List.map_append]
      exact hk2
    have hin : ∀ x ∈ R ++ R.drop (R.length - 1), x ∈ R := fun x hx => (List.mem_append.mp hx).elim id mem_drop'
    refine bad_pair (entD_tups fun w hw => isDat_of_tupsB g.ts w (hin w hw)) (entD_tups fun w hw => ?_) (fun _ => ⟨fun x hx => g.ok.1 x (hin x hx), ks ++ [k], hk3, by rw [List.length_append, hl]; simp only [List.length_cons, List.length_nil]; omega⟩) (fun l hl' e he => ?_) (.inr (.inl ?_))
    · obtain ⟨x, _, rfl⟩ := List.mem_map.mp hw; rfl
    · obtain ⟨x, hx, rfl⟩ := List.mem_map.mp (show l ∈ (M.map encL).map fun x => .tup (tups x ++ (tups x).drop ((tups x).length - 1)) from hl')
      rcases List.mem_append.mp (show e ∈ tups x ++ (tups x).drop ((tups x).length - 1) from he) with he | he
      · exact entTw x hx e he
      · exact entTw x hx e (mem_drop' he)
    · show difB (R ++ R.drop (R.length - 1)) = false
      unfold difB
      rw [hk3]
      have := onceK_snoc hkm
      show decide _ = false
      rw [decide_eq_false_iff_not]; omega
  · have hlt : M.length - 1 < M.length := by omega
    have hlast : lastTw (M.map encL) = encL M[M.length - 1] := by
      unfold lastTw
      rw [tlen, List.getElem?_map, List.getElem?_eq_getElem hlt]; rfl
    rw [hlast]
    refine bad_pair rD (entD_tups fun w hw => ?_) (fun _ => g.ok) (fun l hl e he => ?_) (.inr (.inr (.inr (.inl ?_))))
    · rcases List.mem_append.mp hw with hw | hw
      · exact datTw w (List.mem_of_mem_take hw)
      · rw [List.mem_singleton] at hw; subst hw; rfl
    · rcases List.mem_append.mp (show l ∈ (M.map encL).take ((M.map encL).length - 1) ++ [W.tup ((tups (encL M[M.length - 1])).drop 1)] from hl) with hl | hl
      · exact entTw l (List.mem_of_mem_take hl) e he
      · rw [List.mem_singleton] at hl; subst hl
        exact entTw (encL M[M.length - 1]) (List.mem_map.mpr ⟨_, List.getElem_mem hlt, rfl⟩) e (mem_drop' he)
    · refine lens_false (l := .tup ((tups (encL M[M.length - 1])).drop 1)) (List.mem_append_right _ (List.mem_singleton_self _)) ?_
      show ((M[M.length - 1].map encP).drop 1).length ≠ R.length
      rw [List.length_drop, List.length_map, m.wide _ (List.getElem_mem hlt)]; omega
  · refine bad_pair rD (entD_tups fun w hw => ?_) (fun _ => g.ok) (fun l hl e he => ?_) (.inr (.inr (.inr (.inr (.inr ?_)))))
    · rcases List.mem_append.mp hw with hw | hw
      · exact datTw w hw
      · rw [List.mem_singleton] at hw; subst hw; rfl
    · rcases List.mem_append.mp (show l ∈ M.map encL ++ [W.tup (l0.map encP)] from hl) with hl | hl
      · exact entTw l hl e he
      · rw [List.mem_singleton] at hl; subst hl
        exact entTw (encL l0) (List.mem_map.mpr ⟨_, List.mem_of_getElem? hl0, rfl⟩) e he
    · have : M.map encL ++ [W.tup (l0.map encP)] = (M ++ [l0]).map encL := by rw [List.map_append]; rfl
      show numB (M.map encL ++ [W.tup (l0.map encP)]) = false
      rw [this, nums_enc, List.map_append]
      refine numGo_extra (N := M.length) (fun l hl s hs => ?_) (by omega) (by simp)
      obtain ⟨l', hl', rfl⟩ := List.mem_map.mp hl
      obtain ⟨p, hp, hps⟩ := List.mem_map.mp hs
      cases p with
      | none => cases hps
      | some q =>
        obtain ⟨o, s'⟩ := q
        have := m.ok.nxt l' hl' o s' hp
        simp only [nxP, Option.map_some, Option.some.injEq] at hps
        omega
  · rw [tlen]; exact badE_ok g m h0 rfl (by simp [entB, isTup, isWhole]; omega)
  · exact badE_ok g m h0 rfl (by simp [entB, isTup, isWhole])
  · exact badE_ok g m h0 rfl (by simp [entB, isTup, isWhole])
  · exact badE_ok g m h0 rfl rfl
  · exact badE_ok g m h0 rfl rfl
  · exact bad_np rfl (fun r t h => by cases h) rfl
  · exact bad_np rfl (fun r t h => by cases h) rfl
  · exact bad_np rfl (fun r t h => by simp at h) rfl
  · exact bad_pair rD rfl (fun _ => g.ok) (fun l hl => by cases hl) (.inr (.inr (.inl rfl)))
  · refine bad_pair (entD_tups fun w hw => ?_) tD (fun h => ?_) entTw (.inl ?_)
    · rcases List.mem_append.mp hw with hw | hw
      · rw [List.mem_singleton] at hw; subst hw; rfl
      · exact isDat_of_tupsB g.ts w (mem_drop' hw)
    · cases h
    · rfl
  · exact badE_ok g m h0 rfl rfl
  · refine bad_pair rD (entD_tups fun w hw => ?_) (fun _ => g.ok) (fun l hl e he => ?_) (.inr (.inr (.inl rfl)))
    · rcases List.mem_append.mp hw with hw | hw
      · rw [List.mem_singleton] at hw; subst hw; rfl
      · exact datTw w (mem_drop' hw)
    · rcases List.mem_append.mp (show l ∈ [W.int 5] ++ (M.map encL).drop 1 from hl) with hl | hl
      · rw [List.mem_singleton] at hl; subst hl; cases he
      · exact entTw l (mem_drop' hl) e he
end
end Z
set_option Elab.async false
set_option linter.all false
set_option maxRecDepth 100000
set_option maxHeartbeats 1000000
/-! M18: the law's bad values, drawn -/
namespace Z
open PySem L2
theorem add_small {a b : List W} {A : AH} (h : a.length + b.length ≤ 1100) : sAdd (.tup a) (.tup b) A = some (.tup (a ++ b), A) := by
  rw [ev_addT, if_pos (Nat.le_trans h (by decide))]
theorem sl_tup {a : List W} {lo hi : Option Int} {A : AH} : sSl (.tup a) lo hi A = some (.tup (cutW a lo hi), A) := rfl
theorem n19 : (19 : Nat) ≤ sizeLine := by decide
/-- row + row[-1:] for row in table -/
theorem twice_ok {E : EN} {A : AH} {Tw : List W} (hE : E.length = 8) (h6 : E[6]? = some (some (.tup Tw))) (ht : Tw.all isTup = true) (hw : ∀ w ∈ Tw, (tups w).length ≤ 500) (hl : Tw.length ≤ 500) : Wp (zLc (ziSeq (zV 6)) (.name 7) ztYes (z2 sAdd (zV 7) (z3 sSl (zV 7) (zoSome (zNeg (zC (.int 1)))) zoNone)) [7] E A) fun u A' => u = .loc A.length ∧ A' = A ++ [.lst (Tw.map fun x => .tup (tups x ++ (tups x).drop ((tups x).length - 1)))] := by
  match E, hE, h6 with
  | [a, b, c, d, e, f, _, x], _, h6 =>
  simp only [List.getElem?_cons_succ, List.getElem?_cons_zero, Option.some.injEq] at h6
  subst h6
  refine wp_lcFix (ws := Tw) (A1 := A) (by simp [ziSeq]) (fun i acc A' => A' = A ++ [.lst acc] ∧ acc = (Tw.take i).map fun x => .tup (tups x ++ (tups x).drop ((tups x).length - 1))) ⟨rfl, rfl⟩ ?_ ?_
  · rintro i w acc A' hw' ⟨rfl, hacc⟩
    refine ⟨_, rfl, ?_⟩
    have hlt := (List.getElem?_eq_some_iff.mp hw').1
    have hm := List.mem_of_getElem? hw'
    obtain ⟨ys, rfl⟩ : ∃ ys, w = .tup ys := by
      have := List.all_eq_true.mp ht w hm
      cases w with
      | tup ys => exact ⟨ys, rfl⟩
      | _ => cases this
    have hy : ys.length ≤ 500 := hw _ hm
    have hl' : acc.length ≤ Tw.length := by rw [hacc, List.length_map, List.length_take]; omega
    refine to_wp (w := .tup (ys ++ ys.drop (ys.length - 1))) (A := A ++ [.lst acc]) ?_ ⟨by simp, big500 (by omega), by simp, ?_⟩
    · show z2 sAdd (zV 7) (z3 sSl (zV 7) (zoSome (zNeg (zC (.int 1)))) zoNone) [a, b, c, d, e, f, some (.tup Tw), some (.tup ys)] _ = _
      have e1 : cutW ys (some (-1)) none = ys.drop (ys.length - 1) := cut_last
      have e2 : ∀ A, sAdd (.tup ys) (.tup (ys.drop (ys.length - 1))) A = some (.tup (ys ++ ys.drop (ys.length - 1)), A) := fun A => add_small (by rw [List.length_drop]; omega)
      simp only [ev_z2, ev_z3, ev_oS, ev_oN, ev_neg, ev_C, ev_V7, ev_V6, ev_V5, ev_V4, ev_V3, ev_V2, ev_V1, ev_V0, Option.bind_some, sl_tup, e1, e2]
    · have : W.tup ys = Tw[i] := ((List.getElem?_eq_some_iff.mp hw').2).symm
      rw [hacc, List.take_succ_eq_append_getElem hlt, List.map_append, ← this]
      rfl
  · rintro acc A' ⟨rfl, hacc⟩
    refine ⟨rfl, ?_⟩
    rw [hacc, List.take_length]
theorem bad_list {n : Nat} {R Tw l0 : List W} {A : AH} (ht : Tw.all isTup = true) (hw : ∀ w ∈ Tw, (tups w).length ≤ 500) (hl : Tw.length ≤ 500) (h0 : 0 < Tw.length) (hR : R.length ≤ 22) (hl0 : l0.length ≤ 500) :
    Wp ((zLst (zaCons (zTup (zaCons (zV 5) zaNil)) (zaCons (zTup (zaCons (zV 5) (zaCons (zV 6) (zaCons (zC (.int 0)) zaNil)))) (zaCons (zTup (zaCons (zV 5) (zaCons (zTup zaNil) zaNil))) (zaCons (zTup (zaCons (zTup zaNil) (zaCons (zV 6) zaNil))) (zaCons (zTup (zaCons (z2 sAdd (zV 5) (z3 sSl (zV 5) (zoSome (zNeg (zC (.int 1)))) zoNone)) (zaCons (zB sTuple (zaCons (zLc (ziSeq (zV 6)) (.name 7) ztYes (z2 sAdd (zV 7) (z3 sSl (zV 7) (zoSome (zNeg (zC (.int 1)))) zoNone)) [7]) zaNil)) zaNil))) (zaCons (zTup (zaCons (zV 5) (zaCons (z2 sAdd (z3 sSl (zV 6) zoNone (zoSome (zNeg (zC (.int 1))))) (zTup (zaCons (z3 sSl (z2 sIx (zV 6) (zNeg (zC (.int 1)))) (zoSome (zC (.int 1))) zoNone) zaNil))) zaNil))) (zaCons (zTup (zaCons (zV 5) (zaCons (z2 sAdd (zV 6) (zTup (zaCons (zV 3) zaNil))) zaNil))) (zaCons (zTup (zaCons (zV 5) (zaCons (z2 sAdd (zTup (zaCons (z2 sAdd (z3 sSl (zV 3) zoNone (zoSome (zNeg (zC (.int 1))))) (zTup (zaCons (zTup (zaCons (zTup (zaCons (zC (.int 0)) zaNil)) (zaCons (zV 2) zaNil))) zaNil))) zaNil)) (z3 sSl (zV 6) (zoSome (zC (.int 1))) zoNone)) zaNil))) (zaCons (zTup (zaCons (zV 5) (zaCons (z2 sAdd (zTup (zaCons (z2 sAdd (z3 sSl (zV 3) zoNone (zoSome (zNeg (zC (.int 1))))) (zTup (zaCons (zTup (zaCons (zTup (zaCons (zC (.int 0)) zaNil)) (zaCons (zNeg (zC (.int 1))) zaNil))) zaNil))) zaNil)) (z3 sSl (zV 6) (zoSome (zC (.int 1))) zoNone)) zaNil))) (zaCons (zTup (zaCons (zV 5) (zaCons (z2 sAdd (zTup (zaCons (z2 sAdd (z3 sSl (zV 3) zoNone (zoSome (zNeg (zC (.int 1))))) (zTup (zaCons (zTup (zaCons (zTup (zaCons (zC (.int 0)) zaNil)) (zaCons (zC (.bl true)) zaNil))) zaNil))) zaNil)) (z3 sSl (zV 6) (zoSome (zC (.int 1))) zoNone)) zaNil))) (zaCons (zTup (zaCons (zV 5) (zaCons (z2 sAdd (zTup (zaCons (z2 sAdd (z3 sSl (zV 3) zoNone (zoSome (zNeg (zC (.int 1))))) (zTup (zaCons (zTup (zaCons (zC (.int 0)) (zaCons (zC (.int 0)) zaNil))) zaNil))) zaNil)) (z3 sSl (zV 6) (zoSome (zC (.int 1))) zoNone)) zaNil))) (zaCons (zTup (zaCons (zV 5) (zaCons (z2 sAdd (zTup (zaCons (z2 sAdd (z3 sSl (zV 3) zoNone (zoSome (zNeg (zC (.int 1))))) (zTup (zaCons (zTup (zaCons (zTup (zaCons (zC (.int 0)) zaNil)) zaNil)) zaNil))) zaNil)) (z3 sSl (zV 6) (zoSome (zC (.int 1))) zoNone)) zaNil))) (zaCons (zC (.str "machine")) (zaCons (zC .non) (zaCons (zTup zaNil) (zaCons (zTup (zaCons (zV 5) (zaCons (zC (.str "table")) zaNil))) (zaCons (zTup (zaCons (z2 sAdd (zTup (zaCons (zC (.int 0)) zaNil)) (z3 sSl (zV 5) (zoSome (zC (.int 1))) zoNone)) (zaCons (zV 6) zaNil))) (zaCons (zTup (zaCons (zV 5) (zaCons (z2 sAdd (zTup (zaCons (z2 sAdd (z3 sSl (zV 3) zoNone (zoSome (zNeg (zC (.int 1))))) (zTup (zaCons (zC (.str "")) zaNil))) zaNil)) (z3 sSl (zV 6) (zoSome (zC (.int 1))) zoNone)) zaNil))) (zaCons (zTup (zaCons (zV 5) (zaCons (z2 sAdd (zTup (zaCons (zC (.int 5)) zaNil)) (z3 sSl (zV 6) (zoSome (zC (.int 1))) zoNone)) zaNil))) zaNil)))))))))))))))))))) [some (.loc n), some (.tup [.tup R, .tup Tw]), some (.int (Tw.length : Nat)), some (.tup l0), none, some (.tup R), some (.tup Tw), none] A) fun u A' => u = .loc (A.length + 1) ∧ ∃ x, A' = A ++ [x] ++ [.lst (bads R Tw l0)] := by
  have evs : True := trivial
  have c1 : cutW R (some (-1)) none = R.drop (R.length - 1) := cut_last
  have c2 : cutW Tw none (some (-1)) = Tw.take (Tw.length - 1) := cut_init
  have c3 : ∀ ws, cutW ws (some 1) none = ws.drop 1 := fun ws => cut_tail
  have c4 : cutW l0 none (some (-1)) = l0.take (l0.length - 1) := cut_init
  have hlt : Tw.length - 1 < Tw.length := by omega
  have g1 : atI Tw (-1) = some Tw[Tw.length - 1] := by
    unfold atI ixN
    rw [if_neg (by decide), if_pos (by omega)]
    rw [Option.bind_some, show (-1 + (Tw.length : Int)).toNat = Tw.length - 1 from by omega]
    exact List.getElem?_eq_getElem hlt
  have g2 : lastTw Tw = Tw[Tw.length - 1] := by
    unfold lastTw
    rw [List.getElem?_eq_getElem hlt]; rfl
  obtain ⟨lw, glw⟩ : ∃ ys, Tw[Tw.length - 1] = .tup ys := by
    have := List.all_eq_true.mp ht _ (List.getElem_mem hlt)
    revert this
    cases Tw[Tw.length - 1] with
    | tup ys => exact fun _ => ⟨ys, rfl⟩
    | _ => exact fun h => by cases h
  rw [glw] at g1 g2
  have s1 : ∀ A, sAdd (.tup R) (.tup (R.drop (R.length - 1))) A = some (.tup (R ++ R.drop (R.length - 1)), A) := fun A => add_small (by rw [List.length_drop]; omega)
  have s2 : ∀ x A, sAdd (.tup (Tw.take (Tw.length - 1))) (.tup [x]) A = some (.tup (Tw.take (Tw.length - 1) ++ [x]), A) := fun x A => add_small (by rw [List.length_take]; simp only [List.length_cons, List.length_nil]; omega)
  have s3 : ∀ x A, sAdd (.tup Tw) (.tup [x]) A = some (.tup (Tw ++ [x]), A) := fun x A => add_small (by simp only [List.length_cons, List.length_nil]; omega)
  have s4 : ∀ x A, sAdd (.tup (l0.take (l0.length - 1))) (.tup [x]) A = some (.tup (l0.take (l0.length - 1) ++ [x]), A) := fun x A => add_small (by rw [List.length_take]; simp only [List.length_cons, List.length_nil]; omega)
  have s5 : ∀ x A, sAdd (.tup [x]) (.tup (Tw.drop 1)) A = some (.tup ([x] ++ Tw.drop 1), A) := fun x A => add_small (by rw [List.length_drop]; simp only [List.length_cons, List.length_nil]; omega)
  have s6 : ∀ x A, sAdd (.tup [x]) (.tup (R.drop 1)) A = some (.tup ([x] ++ R.drop 1), A) := fun x A => add_small (by rw [List.length_drop]; simp only [List.length_cons, List.length_nil]; omega)
  have x1 : ∀ A, sIx (.tup Tw) (.int (-1)) A = some (.tup lw, A) := fun A => by rw [ev_ixT, g1]; rfl
  refine wp_lst.mpr ?_
  refine wp_cons.mpr (Wp.of (a := .tup [.tup R]) (A := A) (by simp only [ev_tup, ev_aCons, ev_aNil, ev_z2, ev_z3, ev_oS, ev_oN, ev_neg, ev_C, ev_V7, ev_V6, ev_V5, ev_V4, ev_V3, ev_V2, ev_V1, ev_V0, Option.bind_some, Option.map_some, sl_tup, c1, c2, c3, c4, s1, s2, s3, s4, s5, s6, x1, g2, List.length_cons, List.length_nil, Nat.zero_add, Nat.reduceAdd, Nat.zero_le, sz1, sz2, sz3, if_true, tups, badE]) ?_)
  refine wp_cons.mpr (Wp.of (a := .tup [.tup R, .tup Tw, .int 0]) (A := A) (by simp only [ev_tup, ev_aCons, ev_aNil, ev_z2, ev_z3, ev_oS, ev_oN, ev_neg, ev_C, ev_V7, ev_V6, ev_V5, ev_V4, ev_V3, ev_V2, ev_V1, ev_V0, Option.bind_some, Option.map_some, sl_tup, c1, c2, c3, c4, s1, s2, s3, s4, s5, s6, x1, g2, List.length_cons, List.length_nil, Nat.zero_add, Nat.reduceAdd, Nat.zero_le, sz1, sz2, sz3, if_true, tups, badE]) ?_)
  refine wp_cons.mpr (Wp.of (a := .tup [.tup R, .tup []]) (A := A) (by simp only [ev_tup, ev_aCons, ev_aNil, ev_z2, ev_z3, ev_oS, ev_oN, ev_neg, ev_C, ev_V7, ev_V6, ev_V5, ev_V4, ev_V3, ev_V2, ev_V1, ev_V0, Option.bind_some, Option.map_some, sl_tup, c1, c2, c3, c4, s1, s2, s3, s4, s5, s6, x1, g2, List.length_cons, List.length_nil, Nat.zero_add, Nat.reduceAdd, Nat.zero_le, sz1, sz2, sz3, if_true, tups, badE]) ?_)
  refine wp_cons.mpr (Wp.of (a := .tup [.tup [], .tup Tw]) (A := A) (by simp only [ev_tup, ev_aCons, ev_aNil, ev_z2, ev_z3, ev_oS, ev_oN, ev_neg, ev_C, ev_V7, ev_V6, ev_V5, ev_V4, ev_V3, ev_V2, ev_V1, ev_V0, Option.bind_some, Option.map_some, sl_tup, c1, c2, c3, c4, s1, s2, s3, s4, s5, s6, x1, g2, List.length_cons, List.length_nil, Nat.zero_add, Nat.reduceAdd, Nat.zero_le, sz1, sz2, sz3, if_true, tups, badE]) ?_)
  refine wp_cons.mpr (wp_tup.mpr (wp_cons.mpr (Wp.of (a := .tup (R ++ R.drop (R.length - 1))) (A := A) (by simp only [ev_tup, ev_aCons, ev_aNil, ev_z2, ev_z3, ev_oS, ev_oN, ev_neg, ev_C, ev_V7, ev_V6, ev_V5, ev_V4, ev_V3, ev_V2, ev_V1, ev_V0, Option.bind_some, Option.map_some, sl_tup, c1, c2, c3, c4, s1, s2, s3, s4, s5, s6, x1, g2, List.length_cons, List.length_nil, Nat.zero_add, Nat.reduceAdd, Nat.zero_le, sz1, sz2, sz3, if_true, tups, badE]) (wp_cons.mpr ?_))))
  refine wp_zB.mpr (wp_cons.mpr (Wp.mono (twice_ok rfl rfl ht hw hl) ?_))
  rintro u A1 ⟨rfl, rfl⟩
  refine wp_nil.mpr (Wp.of (a := .tup (Tw.map fun x => .tup (tups x ++ (tups x).drop ((tups x).length - 1)))) (A := A ++ [.lst (Tw.map fun x => .tup (tups x ++ (tups x).drop ((tups x).length - 1)))]) (by simp [sTuple]) (wp_nil.mpr ⟨(show 2 ≤ sizeLine from by decide), ?_⟩))
  generalize hB : A ++ [MO.lst (Tw.map fun x => .tup (tups x ++ (tups x).drop ((tups x).length - 1)))] = B
  refine wp_cons.mpr (Wp.of (a := .tup [.tup R, .tup (Tw.take (Tw.length - 1) ++ [.tup ((tups (lastTw Tw)).drop 1)])]) (A := B) (by simp only [ev_tup, ev_aCons, ev_aNil, ev_z2, ev_z3, ev_oS, ev_oN, ev_neg, ev_C, ev_V7, ev_V6, ev_V5, ev_V4, ev_V3, ev_V2, ev_V1, ev_V0, Option.bind_some, Option.map_some, sl_tup, c1, c2, c3, c4, s1, s2, s3, s4, s5, s6, x1, g2, List.length_cons, List.length_nil, Nat.zero_add, Nat.reduceAdd, Nat.zero_le, sz1, sz2, sz3, if_true, tups, badE]) ?_)
  refine wp_cons.mpr (Wp.of (a := .tup [.tup R, .tup (Tw ++ [.tup l0])]) (A := B) (by simp only [ev_tup, ev_aCons, ev_aNil, ev_z2, ev_z3, ev_oS, ev_oN, ev_neg, ev_C, ev_V7, ev_V6, ev_V5, ev_V4, ev_V3, ev_V2, ev_V1, ev_V0, Option.bind_some, Option.map_some, sl_tup, c1, c2, c3, c4, s1, s2, s3, s4, s5, s6, x1, g2, List.length_cons, List.length_nil, Nat.zero_add, Nat.reduceAdd, Nat.zero_le, sz1, sz2, sz3, if_true, tups, badE]) ?_)
  refine wp_cons.mpr (Wp.of (a := badE R Tw l0 (.tup [.tup [.int 0], .int (Tw.length : Nat)])) (A := B) (by simp only [ev_tup, ev_aCons, ev_aNil, ev_z2, ev_z3, ev_oS, ev_oN, ev_neg, ev_C, ev_V7, ev_V6, ev_V5, ev_V4, ev_V3, ev_V2, ev_V1, ev_V0, Option.bind_some, Option.map_some, sl_tup, c1, c2, c3, c4, s1, s2, s3, s4, s5, s6, x1, g2, List.length_cons, List.length_nil, Nat.zero_add, Nat.reduceAdd, Nat.zero_le, sz1, sz2, sz3, if_true, tups, badE]) ?_)
  refine wp_cons.mpr (Wp.of (a := badE R Tw l0 (.tup [.tup [.int 0], .int (-1)])) (A := B) (by simp only [ev_tup, ev_aCons, ev_aNil, ev_z2, ev_z3, ev_oS, ev_oN, ev_neg, ev_C, ev_V7, ev_V6, ev_V5, ev_V4, ev_V3, ev_V2, ev_V1, ev_V0, Option.bind_some, Option.map_some, sl_tup, c1, c2, c3, c4, s1, s2, s3, s4, s5, s6, x1, g2, List.length_cons, List.length_nil, Nat.zero_add, Nat.reduceAdd, Nat.zero_le, sz1, sz2, sz3, if_true, tups, badE]) ?_)
  refine wp_cons.mpr (Wp.of (a := badE R Tw l0 (.tup [.tup [.int 0], .bl true])) (A := B) (by simp only [ev_tup, ev_aCons, ev_aNil, ev_z2, ev_z3, ev_oS, ev_oN, ev_neg, ev_C, ev_V7, ev_V6, ev_V5, ev_V4, ev_V3, ev_V2, ev_V1, ev_V0, Option.bind_some, Option.map_some, sl_tup, c1, c2, c3, c4, s1, s2, s3, s4, s5, s6, x1, g2, List.length_cons, List.length_nil, Nat.zero_add, Nat.reduceAdd, Nat.zero_le, sz1, sz2, sz3, if_true, tups, badE]) ?_)
  refine wp_cons.mpr (Wp.of (a := badE R Tw l0 (.tup [.int 0, .int 0])) (A := B) (by simp only [ev_tup, ev_aCons, ev_aNil, ev_z2, ev_z3, ev_oS, ev_oN, ev_neg, ev_C, ev_V7, ev_V6, ev_V5, ev_V4, ev_V3, ev_V2, ev_V1, ev_V0, Option.bind_some, Option.map_some, sl_tup, c1, c2, c3, c4, s1, s2, s3, s4, s5, s6, x1, g2, List.length_cons, List.length_nil, Nat.zero_add, Nat.reduceAdd, Nat.zero_le, sz1, sz2, sz3, if_true, tups, badE]) ?_)
  refine wp_cons.mpr (Wp.of (a := badE R Tw l0 (.tup [.tup [.int 0]])) (A := B) (by simp only [ev_tup, ev_aCons, ev_aNil, ev_z2, ev_z3, ev_oS, ev_oN, ev_neg, ev_C, ev_V7, ev_V6, ev_V5, ev_V4, ev_V3, ev_V2, ev_V1, ev_V0, Option.bind_some, Option.map_some, sl_tup, c1, c2, c3, c4, s1, s2, s3, s4, s5, s6, x1, g2, List.length_cons, List.length_nil, Nat.zero_add, Nat.reduceAdd, Nat.zero_le, sz1, sz2, sz3, if_true, tups, badE]) ?_)
  refine wp_cons.mpr (Wp.of (a := .str "machine") (A := B) (by simp only [ev_tup, ev_aCons, ev_aNil, ev_z2, ev_z3, ev_oS, ev_oN, ev_neg, ev_C, ev_V7, ev_V6, ev_V5, ev_V4, ev_V3, ev_V2, ev_V1, ev_V0, Option.bind_some, Option.map_some, sl_tup, c1, c2, c3, c4, s1, s2, s3, s4, s5, s6, x1, g2, List.length_cons, List.length_nil, Nat.zero_add, Nat.reduceAdd, Nat.zero_le, sz1, sz2, sz3, if_true, tups, badE]) ?_)
  refine wp_cons.mpr (Wp.of (a := .non) (A := B) (by simp only [ev_tup, ev_aCons, ev_aNil, ev_z2, ev_z3, ev_oS, ev_oN, ev_neg, ev_C, ev_V7, ev_V6, ev_V5, ev_V4, ev_V3, ev_V2, ev_V1, ev_V0, Option.bind_some, Option.map_some, sl_tup, c1, c2, c3, c4, s1, s2, s3, s4, s5, s6, x1, g2, List.length_cons, List.length_nil, Nat.zero_add, Nat.reduceAdd, Nat.zero_le, sz1, sz2, sz3, if_true, tups, badE]) ?_)
  refine wp_cons.mpr (Wp.of (a := .tup []) (A := B) (by simp only [ev_tup, ev_aCons, ev_aNil, ev_z2, ev_z3, ev_oS, ev_oN, ev_neg, ev_C, ev_V7, ev_V6, ev_V5, ev_V4, ev_V3, ev_V2, ev_V1, ev_V0, Option.bind_some, Option.map_some, sl_tup, c1, c2, c3, c4, s1, s2, s3, s4, s5, s6, x1, g2, List.length_cons, List.length_nil, Nat.zero_add, Nat.reduceAdd, Nat.zero_le, sz1, sz2, sz3, if_true, tups, badE]) ?_)
  refine wp_cons.mpr (Wp.of (a := .tup [.tup R, .str "table"]) (A := B) (by simp only [ev_tup, ev_aCons, ev_aNil, ev_z2, ev_z3, ev_oS, ev_oN, ev_neg, ev_C, ev_V7, ev_V6, ev_V5, ev_V4, ev_V3, ev_V2, ev_V1, ev_V0, Option.bind_some, Option.map_some, sl_tup, c1, c2, c3, c4, s1, s2, s3, s4, s5, s6, x1, g2, List.length_cons, List.length_nil, Nat.zero_add, Nat.reduceAdd, Nat.zero_le, sz1, sz2, sz3, if_true, tups, badE]) ?_)
  refine wp_cons.mpr (Wp.of (a := .tup [.tup ([.int 0] ++ R.drop 1), .tup Tw]) (A := B) (by simp only [ev_tup, ev_aCons, ev_aNil, ev_z2, ev_z3, ev_oS, ev_oN, ev_neg, ev_C, ev_V7, ev_V6, ev_V5, ev_V4, ev_V3, ev_V2, ev_V1, ev_V0, Option.bind_some, Option.map_some, sl_tup, c1, c2, c3, c4, s1, s2, s3, s4, s5, s6, x1, g2, List.length_cons, List.length_nil, Nat.zero_add, Nat.reduceAdd, Nat.zero_le, sz1, sz2, sz3, if_true, tups, badE]) ?_)
  refine wp_cons.mpr (Wp.of (a := badE R Tw l0 (.str "")) (A := B) (by simp only [ev_tup, ev_aCons, ev_aNil, ev_z2, ev_z3, ev_oS, ev_oN, ev_neg, ev_C, ev_V7, ev_V6, ev_V5, ev_V4, ev_V3, ev_V2, ev_V1, ev_V0, Option.bind_some, Option.map_some, sl_tup, c1, c2, c3, c4, s1, s2, s3, s4, s5, s6, x1, g2, List.length_cons, List.length_nil, Nat.zero_add, Nat.reduceAdd, Nat.zero_le, sz1, sz2, sz3, if_true, tups, badE]) ?_)
  refine wp_cons.mpr (Wp.of (a := .tup [.tup R, .tup ([.int 5] ++ Tw.drop 1)]) (A := B) (by simp only [ev_tup, ev_aCons, ev_aNil, ev_z2, ev_z3, ev_oS, ev_oN, ev_neg, ev_C, ev_V7, ev_V6, ev_V5, ev_V4, ev_V3, ev_V2, ev_V1, ev_V0, Option.bind_some, Option.map_some, sl_tup, c1, c2, c3, c4, s1, s2, s3, s4, s5, s6, x1, g2, List.length_cons, List.length_nil, Nat.zero_add, Nat.reduceAdd, Nat.zero_le, sz1, sz2, sz3, if_true, tups, badE]) ?_)
  subst hB
  exact wp_nil.mpr ⟨n19, by simp, _, rfl⟩
end Z
set_option Elab.async false
set_option linter.all false
set_option maxRecDepth 100000
set_option maxHeartbeats 1000000
/-! M19: _law_bad -/
namespace Z
open PySem L2
theorem bad_ok {n m : Nat} {R : List W} {Q : List W → Prop} {M : List (List Pl)} {A : AH} (t : TapeM n m A) (g : RowsGood R) (mt : MTab R.length Q M) (r0 : 0 < R.length) (r1 : R.length ≤ 22) : Wp (X__law_bad [.loc n, mach R M] A) fun w A' => BadOk w ∧ TapeM n m A' := by
  obtain ⟨l0, hl0⟩ : ∃ l0, M[0]? = some l0 := ⟨_, List.getElem?_eq_getElem mt.ok.pos⟩
  have tlen : (M.map encL).length = M.length := List.length_map _
  have few := mt.ok.few
  have pos := mt.ok.pos
  have ht : (M.map encL).all isTup = true := by
    rw [List.all_eq_true]; intro w hw
    obtain ⟨l, _, rfl⟩ := List.mem_map.mp hw; rfl
  have hw : ∀ w ∈ M.map encL, (tups w).length ≤ 500 := fun w hw => by
    obtain ⟨l, hl, rfl⟩ := List.mem_map.mp hw
    show (l.map encP).length ≤ 500
    rw [List.length_map, mt.wide l hl]; omega
  have hll : (l0.map encP).length ≤ 500 := by rw [List.length_map, mt.wide l0 (List.mem_of_getElem? hl0)]; omega
  unfold X__law_bad F__law_bad
  refine (wp_def rfl).mpr ?_
  unfold g__law_bad
  simp only [start2, List.replicate]
  refine wp_seq.mpr (to_wpS (o := .nx [some (.loc n), some (mach R M), none, none, none, some (.tup R), some (.tup (M.map encL)), none]) (A := A) (by simp [mach]) ?_)
  rw [thenS_nx]
  refine wp_seq.mpr (to_wpS (o := .nx [some (.loc n), some (mach R M), some (.int ((M.map encL).length : Nat)), none, none, some (.tup R), some (.tup (M.map encL)), none]) (A := A) (by simp) ?_)
  rw [thenS_nx]
  have e0 : ∀ A, sIx (.tup (M.map encL)) (.int 0) A = some (.tup (l0.map encP), A) := fun A => by
    rw [ev_ixT, show (0 : Int) = ((0 : Nat) : Int) from rfl, atI_nat, List.getElem?_map, hl0]; rfl
  refine wp_seq.mpr (to_wpS (o := .nx [some (.loc n), some (mach R M), some (.int ((M.map encL).length : Nat)), some (.tup (l0.map encP)), none, some (.tup R), some (.tup (M.map encL)), none]) (A := A) (by simp only [ev_asg, ev_z2, ev_V6, ev_V5, ev_V4, ev_V3, ev_V2, ev_V1, ev_V0, ev_C, Option.bind_some, e0, ev_asg1, Option.map_some, List.set_cons_succ, List.set_cons_zero]) ?_)
  rw [thenS_nx]
  refine wp_seq.mpr (wp_asg1.mpr (Wp.mono (bad_list (n := n) (R := R) (Tw := M.map encL) (l0 := l0.map encP) (A := A) ht hw (by omega) (by omega) r1 hll) ?_))
  rintro u A1 ⟨rfl, x, rfl⟩
  rw [thenS_nx]
  simp only [List.set_cons_succ, List.set_cons_zero]
  have hlist : (A ++ [x] ++ [MO.lst (bads R (M.map encL) (l0.map encP))])[A.length + 1]? = some (.lst (bads R (M.map encL) (l0.map encP))) := by simp
  refine wp_ret.mpr (wp_z2s (Wp.of (a := .loc (A.length + 1)) (A := A ++ [x] ++ [MO.lst (bads R (M.map encL) (l0.map encP))]) (by simp only [ev_V4, ev_V3, ev_V2, ev_V1, ev_V0]) (wp_take (many := 19) (by simp only [ev_aCons, ev_aNil, ev_V0, ev_C, Option.bind_some, Option.map_some]) t.grow.grow (by decide) (by decide) fun i A3 hi ho3 t3 => ?_)))
  have hn := t.ltn
  have h19 : (bads R (M.map encL) (l0.map encP)).length = 19 := rfl
  have hi' : i < (bads R (M.map encL) (l0.map encP)).length := by rw [h19]; omega
  have e4 : sIx (.loc (A.length + 1)) (.int (i : Nat)) A3 = some ((bads R (M.map encL) (l0.map encP))[i], A3) := sIx_loc (by rw [ho3.2 _ (by omega)]; exact hlist) (by rw [atI_nat, List.getElem?_eq_getElem hi'])
  exact Wp.of e4 ⟨all_bad g mt r0 r1 hl0 _ (List.getElem_mem hi'), t3⟩
end Z
set_option Elab.async false
set_option linter.all false
set_option maxRecDepth 100000
set_option maxHeartbeats 1000000
/-! M20: the two runs; _law_same of a value and itself -/
namespace Z
open PySem L2
def entry (M : List (List Pl)) (s r : Nat) : Pl := ((lineAt M s)[r]?).getD none
def runW (M : List (List Pl)) : List Nat → Nat → List (List W) → W
  | [], _, acc => .tup [.tup (acc.map .tup), .non]
  | r :: rest, s, acc => match entry M s r with
    | none => .tup [.tup (acc.map .tup), .int acc.length]
    | some (o, s') => runW M rest s' (acc ++ [o])
section
variable {R : List W} {Q : List W → Prop} {M : List (List Pl)} {A : AH}
theorem row_at {s : Nat} (hs : s < M.length) {A : AH} : sIx (.tup (M.map encL)) (.int (s : Nat)) A = some (encL (lineAt M s), A) := by
  rw [ev_ixT, atI_nat, List.getElem?_map, (lineAt_mem hs).2]; rfl
theorem ent_at (m : MTab R.length Q M) {s r : Nat} (hs : s < M.length) (hr : r < R.length) {A : AH} : sIx (encL (lineAt M s)) (.int (r : Nat)) A = some (encP (entry M s r), A) := by
  have hl : r < (lineAt M s).length := by rw [m.wide _ (lineAt_mem hs).1]; exact hr
  have e : (lineAt M s)[r]? = some (lineAt M s)[r] := List.getElem?_eq_getElem hl
  unfold encL entry
  rw [ev_ixT, atI_nat, List.getElem?_map, e]; rfl
theorem ent_mem (m : MTab R.length Q M) {s r : Nat} (hs : s < M.length) (hr : r < R.length) : entry M s r ∈ lineAt M s := by
  have hl : r < (lineAt M s).length := by rw [m.wide _ (lineAt_mem hs).1]; exact hr
  have e : (lineAt M s)[r]? = some (lineAt M s)[r] := List.getElem?_eq_getElem hl
  unfold entry
  rw [e]
  exact List.getElem_mem hl
theorem ent_nx (m : MTab R.length Q M) {s r : Nat} (hs : s < M.length) (hr : r < R.length) {o : List W} {s' : Nat} (h : entry M s r = some (o, s')) : s' < M.length ∧ Q o :=
  ⟨m.ok.nxt _ (lineAt_mem hs).1 o s' (h ▸ ent_mem m hs hr), m.out _ (lineAt_mem hs).1 o s' (h ▸ ent_mem m hs hr)⟩
theorem run_ok (m : MTab R.length Q M) {idx : List Nat} (hi : ∀ r ∈ idx, r < R.length) (hl : idx.length ≤ 400) : ∃ A', Pre A A' ∧ X_run_machine [mach R M, .tup (natsW idx)] A = some (runW M idx 0 [], A') := by
  have hw : Wp (X_run_machine [mach R M, .tup (natsW idx)] A) fun u A' => u = runW M idx 0 [] ∧ Pre A A' := by
    unfold X_run_machine F_run_machine
    refine (wp_def rfl).mpr ?_
    unfold g_run_machine
    simp only [start2, List.replicate]
    refine wp_seq.mpr (to_wpS (o := .nx [some (mach R M), some (.tup (natsW idx)), none, none, none, some (.tup R), some (.tup (M.map encL)), none, none]) (A := A) (by simp [mach]) ?_)
    rw [thenS_nx]
    refine wp_seq.mpr (to_wpS (o := .nx [some (mach R M), some (.tup (natsW idx)), some (.int (0 : Nat)), none, none, some (.tup R), some (.tup (M.map encL)), none, none]) (A := A) (by simp) ?_)
    rw [thenS_nx]
    refine wp_seq.mpr (to_wpS (o := .nx [some (mach R M), some (.tup (natsW idx)), some (.int (0 : Nat)), some (.loc A.length), none, some (.tup R), some (.tup (M.map encL)), none, none]) (A := A ++ [.lst []]) (by simp) ?_)
    rw [thenS_nx]
    refine wp_seq.mpr (wp_forFix (ws := natsW idx) (A1 := A ++ [.lst []]) (by simp [ziSeq]) (fun i E A' => ∃ (s : Nat) (acc : List (List W)) (x4 x7 x8 : Option W), E = [some (mach R M), some (.tup (natsW idx)), some (.int (s : Nat)), some (.loc A.length), x4, some (.tup R), some (.tup (M.map encL)), x7, x8] ∧ A' = A ++ [.lst (acc.map .tup)] ∧ s < M.length ∧ acc.length = i ∧ runW M idx 0 [] = runW M (idx.drop i) s acc)
      ⟨0, [], none, none, none, rfl, rfl, m.ok.pos, rfl, rfl⟩ ?_ ?_)
    · rintro i w E A' hw ⟨s, acc, x4, x7, x8, rfl, rfl, hs, ha, hr⟩
      rw [natsW_get] at hw
      cases hp : idx[i]? with
      | none => rw [hp] at hw; cases hw
      | some r =>
        rw [hp, Option.map_some, Option.some.injEq] at hw
        subst hw
        have hlt := (List.getElem?_eq_some_iff.mp hp).1
        have hrr := hi r (List.mem_of_getElem? hp)
        have hd : idx.drop i = r :: idx.drop (i + 1) := by
          rw [List.drop_eq_getElem_cons hlt]
          congr 1
          exact (List.getElem?_eq_some_iff.mp hp).2
        rw [hd, runW] at hr
        refine ⟨_, rfl, ?_⟩
        simp only [List.set_cons_succ, List.set_cons_zero]
        refine wp_seq.mpr (wp_asg1.mpr (Wp.of (a := encP (entry M s r)) (A := A ++ [.lst (acc.map .tup)]) (by simp [row_at hs, ent_at m hs hrr]) ?_))
        rw [thenS_nx]
        simp only [List.set_cons_succ, List.set_cons_zero]
        have gL : (A ++ [MO.lst (acc.map .tup)])[A.length]? = some (.lst (acc.map .tup)) := by simp
        have lb : (acc.map W.tup).length < sizeLine := by rw [List.length_map]; exact big500 (by omega)
        cases he : entry M s r with
        | none =>
          rw [he] at hr
          refine wp_seq.mpr (wp_sIf.mpr (to_wp' (b := true) (A := A ++ [.lst (acc.map .tup)]) (by simp [encP, isNonW]) ⟨fun _ => ?_, fun h => (by cases h)⟩))
          refine wp_ret.mpr (to_wp (w := .tup [.tup (acc.map .tup), .int acc.length]) (A := A ++ [.lst (acc.map .tup)]) (by simp [sTuple, sLen, itemsW]) ?_)
          exact ⟨hr.symm, _, rfl⟩
        | some q =>
          obtain ⟨o, s'⟩ := q
          rw [he] at hr
          have hs' := (ent_nx m hs hrr he).1
          refine wp_seq.mpr (wp_sIf.mpr (to_wp' (b := false) (A := A ++ [.lst (acc.map .tup)]) (by simp [encP, isNonW]) ⟨fun h => (by cases h), fun _ => ?_⟩))
          refine wp_skip.mpr ?_
          rw [thenS_nx]
          refine wp_seq.mpr (to_wpS (o := .nx [some (mach R M), some (.tup (natsW idx)), some (.int (s' : Nat)), some (.loc A.length), some (.int (r : Nat)), some (.tup R), some (.tup (M.map encL)), some (encP (some (o, s'))), some (.tup o)]) (A := A ++ [.lst (acc.map .tup)]) (by simp [encP]) ?_)
          rw [thenS_nx]
          refine to_wpS (o := .nx [some (mach R M), some (.tup (natsW idx)), some (.int (s' : Nat)), some (.loc A.length), some (.int (r : Nat)), some (.tup R), some (.tup (M.map encL)), some (encP (some (o, s'))), some (.tup o)]) (A := A ++ [.lst ((acc ++ [o]).map .tup)]) ?_ ⟨s', acc ++ [o], _, _, _, rfl, rfl, hs', by rw [List.length_append, ha]; rfl, hr⟩
          have lb' : acc.length < sizeLine := by rw [List.length_map] at lb; exact lb
          simp [isLstB, sAppend, lb']
    · rintro E A' ⟨s, acc, x4, x7, x8, rfl, rfl, hs, ha, hr⟩
      rw [natsW_len, List.drop_length, runW] at hr
      rw [thenS_nx]
      refine wp_ret.mpr (to_wp (w := .tup [.tup (acc.map .tup), .non]) (A := A ++ [.lst (acc.map .tup)]) (by simp [sTuple]) ?_)
      exact ⟨hr.symm, _, rfl⟩
  obtain ⟨u, A', e, rfl, hp⟩ := hw
  exact ⟨A', hp, e⟩
theorem lrun_ok (m : MTab R.length Q M) {idx : List Nat} (hi : ∀ r ∈ idx, r < R.length) (hl : idx.length ≤ 400) : ∃ A', Pre A A' ∧ X__law_run [mach R M, .tup (natsW idx)] A = some (runW M idx 0 [], A') := by
  have hw : Wp (X__law_run [mach R M, .tup (natsW idx)] A) fun u A' => u = runW M idx 0 [] ∧ Pre A A' := by
    unfold X__law_run F__law_run
    refine (wp_def rfl).mpr ?_
    unfold g__law_run
    simp only [start2, List.replicate]
    refine wp_seq.mpr (to_wpS (o := .nx [some (mach R M), some (.tup (natsW idx)), some (.int (0 : Nat)), none, none, none]) (A := A) (by simp) ?_)
    rw [thenS_nx]
    refine wp_seq.mpr (to_wpS (o := .nx [some (mach R M), some (.tup (natsW idx)), some (.int (0 : Nat)), some (.loc A.length), none, none]) (A := A ++ [.lst []]) (by simp) ?_)
    rw [thenS_nx]
    have tb : ∀ A, sIx (mach R M) (.int 1) A = some (.tup (M.map encL), A) := fun A => rfl
    refine wp_seq.mpr (wp_forFix (ws := rngW 0 idx.length) (A1 := A ++ [.lst []]) (rng1_ok (by simp [natsW_len]) (by omega)) (fun i E A' => ∃ (s : Nat) (acc : List (List W)) (x4 x5 : Option W), E = [some (mach R M), some (.tup (natsW idx)), some (.int (s : Nat)), some (.loc A.length), x4, x5] ∧ A' = A ++ [.lst (acc.map .tup)] ∧ s < M.length ∧ acc.length = i ∧ runW M idx 0 [] = runW M (idx.drop i) s acc)
      ⟨0, [], none, none, rfl, rfl, m.ok.pos, rfl, rfl⟩ ?_ ?_)
    · rintro i w E A' hw ⟨s, acc, x4, x5, rfl, rfl, hs, ha, hr⟩
      obtain ⟨hlt, rfl⟩ := rngW_get hw
      have i4 : (0 : Int) + (i : Nat) = (i : Nat) := by omega
      rw [i4]
      have hp : idx[i]? = some idx[i] := List.getElem?_eq_getElem hlt
      generalize hri : idx[i] = r at hp
      have hrr := hi r (List.mem_of_getElem? hp)
      have hd : idx.drop i = r :: idx.drop (i + 1) := by
        rw [List.drop_eq_getElem_cons hlt, hri]
      rw [hd, runW] at hr
      refine ⟨_, rfl, ?_⟩
      simp only [List.set_cons_succ, List.set_cons_zero]
      have ex : ∀ A, sIx (.tup (natsW idx)) (.int (i : Nat)) A = some (.int (r : Nat), A) := fun A => by rw [ev_ixT, atI_nat, natsW_get, hp]; rfl
      refine wp_seq.mpr (wp_asg1.mpr (Wp.of (a := encP (entry M s r)) (A := A ++ [.lst (acc.map .tup)]) (by simp [tb, ex, row_at hs, ent_at m hs hrr]) ?_))
      rw [thenS_nx]
      simp only [List.set_cons_succ, List.set_cons_zero]
      have lb' : acc.length < sizeLine := big500 (by omega)
      cases he : entry M s r with
      | none =>
        rw [he] at hr
        refine wp_seq.mpr (wp_sIf.mpr (to_wp' (b := true) (A := A ++ [.lst (acc.map .tup)]) (by simp [encP, isNonW]) ⟨fun _ => ?_, fun h => (by cases h)⟩))
        refine wp_ret.mpr (to_wp (w := .tup [.tup (acc.map .tup), .int acc.length]) (A := A ++ [.lst (acc.map .tup)]) (by simp [sTuple, ha]) ?_)
        exact ⟨hr.symm, _, rfl⟩
      | some q =>
        obtain ⟨o, s'⟩ := q
        rw [he] at hr
        have hs' := (ent_nx m hs hrr he).1
        refine wp_seq.mpr (wp_sIf.mpr (to_wp' (b := false) (A := A ++ [.lst (acc.map .tup)]) (by simp [encP, isNonW]) ⟨fun h => (by cases h), fun _ => ?_⟩))
        refine wp_skip.mpr ?_
        rw [thenS_nx]
        have j0 : ∀ A, sIx (encP (some (o, s'))) (.int 0) A = some (.tup o, A) := fun A => rfl
        have j1 : ∀ A, sIx (encP (some (o, s'))) (.int 1) A = some (.int (s' : Nat), A) := fun A => rfl
        refine wp_seq.mpr (to_wpS (o := .nx [some (mach R M), some (.tup (natsW idx)), some (.int (s : Nat)), some (.loc A.length), some (.int (i : Nat)), some (encP (some (o, s')))]) (A := A ++ [.lst ((acc ++ [o]).map .tup)]) (by simp [isLstB, sAppend, lb', j0]) ?_)
        rw [thenS_nx]
        exact to_wpS (o := .nx [some (mach R M), some (.tup (natsW idx)), some (.int (s' : Nat)), some (.loc A.length), some (.int (i : Nat)), some (encP (some (o, s')))]) (A := A ++ [.lst ((acc ++ [o]).map .tup)]) (by simp [j1]) ⟨s', acc ++ [o], _, _, rfl, rfl, hs', by rw [List.length_append, ha]; rfl, hr⟩
    · rintro E A' ⟨s, acc, x4, x5, rfl, rfl, hs, ha, hr⟩
      rw [rngW_len, List.drop_length, runW] at hr
      rw [thenS_nx]
      refine wp_ret.mpr (to_wp (w := .tup [.tup (acc.map .tup), .non]) (A := A ++ [.lst (acc.map .tup)]) (by simp [sTuple]) ?_)
      exact ⟨hr.symm, _, rfl⟩
  obtain ⟨u, A', e, rfl, hp⟩ := hw
  exact ⟨A', hp, e⟩
end
end Z
set_option Elab.async false
set_option linter.all false
set_option maxRecDepth 100000
set_option maxHeartbeats 1000000
/-! M21: _law_same of a value and itself -/
namespace Z
open PySem L2
def okS : Nat → W → Bool
  | 0, _ => false
  | d + 1, w => match w with
    | .tup ws => decide (ws.length ≤ 500) && ws.all (okS d)
    | .non => true
    | .bl _ => true
    | .int _ => true
    | .str x => SeqAt.shaped (.str x)
    | _ => false
theorem sEq_str {x : Str} {A : AH} (h : SeqAt.shaped (.str x) = true) : sEq (.str x) (.str x) A = some (.bl true, A) := by
  unfold sEq eqP
  show Option.map _ (if (SeqAt.shaped (.str x) && SeqAt.shaped (.str x)) = true then _ else _) = _
  rw [h]
  simp [PyData.eqv]
theorem sEq_bl {b : Bool} {A : AH} : sEq (.bl b) (.bl b) A = some (.bl true, A) := by
  cases b <;> rfl
theorem sNe_int {a b : Int} {A : AH} : sNe (.int a) (.int b) A = some (.bl (!(a == b)), A) := by rfl
theorem same_ok : ∀ {d : Nat} {w : W} {A : AH}, okS d w = true → Xr__law_same d [w, w] A = some (.bl true, A)
  | 0, w, A, h => by cases h
  | d + 1, w, A, h => by
    show F__law_same (Xr__law_same d) [w, w] A = _
    cases w with
    | tup ws =>
      unfold okS at h
      simp only [Bool.and_eq_true, decide_eq_true_eq] at h
      refine of_wp ?_
      unfold F__law_same
      refine (wp_def rfl).mpr ?_
      unfold g__law_same
      simp only [start2, List.replicate]
      refine wp_seq.mpr (wp_sIf.mpr (to_wp' (b := true) (A := A) (by simp) ⟨fun _ => ?_, fun h => (by cases h)⟩))
      refine wp_seq.mpr (wp_sIf.mpr (to_wp' (b := false) (A := A) (by simp [sNe_int]) ⟨fun h => (by cases h), fun _ => ?_⟩))
      refine wp_skip.mpr ?_
      rw [thenS_nx]
      refine wp_seq.mpr (wp_forFix (ws := rngW 0 ws.length) (A1 := A) (rng1_ok (by simp) (by omega)) (fun i E A' => A' = A ∧ ∃ x2, E = [some (.tup ws), some (.tup ws), x2]) ⟨rfl, _, rfl⟩ ?_ ?_)
      · rintro i w E A' hw ⟨rfl, x2, rfl⟩
        obtain ⟨hlt, rfl⟩ := rngW_get hw
        have i4 : (0 : Int) + (i : Nat) = (i : Nat) := by omega
        rw [i4]
        refine ⟨_, rfl, ?_⟩
        simp only [List.set_cons_succ, List.set_cons_zero]
        have hg : atI ws (i : Nat) = some ws[i] := by rw [atI_nat]; exact List.getElem?_eq_getElem hlt
        have ih := same_ok (d := d) (w := ws[i]) (A := A') (List.all_eq_true.mp h.2 _ (List.getElem_mem hlt))
        refine wp_sIf.mpr (to_wp' (b := false) (A := A') (by simp [hg, ih]) ⟨fun h => (by cases h), fun _ => ?_⟩)
        exact wp_skip.mpr ⟨rfl, _, rfl⟩
      · rintro E A' ⟨rfl, x2, rfl⟩
        rw [thenS_nx]
        exact wp_ret.mpr (to_wp (w := .bl true) (A := A') rfl ⟨rfl, rfl⟩)
    | bl b => simp [F__law_same, g__law_same, sEq_bl]
    | int i => simp [F__law_same, g__law_same, sEq_int]
    | str x => simp [F__law_same, g__law_same, sEq_str h]
    | non => simp [F__law_same, g__law_same, isNonW]
    | _ => cases h
theorem menus_okS : ∀ o ∈ menus, ∀ x ∈ o, ∀ w ∈ x, okS 2 w = true := by decide +kernel
theorem menus_len4 : ∀ o ∈ menus, ∀ x ∈ o, x.length ≤ 4 := by decide
theorem runW_ok {R : List W} {outs : List (List W)} {M : List (List Pl)} (ho : outs ∈ menus) (m : MTab R.length (· ∈ outs) M) : ∀ {idx : List Nat} {s : Nat} {acc : List (List W)}, (∀ r ∈ idx, r < R.length) → s < M.length → (∀ o ∈ acc, o ∈ outs) → acc.length + idx.length ≤ 400 → okS 5 (runW M idx s acc) = true := by
  have fin : ∀ {acc : List (List W)} {w : W}, (∀ o ∈ acc, o ∈ outs) → acc.length ≤ 400 → okS 4 w = true → okS 5 (.tup [.tup (acc.map .tup), w]) = true := by
    intro acc w ha hl hw
    unfold okS
    simp only [List.length_cons, List.length_nil, List.all_cons, List.all_nil, hw, Bool.and_true, Bool.and_eq_true]
    refine ⟨by simp, ?_⟩
    unfold okS
    simp only [List.length_map, Bool.and_eq_true, decide_eq_true_eq, List.all_eq_true]
    refine ⟨by omega, fun x hx => ?_⟩
    obtain ⟨o, ho', rfl⟩ := List.mem_map.mp hx
    unfold okS
    simp only [Bool.and_eq_true, decide_eq_true_eq, List.all_eq_true]
    have := menus_len4 outs ho o (ha o ho')
    exact ⟨by omega, menus_okS outs ho o (ha o ho')⟩
  intro idx
  induction idx with
  | nil =>
    intro s acc hi hs ha hl
    rw [runW]
    exact fin ha (by simp at hl; omega) rfl
  | cons r idx ih =>
    intro s acc hi hs ha hl
    rw [runW]
    have hr := hi r List.mem_cons_self
    simp only [List.length_cons] at hl
    cases he : entry M s r with
    | none => exact fin ha (by omega) rfl
    | some q =>
      obtain ⟨o, s'⟩ := q
      obtain ⟨h1, h2⟩ := ent_nx m hs hr he
      exact ih (fun r hr => hi r (List.mem_cons_of_mem _ hr)) h1 (fun x hx => by
        rcases List.mem_append.mp hx with hx | hx
        · exact ha x hx
        · rw [List.mem_singleton] at hx; subst hx; exact h2) (by rw [List.length_append]; simp only [List.length_cons, List.length_nil]; omega)
end Z
set_option Elab.async false
set_option linter.all false
set_option maxRecDepth 100000
set_option maxHeartbeats 1000000
/-! M22: numbered already; == of tables -/
namespace Z
open PySem L2
theorem idx_range {s k : Nat} (h : s < k) : (List.range k).idxOf s = s := by
  have h' : s < (List.range k).length := by simpa using h
  have := List.Nodup.idxOf_getElem (List.nodup_range (n := k)) s h'
  rwa [List.getElem_range] at this
theorem numL_fix : ∀ {l : List Pl} {k : Nat} {m : Int}, numLine k (l.map nxP) = some m → ∃ m' : Nat, m = m' ∧ numL (List.range k) l = (List.range m', l)
  | [], k, m, h => by cases h; exact ⟨k, rfl, rfl⟩
  | none :: r, k, m, h => by
    obtain ⟨m', e, e2⟩ := numL_fix (l := r) (k := k) (m := m) h
    refine ⟨m', e, ?_⟩
    show ((numL (List.range k) r).1, none :: (numL (List.range k) r).2) = _
    rw [e2]
  | some (o, s) :: r, k, m, h => by
    have h' : numLine k (some ((s : Nat) : Int) :: r.map nxP) = some m := h
    rw [numLine_cons] at h'
    show ∃ m' : Nat, m = m' ∧ ((numL (visO (List.range k) (some (o, s))) r).1, some (o, (visO (List.range k) (some (o, s))).idxOf s) :: (numL (visO (List.range k) (some (o, s))) r).2) = _
    by_cases hk : s < k
    · have hv : visO (List.range k) (some (o, s)) = List.range k := by simp [visO, hk]
      rw [if_neg (by omega)] at h'
      obtain ⟨m', e, e2⟩ := numL_fix (l := r) (k := k) (m := m) h'
      rw [hv, idx_range hk, e2]
      exact ⟨m', e, rfl⟩
    · rw [if_pos (by omega)] at h'
      split at h'
      · cases h'
      · have hs : s = k := by omega
        subst hs
        have hv : visO (List.range s) (some (o, s)) = List.range (s + 1) := by simp [visO, List.range_succ]
        obtain ⟨m', e, e2⟩ := numL_fix (l := r) (k := s + 1) (m := m) (by rw [← h']; congr 1)
        rw [hv, idx_range (Nat.lt_succ_self s), e2]
        exact ⟨m', e, rfl⟩
theorem numT_fix {T : List (List Pl)} : ∀ {k i c : Nat}, i + k = T.length → numGo c i ((T.drop i).map fun l => l.map nxP) = true → numT T (List.range c) i k = T.drop i
  | 0, i, c, h, _ => by rw [numT, List.drop_of_length_le (by omega)]
  | k + 1, i, c, h, hg => by
    have hlt : i < T.length := by omega
    have hd : T.drop i = T[i] :: T.drop (i + 1) := List.drop_eq_getElem_cons hlt
    rw [hd, List.map_cons, numGo_cons] at hg
    split at hg
    · cases hg
    · rename_i hic
      have hc : i < (List.range c).length := by rw [List.length_range]; omega
      have hl : lineAt T i = T[i] := by unfold lineAt; rw [List.getElem?_eq_getElem hlt]; rfl
      split at hg
      · cases hg
      · rename_i m hm
        obtain ⟨m', rfl, e2⟩ := numL_fix hm
        rw [numT, if_pos hc, List.getElem?_eq_getElem hc, Option.getD_some, List.getElem_range, hl, e2, hd]
        congr 1
        exact numT_fix (k := k) (i := i + 1) (c := m') (by omega) hg
theorem num_fix {T : List (List Pl)} (h : numGo 1 0 (T.map fun l => l.map nxP) = true) : num T = T :=
  numT_fix (k := T.length) (i := 0) (c := 1) (by omega) h
/-! == -/
theorem eqv_pl : ∀ {p q : Pl} {a b : PyData}, toP (encP p) = some a → toP (encP q) = some b → PyData.eqv a b = true → nxP p = nxP q
  | none, none, _, _, _, _, _ => rfl
  | none, some (o, s), a, b, h1, h2, h => by
    simp only [encP, toP, toPs, Option.bind_some, Option.map_some] at h1 h2
    cases h1
    cases e : toPs o with
    | none => rw [e] at h2; cases h2
    | some ds => rw [e] at h2; cases h2; simp [PyData.eqv] at h
  | some (o, s), none, a, b, h1, h2, h => by
    simp only [encP, toP, toPs, Option.bind_some, Option.map_some] at h1 h2
    cases h2
    cases e : toPs o with
    | none => rw [e] at h1; cases h1
    | some ds => rw [e] at h1; cases h1; simp [PyData.eqv] at h
  | some (o, s), some (o', s'), a, b, h1, h2, h => by
    simp only [encP, toP, toPs, Option.bind_some, Option.map_some] at h1 h2
    cases e : toPs o with
    | none => rw [e] at h1; cases h1
    | some ds =>
      cases e' : toPs o' with
      | none => rw [e'] at h2; cases h2
      | some ds' =>
        rw [e] at h1; rw [e'] at h2
        cases h1; cases h2
        simp only [PyData.eqv, PyData.eqvAll, Bool.and_true, Bool.and_eq_true, beq_iff_eq] at h
        show some ((s : Nat) : Int) = some ((s' : Nat) : Int)
        rw [h.2]
theorem eqv_line : ∀ {l l' : List Pl} {as bs : List PyData}, toPs (l.map encP) = some as → toPs (l'.map encP) = some bs → PyData.eqvAll as bs = true → l.map nxP = l'.map nxP
  | [], [], _, _, _, _, _ => rfl
  | [], q :: l', as, bs, h1, h2, h => by
    cases h1
    rw [List.map_cons, toPs, Option.bind_eq_some_iff] at h2
    obtain ⟨b, hb, h2⟩ := h2
    rw [Option.map_eq_some_iff] at h2
    obtain ⟨bs', hb2, rfl⟩ := h2
    simp [PyData.eqvAll] at h
  | p :: l, [], as, bs, h1, h2, h => by
    cases h2
    rw [List.map_cons, toPs, Option.bind_eq_some_iff] at h1
    obtain ⟨b, hb, h1⟩ := h1
    rw [Option.map_eq_some_iff] at h1
    obtain ⟨bs', hb2, rfl⟩ := h1
    simp [PyData.eqvAll] at h
  | p :: l, q :: l', as, bs, h1, h2, h => by
    rw [List.map_cons, toPs, Option.bind_eq_some_iff] at h1 h2
    obtain ⟨a, ha, h1⟩ := h1
    obtain ⟨b, hb, h2⟩ := h2
    rw [Option.map_eq_some_iff] at h1 h2
    obtain ⟨as', ha2, rfl⟩ := h1
    obtain ⟨bs', hb2, rfl⟩ := h2
    rw [PyData.eqvAll, Bool.and_eq_true] at h
    rw [List.map_cons, List.map_cons, eqv_pl ha hb h.1, eqv_line ha2 hb2 h.2]
theorem eqv_tab : ∀ {T T' : List (List Pl)} {as bs : List PyData}, toPs (T.map encL) = some as → toPs (T'.map encL) = some bs → PyData.eqvAll as bs = true → (T.map fun l => l.map nxP) = T'.map fun l => l.map nxP
  | [], [], _, _, _, _, _ => rfl
  | [], q :: l', as, bs, h1, h2, h => by
    cases h1
    rw [List.map_cons, toPs, Option.bind_eq_some_iff] at h2
    obtain ⟨b, hb, h2⟩ := h2
    rw [Option.map_eq_some_iff] at h2
    obtain ⟨bs', hb2, rfl⟩ := h2
    simp [PyData.eqvAll] at h
  | p :: l, [], as, bs, h1, h2, h => by
    cases h2
    rw [List.map_cons, toPs, Option.bind_eq_some_iff] at h1
    obtain ⟨b, hb, h1⟩ := h1
    rw [Option.map_eq_some_iff] at h1
    obtain ⟨bs', hb2, rfl⟩ := h1
    simp [PyData.eqvAll] at h
  | p :: l, q :: l', as, bs, h1, h2, h => by
    rw [List.map_cons, toPs, Option.bind_eq_some_iff] at h1 h2
    obtain ⟨a, ha, h1⟩ := h1
    obtain ⟨b, hb, h2⟩ := h2
    rw [Option.map_eq_some_iff] at h1 h2
    obtain ⟨as', ha2, rfl⟩ := h1
    obtain ⟨bs', hb2, rfl⟩ := h2
    rw [PyData.eqvAll, Bool.and_eq_true] at h
    unfold encL at ha hb
    rw [toP, Option.map_eq_some_iff] at ha hb
    obtain ⟨xs, hx, rfl⟩ := ha
    obtain ⟨ys, hy, rfl⟩ := hb
    rw [PyData.eqv] at h
    rw [List.map_cons, List.map_cons, eqv_line hx hy h.1, eqv_tab ha2 hb2 h.2]
/-- what okS tells of the value as data -/
theorem okS_data : ∀ {d : Nat} {w : W}, okS d w = true → ∃ pd, toP w = some pd ∧ pd.canLay0 = true ∧ pd.depth ≤ d ∧ PyData.eqv pd pd = true
  | 0, w, h => by cases h
  | d + 1, w, h => by
    cases w with
    | tup ws =>
      unfold okS at h
      simp only [Bool.and_eq_true] at h
      have : ∀ ws : List W, ws.all (okS d) = true → ∃ ps, toPs ws = some ps ∧ PyData.canLayAll0 ps = true ∧ PyData.depthAll ps ≤ d ∧ PyData.eqvAll ps ps = true := by
        intro ws
        induction ws with
        | nil => exact fun _ => ⟨[], rfl, rfl, by simp [PyData.depthAll], rfl⟩
        | cons w ws ih =>
          intro hall
          rw [List.all_cons, Bool.and_eq_true] at hall
          obtain ⟨p, h1, h2, h3, h4⟩ := okS_data hall.1
          obtain ⟨ps, k1, k2, k3, k4⟩ := ih hall.2
          refine ⟨p :: ps, by rw [toPs, h1, Option.bind_some, k1]; rfl, by rw [PyData.canLayAll0, h2, k2]; rfl, by rw [PyData.depthAll]; omega, by rw [PyData.eqvAll, h4, k4]; rfl⟩
      obtain ⟨ps, k1, k2, k3, k4⟩ := this ws h.2
      exact ⟨.tuple ps, by rw [toP, k1]; rfl, by rw [PyData.canLay0]; exact k2, by rw [PyData.depth]; omega, by rw [PyData.eqv]; exact k4⟩
    | non => exact ⟨.none, rfl, rfl, by simp [PyData.depth], rfl⟩
    | bl b => exact ⟨.bool b, rfl, rfl, by simp [PyData.depth], by simp [PyData.eqv]⟩
    | int i => exact ⟨.int i, rfl, rfl, by simp [PyData.depth], by simp [PyData.eqv]⟩
    | str x =>
      have : SeqAt.shaped (.str x) = true := h
      exact ⟨.str x, rfl, SeqAt.canLay_of_shaped this, by simp [PyData.depth], by simp [PyData.eqv]⟩
    | _ => cases h
end Z
set_option Elab.async false
set_option linter.all false
set_option maxRecDepth 100000
set_option maxHeartbeats 1000000
/-! M23: == of a table and its numbering; the swapped table -/
namespace Z
open PySem L2
theorem pl_okS {outs : List (List W)} (ho : outs ∈ menus) {p : Pl} (h : ∀ o s, p = some (o, s) → o ∈ outs) : okS 4 (encP p) = true := by
  cases p with
  | none => rfl
  | some q =>
    obtain ⟨o, s⟩ := q
    have hm := h o s rfl
    have h4 := menus_len4 outs ho o hm
    unfold encP okS
    simp only [List.length_cons, List.length_nil, List.all_cons, List.all_nil, Bool.and_true, Bool.and_eq_true]
    refine ⟨by simp, ?_, rfl⟩
    unfold okS
    simp only [Bool.and_eq_true, decide_eq_true_eq, List.all_eq_true]
    exact ⟨by omega, menus_okS outs ho o hm⟩
theorem tab_okS {outs : List (List W)} (ho : outs ∈ menus) {T : List (List Pl)} (few : T.length ≤ 500) (wid : ∀ l ∈ T, l.length ≤ 500) (h : ∀ l ∈ T, ∀ o s, some (o, s) ∈ l → o ∈ outs) : okS 6 (.tup (T.map encL)) = true := by
  unfold okS
  simp only [List.length_map, Bool.and_eq_true, decide_eq_true_eq, List.all_eq_true]
  refine ⟨few, fun w hw => ?_⟩
  obtain ⟨l, hl, rfl⟩ := List.mem_map.mp hw
  unfold encL okS
  simp only [List.length_map, Bool.and_eq_true, decide_eq_true_eq, List.all_eq_true]
  refine ⟨wid l hl, fun w hw => ?_⟩
  obtain ⟨p, hp, rfl⟩ := List.mem_map.mp hw
  exact pl_okS ho fun o s e => h l hl o s (e ▸ hp)
theorem eq_data {u v : W} {a b : PyData} {A : AH} (h1 : toPA A u = some a) (h2 : toPA A v = some b) (s1 : SeqAt.shaped a = true) (s2 : SeqAt.shaped b = true) : sEq u v A = some (.bl (PyData.eqv a b), A) ∧ sNe u v A = some (.bl (!PyData.eqv a b), A) := by
  have : eqP A u v = some (PyData.eqv a b) := by
    unfold eqP
    rw [h1, h2, Option.bind_some, Option.bind_some, s1, s2]
    rfl
  unfold sEq sNe
  rw [this]
  exact ⟨rfl, rfl⟩
theorem shaped_okS {d : Nat} {w : W} (h : okS d w = true) (hd : d ≤ 64) : ∃ pd, toP w = some pd ∧ SeqAt.shaped pd = true ∧ PyData.eqv pd pd = true := by
  obtain ⟨pd, h1, h2, h3, h4⟩ := okS_data h
  refine ⟨pd, h1, ?_, h4⟩
  unfold SeqAt.shaped
  rw [h2, Bool.true_and, decide_eq_true_eq]; omega
theorem toPA_tup {A : AH} {ws : List W} : toPA A (.tup ws) = toP (.tup ws) := rfl
/-- == and != of two tables of a menu -/
theorem tab_cmp {outs : List (List W)} (ho : outs ∈ menus) {T T' : List (List Pl)} {A : AH} (f1 : T.length ≤ 500) (w1 : ∀ l ∈ T, l.length ≤ 500) (o1 : ∀ l ∈ T, ∀ o s, some (o, s) ∈ l → o ∈ outs) (f2 : T'.length ≤ 500) (w2 : ∀ l ∈ T', l.length ≤ 500) (o2 : ∀ l ∈ T', ∀ o s, some (o, s) ∈ l → o ∈ outs) :
    ∃ b : Bool, sEq (.tup (T.map encL)) (.tup (T'.map encL)) A = some (.bl b, A) ∧ sNe (.tup (T.map encL)) (.tup (T'.map encL)) A = some (.bl (!b), A) ∧ (T = T' → b = true) ∧ (b = true → (T.map fun l => l.map nxP) = T'.map fun l => l.map nxP) := by
  obtain ⟨a, a1, a2, a3⟩ := shaped_okS (tab_okS ho f1 w1 o1) (by decide)
  obtain ⟨b, b1, b2, b3⟩ := shaped_okS (tab_okS ho f2 w2 o2) (by decide)
  obtain ⟨e1, e2⟩ := eq_data (A := A) (toPA_tup.trans a1) (toPA_tup.trans b1) a2 b2
  refine ⟨PyData.eqv a b, e1, e2, fun e => ?_, fun h => ?_⟩
  · subst e
    rw [a1] at b1
    cases b1
    exact a3
  · rw [toP, Option.map_eq_some_iff] at a1 b1
    obtain ⟨as, ha, rfl⟩ := a1
    obtain ⟨bs, hb, rfl⟩ := b1
    rw [PyData.eqv] at h
    exact eqv_tab ha hb h
/-- the numbering of a table is the table exactly if it is numbered -/
theorem num_cmp {outs : List (List W)} (ho : outs ∈ menus) {R : Nat} {T : List (List Pl)} {A : AH} (ok : TabOk T) (hR : ∀ l ∈ T, l.length = R) (h1 : ∀ l ∈ T, ∀ o s, some (o, s) ∈ l → o ∈ outs) :
    sEq (.tup ((num T).map encL)) (.tup (T.map encL)) A = some (.bl (numGo 1 0 (T.map fun l => l.map nxP)), A) := by
  have m := num_ok (Q := (· ∈ outs)) ok hR h1
  obtain ⟨b, e1, e2, e3, e4⟩ := tab_cmp ho (T := num T) (T' := T) (A := A) m.ok.few m.ok.wid m.out ok.few ok.wid h1
  rw [e1]
  cases hg : numGo 1 0 (T.map fun l => l.map nxP) with
  | true => rw [e3 (num_fix hg)]
  | false =>
    cases b with
    | false => rfl
    | true =>
      have := m.go
      rw [e4 rfl, hg] at this
      cases this
/-! the swapped table -/
def swap (k : Nat) : List Nat := 0 :: (List.range' 1 (k - 1)).reverse
theorem swap_mem {k s : Nat} (hk : 0 < k) : s ∈ swap k ↔ s < k := by
  unfold swap
  rw [List.mem_cons, List.mem_reverse, List.mem_range'_1]
  omega
theorem swap_len {k : Nat} (hk : 0 < k) : (swap k).length = k := by
  unfold swap
  rw [List.length_cons, List.length_reverse, List.length_range']; omega
def swapP (ord : List Nat) (p : Pl) : Pl := p.map fun q => (q.1, ord.idxOf q.2)
def swapT (M : List (List Pl)) : List (List Pl) := (swap M.length).map fun s => (lineAt M s).map (swapP (swap M.length))
theorem swap_ok {R : Nat} {Q : List W → Prop} {M : List (List Pl)} (m : MTab R Q M) : TabOk (swapT M) ∧ (∀ l ∈ swapT M, l.length = R) ∧ ∀ l ∈ swapT M, ∀ o s, some (o, s) ∈ l → Q o := by
  have len : (swapT M).length = M.length := by unfold swapT; rw [List.length_map, swap_len m.ok.pos]
  have key : ∀ l ∈ swapT M, ∃ s, s < M.length ∧ l = (lineAt M s).map (swapP (swap M.length)) := fun l hl => by
    obtain ⟨s, hs, rfl⟩ := List.mem_map.mp hl
    exact ⟨s, (swap_mem m.ok.pos).mp hs, rfl⟩
  have inl : ∀ {s : Nat} {o : List W} {s' : Nat}, s < M.length → some (o, s') ∈ (lineAt M s).map (swapP (swap M.length)) → ∃ t, some (o, t) ∈ lineAt M s ∧ s' = (swap M.length).idxOf t := fun {s o s'} hs h => by
    obtain ⟨p, hp, e⟩ := List.mem_map.mp h
    cases p with
    | none => cases e
    | some q =>
      obtain ⟨o', t⟩ := q
      simp only [swapP, Option.map_some, Option.some.injEq, Prod.mk.injEq] at e
      obtain ⟨rfl, rfl⟩ := e
      exact ⟨t, hp, rfl⟩
  refine ⟨⟨by rw [len]; exact m.ok.pos, by rw [len]; exact m.ok.few, fun l hl => ?_, fun l hl o s h => ?_⟩, fun l hl => ?_, fun l hl o s h => ?_⟩
  · obtain ⟨s, hs, rfl⟩ := key l hl
    rw [List.length_map]; exact m.ok.wid _ (lineAt_mem hs).1
  · obtain ⟨s1, hs, rfl⟩ := key l hl
    obtain ⟨t, ht, rfl⟩ := inl hs h
    rw [len]
    have := m.ok.nxt _ (lineAt_mem hs).1 o t ht
    have h2 := List.idxOf_lt_length_of_mem ((swap_mem m.ok.pos).mpr this)
    rwa [swap_len m.ok.pos] at h2
  · obtain ⟨s, hs, rfl⟩ := key l hl
    rw [List.length_map]; exact m.wide _ (lineAt_mem hs).1
  · obtain ⟨s1, hs, rfl⟩ := key l hl
    obtain ⟨t, ht, rfl⟩ := inl hs h
    exact m.out _ (lineAt_mem hs).1 o t ht
end Z
set_option Elab.async false
set_option linter.all false
set_option maxRecDepth 100000
set_option maxHeartbeats 1000000
/-! M24: the law's swapped table -/
namespace Z
open PySem L2
theorem dn_ok {k : Nat} {ga : ZA} {E : EN} {A A1 : AH} (h1 : 1 ≤ k) (h7 : k ≤ 7) (h : ga E A = some ([.int ((k : Int) - 1), .int 0, .int (-1)], A1)) : zListDn ga E A = some (.loc A1.length, A1 ++ [.lst (natsW (List.range' 1 (k - 1)).reverse)]) := by
  have : k = 1 ∨ k = 2 ∨ k = 3 ∨ k = 4 ∨ k = 5 ∨ k = 6 ∨ k = 7 := by omega
  unfold zListDn
  rw [h, Option.bind_some]
  rcases this with rfl | rfl | rfl | rfl | rfl | rfl | rfl <;> exact (if_pos (by decide)).trans rfl
def placeE : ZE := zIf (zBl (z2 sIsN (zV 8) (zC .non))) (zC .non) (zTup (zaCons (z2 sIx (zV 8) (zC (.int 0))) (zaCons (zM isLstB sIndex (zV 4) (zaCons (z2 sIx (zV 8) (zC (.int 1))) zaNil)) zaNil)))
theorem place_ok {A : AH} {x0 x1 x2 x3 x5 x6 x7 : Option W} {n4 : Nat} {ord : List Nat} {p : Pl} (h : A[n4]? = some (.lst (natsW ord))) (hp : ∀ o s, p = some (o, s) → s ∈ ord) : placeE [x0, x1, x2, x3, some (.loc n4), x5, x6, x7, some (encP p)] A = some (encP (swapP ord p), A) := by
  cases p with
  | none => simp [placeE, encP, swapP, isNonW]
  | some q =>
    obtain ⟨o, s⟩ := q
    have e := sIndex_nats h (hp o s rfl)
    have i0 : ∀ A, sIx (encP (some (o, s))) (.int 0) A = some (.tup o, A) := fun A => rfl
    have i1 : ∀ A, sIx (encP (some (o, s))) (.int 1) A = some (.int (s : Nat), A) := fun A => rfl
    have g : isNonW (encP (some (o, s))) = false := rfl
    simp [placeE, swapP, g, i0, i1, isLstB, h, e]
    rfl
theorem sline_ok {A : AH} {x0 x1 x3 x5 x7 x8 : Option W} {n4 s : Nat} {R : List W} {M : List (List Pl)} {ord : List Nat} (h : A[n4]? = some (.lst (natsW ord))) (hs : s < M.length) (hl : (lineAt M s).length ≤ 500) (hp : ∀ o t, some (o, t) ∈ lineAt M s → t ∈ ord) :
    Wp (zLc (ziSeq (z2 sIx (z2 sIx (zV 2) (zC (.int 1))) (zV 6))) (.name 8) ztYes placeE [8] [x0, x1, some (mach R M), x3, some (.loc n4), x5, some (.int (s : Nat)), x7, x8] A) fun u A' => u = .loc A.length ∧ A' = A ++ [.lst (((lineAt M s).map (swapP ord)).map encP)] := by
  have tb : ∀ A, sIx (mach R M) (.int 1) A = some (.tup (M.map encL), A) := fun A => rfl
  refine wp_lcFix (ws := (lineAt M s).map encP) (A1 := A) (by simp [ziSeq, tb, row_at hs, encL]) (fun i acc A' => A' = A ++ [.lst acc] ∧ acc = (((lineAt M s).take i).map (swapP ord)).map encP) ⟨rfl, rfl⟩ ?_ ?_
  · rintro i w acc A' hw ⟨rfl, hacc⟩
    rw [List.getElem?_map] at hw
    cases hp' : (lineAt M s)[i]? with
    | none => rw [hp'] at hw; cases hw
    | some p =>
      rw [hp', Option.map_some, Option.some.injEq] at hw
      subst hw
      refine ⟨_, rfl, ?_⟩
      have hlt := (List.getElem?_eq_some_iff.mp hp').1
      have hm := List.mem_of_getElem? hp'
      have hla : acc.length ≤ 500 := by rw [hacc, List.length_map, List.length_map, List.length_take]; omega
      have g4 : (A ++ [MO.lst acc])[n4]? = some (.lst (natsW ord)) := by rw [List.getElem?_append_left (List.getElem?_eq_some_iff.mp h).1]; exact h
      show Wp (placeE [x0, x1, some (mach R M), x3, some (.loc n4), x5, some (.int (s : Nat)), x7, some (encP p)] (A ++ [.lst acc])) _
      refine to_wp (place_ok (A := A ++ [.lst acc]) (p := p) g4 (fun o t e => hp o t (e ▸ hm))) ⟨by simp, big500 hla, by simp, ?_⟩
      have : p = (lineAt M s)[i] := ((List.getElem?_eq_some_iff.mp hp').2).symm
      rw [hacc, List.take_succ_eq_append_getElem hlt, List.map_append, List.map_append, ← this]
      rfl
  · rintro acc A' ⟨rfl, hacc⟩
    refine ⟨rfl, ?_⟩
    rw [hacc, List.length_map, List.take_length]
noncomputable def swapS : ZS := (zsIf (zBl (z2 sGt (zB sLen (zaCons (z2 sIx (zV 2) (zC (.int 1))) zaNil)) (zC (.int 2)))) (zsSeq (zsAsg (z2 sAdd (zLst (zaCons (zC (.int 0)) zaNil)) (zListDn (zaCons (z2 sSub (zB sLen (zaCons (z2 sIx (zV 2) (zC (.int 1))) zaNil)) (zC (.int 1))) (zaCons (zC (.int 0)) (zaCons (zNeg (zC (.int 1))) zaNil))))) (.name 4)) (zsSeq (zsAsg (zLst zaNil) (.name 5)) (zsSeq (zsFor (ziSeq (zV 4)) (.name 6) (zsDrop (zM isLstB sAppend (zV 5) (zaCons (zB sTuple (zaCons (zLc (ziSeq (z2 sIx (z2 sIx (zV 2) (zC (.int 1))) (zV 6))) (.name 8) ztYes placeE [8]) zaNil)) zaNil)))) (zsIf (tzAnd (zBl (z2 sNe (zB sTuple (zaCons (zV 5) zaNil)) (z2 sIx (zV 2) (zC (.int 1))))) (zBl (z2 sNe (zCall 1 X_is_machine (zaCons (zTup (zaCons (z2 sIx (zV 2) (zC (.int 0))) (zaCons (zB sTuple (zaCons (zV 5) zaNil)) zaNil))) zaNil)) (z2 sEq (z2 sIx (zCall 2 X__law_numbered (zaCons (z2 sIx (zV 2) (zC (.int 0))) (zaCons (zV 5) zaNil))) (zC (.int 1))) (zB sTuple (zaCons (zV 5) zaNil)))))) (zsRet (zC (.bl false))) zsSkip)))) zsSkip)
theorem swap_pre {k : Nat} (h1 : 1 ≤ k) : [W.int 0] ++ natsW (List.range' 1 (k - 1)).reverse = natsW (swap k) := rfl
theorem swap_block {R : List W} {outs : List (List W)} {M : List (List Pl)} {A : AH} {x0 x1 x3 x4 x5 x6 x7 x8 : Option W} (ho : outs ∈ menus) (g : RowsGood R) (m : MTab R.length (· ∈ outs) M) (h7 : M.length ≤ 7) :
    Wp (swapS [x0, x1, some (mach R M), x3, x4, x5, x6, x7, x8] A) fun o A' => ∃ y4 y5 y6 y8, o = .nx [x0, x1, some (mach R M), x3, y4, y5, y6, x7, y8] ∧ Pre A A' := by
  have tb : ∀ A, sIx (mach R M) (.int 1) A = some (.tup (M.map encL), A) := fun A => rfl
  have tr : ∀ A, sIx (mach R M) (.int 0) A = some (.tup R, A) := fun A => rfl
  have pos := m.ok.pos
  unfold swapS
  refine wp_sIf.mpr (to_wp' (b := decide (2 < (M.length : Int))) (A := A) (by simp [tb, sGt]) ⟨fun hb => ?_, fun hb => wp_skip.mpr ⟨_, _, _, _, rfl, Pre.refl⟩⟩)
  refine wp_seq.mpr (wp_asg1.mpr (wp_z2s (Wp.of (a := .loc A.length) (A := A ++ [.lst [.int 0]]) (by simp) (Wp.of (dn_ok (k := M.length) (A1 := A ++ [.lst [.int 0]]) (by omega) h7 (by simp [tb, sSub])) ?_))))
  generalize hx : MO.lst [W.int 0] = X
  have l1 : (A ++ [X]).length = A.length + 1 := by simp
  rw [l1]
  have sl : (swap M.length).length = M.length := swap_len pos
  have add : sAdd (.loc A.length) (.loc (A.length + 1)) (A ++ [X] ++ [MO.lst (natsW (List.range' 1 (M.length - 1)).reverse)]) = some (.loc (A.length + 2), A ++ [X] ++ [MO.lst (natsW (List.range' 1 (M.length - 1)).reverse)] ++ [.lst (natsW (swap M.length))]) := by
    subst hx
    have b1 : (A ++ [MO.lst [W.int 0]] ++ [MO.lst (natsW (List.range' 1 (M.length - 1)).reverse)])[A.length]? = some (.lst [.int 0]) := by simp
    have b2 : (A ++ [MO.lst [W.int 0]] ++ [MO.lst (natsW (List.range' 1 (M.length - 1)).reverse)])[A.length + 1]? = some (.lst (natsW (List.range' 1 (M.length - 1)).reverse)) := by simp
    have b3 : [W.int 0].length + (natsW (List.range' 1 (M.length - 1)).reverse).length ≤ sizeLine := by
      rw [natsW_len, List.length_reverse, List.length_range']
      exact Nat.le_trans (show 1 + (M.length - 1) ≤ 500 by omega) (by decide)
    have e : sAddL (.loc A.length) (.loc (A.length + 1)) (A ++ [MO.lst [W.int 0]] ++ [MO.lst (natsW (List.range' 1 (M.length - 1)).reverse)]) = some (.loc (A.length + 2), A ++ [MO.lst [W.int 0]] ++ [MO.lst (natsW (List.range' 1 (M.length - 1)).reverse)] ++ [.lst (natsW (swap M.length))]) := by
      unfold sAddL
      simp only [b1, b2]
      rw [if_pos b3]
      simp only [List.length_append, List.length_cons, List.length_nil]
      rfl
    unfold sAdd
    rw [e]
    rfl
  refine Wp.of add ?_
  rw [thenS_nx]
  simp only [List.set_cons_succ, List.set_cons_zero]
  generalize hB : A ++ [X] ++ [MO.lst (natsW (List.range' 1 (M.length - 1)).reverse)] ++ [MO.lst (natsW (swap M.length))] = B
  have hB2 : B[A.length + 2]? = some (.lst (natsW (swap M.length))) := by subst hB; simp
  have preB : Pre A B := by subst hB; exact ⟨[X] ++ [MO.lst (natsW (List.range' 1 (M.length - 1)).reverse)] ++ [MO.lst (natsW (swap M.length))], by simp⟩
  clear hB
  refine wp_seq.mpr (wp_asg1.mpr (Wp.of (a := .loc B.length) (A := B ++ [.lst []]) (by simp) ?_))
  rw [thenS_nx]
  simp only [List.set_cons_succ, List.set_cons_zero]
  have lB := (List.getElem?_eq_some_iff.mp hB2).1
  have keep : ∀ (x : MO) (G : AH), (B ++ x :: G)[A.length + 2]? = some (.lst (natsW (swap M.length))) := fun x G => by rw [List.getElem?_append_left lB]; exact hB2
  refine wp_seq.mpr (wp_forLst (ws := natsW (swap M.length)) (n := A.length + 2) (A1 := B ++ [.lst []]) (by simp [ziSeq, keep]) (fun i E A' => ∃ (acc : List (List Pl)) (y6 y8 : Option W) (G : AH), E = [x0, x1, some (mach R M), x3, some (.loc (A.length + 2)), some (.loc B.length), y6, x7, y8] ∧ A' = B ++ .lst (acc.map encL) :: G ∧ acc = ((swap M.length).take i).map fun s => (lineAt M s).map (swapP (swap M.length)))
    ⟨[], x6, x8, [], rfl, rfl, rfl⟩ ?_ ?_ ?_)
  · rintro i E A' ⟨acc, y6, y8, G, rfl, rfl, ha⟩
    exact keep _ _
  · rintro i w E A' hw ⟨acc, y6, y8, G, rfl, rfl, ha⟩
    rw [natsW_get] at hw
    cases hp : (swap M.length)[i]? with
    | none => rw [hp] at hw; cases hw
    | some s =>
      rw [hp, Option.map_some, Option.some.injEq] at hw
      subst hw
      have hlt := (List.getElem?_eq_some_iff.mp hp).1
      have hs := (swap_mem pos).mp (List.mem_of_getElem? hp)
      refine ⟨_, rfl, ?_⟩
      simp only [List.set_cons_succ, List.set_cons_zero]
      have gL : ∀ G', (B ++ MO.lst (acc.map encL) :: G')[B.length]? = some (.lst (acc.map encL)) := fun G' => by simp
      have lb : (acc.map encL).length < sizeLine := by rw [List.length_map, ha, List.length_map, List.length_take]; exact big500 (by omega)
      refine wp_drop.mpr (wp_zM.mpr (Wp.of (a := .loc B.length) (A := B ++ .lst (acc.map encL) :: G) (by simp) ⟨by simp [isLstB], wp_cons.mpr (wp_zB.mpr (wp_cons.mpr (Wp.mono (sline_ok (ord := swap M.length) (keep _ _) hs (m.ok.wid _ (lineAt_mem hs).1) (fun o t e => (swap_mem pos).mpr (m.ok.nxt _ (lineAt_mem hs).1 o t e))) ?_)))⟩))
      rintro u A2 ⟨rfl, rfl⟩
      have gl : (B ++ MO.lst (acc.map encL) :: G ++ [MO.lst (((lineAt M s).map (swapP (swap M.length))).map encP)])[(B ++ MO.lst (acc.map encL) :: G).length]? = some (.lst (((lineAt M s).map (swapP (swap M.length))).map encP)) := by
        rw [List.getElem?_append_right (Nat.le_refl _), Nat.sub_self]; rfl
      refine wp_nil.mpr (Wp.of (a := encL ((lineAt M s).map (swapP (swap M.length)))) (A := B ++ MO.lst (acc.map encL) :: G ++ [MO.lst (((lineAt M s).map (swapP (swap M.length))).map encP)]) (by simp only [sTuple, gl]; rfl) (wp_nil.mpr ?_))
      have e3 : B ++ MO.lst (acc.map encL) :: G ++ [MO.lst (((lineAt M s).map (swapP (swap M.length))).map encP)] = B ++ MO.lst (acc.map encL) :: (G ++ [MO.lst (((lineAt M s).map (swapP (swap M.length))).map encP)]) := by simp
      rw [e3]
      refine Wp.of (a := .non) (A := B ++ MO.lst (acc.map encL ++ [encL ((lineAt M s).map (swapP (swap M.length)))]) :: (G ++ [MO.lst (((lineAt M s).map (swapP (swap M.length))).map encP)])) (by simp only [sAppend, gL, if_pos lb]; simp) ?_
      refine ⟨acc ++ [(lineAt M s).map (swapP (swap M.length))], _, _, _, rfl, by rw [List.map_append]; rfl, ?_⟩
      have : s = (swap M.length)[i] := ((List.getElem?_eq_some_iff.mp hp).2).symm
      rw [ha, List.take_succ_eq_append_getElem hlt, List.map_append, ← this]
      rfl
  · rintro E A' ⟨acc, y6, y8, G, rfl, rfl, ha⟩
    rw [natsW_len, List.take_length] at ha
    have ha' : acc = swapT M := ha
    subst ha'
    rw [thenS_nx]
    obtain ⟨ok, hR, hQ⟩ := swap_ok m
    have gL : ∀ G', (B ++ MO.lst ((swapT M).map encL) :: G')[B.length]? = some (.lst ((swapT M).map encL)) := fun G' => by simp
    have tl : ∀ G', sTuple [.loc B.length] (B ++ MO.lst ((swapT M).map encL) :: G') = some (.tup ((swapT M).map encL), B ++ MO.lst ((swapT M).map encL) :: G') := fun G' => by simp only [sTuple, gL]
    obtain ⟨b, _, e2, _⟩ := tab_cmp ho (T := swapT M) (T' := M) (A := B ++ MO.lst ((swapT M).map encL) :: G) ok.few ok.wid hQ m.ok.few m.ok.wid m.out
    have preE : ∀ G', Pre A (B ++ MO.lst ((swapT M).map encL) :: G') := fun G' => by
      obtain ⟨H, rfl⟩ := preB
      exact ⟨H ++ MO.lst ((swapT M).map encL) :: G', by simp⟩
    refine wp_sIf.mpr (wp_tzAnd.mpr (to_wp' (b := !b) (A := B ++ MO.lst ((swapT M).map encL) :: G) (by simp [tl, tb, e2]) ⟨fun _ => ?_, fun _ => ⟨fun h => (by cases h), fun _ => wp_skip.mpr ⟨_, _, _, _, rfl, preE G⟩⟩⟩))
    obtain ⟨A3, ⟨G3, rfl⟩, e3⟩ := is_machine_enc (A := B ++ MO.lst ((swapT M).map encL) :: G) g ok hR
    have e4 : (B ++ MO.lst ((swapT M).map encL) :: G) ++ G3 = B ++ MO.lst ((swapT M).map encL) :: (G ++ G3) := by simp
    obtain ⟨A4, ⟨G4, rfl⟩, e5⟩ := numbered_ok (rows := .tup R) (gL (G ++ G3)) ok
    have e6 : (B ++ MO.lst ((swapT M).map encL) :: (G ++ G3)) ++ G4 = B ++ MO.lst ((swapT M).map encL) :: (G ++ G3 ++ G4) := by simp
    rw [e4] at e3
    rw [e6] at e5
    have e7 := num_cmp ho (A := B ++ MO.lst ((swapT M).map encL) :: (G ++ G3 ++ G4)) ok hR hQ
    have i1 : ∀ A, sIx (.tup [.tup R, .tup ((num (swapT M)).map encL)]) (.int 1) A = some (.tup ((num (swapT M)).map encL), A) := fun A => rfl
    have mk : W.tup [.tup R, .tup ((swapT M).map encL)] = mach R (swapT M) := rfl
    refine to_wp' (b := false) (A := B ++ MO.lst ((swapT M).map encL) :: (G ++ G3 ++ G4)) ?_ ⟨fun h => (by cases h), fun _ => wp_skip.mpr ⟨_, _, _, _, rfl, preE _⟩⟩
    have ne : ∀ (c : Bool) A, sNe (.bl c) (.bl c) A = some (.bl false, A) := fun c A => by cases c <;> rfl
    simp only [ev_bl, ev_z2, ev_call, ev_aCons, ev_aNil, ev_tup, ev_B, ev_C, ev_V5, ev_V4, ev_V3, ev_V2, ev_V1, ev_V0, tr, tl, mk, e3, e5, i1, e7, ne, Option.bind_some, Option.map_some, List.length_cons, List.length_nil, Nat.zero_add, Nat.reduceAdd, sz2, if_true]
end Z
set_option Elab.async false
set_option linter.all false
set_option maxRecDepth 100000
set_option maxHeartbeats 1000000
/-! M25: two searches that find the same -/
namespace Z
abbrev WS := List Nat × Nat
def sts (Q : List WS) : List Nat := Q.map (·.2)
def rowL (w : List Nat) : List Pl → Nat → List WS → (List Nat) ⊕ List WS
  | [], _, L => .inr L
  | none :: _, r, _ => .inl (w ++ [r])
  | some (_, t) :: ps, r, L => rowL w ps (r + 1) (if t ∈ sts L then L else L ++ [(w ++ [r], t)])
def lev (f : Nat → List Pl) : List WS → List WS → (List Nat) ⊕ List WS
  | [], L => .inr L
  | x :: D, L => match rowL x.1 (f x.2) 0 L with
    | .inl y => .inl y
    | .inr L' => lev f D L'
def lawS (f : Nat → List Pl) : Nat → List WS → Option (List Nat)
  | 0, _ => none
  | k + 1, D => match lev f D [] with
    | .inl y => some y
    | .inr L => lawS f k L
def walkS (f : Nat → List Pl) : Nat → Nat → List WS → Option (Option (List Nat))
  | 0, _, _ => none
  | k + 1, i, Q => match Q[i]? with
    | none => some none
    | some x => match rowL x.1 (f x.2) 0 Q with
      | .inl y => some (some y)
      | .inr Q' => walkS f k (i + 1) Q'
def closedL (l : List Pl) (S : List Nat) : Prop := ∀ p ∈ l, ∃ o t, p = some (o, t) ∧ t ∈ S
def flt (O L : List WS) : List WS := L.filter fun x => !decide (x.2 ∈ sts O)
theorem sts_append {a b : List WS} : sts (a ++ b) = sts a ++ sts b := List.map_append
theorem flt_append {O a b : List WS} : flt O (a ++ b) = flt O a ++ flt O b := List.filter_append ..
theorem closed_stay {w : List Nat} : ∀ {l : List Pl} {r : Nat} {Q : List WS}, closedL l (sts Q) → rowL w l r Q = .inr Q
  | [], _, _, _ => rfl
  | p :: ps, r, Q, h => by
    obtain ⟨o, t, rfl, ht⟩ := h p List.mem_cons_self
    rw [rowL, if_pos ht]
    exact closed_stay fun p hp => h p (List.mem_cons_of_mem _ hp)
theorem closed_mono {l : List Pl} {S S' : List Nat} (h : closedL l S) (hs : ∀ x ∈ S, x ∈ S') : closedL l S' := fun p hp => by
  obtain ⟨o, t, e, ht⟩ := h p hp
  exact ⟨o, t, e, hs t ht⟩
theorem mem_flt {O L : List WS} {t : Nat} (h : ¬ t ∈ sts O) : t ∈ sts (flt O L) ↔ t ∈ sts L := by
  unfold sts flt
  simp only [List.mem_map, List.mem_filter, Bool.not_eq_true', decide_eq_false_iff_not]
  constructor
  · rintro ⟨x, ⟨h1, _⟩, h2⟩; exact ⟨x, h1, h2⟩
  · rintro ⟨x, h1, h2⟩; exact ⟨x, ⟨h1, by rw [h2]; exact h⟩, h2⟩
theorem row_sim {O : List WS} {w : List Nat} : ∀ {l : List Pl} {r : Nat} {Lg : List WS},
    (∃ y, rowL w l r Lg = .inl y ∧ rowL w l r (O ++ flt O Lg) = .inl y) ∨ ∃ more, rowL w l r Lg = .inr (Lg ++ more) ∧ rowL w l r (O ++ flt O Lg) = .inr (O ++ flt O (Lg ++ more)) ∧ closedL l (sts (O ++ flt O (Lg ++ more))) ∧ ((sts Lg).Nodup → (sts (Lg ++ more)).Nodup) ∧ ∀ x ∈ more, ∃ o, some (o, x.2) ∈ l
  | [], r, Lg => .inr ⟨[], by simp [rowL], by simp [rowL], fun p hp => (by cases hp), by simp, fun x hx => (by cases hx)⟩
  | none :: ps, r, Lg => .inl ⟨w ++ [r], rfl, rfl⟩
  | some (o, t) :: ps, r, Lg => by
    have step : ∀ {L1 : List WS} {more1 : List WS}, L1 = Lg ++ more1 → (if t ∈ sts Lg then Lg else Lg ++ [(w ++ [r], t)]) = L1 → (if t ∈ sts (O ++ flt O Lg) then O ++ flt O Lg else (O ++ flt O Lg) ++ [(w ++ [r], t)]) = O ++ flt O L1 → t ∈ sts (O ++ flt O L1) → ((sts Lg).Nodup → (sts L1).Nodup) → (∀ x ∈ more1, x.2 = t) →
        (∃ y, rowL w (some (o, t) :: ps) r Lg = .inl y ∧ rowL w (some (o, t) :: ps) r (O ++ flt O Lg) = .inl y) ∨ ∃ more, rowL w (some (o, t) :: ps) r Lg = .inr (Lg ++ more) ∧ rowL w (some (o, t) :: ps) r (O ++ flt O Lg) = .inr (O ++ flt O (Lg ++ more)) ∧ closedL (some (o, t) :: ps) (sts (O ++ flt O (Lg ++ more))) ∧ ((sts Lg).Nodup → (sts (Lg ++ more)).Nodup) ∧ ∀ x ∈ more, ∃ o', some (o', x.2) ∈ some (o, t) :: ps := by
      intro L1 more1 e0 e1 e2 ht hn hm
      rw [rowL, rowL, e1, e2]
      rcases row_sim (O := O) (w := w) (l := ps) (r := r + 1) (Lg := L1) with ⟨y, h1, h2⟩ | ⟨more, h1, h2, h3, h4, h5⟩
      · exact .inl ⟨y, h1, h2⟩
      · refine .inr ⟨more1 ++ more, ?_, ?_, ?_, ?_, ?_⟩
        · rw [h1, e0, List.append_assoc]
        · rw [h2, e0, List.append_assoc]
        · rw [← List.append_assoc, ← e0]
          intro p hp
          rcases List.mem_cons.mp hp with rfl | hp
          · refine ⟨o, t, rfl, ?_⟩
            rw [flt_append, ← List.append_assoc, sts_append]
            exact List.mem_append_left _ ht
          · exact h3 p hp
        · rw [← List.append_assoc, ← e0]; exact fun z => h4 (hn z)
        · intro x hx
          rcases List.mem_append.mp hx with hx | hx
          · rw [hm x hx]; exact ⟨o, List.mem_cons_self⟩
          · obtain ⟨o', h'⟩ := h5 x hx; exact ⟨o', List.mem_cons_of_mem _ h'⟩
    by_cases hL : t ∈ sts Lg
    · have hq : t ∈ sts (O ++ flt O Lg) := by
        rw [sts_append, List.mem_append]
        by_cases hO : t ∈ sts O
        · exact .inl hO
        · exact .inr ((mem_flt hO).mpr hL)
      exact step (L1 := Lg) (more1 := []) (by simp) (if_pos hL) (if_pos hq) hq id (fun x hx => by cases hx)
    · have nd : (sts Lg).Nodup → (sts (Lg ++ [(w ++ [r], t)])).Nodup := fun z => by
        rw [sts_append, List.nodup_append]
        exact ⟨z, by simp [sts], fun a ha b hb => by simp [sts] at hb; subst hb; exact fun e => hL (e ▸ ha)⟩
      by_cases hO : t ∈ sts O
      · have hf : flt O (Lg ++ [(w ++ [r], t)]) = flt O Lg := by rw [flt_append]; simp [flt, hO]
        have hq : t ∈ sts (O ++ flt O Lg) := by rw [sts_append]; exact List.mem_append_left _ hO
        exact step (more1 := [(w ++ [r], t)]) rfl (if_neg hL) (by rw [if_pos hq, hf]) (by rw [hf]; exact hq) nd (fun x hx => by rw [List.mem_singleton] at hx; subst hx; rfl)
      · have hf : flt O (Lg ++ [(w ++ [r], t)]) = flt O Lg ++ [(w ++ [r], t)] := by rw [flt_append]; simp [flt, hO]
        have hq : ¬ t ∈ sts (O ++ flt O Lg) := by
          rw [sts_append, List.mem_append]
          rintro (z | z)
          · exact hO z
          · exact hL ((mem_flt hO).mp z)
        exact step (more1 := [(w ++ [r], t)]) rfl (if_neg hL) (by rw [if_neg hq, hf, List.append_assoc]) (by rw [hf, sts_append, sts_append]; simp [sts]) nd (fun x hx => by rw [List.mem_singleton] at hx; subst hx; rfl)
end Z
set_option Elab.async false
set_option linter.all false
set_option maxRecDepth 100000
set_option maxHeartbeats 1000000
/-! M26: two searches, level by level -/
namespace Z
def AllP (P : Nat → Prop) (L : List WS) : Prop := ∀ x ∈ L, P x.2
theorem walk_succ {f : Nat → List Pl} {k i : Nat} {Q : List WS} {x : WS} (h : Q[i]? = some x) : walkS f (k + 1) i Q = match rowL x.1 (f x.2) 0 Q with
    | .inl y => some (some y)
    | .inr Q' => walkS f k (i + 1) Q' := by
  rw [walkS, h] <;> rfl
theorem lev_sim {f : Nat → List Pl} {P : Nat → Prop} (hP : ∀ s, P s → ∀ o t, some (o, t) ∈ f s → P t) {E O : List WS} (hE : ∀ x ∈ E, closedL (f x.2) (sts O)) : ∀ {D C Lg : List WS}, O = E ++ C ++ flt E D → (∀ x ∈ C, closedL (f x.2) (sts (O ++ flt O Lg))) → AllP P D → AllP P Lg →
    (∃ y j, lev f D Lg = .inl y ∧ ∀ k, walkS f (j + k) (E.length + C.length) (O ++ flt O Lg) = some (some y)) ∨
    ∃ Lg', lev f D Lg = .inr Lg' ∧ (∃ j, ∀ k, walkS f (j + k) (E.length + C.length) (O ++ flt O Lg) = walkS f k O.length (O ++ flt O Lg')) ∧ (∀ x ∈ O, closedL (f x.2) (sts (O ++ flt O Lg'))) ∧ ((sts Lg).Nodup → (sts Lg').Nodup) ∧ AllP P Lg'
  | [], C, Lg, hO, hC, _, pL => by
    have hO' : O = E ++ C := by rw [hO]; simp [flt]
    refine .inr ⟨Lg, rfl, ⟨0, fun k => by rw [Nat.zero_add, hO', List.length_append]⟩, fun x hx => ?_, id, pL⟩
    have hx' : x ∈ E ++ C := hO' ▸ hx
    rcases List.mem_append.mp hx' with h | h
    · exact closed_mono (hE x h) fun s hs => by rw [sts_append]; exact List.mem_append_left _ hs
    · exact hC x h
  | x :: D, C, Lg, hO, hC, pD, pL => by
    have pD' : AllP P D := fun z hz => pD z (List.mem_cons_of_mem _ hz)
    have px : P x.2 := pD x List.mem_cons_self
    have pm : ∀ {more : List WS}, (∀ z ∈ more, ∃ o, some (o, z.2) ∈ f x.2) → AllP P (Lg ++ more) := fun h z hz => by
      rcases List.mem_append.mp hz with hz | hz
      · exact pL z hz
      · obtain ⟨o, ho⟩ := h z hz; exact hP _ px o _ ho
    have mono : ∀ {more : List WS}, ∀ s ∈ sts (O ++ flt O Lg), s ∈ sts (O ++ flt O (Lg ++ more)) := fun {more} s hs => by
      rw [flt_append, ← List.append_assoc, sts_append]; exact List.mem_append_left _ hs
    by_cases hx : x.2 ∈ sts E
    · have hf : flt E (x :: D) = flt E D := by simp [flt, hx]
      obtain ⟨x', hx', e'⟩ := List.mem_map.mp hx
      have cl : closedL (f x.2) (sts O) := by rw [← e']; exact hE x' hx'
      have st := closed_stay (w := x.1) (r := 0) (closed_mono (S' := sts (O ++ flt O Lg)) cl fun s hs => by rw [sts_append]; exact List.mem_append_left _ hs)
      rcases row_sim (O := O) (w := x.1) (l := f x.2) (r := 0) (Lg := Lg) with ⟨y, h1, h2⟩ | ⟨more, h1, h2, h3, h4, h5⟩
      · rw [st] at h2; cases h2
      · rw [st] at h2
        have e2 : O ++ flt O Lg = O ++ flt O (Lg ++ more) := by injection h2
        have lv : lev f (x :: D) Lg = lev f D (Lg ++ more) := by rw [lev, h1]
        rw [lv, e2]
        rcases lev_sim hP hE (D := D) (C := C) (Lg := Lg ++ more) (by rw [hO, hf]) (fun z hz => closed_mono (hC z hz) mono) pD' (pm h5) with h | ⟨Lg', k1, k2, k3, k4, k5⟩
        · exact .inl h
        · exact .inr ⟨Lg', k1, k2, k3, fun z => k4 (h4 z), k5⟩
    · have hf : flt E (x :: D) = x :: flt E D := by simp [flt, hx]
      have hO2 : O = E ++ (C ++ [x]) ++ flt E D := by rw [hO, hf]; simp
      have hat : (O ++ flt O Lg)[E.length + C.length]? = some x := by
        have : O ++ flt O Lg = (E ++ C) ++ (x :: (flt E D ++ flt O Lg)) := by
          have h' : ∀ Z, O ++ Z = (E ++ C) ++ (x :: (flt E D ++ Z)) := fun Z => by rw [hO, hf]; simp
          exact h' _
        rw [this, List.getElem?_append_right (by rw [List.length_append]; exact Nat.le_refl _), List.length_append, Nat.sub_self]
        rfl
      rcases row_sim (O := O) (w := x.1) (l := f x.2) (r := 0) (Lg := Lg) with ⟨y, h1, h2⟩ | ⟨more, h1, h2, h3, h4, h5⟩
      · refine .inl ⟨y, 1, by rw [lev, h1], fun k => ?_⟩
        rw [Nat.add_comm 1 k, walk_succ hat, h2]
      · have lv : lev f (x :: D) Lg = lev f D (Lg ++ more) := by rw [lev, h1]
        have stp : ∀ k, walkS f (1 + k) (E.length + C.length) (O ++ flt O Lg) = walkS f k (E.length + (C ++ [x]).length) (O ++ flt O (Lg ++ more)) := fun k => by
          rw [Nat.add_comm 1 k, walk_succ hat, h2, List.length_append]; rfl
        rw [lv]
        rcases lev_sim hP hE (D := D) (C := C ++ [x]) (Lg := Lg ++ more) hO2 (fun z hz => by
            rcases List.mem_append.mp hz with hz | hz
            · exact closed_mono (hC z hz) mono
            · rw [List.mem_singleton] at hz; subst hz; exact h3) pD' (pm h5) with ⟨y, j, k1, k2⟩ | ⟨Lg', k1, ⟨j, k2⟩, k3, k4, k5⟩
        · exact .inl ⟨y, 1 + j, k1, fun k => by rw [Nat.add_assoc, stp]; exact k2 k⟩
        · exact .inr ⟨Lg', k1, ⟨1 + j, fun k => by rw [Nat.add_assoc, stp]; exact k2 k⟩, k3, fun z => k4 (h4 z), k5⟩
/-- level by level: what the law finds in k levels the walk finds; k levels more than there are states are enough -/
theorem search_sim {f : Nat → List Pl} {m : Nat} (hP : ∀ s, s < m → ∀ o t, some (o, t) ∈ f s → t < m) : ∀ {k : Nat} {E D : List WS}, (sts D).Nodup → (sts (E ++ flt E D)).Nodup → AllP (· < m) (E ++ flt E D) → AllP (· < m) D → (∀ x ∈ E, closedL (f x.2) (sts (E ++ flt E D))) → m < E.length + k →
    ∃ j, ∀ i, walkS f (j + i) E.length (E ++ flt E D) = some (lawS f k D)
  | 0, E, D, nD, nE, aE, aD, cE, hk => by
    exfalso
    have : (sts E) ⊆ List.range m := fun s hs => by
      obtain ⟨x, hx, rfl⟩ := List.mem_map.mp hs
      exact List.mem_range.mpr (aE x (List.mem_append_left _ hx))
    have nd : (sts E).Nodup := by rw [sts_append, List.nodup_append] at nE; exact nE.1
    have := List.Nodup.length_le_of_subset nd this
    rw [List.length_range] at this
    have e : (sts E).length = E.length := List.length_map _
    omega
  | k + 1, E, D, nD, nE, aE, aD, cE, hk => by
    have e0 : (E ++ flt E D) ++ flt (E ++ flt E D) [] = E ++ flt E D := by simp [flt]
    rcases lev_sim (f := f) (P := (· < m)) (fun s hs o t h => hP s hs o t h) (E := E) (O := E ++ flt E D) cE (D := D) (C := []) (Lg := []) (by simp) (fun x hx => by cases hx) aD (fun x hx => by cases hx) with ⟨y, j, h1, h2⟩ | ⟨Lg, h1, ⟨j, h2⟩, h3, h4, h5⟩
    · rw [e0] at h2
      refine ⟨j, fun i => ?_⟩
      have := h2 i
      rw [List.length_nil, Nat.add_zero] at this
      rw [this, lawS, h1]
    · rw [e0] at h2
      have nL := h4 (by simp [sts])
      have lw : lawS f (k + 1) D = lawS f k Lg := by rw [lawS, h1]
      rw [lw]
      have nE' : (sts ((E ++ flt E D) ++ flt (E ++ flt E D) Lg)).Nodup := by
        rw [sts_append, List.nodup_append]
        refine ⟨nE, ?_, fun a ha b hb e => ?_⟩
        · exact (List.Sublist.map _ List.filter_sublist).nodup nL
        · subst e
          obtain ⟨x, hx, rfl⟩ := List.mem_map.mp hb
          have := (List.mem_filter.mp hx).2
          rw [Bool.not_eq_true', decide_eq_false_iff_not] at this
          exact this ha
      have aE' : AllP (· < m) ((E ++ flt E D) ++ flt (E ++ flt E D) Lg) := fun x hx => by
        rcases List.mem_append.mp hx with hx | hx
        · exact aE x hx
        · exact h5 x (List.mem_filter.mp hx).1
      cases hD : flt E D with
      | nil =>
        -- nothing new: the walk is over, and so is the law's search
        rw [hD, List.append_nil] at h2 h3 nE' aE' cE aE nE
        have over : ∀ {k : Nat} {D : List WS}, flt E D = [] → lawS f k D = none := by
          intro k
          induction k with
          | zero => intro D _; rfl
          | succ k ih =>
            intro D h
            have stay : ∀ {D : List WS} {L : List WS}, flt E D = [] → flt E L = [] → ∃ L', lev f D L = .inr L' ∧ flt E L' = [] := by
              intro D
              induction D with
              | nil => intro L _ hL; exact ⟨L, rfl, hL⟩
              | cons x D ihD =>
                intro L h hL
                have hx : x.2 ∈ sts E := by
                  refine Classical.byContradiction fun z => ?_
                  have : x ∈ flt E (x :: D) := List.mem_filter.mpr ⟨List.mem_cons_self, by simp [z]⟩
                  rw [h] at this; cases this
                have h' : flt E D = [] := by
                  have : flt E (x :: D) = flt E D := by simp [flt, hx]
                  rw [← this]; exact h
                obtain ⟨x', hx', e'⟩ := List.mem_map.mp hx
                have cl : closedL (f x.2) (sts E) := by rw [← e']; exact cE x' hx'
                have st := closed_stay (w := x.1) (r := 0) (closed_mono (S' := sts (E ++ flt E L)) cl fun s hs => by rw [sts_append]; exact List.mem_append_left _ hs)
                rcases row_sim (O := E) (w := x.1) (l := f x.2) (r := 0) (Lg := L) with ⟨y, k1, k2⟩ | ⟨more, k1, k2, _⟩
                · rw [st] at k2; cases k2
                · rw [st] at k2
                  have e2 : E ++ flt E L = E ++ flt E (L ++ more) := by injection k2
                  have e3 := List.append_cancel_left e2
                  rw [lev, k1]
                  exact ihD h' (by rw [← e3]; exact hL)
            obtain ⟨L', k1, k2⟩ := stay (L := []) h rfl
            rw [lawS, k1]
            exact ih k2
        have hL : flt E Lg = [] := by
          obtain ⟨L', k1, k2⟩ : ∃ L', lev f D [] = .inr L' ∧ flt E L' = [] := by
            have ov : ∀ {D : List WS} {L : List WS}, flt E D = [] → flt E L = [] → ∃ L', lev f D L = .inr L' ∧ flt E L' = [] := by
              intro D
              induction D with
              | nil => intro L _ hL; exact ⟨L, rfl, hL⟩
              | cons x D ihD =>
                intro L h hL
                have hx : x.2 ∈ sts E := by
                  refine Classical.byContradiction fun z => ?_
                  have : x ∈ flt E (x :: D) := List.mem_filter.mpr ⟨List.mem_cons_self, by simp [z]⟩
                  rw [h] at this; cases this
                have h' : flt E D = [] := by
                  have : flt E (x :: D) = flt E D := by simp [flt, hx]
                  rw [← this]; exact h
                obtain ⟨x', hx', e'⟩ := List.mem_map.mp hx
                have cl : closedL (f x.2) (sts E) := by rw [← e']; exact cE x' hx'
                have st := closed_stay (w := x.1) (r := 0) (closed_mono (S' := sts (E ++ flt E L)) cl fun s hs => by rw [sts_append]; exact List.mem_append_left _ hs)
                rcases row_sim (O := E) (w := x.1) (l := f x.2) (r := 0) (Lg := L) with ⟨y, k1, k2⟩ | ⟨more, k1, k2, _⟩
                · rw [st] at k2; cases k2
                · rw [st] at k2
                  have e2 : E ++ flt E L = E ++ flt E (L ++ more) := by injection k2
                  have e3 := List.append_cancel_left e2
                  rw [lev, k1]
                  exact ihD h' (by rw [← e3]; exact hL)
            exact ov (L := []) hD rfl
          rw [h1] at k1
          injection k1 with e
          rw [e]; exact k2
        rw [List.append_nil]
        refine ⟨1, fun i => ?_⟩
        rw [over hL, Nat.add_comm 1 i, walkS, List.getElem?_eq_none (Nat.le_refl _)]
      | cons z zs =>
        have hlen : m < (E ++ flt E D).length + k := by
          rw [List.length_append, hD, List.length_cons]; omega
        obtain ⟨j2, h6⟩ := search_sim hP (k := k) (E := E ++ flt E D) (D := Lg) nL nE' aE' h5 h3 hlen
        rw [← hD]
        refine ⟨j + j2, fun i => ?_⟩
        have := h2 (j2 + i)
        rw [List.length_nil, Nat.add_zero] at this
        rw [Nat.add_assoc, this]
        exact h6 i
/-- from the beginning -/
theorem searches {f : Nat → List Pl} {m : Nat} (h0 : 0 < m) (hP : ∀ s, s < m → ∀ o t, some (o, t) ∈ f s → t < m) : ∃ j, ∀ i, walkS f (j + i) 0 [([], 0)] = some (lawS f (m + 1) [([], 0)]) := by
  have := search_sim (f := f) (m := m) hP (k := m + 1) (E := []) (D := [([], 0)]) (by simp [sts]) (by simp [sts, flt]) (fun x hx => by simp [flt, sts] at hx; subst hx; exact h0) (fun x hx => by rw [List.mem_singleton] at hx; subst hx; exact h0) (fun x hx => by cases hx) (by simp)
  simpa [flt, sts] using this
end Z
set_option Elab.async false
set_option linter.all false
set_option maxRecDepth 100000
set_option maxHeartbeats 1000000
/-! M27: _law_shortest, a row of it -/
namespace Z
open PySem L2
def encWS (x : WS) : W := .tup [.tup (natsW x.1), .int (x.2 : Nat)]
def srowS : ZS := (zsFor (ziRng1 (zaCons (zB sLen (zaCons (z2 sIx (zV 0) (zC (.int 0))) zaNil)) zaNil)) (.name 7) (zsSeq (zsIf (zBl (z2 sIsN (z2 sIx (z2 sIx (z2 sIx (zV 0) (zC (.int 1))) (zV 6)) (zV 7)) (zC .non))) (zsRet (z2 sAdd (zV 5) (zTup (zaCons (zV 7) zaNil)))) zsSkip) (zsIf (zBl (z2 sNotInU (z2 sIx (z2 sIx (z2 sIx (z2 sIx (zV 0) (zC (.int 1))) (zV 6)) (zV 7)) (zC (.int 1))) (zV 4))) (zsSeq (zsDrop (zM isLstB sAppend (zV 4) (zaCons (z2 sIx (z2 sIx (z2 sIx (z2 sIx (zV 0) (zC (.int 1))) (zV 6)) (zV 7)) (zC (.int 1))) zaNil))) (zsDrop (zM isLstB sAppend (zV 3) (zaCons (zTup (zaCons (z2 sAdd (zV 5) (zTup (zaCons (zV 7) zaNil))) (zaCons (z2 sIx (z2 sIx (z2 sIx (z2 sIx (zV 0) (zC (.int 1))) (zV 6)) (zV 7)) (zC (.int 1))) zaNil))) zaNil)))) zsSkip)))
theorem lt_len {m : Nat} {L : List WS} (nd : (sts L).Nodup) (al : AllP (· < m) L) : L.length ≤ m := by
  have h1 : (sts L) ⊆ List.range m := fun s hs => by
    obtain ⟨x, hx, rfl⟩ := List.mem_map.mp hs
    exact List.mem_range.mpr (al x hx)
  have := List.Nodup.length_le_of_subset nd h1
  rw [List.length_range] at this
  have e : (sts L).length = L.length := List.length_map _
  omega
theorem srow_ok {R : List W} {Q : List W → Prop} {M : List (List Pl)} {B : AH} {x1 x2 x7 : Option W} {w : List Nat} {s : Nat} {Lg : List WS} (m : MTab R.length Q M) (hR : R.length ≤ 400) (hs : s < M.length) (hw : w.length ≤ 400) (nd : (sts Lg).Nodup) (al : AllP (· < M.length) Lg) :
    Wp (srowS [some (mach R M), x1, x2, some (.loc B.length), some (.loc (B.length + 1)), some (.tup (natsW w)), some (.int (s : Nat)), x7] (B ++ .lst (Lg.map encWS) :: .lst (natsW (sts Lg)) :: [])) fun o A' => (∃ y, rowL w (lineAt M s) 0 Lg = .inl y ∧ o = .rt (.tup (natsW y))) ∨ ∃ L' y7, rowL w (lineAt M s) 0 Lg = .inr L' ∧ (sts L').Nodup ∧ AllP (· < M.length) L' ∧ o = .nx [some (mach R M), x1, x2, some (.loc B.length), some (.loc (B.length + 1)), some (.tup (natsW w)), some (.int (s : Nat)), y7] ∧ A' = B ++ .lst (L'.map encWS) :: .lst (natsW (sts L')) :: [] := by
  have tb : ∀ A, sIx (mach R M) (.int 1) A = some (.tup (M.map encL), A) := fun A => rfl
  have tr : ∀ A, sIx (mach R M) (.int 0) A = some (.tup R, A) := fun A => rfl
  have wid := m.wide _ (lineAt_mem hs).1
  unfold srowS
  refine wp_forFix (ws := rngW 0 R.length) (A1 := B ++ .lst (Lg.map encWS) :: .lst (natsW (sts Lg)) :: []) (rng1_ok (by simp [tr]) (by omega)) (fun i E A' => ∃ (L1 : List WS) (y7 : Option W), E = [some (mach R M), x1, x2, some (.loc B.length), some (.loc (B.length + 1)), some (.tup (natsW w)), some (.int (s : Nat)), y7] ∧ A' = B ++ .lst (L1.map encWS) :: .lst (natsW (sts L1)) :: [] ∧ (sts L1).Nodup ∧ AllP (· < M.length) L1 ∧ rowL w (lineAt M s) 0 Lg = rowL w ((lineAt M s).drop i) i L1)
    ⟨Lg, x7, rfl, rfl, nd, al, rfl⟩ ?_ ?_
  · rintro i u E A' hu ⟨L1, y7, rfl, rfl, n1, a1, hr⟩
    obtain ⟨hlt, rfl⟩ := rngW_get hu
    have i4 : (0 : Int) + (i : Nat) = (i : Nat) := by omega
    rw [i4]
    have hl : i < (lineAt M s).length := by omega
    have hd : (lineAt M s).drop i = (lineAt M s)[i] :: (lineAt M s).drop (i + 1) := List.drop_eq_getElem_cons hl
    have he : entry M s i = (lineAt M s)[i] := by unfold entry; rw [List.getElem?_eq_getElem hl]; rfl
    rw [hd, ← he] at hr
    refine ⟨_, rfl, ?_⟩
    simp only [List.set_cons_succ, List.set_cons_zero]
    have ea : ∀ A, sIx (encL (lineAt M s)) (.int (i : Nat)) A = some (encP (entry M s i), A) := fun A => ent_at m hs hlt
    have ra : ∀ A, sIx (.tup (M.map encL)) (.int (s : Nat)) A = some (encL (lineAt M s), A) := fun A => row_at hs
    have wr : ∀ A, sAdd (.tup (natsW w)) (.tup [.int (i : Nat)]) A = some (.tup (natsW (w ++ [i])), A) := fun A => by
      rw [add_small (by rw [natsW_len]; simp only [List.length_cons, List.length_nil]; omega), natsW_append]; rfl
    have l1 : L1.length < sizeLine := big500 (by have := lt_len n1 a1; have := m.ok.few; omega)
    have l2 : (natsW (sts L1)).length < sizeLine := by rw [natsW_len]; unfold sts; rw [List.length_map]; exact l1
    have l3 : (L1.map encWS).length < sizeLine := by rw [List.length_map]; exact l1
    cases hp : entry M s i with
    | none =>
      rw [hp] at hr
      have g : isNonW (encP none) = true := rfl
      rw [hp] at ea
      refine wp_seq.mpr (wp_sIf.mpr (to_wp' (b := true) (A := B ++ .lst (L1.map encWS) :: .lst (natsW (sts L1)) :: []) (by simp [tb, ra, ea, g]) ⟨fun _ => ?_, fun h => (by cases h)⟩))
      refine wp_ret.mpr (to_wp (w := .tup (natsW (w ++ [i]))) (A := B ++ .lst (L1.map encWS) :: .lst (natsW (sts L1)) :: []) (by simp only [ev_z2, ev_tup, ev_aCons, ev_aNil, ev_V7, ev_V6, ev_V5, ev_V4, ev_V3, ev_V2, ev_V1, ev_V0, Option.bind_some, Option.map_some, List.length_cons, List.length_nil, Nat.zero_add, sz1, if_true, wr]) ?_)
      exact .inl ⟨w ++ [i], hr, rfl⟩
    | some q =>
      obtain ⟨o, t⟩ := q
      rw [hp, rowL] at hr
      have ht := (ent_nx m hs hlt hp).1
      have g : isNonW (encP (some (o, t))) = false := rfl
      rw [hp] at ea
      have j1 : ∀ A, sIx (encP (some (o, t))) (.int 1) A = some (.int (t : Nat), A) := fun A => rfl
      refine wp_seq.mpr (wp_sIf.mpr (to_wp' (b := false) (A := B ++ .lst (L1.map encWS) :: .lst (natsW (sts L1)) :: []) (by simp [tb, ra, ea, g]) ⟨fun h => (by cases h), fun _ => ?_⟩))
      refine wp_skip.mpr ?_
      rw [thenS_nx]
      have e1 := sNotIn_nats (A := B ++ .lst (L1.map encWS) :: .lst (natsW (sts L1)) :: []) (n := B.length + 1) (s := t) hg1
      refine wp_sIf.mpr (to_wp' (b := !decide (t ∈ sts L1)) (A := B ++ .lst (L1.map encWS) :: .lst (natsW (sts L1)) :: []) (by simp only [ev_bl, ev_z2, ev_C, ev_V7, ev_V6, ev_V5, ev_V4, ev_V3, ev_V2, ev_V1, ev_V0, Option.bind_some, tb, ra, ea, j1, e1]) ⟨fun hb => ?_, fun hb => ?_⟩)
      · rw [Bool.not_eq_true', decide_eq_false_iff_not] at hb
        rw [if_neg hb] at hr
        refine wp_seq.mpr (to_wpS (o := .nx [some (mach R M), x1, x2, some (.loc B.length), some (.loc (B.length + 1)), some (.tup (natsW w)), some (.int (s : Nat)), some (.int (i : Nat))]) (A := B ++ .lst (L1.map encWS) :: .lst (natsW (sts L1) ++ [.int (t : Nat)]) :: []) (by simp only [ev_drop, ev_M, ev_aCons, ev_aNil, ev_z2, ev_C, ev_V7, ev_V6, ev_V5, ev_V4, ev_V3, ev_V2, ev_V1, ev_V0, Option.bind_some, Option.map_some, tb, ra, ea, j1, isLstB, sAppend, hg1, if_pos l2, if_true, hs1]) ?_)
        rw [thenS_nx]
        refine to_wpS (o := .nx [some (mach R M), x1, x2, some (.loc B.length), some (.loc (B.length + 1)), some (.tup (natsW w)), some (.int (s : Nat)), some (.int (i : Nat))]) (A := B ++ .lst (L1.map encWS ++ [encWS (w ++ [i], t)]) :: .lst (natsW (sts L1) ++ [.int (t : Nat)]) :: []) (by simp only [ev_drop, ev_M, ev_tup, ev_aCons, ev_aNil, ev_z2, ev_C, ev_V7, ev_V6, ev_V5, ev_V4, ev_V3, ev_V2, ev_V1, ev_V0, Option.bind_some, Option.map_some, List.length_cons, List.length_nil, Nat.zero_add, Nat.reduceAdd, sz1, sz2, tb, ra, ea, j1, wr, isLstB, sAppend, hg0, if_pos l3, if_true, hs0, encWS]) ?_
        refine ⟨L1 ++ [(w ++ [i], t)], _, rfl, ?_, ?_, ?_, hr⟩
        · rw [List.map_append, sts_append, natsW_append]; rfl
        · rw [sts_append, List.nodup_append]
          exact ⟨n1, by simp [sts], fun a ha b hb' => by simp [sts] at hb'; subst hb'; exact fun e => hb (e ▸ ha)⟩
        · intro x hx
          rcases List.mem_append.mp hx with hx | hx
          · exact a1 x hx
          · rw [List.mem_singleton] at hx; subst hx; exact ht
      · rw [Bool.not_eq_false', decide_eq_true_eq] at hb
        rw [if_pos hb] at hr
        exact wp_skip.mpr ⟨L1, _, rfl, rfl, n1, a1, hr⟩
  · rintro E A' ⟨L1, y7, rfl, rfl, n1, a1, hr⟩
    rw [rngW_len, List.drop_of_length_le (by omega), rowL] at hr
    exact .inr ⟨L1, y7, hr, n1, a1, rfl, rfl⟩
end Z
set_option Elab.async false
set_option linter.all false
set_option maxRecDepth 100000
set_option maxHeartbeats 1000000
/-! M28: _law_shortest, a level of it -/
namespace Z
open PySem L2
theorem rowL_ways {w : List Nat} : ∀ {l : List Pl} {r : Nat} {L L' : List WS}, rowL w l r L = .inr L' → ∀ x ∈ L', x ∈ L ∨ x.1.length = w.length + 1
  | [], r, L, L', h, x, hx => by injection h with h; subst h; exact .inl hx
  | none :: _, r, L, L', h, x, hx => by cases h
  | some (o, t) :: ps, r, L, L', h, x, hx => by
    rw [rowL] at h
    rcases rowL_ways h x hx with z | z
    · split at z
      · exact .inl z
      · rcases List.mem_append.mp z with z | z
        · exact .inl z
        · rw [List.mem_singleton] at z; subst z; exact .inr (by simp)
    · exact .inr z
theorem lev_ways {f : Nat → List Pl} {c : Nat} : ∀ {D L L' : List WS}, (∀ x ∈ D, x.1.length ≤ c) → (∀ x ∈ L, x.1.length ≤ c + 1) → lev f D L = .inr L' → ∀ x ∈ L', x.1.length ≤ c + 1
  | [], L, L', _, hL, h => by injection h with h; subst h; exact hL
  | d :: D, L, L', hD, hL, h => by
    rw [lev] at h
    cases e : rowL d.1 (f d.2) 0 L with
    | inl y => rw [e] at h; cases h
    | inr L1 =>
      rw [e] at h
      refine lev_ways (fun x hx => hD x (List.mem_cons_of_mem _ hx)) (fun x hx => ?_) h
      rcases rowL_ways e x hx with z | z
      · exact hL x z
      · have := hD d List.mem_cons_self; omega
theorem slev_ok {R : List W} {Q : List W → Prop} {M : List (List Pl)} {B : AH} {x2 x5 x6 x7 : Option W} {a : Nat} {D : List WS} (m : MTab R.length Q M) (hR : R.length ≤ 400) (ha : B[a]? = some (.lst (D.map encWS))) (hD : ∀ x ∈ D, x.1.length ≤ 400) (al : AllP (· < M.length) D) :
    Wp (zsFor (ziSeq (zV 1)) (.tup [(.name 5), (.name 6)]) srowS [some (mach R M), some (.loc a), x2, some (.loc B.length), some (.loc (B.length + 1)), x5, x6, x7] (B ++ .lst [] :: .lst [] :: [])) fun o A' => (∃ y, lev (lineAt M) D [] = .inl y ∧ o = .rt (.tup (natsW y))) ∨ ∃ L' y5 y6 y7, lev (lineAt M) D [] = .inr L' ∧ (sts L').Nodup ∧ AllP (· < M.length) L' ∧ o = .nx [some (mach R M), some (.loc a), x2, some (.loc B.length), some (.loc (B.length + 1)), y5, y6, y7] ∧ A' = B ++ .lst (L'.map encWS) :: .lst (natsW (sts L')) :: [] := by
  have la := (List.getElem?_eq_some_iff.mp ha).1
  have keep : ∀ (x : MO) (G : AH), (B ++ x :: G)[a]? = some (.lst (D.map encWS)) := fun x G => by rw [List.getElem?_append_left la]; exact ha
  refine wp_forLst (ws := D.map encWS) (n := a) (A1 := B ++ .lst [] :: .lst [] :: []) (by simp [ziSeq, keep]) (fun i E A' => ∃ (L1 : List WS) (y5 y6 y7 : Option W), E = [some (mach R M), some (.loc a), x2, some (.loc B.length), some (.loc (B.length + 1)), y5, y6, y7] ∧ A' = B ++ .lst (L1.map encWS) :: .lst (natsW (sts L1)) :: [] ∧ (sts L1).Nodup ∧ AllP (· < M.length) L1 ∧ lev (lineAt M) D [] = lev (lineAt M) (D.drop i) L1)
    ⟨[], x5, x6, x7, rfl, rfl, by simp [sts], fun x hx => (by cases hx), rfl⟩ ?_ ?_ ?_
  · rintro i E A' ⟨L1, y5, y6, y7, rfl, rfl, _⟩
    exact keep _ _
  · rintro i u E A' hu ⟨L1, y5, y6, y7, rfl, rfl, n1, a1, hr⟩
    rw [List.getElem?_map] at hu
    cases hp : D[i]? with
    | none => rw [hp] at hu; cases hu
    | some x =>
      rw [hp, Option.map_some, Option.some.injEq] at hu
      subst hu
      have hm := List.mem_of_getElem? hp
      have hlt := (List.getElem?_eq_some_iff.mp hp).1
      have hd : D.drop i = x :: D.drop (i + 1) := by
        rw [List.drop_eq_getElem_cons hlt]
        congr 1
        exact (List.getElem?_eq_some_iff.mp hp).2
      rw [hd, lev] at hr
      refine ⟨[some (mach R M), some (.loc a), x2, some (.loc B.length), some (.loc (B.length + 1)), some (.tup (natsW x.1)), some (.int (x.2 : Nat)), y7], rfl, Wp.mono (srow_ok m hR (al x hm) (hD x hm) n1 a1) ?_⟩
      rintro o A2 (⟨y, e, rfl⟩ | ⟨L2, z7, e, n2, a2, rfl, rfl⟩)
      · rw [e] at hr
        exact .inl ⟨y, hr, rfl⟩
      · rw [e] at hr
        exact ⟨L2, _, _, z7, rfl, rfl, n2, a2, hr⟩
  · rintro E A' ⟨L1, y5, y6, y7, rfl, rfl, n1, a1, hr⟩
    rw [List.length_map, List.drop_length, lev] at hr
    exact .inr ⟨L1, y5, y6, y7, hr, n1, a1, rfl, rfl⟩
end Z
set_option Elab.async false
set_option linter.all false
set_option maxRecDepth 100000
set_option maxHeartbeats 1000000
/-! M29: _law_shortest -/
namespace Z
open PySem L2
def encW : Option (List Nat) → W
  | none => .non
  | some y => .tup (natsW y)
theorem shortest_ok {R : List W} {Q : List W → Prop} {M : List (List Pl)} {A : AH} (m : MTab R.length Q M) (hR : R.length ≤ 400) (hM : M.length ≤ 7) : ∃ A', X__law_shortest [mach R M] A = some (encW (lawS (lineAt M) (M.length + 1) [([], 0)]), A') := by
  have tb : ∀ A, sIx (mach R M) (.int 1) A = some (.tup (M.map encL), A) := fun A => rfl
  generalize hX : lawS (lineAt M) (M.length + 1) [([], 0)] = X
  have hw : Wp (X__law_shortest [mach R M] A) fun u _ => u = encW X := by
    unfold X__law_shortest F__law_shortest
    refine (wp_def rfl).mpr ?_
    unfold g__law_shortest
    simp only [start1, List.replicate]
    refine wp_seq.mpr (to_wpS (o := .nx [some (mach R M), some (.loc A.length), none, none, none, none, none, none]) (A := A ++ [.lst ([(([] : List Nat), 0)].map encWS)]) (by simp [encWS, natsW]) ?_)
    rw [thenS_nx]
    refine wp_seq.mpr (wp_forFix (ws := rngW 0 (M.length + 1)) (A1 := A ++ [.lst ([(([] : List Nat), 0)].map encWS)]) (rng1_ok (by simp [tb]) (by omega)) (fun i E A' => ∃ (D : List WS) (a : Nat) (y2 y3 y4 y5 y6 y7 : Option W), E = [some (mach R M), some (.loc a), y2, y3, y4, y5, y6, y7] ∧ A'[a]? = some (.lst (D.map encWS)) ∧ AllP (· < M.length) D ∧ (∀ x ∈ D, x.1.length ≤ i) ∧ X = lawS (lineAt M) (M.length + 1 - i) D)
      ⟨[([], 0)], A.length, none, none, none, none, none, none, rfl, by simp, fun x hx => by rw [List.mem_singleton] at hx; subst hx; exact m.ok.pos, fun x hx => by rw [List.mem_singleton] at hx; subst hx; exact Nat.le_refl _, hX.symm⟩ ?_ ?_)
    · rintro i u E A' hu ⟨D, a, y2, y3, y4, y5, y6, y7, rfl, ha, al, hl, hr⟩
      obtain ⟨hlt, rfl⟩ := rngW_get hu
      have hk : M.length + 1 - i = (M.length + 1 - (i + 1)) + 1 := by omega
      rw [hk, lawS] at hr
      refine ⟨_, rfl, ?_⟩
      simp only [List.set_cons_succ, List.set_cons_zero]
      refine wp_seq.mpr (to_wpS (o := .nx [some (mach R M), some (.loc a), some (.int (0 + (i : Nat))), some (.loc A'.length), y4, y5, y6, y7]) (A := A' ++ [.lst []]) (by simp) ?_)
      rw [thenS_nx]
      refine wp_seq.mpr (to_wpS (o := .nx [some (mach R M), some (.loc a), some (.int (0 + (i : Nat))), some (.loc A'.length), some (.loc (A'.length + 1)), y5, y6, y7]) (A := A' ++ .lst [] :: .lst [] :: []) (by simp) ?_)
      rw [thenS_nx]
      refine wp_seq.mpr (Wp.mono (slev_ok m hR ha (fun x hx => by have := hl x hx; omega) al) ?_)
      rintro o A2 (⟨y, e, rfl⟩ | ⟨L', z5, z6, z7, e, n2, a2, rfl, rfl⟩)
      · rw [e] at hr
        rw [thenS_rt]
        show W.tup (natsW y) = _
        rw [hr]; rfl
      · rw [e] at hr
        rw [thenS_nx]
        refine to_wpS (o := .nx [some (mach R M), some (.loc A'.length), some (.int (0 + (i : Nat))), some (.loc A'.length), some (.loc (A'.length + 1)), z5, z6, z7]) (A := A' ++ .lst (L'.map encWS) :: .lst (natsW (sts L')) :: []) (by simp only [ev_asg, ev_V3, ev_V2, ev_V1, ev_V0, Option.bind_some, ev_asg1, Option.map_some, List.set_cons_succ, List.set_cons_zero]) ?_
        exact ⟨L', A'.length, _, _, _, _, _, _, rfl, hg0, a2, lev_ways hl (fun x hx => by cases hx) e, hr⟩
    · rintro E A' ⟨D, a, y2, y3, y4, y5, y6, y7, rfl, ha, al, hl, hr⟩
      rw [rngW_len, Nat.sub_self, lawS] at hr
      rw [thenS_nx]
      refine wp_ret.mpr (to_wp (w := .non) (A := A') rfl ?_)
      show W.non = _
      rw [hr]; rfl
  obtain ⟨u, A', e, rfl⟩ := hw
  exact ⟨A', e⟩
end Z
set_option Elab.async false
set_option linter.all false
set_option maxRecDepth 100000
set_option maxHeartbeats 1000000
/-! M30: the law, but for the first fault -/
namespace Z
open PySem L2
theorem tape0 {A : AH} {s : W} {ns : List Int} (hs : IsScript A s ns) : ∃ n m A', X__law_tape [s, .int 0] A = some (.loc n, A') ∧ TapeM n m A' := by
  rcases hs with ⟨rfl, rfl⟩ | ⟨rfl, rfl⟩
  · exact ⟨1, 0, _, tape_ok (A := []), ns, 0, 0, 1, 0, ⟨by decide, rfl, rfl⟩, by decide, by decide⟩
  · refine ⟨2, 1, [.lst (ns.map .int), .lst (ns.map .int), .lst [.loc 1, .int 0, .int 0, .int 1, .int 0]], ?_, ns, 0, 0, 1, 0, ⟨by decide, rfl, rfl⟩, by decide, by decide⟩
    have five : (5 : Nat) ≤ sizeLine := by decide
    have e1 : sList [.loc 0] [.lst (ns.map .int)] = some (.loc 1, [.lst (ns.map .int), .lst (ns.map .int)]) := by simp [sList, itemsW]
    simp [X__law_tape, F__law_tape, g__law_tape, e1, five]
/-- the indexes -/
theorem idx_ok {n m k : Nat} {A : AH} {x0 x3 x4 x5 x6 x7 x8 : Option W} {R : List W} {M : List (List Pl)} (t : TapeM n m A) (r0 : 0 < R.length) (r1 : R.length ≤ 22) :
    Wp (zLc (ziRng1 (zaCons (zCall 2 X__law_take (zaCons (zV 1) (zaCons (zC (.int 9)) zaNil))) zaNil)) (.name 7) ztYes (zCall 2 X__law_take (zaCons (zV 1) (zaCons (zB sLen (zaCons (z2 sIx (zV 2) (zC (.int 0))) zaNil)) zaNil))) [7] [x0, some (.loc n), some (mach R M), x3, x4, x5, x6, x7, x8] A) fun u A' => ∃ (c : Nat) (idx : List Nat), u = .loc c ∧ A'[c]? = some (.lst (natsW idx)) ∧ (∀ r ∈ idx, r < R.length) ∧ idx.length ≤ 8 := by
  have tr : ∀ A, sIx (mach R M) (.int 0) A = some (.tup R, A) := fun A => rfl
  obtain ⟨w, A1, e, d, rfl, hd, ho, t1⟩ := take_okM (many := 9) t (by decide) (by decide)
  refine wp_lcFix (ws := rngW 0 d) (A1 := A1) (rng1_ok (by simp [e]) (by omega)) (fun i acc A' => ∃ idx : List Nat, acc = natsW idx ∧ (∀ r ∈ idx, r < R.length) ∧ idx.length = i ∧ TapeM n m A' ∧ A'[A1.length]? = some (.lst acc)) ⟨[], rfl, fun r hr => (by cases hr), rfl, t1.grow, by simp⟩ ?_ ?_
  · rintro i w acc A' hw ⟨idx, rfl, hr, hi, t', hg⟩
    have hlt := (List.getElem?_eq_some_iff.mp hw).1
    rw [rngW_len] at hlt
    refine ⟨_, rfl, ?_⟩
    show Wp (zCall 2 X__law_take (zaCons (zV 1) (zaCons (zB sLen (zaCons (z2 sIx (zV 2) (zC (.int 0))) zaNil)) zaNil)) [x0, some (.loc n), some (mach R M), x3, x4, x5, x6, some w, x8] A') _
    refine wp_take (many := R.length) (by simp [tr]) t' (by omega) (by omega) fun r A2 hr2 ho2 t2 => ?_
    have hn := t1.ltn
    have hm := t1.ltm
    have g2 : A2[A1.length]? = some (.lst (natsW idx)) := by rw [ho2.2 _ (by omega)]; exact hg
    refine ⟨g2, by rw [natsW_len]; exact big500 (by omega), idx ++ [r], by rw [natsW_append]; rfl, fun x hx => ?_, by rw [List.length_append, hi]; rfl, t2.set (by omega) (by omega), ?_⟩
    · rcases List.mem_append.mp hx with hx | hx
      · exact hr x hx
      · rw [List.mem_singleton] at hx; subst hx; omega
    · rw [List.getElem?_set_self (List.getElem?_eq_some_iff.mp g2).1]
  · rintro acc A' ⟨idx, rfl, hr, hi, t', hg⟩
    rw [rngW_len] at hi
    exact ⟨_, idx, rfl, hg, hr, by omega⟩
/-- what is left to show of the first fault -/
def FF (C_Walk : Addr) : Prop := ∀ (R : List W) (outs : List (List W)) (M : List (List Pl)), RowsGood R → 0 < R.length → R.length ≤ 22 → outs ∈ menus → MTab R.length (· ∈ outs) M → M.length ≤ 7 →
  ∃ w, okS 5 w = true ∧ (∀ A, ∃ A', X_first_fault C_Walk [mach R M] A = some (w, A')) ∧ ∀ A, ∃ A', X__law_shortest [mach R M] A = some (w, A')
theorem call2 {F : ZF} {f g : ZE} {E : EN} {A B C D : AH} {u v w : W} (h1 : f E A = some (u, B)) (h2 : g E B = some (v, C)) (h3 : F [u, v] C = some (w, D)) : zCall 2 F (zaCons f (zaCons g zaNil)) E A = some (w, D) := by
  simp only [ev_call, ev_aCons, ev_aNil, h1, h2, Option.bind_some, Option.map_some, List.length_cons, List.length_nil, Nat.zero_add, Nat.reduceAdd, if_true]
  exact h3
theorem call1 {F : ZF} {f : ZE} {E : EN} {A B D : AH} {u w : W} (h1 : f E A = some (u, B)) (h3 : F [u] B = some (w, D)) : zCall 1 F (zaCons f zaNil) E A = some (w, D) := by
  simp only [ev_call, ev_aCons, ev_aNil, h1, Option.bind_some, Option.map_some, List.length_cons, List.length_nil, Nat.zero_add, Nat.reduceAdd, if_true]
  exact h3
theorem and_ok {f g : ZE} {E : EN} {A B C : AH} {w : W} (h1 : f E A = some (.bl true, B)) (h2 : g E B = some (w, C)) : zAnd f g E A = some (w, C) := by
  rw [ev_and, h1, Option.bind_some]
  exact h2
theorem law_true_of {C_Walk : Addr} (ff : FF C_Walk) {A : AH} {s : W} {ns : List Int} (hs : IsScript A s ns) : ∃ A', X_law C_Walk [s] A = some (.bl true, A') := by
  have hw : Wp (X_law C_Walk [s] A) fun u _ => u = .bl true := by
    unfold X_law F_law
    refine (wp_def rfl).mpr ?_
    unfold g_law
    simp only [start1, List.replicate]
    obtain ⟨n, m, A1, e1, t1⟩ := tape0 hs
    refine wp_seq.mpr (wp_asg1.mpr (wp_call.mpr (Wp.of (a := [s, .int 0]) (A := A) (by simp) ⟨rfl, Wp.of e1 ?_⟩)))
    rw [thenS_nx]
    simp only [List.set_cons_succ, List.set_cons_zero]
    -- the machine
    refine wp_seq.mpr (wp_asg1.mpr (wp_call.mpr (wp_cons.mpr (Wp.of (a := .loc n) (A := A1) (by simp) (wp_cons.mpr (wp_call.mpr (Wp.of (a := [.loc n]) (A := A1) (by simp) ⟨rfl, Wp.mono (rows_ok t1) ?_⟩)))))))
    rintro u A2 ⟨R, rfl, g, r0, r1, t2⟩
    refine wp_cons.mpr (wp_z2s (wp_take (many := 2) (by simp) t2 (by decide) (by decide) fun d A3 _ _ t3 => wp_C.mpr (Wp.of sEq_int ?_)))
    refine wp_cons.mpr (wp_call.mpr (Wp.of (a := [.loc n]) (A := A3) (by simp) ⟨rfl, Wp.mono (menu_ok t3) ?_⟩))
    rintro u A4 ⟨c, outs, rfl, hc, ho, cn, cm, t4⟩
    refine wp_nil.mpr ⟨rfl, Wp.mono (machine_ok t4 hc cn (by omega) (menus_len _ ho).1 (menus_len _ ho).2) ?_⟩
    rintro u A5 ⟨M, rfl, mt, h7, t5⟩
    rw [thenS_nx]
    simp only [List.set_cons_succ, List.set_cons_zero]
    -- is_machine, and the bad one
    obtain ⟨A6, p6, e6⟩ := is_machine_enc (A := A5) g mt.ok mt.wide
    rw [mt.go] at e6
    refine wp_seq.mpr (wp_sIf.mpr (wp_tzOr.mpr (to_wp' (b := false) (A := A6) (by simp [e6]) ⟨fun h => (by cases h), fun _ => ?_⟩)))
    refine wp_bl.mpr (wp_z2s (wp_call.mpr (wp_cons.mpr (wp_call.mpr (Wp.of (a := [.loc n, mach R M]) (A := A6) (by simp) ⟨rfl, Wp.mono (bad_ok (t5.pre p6) g mt r0 r1) ?_⟩)))))
    rintro v A7 ⟨⟨mo, hf⟩, t7⟩
    obtain ⟨A8, p8, e8⟩ := is_machine_ok (A := A7) mo
    rw [hf] at e8
    refine wp_nil.mpr ⟨rfl, Wp.of e8 (wp_C.mpr (Wp.of (a := .bl false) (A := A8) (by simp) ⟨false, rfl, fun h => (by cases h), fun _ => wp_skip.mpr ?_⟩))⟩
    rw [thenS_nx]
    -- swapped
    refine wp_seq.mpr (Wp.mono (swap_block ho g mt h7) ?_)
    rintro o A9 ⟨y4, y5, y6, y8, rfl, p9⟩
    rw [thenS_nx]
    -- indexes
    refine wp_seq.mpr (wp_asg1.mpr (wp_zB.mpr (wp_cons.mpr (Wp.mono (idx_ok (k := 0) (M := M) ((t7.pre p8).pre p9) r0 r1) ?_))))
    rintro u A10 ⟨c2, idx, rfl, hi, hr, hl⟩
    refine wp_nil.mpr (Wp.of (a := .tup (natsW idx)) (A := A10) (by simp [sTuple, hi]) ?_)
    rw [thenS_nx]
    simp only [List.set_cons_succ, List.set_cons_zero]
    obtain ⟨A11, _, e11⟩ := run_ok (A := A10) mt hr (by omega)
    obtain ⟨A12, _, e12⟩ := lrun_ok (A := A11) mt hr (by omega)
    have e13 := same_ok (A := A12) (runW_ok ho mt (idx := idx) (s := 0) (acc := []) hr mt.ok.pos (fun o h => by cases h) (by simp; omega))
    obtain ⟨w, hw, f1, f2⟩ := ff R outs M g r0 r1 ho mt h7
    obtain ⟨A14, e14⟩ := f1 A12
    obtain ⟨A15, e15⟩ := f2 A14
    have e16 := same_ok (A := A15) hw
    have e13' : X__law_same [runW M idx 0 [], runW M idx 0 []] A12 = some (.bl true, A12) := e13
    have e16' : X__law_same [w, w] A15 = some (.bl true, A15) := e16
    refine wp_ret.mpr (Wp.of (a := .bl true) (A := A15) ?_ rfl)
    have v2 : ∀ A, zV 2 [some s, some (.loc n), some (mach R M), some (.tup (natsW idx)), y4, y5, y6, none, y8] A = some (mach R M, A) := fun A => rfl
    have v3 : ∀ A, zV 3 [some s, some (.loc n), some (mach R M), some (.tup (natsW idx)), y4, y5, y6, none, y8] A = some (.tup (natsW idx), A) := fun A => rfl
    exact and_ok (call2 (call2 (v2 _) (v3 _) e11) (call2 (v2 _) (v3 _) e12) e13') (call2 (call1 (v2 _) e14) (call1 (v2 _) e15) e16')
  obtain ⟨u, A', e, rfl⟩ := hw
  exact ⟨A', e⟩
end Z
set_option Elab.async false
set_option linter.all false
set_option maxRecDepth 100000
set_option maxHeartbeats 1000000
/-! M31: the walk: steps, ways -/
namespace Z
open PySem L2
theorem val_app {D : List (Key × W)} {k k' : Key} {v : W} : valW (D ++ [(k', v)]) k = (valW D k).or (if k' = k then some v else none) := by
  unfold valW
  rw [List.find?_append]
  cases D.find? (fun kv => decide (kv.1 = k)) with
  | none => by_cases e : k' = k <;> simp [List.find?_cons, e]
  | some x => rfl
theorem put_new {D : List (Key × W)} {k : Key} {v : W} (h : valW D k = none) : putW D k v = D ++ [(k, v)] := by
  unfold putW
  rw [if_neg]
  intro hh
  rw [List.any_eq_true] at hh
  obtain ⟨x, hx, hk⟩ := hh
  unfold valW at h
  rw [Option.map_eq_none_iff, List.find?_eq_none] at h
  exact h x hx hk
/-- steps tell where the ways of the queue come from -/
structure ParOk (Q : List WS) (D : List (Key × W)) : Prop where
  key : ∀ t : Nat, (valW D (.inl (t : Int))).isSome = decide (t ∈ sts Q)
  par : ∀ w s, (w, s) ∈ Q → (w = [] ∧ valW D (.inl (s : Int)) = some .non) ∨ ∃ w' s' r, (w', s') ∈ Q ∧ w = w' ++ [r] ∧ valW D (.inl (s : Int)) = some (.tup [.int (s' : Nat), .int (r : Nat)])
  few : ∀ w s, (w, s) ∈ Q → w.length < Q.length
  len : D.length = Q.length
theorem ParOk.root : ParOk [([], 0)] [(.inl 0, .non)] where
  key t := by
    by_cases e : t = 0
    · subst e; rfl
    · have h1 : ¬ t ∈ sts [(([] : List Nat), 0)] := by simp [sts, e]
      have h2 : ¬ (0 : Int) = (t : Int) := by omega
      rw [decide_eq_false h1]
      simp [valW, List.find?_cons, h2]
  par w s h := by
    rw [List.mem_singleton] at h
    cases h
    exact .inl ⟨rfl, rfl⟩
  few w s h := by
    rw [List.mem_singleton] at h
    cases h
    simp
  len := rfl
theorem ParOk.snoc {Q : List WS} {D : List (Key × W)} {w : List Nat} {s r t : Nat} (p : ParOk Q D) (hw : (w, s) ∈ Q) (ht : ¬ t ∈ sts Q) : ParOk (Q ++ [(w ++ [r], t)]) (D ++ [(.inl (t : Int), .tup [.int (s : Nat), .int (r : Nat)])]) where
  key x := by
    rw [val_app, sts_append]
    have k := p.key x
    by_cases hx : x ∈ sts Q
    · rw [decide_eq_true hx] at k
      obtain ⟨v, hv⟩ := Option.isSome_iff_exists.mp k
      rw [hv, decide_eq_true (List.mem_append_left _ hx)]
      rfl
    · rw [decide_eq_false hx] at k
      have hn : valW D (.inl (x : Int)) = none := by
        cases e : valW D (.inl (x : Int)) with
        | none => rfl
        | some v => rw [e] at k; cases k
      rw [hn, Option.none_or]
      by_cases e : t = x
      · subst e
        rw [if_pos rfl, decide_eq_true (by simp [sts])]
        rfl
      · have : ¬ (.inl (t : Int) : Key) = .inl (x : Int) := fun z => e (by injection z with z; omega)
        rw [if_neg this, decide_eq_false (by simp [sts] at hx ⊢; exact ⟨hx, fun z => e z.symm⟩)]
        rfl
  par w1 s1 h := by
    rcases List.mem_append.mp h with h | h
    · rcases p.par w1 s1 h with ⟨h1, h2⟩ | ⟨w', s', r', h1, h2, h3⟩
      · exact .inl ⟨h1, by rw [val_app, h2]; rfl⟩
      · exact .inr ⟨w', s', r', List.mem_append_left _ h1, h2, by rw [val_app, h3]; rfl⟩
    · rw [List.mem_singleton] at h
      cases h
      refine .inr ⟨w, s, r, List.mem_append_left _ hw, rfl, ?_⟩
      have k := p.key t
      rw [decide_eq_false ht] at k
      have hn : valW D (.inl (t : Int)) = none := by
        cases e : valW D (.inl (t : Int)) with
        | none => rfl
        | some v => rw [e] at k; cases k
      rw [val_app, hn, if_pos rfl]
      rfl
  few w1 s1 h := by
    rw [List.length_append, List.length_singleton]
    rcases List.mem_append.mp h with h | h
    · have := p.few w1 s1 h; omega
    · rw [List.mem_singleton] at h
      cases h
      have := p.few w s hw
      rw [List.length_append, List.length_singleton]; omega
  len := by rw [List.length_append, List.length_append, p.len]; rfl
/-! the fields of the walk -/
def wkF (a b : Nat) (i : Int) : List (Str × W) := [(("queue" : Str), .loc a), (("steps" : Str), .loc b), (("at" : Str), .int i)]
theorem str_qs : ¬ ("queue" : Str) = ("steps" : Str) := by decide
theorem str_qa : ¬ ("queue" : Str) = ("at" : Str) := by decide
theorem str_sa : ¬ ("steps" : Str) = ("at" : Str) := by decide
section
variable {C : Addr} {f : Str} {fo fv : ZE} {E : EN} {A A' B : AH} {n a b : Nat} {i j : Int} {fs : List (Str × W)} {w : W} {D : List (Key × W)}
theorem getQ : getFW "queue" (wkF a b i) = some (.loc a) := by unfold wkF getFW; rw [if_pos rfl]
theorem getS : getFW "steps" (wkF a b i) = some (.loc b) := by unfold wkF; rw [getFW, if_neg str_qs, getFW, if_pos rfl]
theorem getA : getFW "at" (wkF a b i) = some (.int i) := by unfold wkF; rw [getFW, if_neg str_qa, getFW, if_neg str_sa, getFW, if_pos rfl]
theorem putA : putFW "at" (.int j) (wkF a b i) = wkF a b j := by unfold wkF; rw [putFW, if_neg str_qa, putFW, if_neg str_sa, putFW, if_pos rfl]
theorem insAt_of (h : A[n]? = some (.ins C fs)) : insAt C A (.loc n) = some fs := by
  unfold insAt; simp only [h, if_true]
theorem ev_fld (h : fo E A = some (.loc n, A')) (hA : A'[n]? = some (.ins C fs)) (hf : getFW f fs = some w) : zFld C f fo E A = some (w, A') := by
  unfold zFld; rw [h, Option.bind_some]; simp only [insAt_of hA, Option.bind_some, hf, Option.map_some]
theorem dget_ok (h : A[n]? = some (.dic D)) {k : Int} (hv : valW D (.inl k) = some w) : sDGet (.loc n) (.int k) A = some (w, A) := by
  unfold sDGet; simp only [h, keyW, hv, Option.map_some]
theorem din_ok (h : A[n]? = some (.dic D)) {k : Int} : sDIn (.int k) (.loc n) A = some (.bl (valW D (.inl k)).isSome, A) := by
  unfold sDIn; simp only [h, keyW]
theorem ev_meth {F : ZF} {g : ZA} {m : Str} {k : Nat} {us : List W} {B : AH} (h : fo E A = some (.loc n, A')) (hA : A'[n]? = some (.ins C fs)) (hm : getFW m fs = none) (hg : g E A' = some (us, B)) (hk : us.length + 1 = k) : zMeth C m k F fo g E A = F (.loc n :: us) B := by
  unfold zMeth; rw [h, Option.bind_some]; simp only [insAt_of hA, Option.bind_some, hm, hg, if_pos hk]
end
/-- way_to -/
theorem way_ok {C : Addr} {Q : List WS} {D : List (Key × W)} {A : AH} {n a b : Nat} {i : Int} {w : List Nat} {s r : Nat} (p : ParOk Q D) (hq : (w, s) ∈ Q) (hQ : Q.length ≤ 400) (hA : A[n]? = some (.ins C (wkF a b i))) (hb : A[b]? = some (.dic D)) :
    ∃ A', X_Walk_way_to C [.loc n, .int (s : Nat), .int (r : Nat)] A = some (.tup (natsW (w ++ [r])), A') := by
  have hw : Wp (X_Walk_way_to C [.loc n, .int (s : Nat), .int (r : Nat)] A) fun u _ => u = .tup (natsW (w ++ [r])) := by
    unfold X_Walk_way_to F_Walk_way_to
    refine (wp_def rfl).mpr ?_
    unfold g_Walk_way_to
    rw [show start0 5 [.loc n, .int (s : Nat), .int (r : Nat)] = [some (.loc n), some (.int (s : Nat)), some (.int (r : Nat)), none, none] from rfl]
    have keepA : ∀ x : MO, (A ++ [x])[n]? = some (.ins C (wkF a b i)) := fun x => by rw [List.getElem?_append_left (List.getElem?_eq_some_iff.mp hA).1]; exact hA
    have keepB : ∀ x : MO, (A ++ [x])[b]? = some (.dic D) := fun x => by rw [List.getElem?_append_left (List.getElem?_eq_some_iff.mp hb).1]; exact hb
    have hsq : ∃ v, valW D (.inl (s : Int)) = some v := by
      rcases p.par w s hq with ⟨_, h⟩ | ⟨_, _, _, _, _, h⟩ <;> exact ⟨_, h⟩
    obtain ⟨v0, hv0⟩ := hsq
    refine wp_seq.mpr (to_wpS (o := .nx [some (.loc n), some (.int (s : Nat)), some (.int (r : Nat)), some (.loc A.length), none]) (A := A ++ [.lst (natsW [r])]) (by simp [natsW]) ?_)
    rw [thenS_nx]
    have ef : ∀ {x y z t : Option W} {x0 : MO}, zFld C "steps" (zV 0) [some (.loc n), x, y, z, t] (A ++ [x0]) = some (.loc b, A ++ [x0]) := fun {x y z t x0} => ev_fld rfl (keepA _) getS
    refine wp_seq.mpr (to_wpS (o := .nx [some (.loc n), some (.int (s : Nat)), some (.int (r : Nat)), some (.loc A.length), some v0]) (A := A ++ [.lst (natsW [r])]) (by simp only [ev_asg, ev_z2, ef, ev_V1, ev_V0, Option.bind_some, dget_ok (keepB _) hv0, ev_asg1, Option.map_some, List.set_cons_succ, List.set_cons_zero]) ?_)
    rw [thenS_nx]
    refine wp_seq.mpr (wp_wh (fun E A' => ∃ (w' : List Nat) (s' : Nat) (way : List Nat) (st : W), (w', s') ∈ Q ∧ valW D (.inl (s' : Int)) = some st ∧ E = [some (.loc n), some (.int (s : Nat)), some (.int (r : Nat)), some (.loc A.length), some st] ∧ A' = A ++ [.lst (natsW way)] ∧ w ++ [r] = w' ++ way.reverse)
      (fun _ A' => w.length + 1 - (match A'[A.length]? with | some (.lst ws) => ws.length | _ => 0)) ⟨w, s, [r], v0, hq, hv0, rfl, rfl, rfl⟩ ?_)
    rintro E A' ⟨w', s', way, st, hq', hv', rfl, rfl, hway⟩
    have hlen : w.length + 1 = w'.length + way.length := by
      have := congrArg List.length hway
      simpa using this
    rcases p.par w' s' hq' with ⟨h1, h2⟩ | ⟨w2, s2, r2, h1, h2, h3⟩
    · rw [h2] at hv'
      cases hv'
      refine to_wp' (b := false) (A := A ++ [.lst (natsW way)]) (by simp [isNonW]) ⟨fun h => (by cases h), fun _ => ?_⟩
      rw [thenS_nx]
      refine wp_ret.mpr (to_wp (w := .tup (natsW way).reverse) (A := A ++ [.lst (natsW way)] ++ [.lst (natsW way).reverse]) (by simp [zRevL, sTuple]) ?_)
      show W.tup _ = _
      subst h1
      rw [List.nil_append] at hway
      rw [hway]
      simp [natsW]
    · rw [h3] at hv'
      cases hv'
      refine to_wp' (b := true) (A := A ++ [.lst (natsW way)]) (by simp [isNonW]) ⟨fun _ => ?_, fun h => (by cases h)⟩
      have hfew := p.few w s hq
      have lw : (natsW way).length < sizeLine := by rw [natsW_len]; exact big500 (by omega)
      refine wp_seq.mpr (to_wpS (o := .nx [some (.loc n), some (.int (s : Nat)), some (.int (r : Nat)), some (.loc A.length), some (.tup [.int (s2 : Nat), .int (r2 : Nat)])]) (A := A ++ [.lst (natsW (way ++ [r2]))]) ?_ ?_)
      · simp only [ev_drop, ev_M, ev_aCons, ev_aNil, ev_z2, ev_C, ev_V4, ev_V3, ev_V2, ev_V1, ev_V0, Option.bind_some, Option.map_some, ev_ixT, isLstB, sAppend, List.getElem?_append_right (Nat.le_refl _), Nat.sub_self, List.getElem?_cons_zero, if_true]
        rw [show atI [W.int (s2 : Nat), W.int (r2 : Nat)] 1 = some (.int (r2 : Nat)) from rfl]
        simp only [Option.map_some, Option.bind_some, List.getElem?_append_right (Nat.le_refl _), Nat.sub_self, List.getElem?_cons_zero, if_pos lw, natsW_append]
        rw [List.set_append_right _ _ (Nat.le_refl _), Nat.sub_self]
        rfl
      · rw [thenS_nx]
        obtain ⟨v2, hv2⟩ : ∃ v, valW D (.inl (s2 : Int)) = some v := by
          rcases p.par w2 s2 h1 with ⟨_, h⟩ | ⟨_, _, _, _, _, h⟩ <;> exact ⟨_, h⟩
        refine to_wpS (o := .nx [some (.loc n), some (.int (s : Nat)), some (.int (r : Nat)), some (.loc A.length), some v2]) (A := A ++ [.lst (natsW (way ++ [r2]))]) ?_ ?_
        · simp only [ev_asg, ev_z2, ef, ev_C, ev_V4, ev_V3, ev_V2, ev_V1, ev_V0, Option.bind_some, ev_ixT]
          rw [show atI [W.int (s2 : Nat), W.int (r2 : Nat)] 0 = some (.int (s2 : Nat)) from rfl]
          simp only [Option.map_some, Option.bind_some, dget_ok (keepB _) hv2, ev_asg1, List.set_cons_succ, List.set_cons_zero]
        · refine ⟨⟨w2, s2, way ++ [r2], v2, h1, hv2, rfl, rfl, ?_⟩, ?_⟩
          · rw [hway, h2]; simp
          · have hl2 := congrArg List.length h2
            rw [List.length_append, List.length_singleton] at hl2
            simp only [List.getElem?_append_right (Nat.le_refl _), Nat.sub_self, List.getElem?_cons_zero, natsW_len, List.length_append, List.length_singleton]
            show w.length + 1 - (way.length + 1) < w.length + 1 - way.length
            omega
  obtain ⟨u, A', e, rfl⟩ := hw
  exact ⟨A', e⟩
end Z
set_option Elab.async false
set_option linter.all false
set_option maxRecDepth 100000
set_option maxHeartbeats 1000000
/-! M32: the walk: its methods -/
namespace Z
open PySem L2
/-- the heap with a walk at its end -/
def wkH (C : Addr) (A : AH) (i : Int) (Q : List WS) (D : List (Key × W)) : AH := A ++ .ins C (wkF (A.length + 1) (A.length + 2) i) :: .lst (natsW (sts Q)) :: .dic D :: []
section
variable {C : Addr} {A : AH} {i : Int} {Q : List WS} {D : List (Key × W)}
theorem wk0 : (wkH C A i Q D)[A.length]? = some (.ins C (wkF (A.length + 1) (A.length + 2) i)) := by unfold wkH; exact hg0
theorem wk1 : (wkH C A i Q D)[A.length + 1]? = some (.lst (natsW (sts Q))) := by unfold wkH; exact hg1
theorem wk2 : (wkH C A i Q D)[A.length + 2]? = some (.dic D) := by unfold wkH; simp
theorem wks0 {j : Int} : (wkH C A i Q D).set A.length (.ins C (wkF (A.length + 1) (A.length + 2) j)) = wkH C A j Q D := by unfold wkH; simp
theorem wks1 {Q' : List WS} : (wkH C A i Q D).set (A.length + 1) (.lst (natsW (sts Q'))) = wkH C A i Q' D := by unfold wkH; exact hs1
theorem wks2 {D' : List (Key × W)} : (wkH C A i Q D).set (A.length + 2) (.dic D') = wkH C A i Q D' := by unfold wkH; rw [List.set_append_right _ _ (by omega)]; simp
theorem init_ok : X_Walk___init__ C [.loc A.length, .int 0] (A ++ [.ins C []]) = some (.non, wkH C A 0 [([], 0)] [(.inl 0, .non)]) := by
  have h : Wp (X_Walk___init__ C [.loc A.length, .int 0] (A ++ [.ins C []])) fun u B => u = .non ∧ B = wkH C A 0 [([], 0)] [(.inl 0, .non)] := by
    unfold X_Walk___init__ F_Walk___init__
    refine (wp_def rfl).mpr ?_
    unfold g_Walk___init__
    rw [show start0 2 [.loc A.length, .int 0] = [some (.loc A.length), some (.int 0)] from rfl]
    refine wp_seq.mpr (to_wpS (o := .nx [some (.loc A.length), some (.int 0)]) (A := A ++ .ins C [(("queue" : Str), .loc (A.length + 1))] :: .lst [.int 0] :: []) ?_ ?_)
    · unfold zsFld
      simp [insAt, putFW]
    rw [thenS_nx]
    refine wp_seq.mpr (to_wpS (o := .nx [some (.loc A.length), some (.int 0)]) (A := A ++ .ins C [(("queue" : Str), .loc (A.length + 1)), (("steps" : Str), .loc (A.length + 2))] :: .lst [.int 0] :: .dic [(.inl 0, .non)] :: []) ?_ ?_)
    · unfold zsFld
      simp [insAt, putFW, zDisp, zPairs, keysW, keyW, mrgW, putW, str_qs]
    rw [thenS_nx]
    refine to_wpS (o := .nx [some (.loc A.length), some (.int 0)]) (A := wkH C A 0 [([], 0)] [(.inl 0, .non)]) ?_ ⟨rfl, rfl⟩
    unfold zsFld
    simp [insAt, putFW, str_qa, str_sa, wkH, wkF, natsW, sts]
  exact of_wp h
theorem over_ok : X_Walk_is_over C [.loc A.length] (wkH C A i Q D) = some (.bl (decide (i = (Q.length : Int))), wkH C A i Q D) := by
  have h : Wp (X_Walk_is_over C [.loc A.length] (wkH C A i Q D)) fun u B => u = .bl (decide (i = (Q.length : Int))) ∧ B = wkH C A i Q D := by
    unfold X_Walk_is_over F_Walk_is_over
    refine (wp_def rfl).mpr ?_
    unfold g_Walk_is_over
    rw [show start0 1 [.loc A.length] = [some (.loc A.length)] from rfl]
    have e1 : zFld C "at" (zV 0) [some (.loc A.length)] (wkH C A i Q D) = some (.int i, wkH C A i Q D) := ev_fld rfl wk0 getA
    have e2 : zFld C "queue" (zV 0) [some (.loc A.length)] (wkH C A i Q D) = some (.loc (A.length + 1), wkH C A i Q D) := ev_fld rfl wk0 getQ
    have e3 : sLen [.loc (A.length + 1)] (wkH C A i Q D) = some (.int (Q.length : Int), wkH C A i Q D) := by
      unfold sLen
      simp only [itemsW, wk1, Option.map_some, natsW_len, sts, List.length_map]
    refine wp_ret.mpr (to_wp (w := .bl (decide (i = (Q.length : Int)))) (A := wkH C A i Q D) ?_ ⟨rfl, rfl⟩)
    simp only [ev_z2, ev_B, ev_aCons, ev_aNil, e1, e2, e3, Option.bind_some, Option.map_some]
    exact sEq_int
  exact of_wp h
theorem take_wk {i : Nat} {x : WS} (h : Q[i]? = some x) : X_Walk_take C [.loc A.length] (wkH C A i Q D) = some (.int (x.2 : Nat), wkH C A ((i + 1 : Nat) : Int) Q D) := by
  have h : Wp (X_Walk_take C [.loc A.length] (wkH C A i Q D)) fun u B => u = .int (x.2 : Nat) ∧ B = wkH C A ((i + 1 : Nat) : Int) Q D := by
    unfold X_Walk_take F_Walk_take
    refine (wp_def rfl).mpr ?_
    unfold g_Walk_take
    rw [show start0 1 [.loc A.length] = [some (.loc A.length)] from rfl]
    refine wp_seq.mpr (to_wpS (o := .nx [some (.loc A.length)]) (A := wkH C A ((i + 1 : Nat) : Int) Q D) ?_ ?_)
    · unfold zsFldAug
      simp only [ev_V0, Option.bind_some, insAt_of wk0, getA, ev_C, putA, wks0]
      rw [if_pos (by simp [wkF])]
      rfl
    rw [thenS_nx]
    have e1 : zFld C "at" (zV 0) [some (.loc A.length)] (wkH C A ((i + 1 : Nat) : Int) Q D) = some (.int ((i + 1 : Nat) : Int), wkH C A ((i + 1 : Nat) : Int) Q D) := ev_fld rfl wk0 getA
    have e2 : zFld C "queue" (zV 0) [some (.loc A.length)] (wkH C A ((i + 1 : Nat) : Int) Q D) = some (.loc (A.length + 1), wkH C A ((i + 1 : Nat) : Int) Q D) := ev_fld rfl wk0 getQ
    have e3 : sSub (.int ((i + 1 : Nat) : Int)) (.int 1) (wkH C A ((i + 1 : Nat) : Int) Q D) = some (.int (i : Nat), wkH C A ((i + 1 : Nat) : Int) Q D) := by
      unfold sSub
      rw [ev_ii, if_pos rfl]
      rw [show ((i + 1 : Nat) : Int) - 1 = (i : Int) from by omega]
    have e4 : sIx (.loc (A.length + 1)) (.int (i : Nat)) (wkH C A ((i + 1 : Nat) : Int) Q D) = some (.int (x.2 : Nat), wkH C A ((i + 1 : Nat) : Int) Q D) := sIx_loc wk1 (by rw [atI_nat, natsW_get, sts, List.getElem?_map, h]; rfl)
    refine wp_ret.mpr (to_wp (w := .int (x.2 : Nat)) (A := wkH C A ((i + 1 : Nat) : Int) Q D) ?_ ⟨rfl, rfl⟩)
    simp only [ev_z2, ev_C, e1, e2, e3, e4, Option.bind_some]
  exact of_wp h
theorem come_ok {w : List Nat} {s r t m : Nat} (p : ParOk Q D) (hw : (w, s) ∈ Q) (nd : (sts Q).Nodup) (al : AllP (· < m) Q) (hm : m ≤ 400) (ht : t < m) :
    ∃ D', X_Walk_come_to C [.loc A.length, .int (t : Nat), .int (s : Nat), .int (r : Nat)] (wkH C A i Q D) = some (.non, wkH C A i (if t ∈ sts Q then Q else Q ++ [(w ++ [r], t)]) D') ∧ ParOk (if t ∈ sts Q then Q else Q ++ [(w ++ [r], t)]) D' ∧ (sts (if t ∈ sts Q then Q else Q ++ [(w ++ [r], t)])).Nodup ∧ AllP (· < m) (if t ∈ sts Q then Q else Q ++ [(w ++ [r], t)]) := by
  have hl := lt_len nd al
  have hlen := p.len
  have e1 : ∀ {x y z : Option W} {D' : List (Key × W)}, zFld C "steps" (zV 0) [some (.loc A.length), x, y, z] (wkH C A i Q D') = some (.loc (A.length + 2), wkH C A i Q D') := ev_fld rfl wk0 getS
  have e2 : ∀ {x y z : Option W} {D' : List (Key × W)}, zFld C "queue" (zV 0) [some (.loc A.length), x, y, z] (wkH C A i Q D') = some (.loc (A.length + 1), wkH C A i Q D') := ev_fld rfl wk0 getQ
  by_cases hin : t ∈ sts Q
  · rw [if_pos hin]
    refine ⟨D, of_wp ?_, p, nd, al⟩
    unfold X_Walk_come_to F_Walk_come_to
    refine (wp_def rfl).mpr ?_
    unfold g_Walk_come_to
    rw [show start0 4 [.loc A.length, .int (t : Nat), .int (s : Nat), .int (r : Nat)] = [some (.loc A.length), some (.int (t : Nat)), some (.int (s : Nat)), some (.int (r : Nat))] from rfl]
    refine wp_sIf.mpr (to_wp' (b := false) (A := wkH C A i Q D) ?_ ⟨fun h => (by cases h), fun _ => wp_skip.mpr ⟨rfl, rfl⟩⟩)
    unfold zNotB
    simp only [ev_bl, ev_z2, ev_V1, ev_V0, Option.bind_some, e1, din_ok wk2, p.key, decide_eq_true hin, Bool.not_true]
  · rw [if_neg hin]
    have hn : valW D (.inl (t : Int)) = none := by
      have k := p.key t
      rw [decide_eq_false hin] at k
      cases e : valW D (.inl (t : Int)) with
      | none => rfl
      | some v => rw [e] at k; cases k
    refine ⟨D ++ [(.inl (t : Int), .tup [.int (s : Nat), .int (r : Nat)])], of_wp ?_, p.snoc hw hin, ?_, ?_⟩
    · unfold X_Walk_come_to F_Walk_come_to
      refine (wp_def rfl).mpr ?_
      unfold g_Walk_come_to
      rw [show start0 4 [.loc A.length, .int (t : Nat), .int (s : Nat), .int (r : Nat)] = [some (.loc A.length), some (.int (t : Nat)), some (.int (s : Nat)), some (.int (r : Nat))] from rfl]
      refine wp_sIf.mpr (to_wp' (b := true) (A := wkH C A i Q D) ?_ ⟨fun _ => ?_, fun h => (by cases h)⟩)
      · unfold zNotB
        simp only [ev_bl, ev_z2, ev_V1, ev_V0, Option.bind_some, e1, din_ok wk2, p.key, decide_eq_false hin, Bool.not_false]
      refine wp_seq.mpr (to_wpS (o := .nx [some (.loc A.length), some (.int (t : Nat)), some (.int (s : Nat)), some (.int (r : Nat))]) (A := wkH C A i Q (D ++ [(.inl (t : Int), .tup [.int (s : Nat), .int (r : Nat)])])) ?_ ?_)
      · unfold zsDPut
        simp only [ev_tup, ev_aCons, ev_aNil, ev_V3, ev_V2, ev_V1, ev_V0, Option.bind_some, Option.map_some, List.length_cons, List.length_nil, Nat.zero_add, Nat.reduceAdd, sz2, if_true, e1, keyW, wk2, put_new hn, wks2]
        rw [if_pos (big500 (by omega))]
      rw [thenS_nx]
      refine to_wpS (o := .nx [some (.loc A.length), some (.int (t : Nat)), some (.int (s : Nat)), some (.int (r : Nat))]) (A := wkH C A i (Q ++ [(w ++ [r], t)]) (D ++ [(.inl (t : Int), .tup [.int (s : Nat), .int (r : Nat)])])) ?_ ⟨rfl, rfl⟩
      have lq : (natsW (sts Q)).length < sizeLine := by rw [natsW_len, sts, List.length_map]; exact big500 (by omega)
      have wq : natsW (sts Q) ++ [.int (t : Nat)] = natsW (sts (Q ++ [(w ++ [r], t)])) := by rw [sts_append, natsW_append]; rfl
      simp only [ev_drop, ev_M, ev_aCons, ev_aNil, ev_V1, ev_V0, Option.bind_some, Option.map_some, e2, isLstB, sAppend, wk1, if_true, if_pos lq, wq, wks1]
    · rw [sts_append, List.nodup_append]
      exact ⟨nd, by simp [sts], fun a ha b hb => by simp [sts] at hb; subst hb; exact fun e => hin (e ▸ ha)⟩
    · intro x hx
      rcases List.mem_append.mp hx with hx | hx
      · exact al x hx
      · rw [List.mem_singleton] at hx; subst hx; exact ht
end
end Z
set_option Elab.async false
set_option linter.all false
set_option maxRecDepth 100000
set_option maxHeartbeats 1000000
/-! M33: first_way_out, first_fault -/
namespace Z
open PySem L2
noncomputable def fwRow (C : Addr) : ZS := (zsFor (ziEnum (z2 sIx (zV 0) (zV 3))) (.tup [(.name 4), (.name 5)]) (zsSeq (zsIf (tzOr (zBl (z2 sIsN (zV 5) (zC .non))) (tzAnd (zBl (z2 sNotN (zV 1) (zC .non))) (zBl (z2 sNe (z2 sIx (zV 5) (zC (.int 0))) (zV 1))))) (zsRet (zMeth C "way_to" 3 (X_Walk_way_to C) (zV 2) (zaCons (zV 3) (zaCons (zV 4) zaNil)))) zsSkip) (zsDrop (zMeth C "come_to" 4 (X_Walk_come_to C) (zV 2) (zaCons (z2 sIx (zV 5) (zC (.int 1))) (zaCons (zV 3) (zaCons (zV 4) zaNil)))))))
theorem no_way {a b : Nat} {i : Int} : getFW "way_to" (wkF a b i) = none := by
  unfold wkF
  rw [getFW, if_neg (by decide), getFW, if_neg (by decide), getFW, if_neg (by decide), getFW]
theorem no_come {a b : Nat} {i : Int} : getFW "come_to" (wkF a b i) = none := by
  unfold wkF
  rw [getFW, if_neg (by decide), getFW, if_neg (by decide), getFW, if_neg (by decide), getFW]
theorem no_over {a b : Nat} {i : Int} : getFW "is_over" (wkF a b i) = none := by
  unfold wkF
  rw [getFW, if_neg (by decide), getFW, if_neg (by decide), getFW, if_neg (by decide), getFW]
theorem no_take {a b : Nat} {i : Int} : getFW "take" (wkF a b i) = none := by
  unfold wkF
  rw [getFW, if_neg (by decide), getFW, if_neg (by decide), getFW, if_neg (by decide), getFW]
theorem fwrow_ok {C : Addr} {R : List W} {P : List W → Prop} {M : List (List Pl)} {A : AH} {i : Int} {y4 y5 : Option W} {w : List Nat} {s : Nat} {Q : List WS} {D : List (Key × W)} (m : MTab R.length P M) (hM : M.length ≤ 400) (hw : (w, s) ∈ Q) (p : ParOk Q D) (nd : (sts Q).Nodup) (al : AllP (· < M.length) Q) :
    Wp (fwRow C [some (.tup (M.map encL)), some .non, some (.loc A.length), some (.int (s : Nat)), y4, y5] (wkH C A i Q D)) fun o A' => (∃ y, rowL w (lineAt M s) 0 Q = .inl y ∧ o = .rt (.tup (natsW y))) ∨ ∃ Q' D' z4 z5, rowL w (lineAt M s) 0 Q = .inr Q' ∧ ParOk Q' D' ∧ (sts Q').Nodup ∧ AllP (· < M.length) Q' ∧ o = .nx [some (.tup (M.map encL)), some .non, some (.loc A.length), some (.int (s : Nat)), z4, z5] ∧ A' = wkH C A i Q' D' := by
  have hs : s < M.length := al _ hw
  unfold fwRow
  refine wp_forFix (ws := enumW ((lineAt M s).map encP)) (A1 := wkH C A i Q D) (by unfold ziEnum; simp only [ev_z2, ev_V3, ev_V2, ev_V1, ev_V0, Option.bind_some, row_at hs, encL]) (fun k E A' => ∃ Q' D' z4 z5, E = [some (.tup (M.map encL)), some .non, some (.loc A.length), some (.int (s : Nat)), z4, z5] ∧ A' = wkH C A i Q' D' ∧ (w, s) ∈ Q' ∧ ParOk Q' D' ∧ (sts Q').Nodup ∧ AllP (· < M.length) Q' ∧ rowL w (lineAt M s) 0 Q = rowL w ((lineAt M s).drop k) k Q')
    ⟨Q, D, y4, y5, rfl, rfl, hw, p, nd, al, rfl⟩ ?_ ?_
  · rintro k u E A' hu ⟨Q1, D1, z4, z5, rfl, rfl, hw1, p1, n1, a1, hr⟩
    obtain ⟨x, hx, rfl⟩ := enumW_get hu
    rw [List.getElem?_map] at hx
    have hl1 := lt_len n1 a1
    cases hp : (lineAt M s)[k]? with
    | none => rw [hp] at hx; cases hx
    | some q =>
      rw [hp, Option.map_some, Option.some.injEq] at hx
      subst hx
      have hlt := (List.getElem?_eq_some_iff.mp hp).1
      have hmem := List.mem_of_getElem? hp
      have hd : (lineAt M s).drop k = q :: (lineAt M s).drop (k + 1) := by
        rw [List.drop_eq_getElem_cons hlt]
        congr 1
        exact (List.getElem?_eq_some_iff.mp hp).2
      rw [hd] at hr
      refine ⟨[some (.tup (M.map encL)), some .non, some (.loc A.length), some (.int (s : Nat)), some (.int (k : Nat)), some (encP q)], rfl, ?_⟩
      cases q with
      | none =>
        refine wp_seq.mpr (wp_sIf.mpr (to_wp' (b := true) (A := wkH C A i Q1 D1) ?_ ⟨fun _ => ?_, fun h => (by cases h)⟩))
        · simp only [ev_tor, ev_bl, ev_z2, ev_C, ev_V5, ev_V4, ev_V3, ev_V2, ev_V1, ev_V0, Option.bind_some, ev_isN, encP, isNonW, if_true]
        obtain ⟨A2, e2⟩ := way_ok (r := k) p1 hw1 (by omega) (wk0 (i := i)) wk2
        refine wp_ret.mpr (to_wp (w := .tup (natsW (w ++ [k]))) (A := A2) ?_ ?_)
        · exact (ev_meth (us := [.int (s : Nat), .int (k : Nat)]) (B := wkH C A i Q1 D1) (by simp only [ev_V2, ev_V1, ev_V0]) (wk0 (i := i) (Q := Q1) (D := D1)) no_way (by simp only [ev_aCons, ev_aNil, ev_V4, ev_V3, ev_V2, ev_V1, ev_V0, Option.bind_some, Option.map_some]) rfl).trans e2
        · exact .inl ⟨w ++ [k], hr, rfl⟩
      | some q =>
        obtain ⟨o, t⟩ := q
        rw [rowL] at hr
        have ht := m.ok.nxt _ (lineAt_mem hs).1 o t hmem
        obtain ⟨D2, e2, p2, n2, a2⟩ := come_ok (C := C) (A := A) (i := i) (r := k) p1 hw1 n1 a1 hM ht
        refine wp_seq.mpr (wp_sIf.mpr (to_wp' (b := false) (A := wkH C A i Q1 D1) ?_ ⟨fun h => (by cases h), fun _ => wp_skip.mpr ?_⟩))
        · simp only [ev_tor, ev_tand, ev_bl, ev_z2, ev_C, ev_V5, ev_V4, ev_V3, ev_V2, ev_V1, ev_V0, Option.bind_some, ev_isN, ev_notN, encP, isNonW, if_true, Bool.not_true, Bool.false_eq_true, if_false]
        rw [thenS_nx]
        refine wp_drop.mpr (to_wp (w := .non) (A := wkH C A i (if t ∈ sts Q1 then Q1 else Q1 ++ [(w ++ [k], t)]) D2) ?_ ?_)
        · exact (ev_meth (us := [.int (t : Nat), .int (s : Nat), .int (k : Nat)]) (B := wkH C A i Q1 D1) (by simp only [ev_V2, ev_V1, ev_V0]) (wk0 (i := i) (Q := Q1) (D := D1)) no_come (by simp only [ev_aCons, ev_aNil, ev_z2, ev_C, ev_V5, ev_V4, ev_V3, ev_V2, ev_V1, ev_V0, Option.bind_some, Option.map_some, encP, show ∀ A, sIx (.tup [.tup o, .int (t : Nat)]) (.int 1) A = some (.int (t : Nat), A) from fun A => rfl]) rfl).trans e2
        · refine ⟨_, D2, _, _, rfl, rfl, ?_, p2, n2, a2, hr⟩
          split
          · exact hw1
          · exact List.mem_append_left _ hw1
  · rintro E A' ⟨Q1, D1, z4, z5, rfl, rfl, hw1, p1, n1, a1, hr⟩
    rw [enumW_len, List.length_map, List.drop_length, rowL] at hr
    exact .inr ⟨Q1, D1, z4, z5, hr, p1, n1, a1, rfl, rfl⟩
theorem rowL_len {w : List Nat} : ∀ {l : List Pl} {r : Nat} {L L' : List WS}, rowL w l r L = .inr L' → L.length ≤ L'.length
  | [], r, L, L', h => by injection h with h; subst h; exact Nat.le_refl _
  | none :: _, r, L, L', h => by cases h
  | some (o, t) :: ps, r, L, L', h => by
    rw [rowL] at h
    have := rowL_len h
    split at this
    · exact this
    · rw [List.length_append] at this; omega
/-- where the walk is -/
def wkAt (n : Nat) (A : AH) : Nat := match A[n]? with
  | some (.ins _ fs) => (match getFW "at" fs with
    | some (.int i) => i.toNat
    | _ => 0)
  | _ => 0
theorem wkAt_ok {C : Addr} {A : AH} {i : Nat} {Q : List WS} {D : List (Key × W)} : wkAt A.length (wkH C A i Q D) = i := by
  unfold wkAt
  simp only [wk0, getA, Int.toNat_natCast]
theorem fwo_ok {C : Addr} {R : List W} {P : List W → Prop} {M : List (List Pl)} {A : AH} (m : MTab R.length P M) (hM : M.length ≤ 400) : ∃ A', X_first_way_out C [.tup (M.map encL), .non] A = some (encW (lawS (lineAt M) (M.length + 1) [([], 0)]), A') := by
  obtain ⟨j0, hj⟩ := searches (f := lineAt M) (m := M.length) m.ok.pos fun s hs o t h => m.ok.nxt _ (lineAt_mem hs).1 o t h
  generalize hX : lawS (lineAt M) (M.length + 1) [([], 0)] = X at hj
  have hw : Wp (X_first_way_out C [.tup (M.map encL), .non] A) fun u _ => u = encW X := by
    unfold X_first_way_out F_first_way_out
    refine (wp_def rfl).mpr ?_
    unfold g_first_way_out
    rw [show start0 6 [.tup (M.map encL), .non] = [some (.tup (M.map encL)), some .non, none, none, none, none] from rfl]
    refine wp_seq.mpr (to_wpS (o := .nx [some (.tup (M.map encL)), some .non, some (.loc A.length), none, none, none]) (A := wkH C A (0 : Nat) [([], 0)] [(.inl 0, .non)]) ?_ ?_)
    · have e : zMake C 2 (X_Walk___init__ C) (zaCons (zC (.int 0)) zaNil) [some (.tup (M.map encL)), some .non, none, none, none, none] A = some (.loc A.length, wkH C A 0 [([], 0)] [(.inl 0, .non)]) := by
        unfold zMake
        simp only [ev_aCons, ev_aNil, ev_C, Option.bind_some, Option.map_some, List.length_cons, List.length_nil, Nat.zero_add, Nat.reduceAdd, if_true, init_ok]
      simp only [ev_asg, e, Option.bind_some, ev_asg1, Option.map_some, List.set_cons_succ, List.set_cons_zero]
      rfl
    rw [thenS_nx]
    refine wp_seq.mpr (wp_wh (fun E A' => ∃ (i : Nat) (Q : List WS) (D : List (Key × W)) (k : Nat) (y3 y4 y5 : Option W), E = [some (.tup (M.map encL)), some .non, some (.loc A.length), y3, y4, y5] ∧ A' = wkH C A i Q D ∧ ParOk Q D ∧ (sts Q).Nodup ∧ AllP (· < M.length) Q ∧ walkS (lineAt M) k i Q = some X ∧ i ≤ Q.length)
      (fun _ A' => M.length + 1 - wkAt A.length A') ⟨0, [([], 0)], _, j0 + 0, none, none, none, rfl, rfl, ParOk.root, by simp [sts], fun x hx => by rw [List.mem_singleton] at hx; subst hx; exact m.ok.pos, hj 0, Nat.zero_le _⟩ ?_)
    rintro E A' ⟨i, Q, D, k, y3, y4, y5, rfl, rfl, p, nd, al, hk, hi⟩
    have hl := lt_len nd al
    have eo : zMeth C "is_over" 1 (X_Walk_is_over C) (zV 2) zaNil [some (.tup (M.map encL)), some .non, some (.loc A.length), y3, y4, y5] (wkH C A i Q D) = some (.bl (decide ((i : Int) = (Q.length : Int))), wkH C A i Q D) :=
      (ev_meth (us := []) (B := wkH C A i Q D) (by simp only [ev_V2, ev_V1, ev_V0]) (wk0 (i := (i : Int)) (Q := Q) (D := D)) no_over (by simp only [ev_aNil]) rfl).trans over_ok
    cases k with
    | zero => cases hk
    | succ k =>
      cases hx : Q[i]? with
      | none =>
        rw [walkS, hx] at hk
        have hge : Q.length ≤ i := List.getElem?_eq_none_iff.mp hx
        simp only [Option.some.injEq] at hk
        refine to_wp' (b := false) (A := wkH C A i Q D) ?_ ⟨fun h => (by cases h), fun _ => ?_⟩
        · simp only [ev_tnot, ev_tru, eo, Option.bind_some, ev_truB, Option.map_some, decide_eq_true (show (i : Int) = (Q.length : Int) by omega), Bool.not_true]
        rw [thenS_nx]
        refine wp_ret.mpr (to_wp (w := .non) (A := wkH C A i Q D) rfl ?_)
        show W.non = _
        rw [← hk]; rfl
      | some x =>
        rw [walk_succ hx] at hk
        have hlt := (List.getElem?_eq_some_iff.mp hx).1
        have hmem := List.mem_of_getElem? hx
        refine to_wp' (b := true) (A := wkH C A i Q D) ?_ ⟨fun _ => ?_, fun h => (by cases h)⟩
        · simp only [ev_tnot, ev_tru, eo, Option.bind_some, ev_truB, Option.map_some, decide_eq_false (show ¬ (i : Int) = (Q.length : Int) by omega), Bool.not_false]
        have et : zMeth C "take" 1 (X_Walk_take C) (zV 2) zaNil [some (.tup (M.map encL)), some .non, some (.loc A.length), y3, y4, y5] (wkH C A i Q D) = some (.int (x.2 : Nat), wkH C A ((i + 1 : Nat) : Int) Q D) :=
          (ev_meth (us := []) (B := wkH C A i Q D) (by simp only [ev_V2, ev_V1, ev_V0]) (wk0 (i := (i : Int)) (Q := Q) (D := D)) no_take (by simp only [ev_aNil]) rfl).trans (take_wk hx)
        refine wp_seq.mpr (to_wpS (o := .nx [some (.tup (M.map encL)), some .non, some (.loc A.length), some (.int (x.2 : Nat)), y4, y5]) (A := wkH C A ((i + 1 : Nat) : Int) Q D) ?_ ?_)
        · simp only [ev_asg, et, Option.bind_some, ev_asg1, Option.map_some, List.set_cons_succ, List.set_cons_zero]
        rw [thenS_nx]
        refine Wp.mono (fwrow_ok (C := C) (A := A) (i := ((i + 1 : Nat) : Int)) (y4 := y4) (y5 := y5) m hM (w := x.1) (s := x.2) hmem p nd al) ?_
        rintro o A2 (⟨y, e, rfl⟩ | ⟨Q', D', z4, z5, e, p', n', a', rfl, rfl⟩)
        · rw [e] at hk
          simp only [Option.some.injEq] at hk
          subst hk
          rfl
        · rw [e] at hk
          refine ⟨⟨i + 1, Q', D', k, _, z4, z5, rfl, rfl, p', n', a', hk, by have := rowL_len e; omega⟩, ?_⟩
          rw [wkAt_ok, wkAt_ok]
          omega
  obtain ⟨u, A', e, rfl⟩ := hw
  exact ⟨A', e⟩
theorem encW_ok {c : Nat} : ∀ {X : Option (List Nat)}, (∀ y, X = some y → y.length ≤ 500) → okS 5 (encW X) = true
  | none, _ => rfl
  | some y, h => by
    show (decide ((natsW y).length ≤ 500) && (natsW y).all (okS 4)) = true
    rw [natsW_len, decide_eq_true (h y rfl), Bool.true_and, List.all_eq_true]
    intro x hx
    obtain ⟨k, _, rfl⟩ := List.mem_map.mp hx
    rfl
theorem rowL_out {w : List Nat} : ∀ {l : List Pl} {r : Nat} {L : List WS} {y : List Nat}, rowL w l r L = .inl y → y.length = w.length + 1
  | [], r, L, y, h => by cases h
  | none :: _, r, L, y, h => by injection h with h; subst h; simp
  | some (o, t) :: ps, r, L, y, h => by rw [rowL] at h; exact rowL_out h
theorem lev_out {f : Nat → List Pl} {c : Nat} : ∀ {D L : List WS} {y : List Nat}, (∀ x ∈ D, x.1.length ≤ c) → lev f D L = .inl y → y.length ≤ c + 1
  | [], L, y, _, h => by cases h
  | d :: D, L, y, hD, h => by
    rw [lev] at h
    cases e : rowL d.1 (f d.2) 0 L with
    | inl z =>
      rw [e] at h
      injection h with h
      subst h
      have := rowL_out e
      have := hD d List.mem_cons_self
      omega
    | inr L1 =>
      rw [e] at h
      exact lev_out (fun x hx => hD x (List.mem_cons_of_mem _ hx)) h
theorem lawS_len {f : Nat → List Pl} : ∀ {k c : Nat} {D : List WS} {y : List Nat}, (∀ x ∈ D, x.1.length ≤ c) → lawS f k D = some y → y.length ≤ c + k
  | 0, c, D, y, _, h => by cases h
  | k + 1, c, D, y, hD, h => by
    rw [lawS] at h
    cases e : lev f D [] with
    | inl z =>
      rw [e] at h
      injection h with h
      subst h
      have := lev_out hD e
      omega
    | inr L =>
      rw [e] at h
      have := lawS_len (lev_ways hD (fun x hx => by cases hx) e) h
      omega
theorem ff_ok {C : Addr} : FF C := by
  intro R outs M g r0 r1 ho mt h7
  refine ⟨encW (lawS (lineAt M) (M.length + 1) [([], 0)]), ?_, fun A => ?_, fun A => shortest_ok mt (by omega) h7⟩
  · refine encW_ok (c := 0) fun y hy => ?_
    have := lawS_len (c := 0) (fun x hx => by rw [List.mem_singleton] at hx; subst hx; exact Nat.le_refl _) hy
    omega
  · obtain ⟨A', e⟩ := fwo_ok (C := C) (A := A) mt (by omega)
    refine ⟨A', of_wp ?_⟩
    unfold X_first_fault F_first_fault
    refine (wp_def rfl).mpr ?_
    unfold g_first_fault
    rw [show start0 1 [mach R M] = [some (mach R M)] from rfl]
    refine wp_ret.mpr (to_wp (w := encW (lawS (lineAt M) (M.length + 1) [([], 0)])) (A := A') ?_ ⟨rfl, rfl⟩)
    exact call2 (u := .tup (M.map encL)) (v := .non) (B := A) (C := A) rfl rfl e
end Z
set_option Elab.async false
set_option linter.all false
namespace Z
open PySem L2
theorem law_true {A : AH} {s : W} {ns : List Int} {C_Walk : Addr} (hl : ns.length ≤ 63) (hs : IsScript A s ns) : ∃ A', X_law C_Walk [s] A = some (.bl true, A') := law_true_of ff_ok hs
end Z
set_option Elab.async false
set_option linter.all false
set_option maxRecDepth 100000
set_option maxHeartbeats 8000000
namespace Z
open PySem L2
section
theorem facts_mk {K : PySem.W.Frag} {h : Heap} {mg : Str → Option Value} {C_Walk : Addr} {f__law_tape f__law_mix f__law_take f__law_numbered f__law_machine f__law_menu f__law_input_rows f_is_tuple f__are_tuples f_are_different f_marked f_key_of f_is_whole f__is_entry f__are_numbered f_is_machine f__law_bad f__law_same f__law_run f_run_machine f__law_shortest f_first_way_out f_first_fault f_law f_Walk___init__ f_Walk_is_over f_Walk_take f_Walk_way_to f_Walk_come_to c__are_tuples P__are_tuples c_is_machine P_is_machine : Addr} (X : K.In h) (G : h.Ns mainGlobals mg)
    {od__law_tape an__law_tape od__law_mix an__law_mix od__law_take an__law_take od__law_numbered an__law_numbered od__law_machine an__law_machine od__law_menu an__law_menu od__law_input_rows an__law_input_rows od_is_tuple an_is_tuple od__are_tuples an__are_tuples od_are_different an_are_different od_marked an_marked od_key_of an_key_of od_is_whole an_is_whole od__is_entry an__is_entry od__are_numbered an__are_numbered od_is_machine an_is_machine od__law_bad an__law_bad od__law_same an__law_same od__law_run an__law_run od_run_machine an_run_machine od__law_shortest an__law_shortest od_first_way_out an_first_way_out od_first_fault an_first_fault od_law an_law od_Walk___init__ an_Walk___init__ od_Walk_is_over an_Walk_is_over od_Walk_take an_Walk_take od_Walk_way_to an_Walk_way_to od_Walk_come_to an_Walk_come_to : Option Addr} {sl__law_tape sl__law_mix sl__law_take sl__law_numbered sl__law_machine sl__law_menu sl__law_input_rows sl_is_tuple sl__are_tuples sl_are_different sl_marked sl_key_of sl_is_whole sl__is_entry sl__are_numbered sl_is_machine sl__law_bad sl__law_same sl__law_run sl_run_machine sl__law_shortest sl_first_way_out sl_first_fault sl_law sl_Walk___init__ sl_Walk_is_over sl_Walk_take sl_Walk_way_to sl_Walk_come_to : Array (Option Value)} {oc__law_tape kV__law_tape dc__law_tape pm__law_tape ct__law_tape cd__law_tape oc__law_mix kV__law_mix dc__law_mix pm__law_mix ct__law_mix cd__law_mix oc__law_take kV__law_take dc__law_take pm__law_take ct__law_take cd__law_take oc__law_numbered kV__law_numbered dc__law_numbered pm__law_numbered ct__law_numbered cd__law_numbered oc__law_machine kV__law_machine dc__law_machine pm__law_machine ct__law_machine cd__law_machine oc__law_menu kV__law_menu dc__law_menu pm__law_menu ct__law_menu cd__law_menu oc__law_input_rows kV__law_input_rows dc__law_input_rows pm__law_input_rows ct__law_input_rows cd__law_input_rows oc_is_tuple kV_is_tuple dc_is_tuple pm_is_tuple ct_is_tuple cd_is_tuple oc__are_tuples kV__are_tuples dc__are_tuples pm__are_tuples ct__are_tuples oc_are_different kV_are_different dc_are_different pm_are_different ct_are_different cd_are_different oc_marked kV_marked dc_marked pm_marked ct_marked cd_marked oc_key_of kV_key_of dc_key_of pm_key_of ct_key_of cd_key_of oc_is_whole kV_is_whole dc_is_whole pm_is_whole ct_is_whole cd_is_whole oc__is_entry kV__is_entry dc__is_entry pm__is_entry ct__is_entry cd__is_entry oc__are_numbered kV__are_numbered dc__are_numbered pm__are_numbered ct__are_numbered cd__are_numbered oc_is_machine kV_is_machine dc_is_machine pm_is_machine ct_is_machine oc__law_bad kV__law_bad dc__law_bad pm__law_bad ct__law_bad cd__law_bad oc__law_same kV__law_same dc__law_same pm__law_same ct__law_same cd__law_same oc__law_run kV__law_run dc__law_run pm__law_run ct__law_run cd__law_run oc_run_machine kV_run_machine dc_run_machine pm_run_machine ct_run_machine cd_run_machine oc__law_shortest kV__law_shortest dc__law_shortest pm__law_shortest ct__law_shortest cd__law_shortest oc_first_way_out kV_first_way_out dc_first_way_out pm_first_way_out ct_first_way_out cd_first_way_out oc_first_fault kV_first_fault dc_first_fault pm_first_fault ct_first_fault cd_first_fault oc_law kV_law dc_law pm_law ct_law cd_law oc_Walk___init__ kV_Walk___init__ dc_Walk___init__ pm_Walk___init__ ct_Walk___init__ cd_Walk___init__ oc_Walk_is_over kV_Walk_is_over dc_Walk_is_over pm_Walk_is_over ct_Walk_is_over cd_Walk_is_over oc_Walk_take kV_Walk_take dc_Walk_take pm_Walk_take ct_Walk_take cd_Walk_take oc_Walk_way_to kV_Walk_way_to dc_Walk_way_to pm_Walk_way_to ct_Walk_way_to cd_Walk_way_to oc_Walk_come_to kV_Walk_come_to dc_Walk_come_to pm_Walk_come_to ct_Walk_come_to cd_Walk_come_to : Value}
    (aC_Walk : PySem.W.nsIn K mainGlobals "Walk" = some (some (.ref C_Walk)))
    (a__law_tape : PySem.W.nsIn K mainGlobals "_law_tape" = some (some (.ref f__law_tape)))
    (l__law_tape : K.lookup f__law_tape = some ⟨oc__law_tape, od__law_tape, .func (PySem.W.fnOf "_law_tape" "_law_tape" (defArgs s__law_tape) (defBody s__law_tape) (defScope s__law_tape) .none kV__law_tape dc__law_tape pm__law_tape an__law_tape cd__law_tape ct__law_tape), sl__law_tape⟩)
    (c__law_tape_ : PySem.W.codeIn K cd__law_tape "_law_tape" = true)
    (k__law_tape : PySem.W.keepIn K (.ref f__law_tape) = true)
    (a__law_mix : PySem.W.nsIn K mainGlobals "_law_mix" = some (some (.ref f__law_mix)))
    (l__law_mix : K.lookup f__law_mix = some ⟨oc__law_mix, od__law_mix, .func (PySem.W.fnOf "_law_mix" "_law_mix" (defArgs s__law_mix) (defBody s__law_mix) (defScope s__law_mix) .none kV__law_mix dc__law_mix pm__law_mix an__law_mix cd__law_mix ct__law_mix), sl__law_mix⟩)
    (c__law_mix_ : PySem.W.codeIn K cd__law_mix "_law_mix" = true)
    (k__law_mix : PySem.W.keepIn K (.ref f__law_mix) = true)
    (a__law_take : PySem.W.nsIn K mainGlobals "_law_take" = some (some (.ref f__law_take)))
    (l__law_take : K.lookup f__law_take = some ⟨oc__law_take, od__law_take, .func (PySem.W.fnOf "_law_take" "_law_take" (defArgs s__law_take) (defBody s__law_take) (defScope s__law_take) .none kV__law_take dc__law_take pm__law_take an__law_take cd__law_take ct__law_take), sl__law_take⟩)
    (c__law_take_ : PySem.W.codeIn K cd__law_take "_law_take" = true)
    (k__law_take : PySem.W.keepIn K (.ref f__law_take) = true)
    (a__law_numbered : PySem.W.nsIn K mainGlobals "_law_numbered" = some (some (.ref f__law_numbered)))
    (l__law_numbered : K.lookup f__law_numbered = some ⟨oc__law_numbered, od__law_numbered, .func (PySem.W.fnOf "_law_numbered" "_law_numbered" (defArgs s__law_numbered) (defBody s__law_numbered) (defScope s__law_numbered) .none kV__law_numbered dc__law_numbered pm__law_numbered an__law_numbered cd__law_numbered ct__law_numbered), sl__law_numbered⟩)
    (c__law_numbered_ : PySem.W.codeIn K cd__law_numbered "_law_numbered" = true)
    (k__law_numbered : PySem.W.keepIn K (.ref f__law_numbered) = true)
    (a__law_machine : PySem.W.nsIn K mainGlobals "_law_machine" = some (some (.ref f__law_machine)))
    (l__law_machine : K.lookup f__law_machine = some ⟨oc__law_machine, od__law_machine, .func (PySem.W.fnOf "_law_machine" "_law_machine" (defArgs s__law_machine) (defBody s__law_machine) (defScope s__law_machine) .none kV__law_machine dc__law_machine pm__law_machine an__law_machine cd__law_machine ct__law_machine), sl__law_machine⟩)
    (c__law_machine_ : PySem.W.codeIn K cd__law_machine "_law_machine" = true)
    (k__law_machine : PySem.W.keepIn K (.ref f__law_machine) = true)
    (a__law_menu : PySem.W.nsIn K mainGlobals "_law_menu" = some (some (.ref f__law_menu)))
    (l__law_menu : K.lookup f__law_menu = some ⟨oc__law_menu, od__law_menu, .func (PySem.W.fnOf "_law_menu" "_law_menu" (defArgs s__law_menu) (defBody s__law_menu) (defScope s__law_menu) .none kV__law_menu dc__law_menu pm__law_menu an__law_menu cd__law_menu ct__law_menu), sl__law_menu⟩)
    (c__law_menu_ : PySem.W.codeIn K cd__law_menu "_law_menu" = true)
    (k__law_menu : PySem.W.keepIn K (.ref f__law_menu) = true)
    (a__law_input_rows : PySem.W.nsIn K mainGlobals "_law_input_rows" = some (some (.ref f__law_input_rows)))
    (l__law_input_rows : K.lookup f__law_input_rows = some ⟨oc__law_input_rows, od__law_input_rows, .func (PySem.W.fnOf "_law_input_rows" "_law_input_rows" (defArgs s__law_input_rows) (defBody s__law_input_rows) (defScope s__law_input_rows) .none kV__law_input_rows dc__law_input_rows pm__law_input_rows an__law_input_rows cd__law_input_rows ct__law_input_rows), sl__law_input_rows⟩)
    (c__law_input_rows_ : PySem.W.codeIn K cd__law_input_rows "_law_input_rows" = true)
    (k__law_input_rows : PySem.W.keepIn K (.ref f__law_input_rows) = true)
    (a_is_tuple : PySem.W.nsIn K mainGlobals "is_tuple" = some (some (.ref f_is_tuple)))
    (l_is_tuple : K.lookup f_is_tuple = some ⟨oc_is_tuple, od_is_tuple, .func (PySem.W.fnOf "is_tuple" "is_tuple" (defArgs s_is_tuple) (defBody s_is_tuple) (defScope s_is_tuple) .none kV_is_tuple dc_is_tuple pm_is_tuple an_is_tuple cd_is_tuple ct_is_tuple), sl_is_tuple⟩)
    (c_is_tuple_ : PySem.W.codeIn K cd_is_tuple "is_tuple" = true)
    (k_is_tuple : PySem.W.keepIn K (.ref f_is_tuple) = true)
    (a__are_tuples : PySem.W.nsIn K mainGlobals "_are_tuples" = some (some (.ref f__are_tuples)))
    (l__are_tuples : K.lookup f__are_tuples = some ⟨oc__are_tuples, od__are_tuples, .func (PySem.W.fnOf "_are_tuples" "_are_tuples" (defArgs s__are_tuples) (defBody s__are_tuples) (defScope s__are_tuples) .none kV__are_tuples dc__are_tuples pm__are_tuples an__are_tuples (.ref c__are_tuples) ct__are_tuples), sl__are_tuples⟩)
    (c__are_tuples_ : PySem.W.codeIn K (.ref c__are_tuples) "_are_tuples" = true)
    (k__are_tuples : PySem.W.keepIn K (.ref f__are_tuples) = true)
    (t__are_tuples : PySem.W.tabIn K "_are_tuples" = some (c__are_tuples, P__are_tuples))
    (n__are_tuples : K.lookup P__are_tuples = none)
    (a_are_different : PySem.W.nsIn K mainGlobals "are_different" = some (some (.ref f_are_different)))
    (l_are_different : K.lookup f_are_different = some ⟨oc_are_different, od_are_different, .func (PySem.W.fnOf "are_different" "are_different" (defArgs s_are_different) (defBody s_are_different) (defScope s_are_different) .none kV_are_different dc_are_different pm_are_different an_are_different cd_are_different ct_are_different), sl_are_different⟩)
    (c_are_different_ : PySem.W.codeIn K cd_are_different "are_different" = true)
    (k_are_different : PySem.W.keepIn K (.ref f_are_different) = true)
    (a_marked : PySem.W.nsIn K mainGlobals "marked" = some (some (.ref f_marked)))
    (l_marked : K.lookup f_marked = some ⟨oc_marked, od_marked, .func (PySem.W.fnOf "marked" "marked" (defArgs s_marked) (defBody s_marked) (defScope s_marked) .none kV_marked dc_marked pm_marked an_marked cd_marked ct_marked), sl_marked⟩)
    (c_marked_ : PySem.W.codeIn K cd_marked "marked" = true)
    (k_marked : PySem.W.keepIn K (.ref f_marked) = true)
    (a_key_of : PySem.W.nsIn K mainGlobals "key_of" = some (some (.ref f_key_of)))
    (l_key_of : K.lookup f_key_of = some ⟨oc_key_of, od_key_of, .func (PySem.W.fnOf "key_of" "key_of" (defArgs s_key_of) (defBody s_key_of) (defScope s_key_of) .none kV_key_of dc_key_of pm_key_of an_key_of cd_key_of ct_key_of), sl_key_of⟩)
    (c_key_of_ : PySem.W.codeIn K cd_key_of "key_of" = true)
    (k_key_of : PySem.W.keepIn K (.ref f_key_of) = true)
    (a_is_whole : PySem.W.nsIn K mainGlobals "is_whole" = some (some (.ref f_is_whole)))
    (l_is_whole : K.lookup f_is_whole = some ⟨oc_is_whole, od_is_whole, .func (PySem.W.fnOf "is_whole" "is_whole" (defArgs s_is_whole) (defBody s_is_whole) (defScope s_is_whole) .none kV_is_whole dc_is_whole pm_is_whole an_is_whole cd_is_whole ct_is_whole), sl_is_whole⟩)
    (c_is_whole_ : PySem.W.codeIn K cd_is_whole "is_whole" = true)
    (k_is_whole : PySem.W.keepIn K (.ref f_is_whole) = true)
    (a__is_entry : PySem.W.nsIn K mainGlobals "_is_entry" = some (some (.ref f__is_entry)))
    (l__is_entry : K.lookup f__is_entry = some ⟨oc__is_entry, od__is_entry, .func (PySem.W.fnOf "_is_entry" "_is_entry" (defArgs s__is_entry) (defBody s__is_entry) (defScope s__is_entry) .none kV__is_entry dc__is_entry pm__is_entry an__is_entry cd__is_entry ct__is_entry), sl__is_entry⟩)
    (c__is_entry_ : PySem.W.codeIn K cd__is_entry "_is_entry" = true)
    (k__is_entry : PySem.W.keepIn K (.ref f__is_entry) = true)
    (a__are_numbered : PySem.W.nsIn K mainGlobals "_are_numbered" = some (some (.ref f__are_numbered)))
    (l__are_numbered : K.lookup f__are_numbered = some ⟨oc__are_numbered, od__are_numbered, .func (PySem.W.fnOf "_are_numbered" "_are_numbered" (defArgs s__are_numbered) (defBody s__are_numbered) (defScope s__are_numbered) .none kV__are_numbered dc__are_numbered pm__are_numbered an__are_numbered cd__are_numbered ct__are_numbered), sl__are_numbered⟩)
    (c__are_numbered_ : PySem.W.codeIn K cd__are_numbered "_are_numbered" = true)
    (k__are_numbered : PySem.W.keepIn K (.ref f__are_numbered) = true)
    (a_is_machine : PySem.W.nsIn K mainGlobals "is_machine" = some (some (.ref f_is_machine)))
    (l_is_machine : K.lookup f_is_machine = some ⟨oc_is_machine, od_is_machine, .func (PySem.W.fnOf "is_machine" "is_machine" (defArgs s_is_machine) (defBody s_is_machine) (defScope s_is_machine) .none kV_is_machine dc_is_machine pm_is_machine an_is_machine (.ref c_is_machine) ct_is_machine), sl_is_machine⟩)
    (c_is_machine_ : PySem.W.codeIn K (.ref c_is_machine) "is_machine" = true)
    (k_is_machine : PySem.W.keepIn K (.ref f_is_machine) = true)
    (t_is_machine : PySem.W.tabIn K "is_machine" = some (c_is_machine, P_is_machine))
    (n_is_machine : K.lookup P_is_machine = none)
    (a__law_bad : PySem.W.nsIn K mainGlobals "_law_bad" = some (some (.ref f__law_bad)))
    (l__law_bad : K.lookup f__law_bad = some ⟨oc__law_bad, od__law_bad, .func (PySem.W.fnOf "_law_bad" "_law_bad" (defArgs s__law_bad) (defBody s__law_bad) (defScope s__law_bad) .none kV__law_bad dc__law_bad pm__law_bad an__law_bad cd__law_bad ct__law_bad), sl__law_bad⟩)
    (c__law_bad_ : PySem.W.codeIn K cd__law_bad "_law_bad" = true)
    (k__law_bad : PySem.W.keepIn K (.ref f__law_bad) = true)
    (a__law_same : PySem.W.nsIn K mainGlobals "_law_same" = some (some (.ref f__law_same)))
    (l__law_same : K.lookup f__law_same = some ⟨oc__law_same, od__law_same, .func (PySem.W.fnOf "_law_same" "_law_same" (defArgs s__law_same) (defBody s__law_same) (defScope s__law_same) .none kV__law_same dc__law_same pm__law_same an__law_same cd__law_same ct__law_same), sl__law_same⟩)
    (c__law_same_ : PySem.W.codeIn K cd__law_same "_law_same" = true)
    (k__law_same : PySem.W.keepIn K (.ref f__law_same) = true)
    (a__law_run : PySem.W.nsIn K mainGlobals "_law_run" = some (some (.ref f__law_run)))
    (l__law_run : K.lookup f__law_run = some ⟨oc__law_run, od__law_run, .func (PySem.W.fnOf "_law_run" "_law_run" (defArgs s__law_run) (defBody s__law_run) (defScope s__law_run) .none kV__law_run dc__law_run pm__law_run an__law_run cd__law_run ct__law_run), sl__law_run⟩)
    (c__law_run_ : PySem.W.codeIn K cd__law_run "_law_run" = true)
    (k__law_run : PySem.W.keepIn K (.ref f__law_run) = true)
    (a_run_machine : PySem.W.nsIn K mainGlobals "run_machine" = some (some (.ref f_run_machine)))
    (l_run_machine : K.lookup f_run_machine = some ⟨oc_run_machine, od_run_machine, .func (PySem.W.fnOf "run_machine" "run_machine" (defArgs s_run_machine) (defBody s_run_machine) (defScope s_run_machine) .none kV_run_machine dc_run_machine pm_run_machine an_run_machine cd_run_machine ct_run_machine), sl_run_machine⟩)
    (c_run_machine_ : PySem.W.codeIn K cd_run_machine "run_machine" = true)
    (k_run_machine : PySem.W.keepIn K (.ref f_run_machine) = true)
    (a__law_shortest : PySem.W.nsIn K mainGlobals "_law_shortest" = some (some (.ref f__law_shortest)))
    (l__law_shortest : K.lookup f__law_shortest = some ⟨oc__law_shortest, od__law_shortest, .func (PySem.W.fnOf "_law_shortest" "_law_shortest" (defArgs s__law_shortest) (defBody s__law_shortest) (defScope s__law_shortest) .none kV__law_shortest dc__law_shortest pm__law_shortest an__law_shortest cd__law_shortest ct__law_shortest), sl__law_shortest⟩)
    (c__law_shortest_ : PySem.W.codeIn K cd__law_shortest "_law_shortest" = true)
    (k__law_shortest : PySem.W.keepIn K (.ref f__law_shortest) = true)
    (a_first_way_out : PySem.W.nsIn K mainGlobals "first_way_out" = some (some (.ref f_first_way_out)))
    (l_first_way_out : K.lookup f_first_way_out = some ⟨oc_first_way_out, od_first_way_out, .func (PySem.W.fnOf "first_way_out" "first_way_out" (defArgs s_first_way_out) (defBody s_first_way_out) (defScope s_first_way_out) .none kV_first_way_out dc_first_way_out pm_first_way_out an_first_way_out cd_first_way_out ct_first_way_out), sl_first_way_out⟩)
    (c_first_way_out_ : PySem.W.codeIn K cd_first_way_out "first_way_out" = true)
    (k_first_way_out : PySem.W.keepIn K (.ref f_first_way_out) = true)
    (a_first_fault : PySem.W.nsIn K mainGlobals "first_fault" = some (some (.ref f_first_fault)))
    (l_first_fault : K.lookup f_first_fault = some ⟨oc_first_fault, od_first_fault, .func (PySem.W.fnOf "first_fault" "first_fault" (defArgs s_first_fault) (defBody s_first_fault) (defScope s_first_fault) .none kV_first_fault dc_first_fault pm_first_fault an_first_fault cd_first_fault ct_first_fault), sl_first_fault⟩)
    (c_first_fault_ : PySem.W.codeIn K cd_first_fault "first_fault" = true)
    (k_first_fault : PySem.W.keepIn K (.ref f_first_fault) = true)
    (a_law : PySem.W.nsIn K mainGlobals "law" = some (some (.ref f_law)))
    (l_law : K.lookup f_law = some ⟨oc_law, od_law, .func (PySem.W.fnOf "law" "law" (defArgs s_law) (defBody s_law) (defScope s_law) .none kV_law dc_law pm_law an_law cd_law ct_law), sl_law⟩)
    (c_law_ : PySem.W.codeIn K cd_law "law" = true)
    (k_law : PySem.W.keepIn K (.ref f_law) = true)
    (a_Walk___init__ : PySem.W.findIn K (.ref C_Walk) "__init__" = some (some (.ref f_Walk___init__)))
    (i_Walk___init__ : PySem.W.isFn K (.ref f_Walk___init__) = true)
    (l_Walk___init__ : K.lookup f_Walk___init__ = some ⟨oc_Walk___init__, od_Walk___init__, .func (PySem.W.fnOf "__init__" "Walk.__init__" (defArgs s_Walk___init__) (defBody s_Walk___init__) (defScope s_Walk___init__) .none kV_Walk___init__ dc_Walk___init__ pm_Walk___init__ an_Walk___init__ cd_Walk___init__ ct_Walk___init__), sl_Walk___init__⟩)
    (c_Walk___init___ : PySem.W.codeIn K cd_Walk___init__ "Walk.__init__" = true)
    (k_Walk___init__ : PySem.W.keepIn K (.ref f_Walk___init__) = true)
    (a_Walk_is_over : PySem.W.findIn K (.ref C_Walk) "is_over" = some (some (.ref f_Walk_is_over)))
    (i_Walk_is_over : PySem.W.isFn K (.ref f_Walk_is_over) = true)
    (l_Walk_is_over : K.lookup f_Walk_is_over = some ⟨oc_Walk_is_over, od_Walk_is_over, .func (PySem.W.fnOf "is_over" "Walk.is_over" (defArgs s_Walk_is_over) (defBody s_Walk_is_over) (defScope s_Walk_is_over) .none kV_Walk_is_over dc_Walk_is_over pm_Walk_is_over an_Walk_is_over cd_Walk_is_over ct_Walk_is_over), sl_Walk_is_over⟩)
    (c_Walk_is_over_ : PySem.W.codeIn K cd_Walk_is_over "Walk.is_over" = true)
    (k_Walk_is_over : PySem.W.keepIn K (.ref f_Walk_is_over) = true)
    (a_Walk_take : PySem.W.findIn K (.ref C_Walk) "take" = some (some (.ref f_Walk_take)))
    (i_Walk_take : PySem.W.isFn K (.ref f_Walk_take) = true)
    (l_Walk_take : K.lookup f_Walk_take = some ⟨oc_Walk_take, od_Walk_take, .func (PySem.W.fnOf "take" "Walk.take" (defArgs s_Walk_take) (defBody s_Walk_take) (defScope s_Walk_take) .none kV_Walk_take dc_Walk_take pm_Walk_take an_Walk_take cd_Walk_take ct_Walk_take), sl_Walk_take⟩)
    (c_Walk_take_ : PySem.W.codeIn K cd_Walk_take "Walk.take" = true)
    (k_Walk_take : PySem.W.keepIn K (.ref f_Walk_take) = true)
    (a_Walk_way_to : PySem.W.findIn K (.ref C_Walk) "way_to" = some (some (.ref f_Walk_way_to)))
    (i_Walk_way_to : PySem.W.isFn K (.ref f_Walk_way_to) = true)
    (l_Walk_way_to : K.lookup f_Walk_way_to = some ⟨oc_Walk_way_to, od_Walk_way_to, .func (PySem.W.fnOf "way_to" "Walk.way_to" (defArgs s_Walk_way_to) (defBody s_Walk_way_to) (defScope s_Walk_way_to) .none kV_Walk_way_to dc_Walk_way_to pm_Walk_way_to an_Walk_way_to cd_Walk_way_to ct_Walk_way_to), sl_Walk_way_to⟩)
    (c_Walk_way_to_ : PySem.W.codeIn K cd_Walk_way_to "Walk.way_to" = true)
    (k_Walk_way_to : PySem.W.keepIn K (.ref f_Walk_way_to) = true)
    (a_Walk_come_to : PySem.W.findIn K (.ref C_Walk) "come_to" = some (some (.ref f_Walk_come_to)))
    (i_Walk_come_to : PySem.W.isFn K (.ref f_Walk_come_to) = true)
    (l_Walk_come_to : K.lookup f_Walk_come_to = some ⟨oc_Walk_come_to, od_Walk_come_to, .func (PySem.W.fnOf "come_to" "Walk.come_to" (defArgs s_Walk_come_to) (defBody s_Walk_come_to) (defScope s_Walk_come_to) .none kV_Walk_come_to dc_Walk_come_to pm_Walk_come_to an_Walk_come_to cd_Walk_come_to ct_Walk_come_to), sl_Walk_come_to⟩)
    (c_Walk_come_to_ : PySem.W.codeIn K cd_Walk_come_to "Walk.come_to" = true)
    (k_Walk_come_to : PySem.W.keepIn K (.ref f_Walk_come_to) = true)
    (pg_Walk : PySem.W.plainGet K C_Walk Str.empty = true)
    (hd_Walk : PySem.W.hasDictIn K C_Walk = true)
    (po_Walk : PySem.W.plainOver K C_Walk = true)
    (sa_Walk : PySem.W.findIn K (.ref C_Walk) "__setattr__" = some (some (.builtin "object.__setattr__")))
    (mk_Walk : PySem.W.makesIn K C_Walk = true)
    (kc_Walk : PySem.W.keepIn K (.ref C_Walk) = true)
    (na_Walk_queue : PySem.W.findIn K (.ref C_Walk) "queue" = some none)
    (na_Walk_steps : PySem.W.findIn K (.ref C_Walk) "steps" = some none)
    (na_Walk_at : PySem.W.findIn K (.ref C_Walk) "at" = some none)
    (z_len : PySem.W.nsIn K mainGlobals "len" = some none)
    (z_int : PySem.W.nsIn K mainGlobals "int" = some none)
    (z_abs : PySem.W.nsIn K mainGlobals "abs" = some none)
    (z_str : PySem.W.nsIn K mainGlobals "str" = some none)
    (z_list : PySem.W.nsIn K mainGlobals "list" = some none)
    (z_tuple : PySem.W.nsIn K mainGlobals "tuple" = some none)
    (z_dict : PySem.W.nsIn K mainGlobals "dict" = some none)
    (z_range : PySem.W.nsIn K mainGlobals "range" = some none)
    (z_reversed : PySem.W.nsIn K mainGlobals "reversed" = some none)
    (z_enumerate : PySem.W.nsIn K mainGlobals "enumerate" = some none)
    (z_isinstance : PySem.W.nsIn K mainGlobals "isinstance" = some none)
    (z_sorted : PySem.W.nsIn K mainGlobals "sorted" = some none)
    (z_all : PySem.W.nsIn K mainGlobals "all" = some none)
    (z_any : PySem.W.nsIn K mainGlobals "any" = some none)
    (z_set : PySem.W.nsIn K mainGlobals "set" = some none)
    (z_bool : PySem.W.nsIn K mainGlobals "bool" = some none)
    : Facts K mg C_Walk where
  B := ⟨PySem.W.mg_none_of X G z_len, PySem.W.mg_none_of X G z_int, PySem.W.mg_none_of X G z_abs, PySem.W.mg_none_of X G z_str, PySem.W.mg_none_of X G z_list, PySem.W.mg_none_of X G z_tuple, PySem.W.mg_none_of X G z_dict, PySem.W.mg_none_of X G z_range, PySem.W.mg_none_of X G z_reversed, PySem.W.mg_none_of X G z_enumerate, PySem.W.mg_none_of X G z_isinstance, PySem.W.mg_none_of X G z_sorted, PySem.W.mg_none_of X G z_all, PySem.W.mg_none_of X G z_any, PySem.W.mg_none_of X G z_set, PySem.W.mg_none_of X G z_bool⟩
  f__law_tape := ⟨f__law_tape, _, fun_mk (st := s__law_tape) l__law_tape c__law_tape_ k__law_tape, PySem.W.mg_of X G a__law_tape⟩
  f__law_mix := ⟨f__law_mix, _, fun_mk (st := s__law_mix) l__law_mix c__law_mix_ k__law_mix, PySem.W.mg_of X G a__law_mix⟩
  f__law_take := ⟨f__law_take, _, fun_mk (st := s__law_take) l__law_take c__law_take_ k__law_take, PySem.W.mg_of X G a__law_take⟩
  f__law_numbered := ⟨f__law_numbered, _, fun_mk (st := s__law_numbered) l__law_numbered c__law_numbered_ k__law_numbered, PySem.W.mg_of X G a__law_numbered⟩
  f__law_machine := ⟨f__law_machine, _, fun_mk (st := s__law_machine) l__law_machine c__law_machine_ k__law_machine, PySem.W.mg_of X G a__law_machine⟩
  f__law_menu := ⟨f__law_menu, _, fun_mk (st := s__law_menu) l__law_menu c__law_menu_ k__law_menu, PySem.W.mg_of X G a__law_menu⟩
  f__law_input_rows := ⟨f__law_input_rows, _, fun_mk (st := s__law_input_rows) l__law_input_rows c__law_input_rows_ k__law_input_rows, PySem.W.mg_of X G a__law_input_rows⟩
  f_is_tuple := ⟨f_is_tuple, _, fun_mk (st := s_is_tuple) l_is_tuple c_is_tuple_ k_is_tuple, PySem.W.mg_of X G a_is_tuple⟩
  f__are_tuples := ⟨f__are_tuples, _, c__are_tuples, P__are_tuples, fun_mk (st := s__are_tuples) l__are_tuples c__are_tuples_ k__are_tuples, PySem.W.mg_of X G a__are_tuples, rfl, t__are_tuples, n__are_tuples⟩
  f_are_different := ⟨f_are_different, _, fun_mk (st := s_are_different) l_are_different c_are_different_ k_are_different, PySem.W.mg_of X G a_are_different⟩
  f_marked := ⟨f_marked, _, fun_mk (st := s_marked) l_marked c_marked_ k_marked, PySem.W.mg_of X G a_marked⟩
  f_key_of := ⟨f_key_of, _, fun_mk (st := s_key_of) l_key_of c_key_of_ k_key_of, PySem.W.mg_of X G a_key_of⟩
  f_is_whole := ⟨f_is_whole, _, fun_mk (st := s_is_whole) l_is_whole c_is_whole_ k_is_whole, PySem.W.mg_of X G a_is_whole⟩
  f__is_entry := ⟨f__is_entry, _, fun_mk (st := s__is_entry) l__is_entry c__is_entry_ k__is_entry, PySem.W.mg_of X G a__is_entry⟩
  f__are_numbered := ⟨f__are_numbered, _, fun_mk (st := s__are_numbered) l__are_numbered c__are_numbered_ k__are_numbered, PySem.W.mg_of X G a__are_numbered⟩
  f_is_machine := ⟨f_is_machine, _, c_is_machine, P_is_machine, fun_mk (st := s_is_machine) l_is_machine c_is_machine_ k_is_machine, PySem.W.mg_of X G a_is_machine, rfl, t_is_machine, n_is_machine⟩
  f__law_bad := ⟨f__law_bad, _, fun_mk (st := s__law_bad) l__law_bad c__law_bad_ k__law_bad, PySem.W.mg_of X G a__law_bad⟩
  f__law_same := ⟨f__law_same, _, fun_mk (st := s__law_same) l__law_same c__law_same_ k__law_same, PySem.W.mg_of X G a__law_same⟩
  f__law_run := ⟨f__law_run, _, fun_mk (st := s__law_run) l__law_run c__law_run_ k__law_run, PySem.W.mg_of X G a__law_run⟩
  f_run_machine := ⟨f_run_machine, _, fun_mk (st := s_run_machine) l_run_machine c_run_machine_ k_run_machine, PySem.W.mg_of X G a_run_machine⟩
  f__law_shortest := ⟨f__law_shortest, _, fun_mk (st := s__law_shortest) l__law_shortest c__law_shortest_ k__law_shortest, PySem.W.mg_of X G a__law_shortest⟩
  f_first_way_out := ⟨f_first_way_out, _, fun_mk (st := s_first_way_out) l_first_way_out c_first_way_out_ k_first_way_out, PySem.W.mg_of X G a_first_way_out⟩
  f_first_fault := ⟨f_first_fault, _, fun_mk (st := s_first_fault) l_first_fault c_first_fault_ k_first_fault, PySem.W.mg_of X G a_first_fault⟩
  f_law := ⟨f_law, _, fun_mk (st := s_law) l_law c_law_ k_law, PySem.W.mg_of X G a_law⟩
  f_Walk___init__ := ⟨f_Walk___init__, _, fun_mk (st := s_Walk___init__) l_Walk___init__ c_Walk___init___ k_Walk___init__, ⟨mk_Walk, a_Walk___init__, i_Walk___init__, kc_Walk⟩, PySem.W.mg_of X G aC_Walk⟩
  f_Walk_is_over := ⟨f_Walk_is_over, _, fun_mk (st := s_Walk_is_over) l_Walk_is_over c_Walk_is_over_ k_Walk_is_over, ⟨a_Walk_is_over, i_Walk_is_over, k_Walk_is_over⟩⟩
  f_Walk_take := ⟨f_Walk_take, _, fun_mk (st := s_Walk_take) l_Walk_take c_Walk_take_ k_Walk_take, ⟨a_Walk_take, i_Walk_take, k_Walk_take⟩⟩
  f_Walk_way_to := ⟨f_Walk_way_to, _, fun_mk (st := s_Walk_way_to) l_Walk_way_to c_Walk_way_to_ k_Walk_way_to, ⟨a_Walk_way_to, i_Walk_way_to, k_Walk_way_to⟩⟩
  f_Walk_come_to := ⟨f_Walk_come_to, _, fun_mk (st := s_Walk_come_to) l_Walk_come_to c_Walk_come_to_ k_Walk_come_to, ⟨a_Walk_come_to, i_Walk_come_to, k_Walk_come_to⟩⟩
  k_Walk := ⟨⟨pg_Walk, hd_Walk, po_Walk, sa_Walk⟩, fun f hf => by
    simp only [List.mem_cons, List.not_mem_nil, or_false] at hf
    rcases hf with rfl | rfl | rfl
    · exact na_Walk_queue
    · exact na_Walk_steps
    · exact na_Walk_at⟩
end
theorem law_end {l : PySem.W.OpenLaw} {q : Program} {w : World} {K : PySem.W.Frag} {mg : Str → Option Value} {C_Walk : Addr} {fa : Addr} {h : Heap} (T : Facts K mg C_Walk) (hfa : mg "law" = some (.ref fa)) (tabs : TabsOf q K h) (hq : [("_are_tuples" : Str), ("is_machine" : Str)].all (fun x => (PyProof.Rows.recsOf q).any fun e => e.name == x) = true) : LamX.LawAtS l w K CX0 7 63 "script" mg fa h := by
  obtain ⟨f, fd, cs, F, m, ht, hF⟩ := law_at (P := l.prog) (w := w) T
  obtain rfl : f = fa := by rw [m] at hfa; cases hfa; rfl
  have tb : ∀ p ∈ cs, PySem.W.CodeHd h p.1 p.2 ∧ h.get? p.2 = some { cls := .none, data := .fields #[] } := fun p hp => by
    obtain ⟨x, hx, e, _⟩ := ht p hp
    exact tabs x p.1 p.2 (List.all_eq_true.mp hq x hx) e
  refine ⟨fd, cs, _, fun p hp => (tb p hp).2, fun p hp => ?_, fun p hp => (tb p hp).1, fun s u => ?_, fun H a ns hl _ hH hS => ?_, fun base _ _ TB => hF base fun p hp => ⟨(TB p hp).code, (TB p hp).bm, (TB p hp).gP⟩⟩
  · obtain ⟨x, hx, _, e⟩ := ht p hp
    exact e
  · obtain ⟨oc, od, kV, doc, pm, an, cdv, ct, osl, rfl, lk, hcd⟩ := F.ex
    exact .of_eq rfl
  · have tab : ∀ P ∈ cs.map (·.2), GxR.TabG H P := fun P hP => by
      obtain ⟨p, hp, rfl⟩ := List.mem_map.mp hP
      exact ⟨#[], hH p hp, trivial⟩
    refine script_sp tab hS fun A0 s hs => ?_
    obtain ⟨A', e⟩ := law_true (A := A0) (s := s) (ns := ns) (C_Walk := C_Walk) hl hs
    exact ⟨A', e⟩
end Z
open PySem PySem.W PyProof.Rows
set_option maxRecDepth 100000 in
set_option maxHeartbeats 0 in
theorem PySem.Challenge.cw_everytick_k55_forms_of_machines_holds : PySem.Challenge.rw_everytick_k55_forms_of_machines.Holds := by
  w_on; o_law; k_head; (case hw => w_witness2)
  k_fill
  refine Z.walk_tabs (l := PySem.Challenge.rw_everytick_k55_forms_of_machines) (n := 63) (k := 7) (x := "script") rfl (by decide) rfl ⟨rfl, by decide, by decide⟩ (fun w h Y => PySem.W.kIn_of Y) ?F
  case F =>
    intro w mg fa h KX G hmg tabs
    refine' Z.law_end (Z.facts_mk KX G ?aC_Walk ?a__law_tape ?l__law_tape ?c__law_tape_ ?k__law_tape ?a__law_mix ?l__law_mix ?c__law_mix_ ?k__law_mix ?a__law_take ?l__law_take ?c__law_take_ ?k__law_take ?a__law_numbered ?l__law_numbered ?c__law_numbered_ ?k__law_numbered ?a__law_machine ?l__law_machine ?c__law_machine_ ?k__law_machine ?a__law_menu ?l__law_menu ?c__law_menu_ ?k__law_menu ?a__law_input_rows ?l__law_input_rows ?c__law_input_rows_ ?k__law_input_rows ?a_is_tuple ?l_is_tuple ?c_is_tuple_ ?k_is_tuple ?a__are_tuples ?l__are_tuples ?c__are_tuples_ ?k__are_tuples ?t__are_tuples ?n__are_tuples ?a_are_different ?l_are_different ?c_are_different_ ?k_are_different ?a_marked ?l_marked ?c_marked_ ?k_marked ?a_key_of ?l_key_of ?c_key_of_ ?k_key_of ?a_is_whole ?l_is_whole ?c_is_whole_ ?k_is_whole ?a__is_entry ?l__is_entry ?c__is_entry_ ?k__is_entry ?a__are_numbered ?l__are_numbered ?c__are_numbered_ ?k__are_numbered ?a_is_machine ?l_is_machine ?c_is_machine_ ?k_is_machine ?t_is_machine ?n_is_machine ?a__law_bad ?l__law_bad ?c__law_bad_ ?k__law_bad ?a__law_same ?l__law_same ?c__law_same_ ?k__law_same ?a__law_run ?l__law_run ?c__law_run_ ?k__law_run ?a_run_machine ?l_run_machine ?c_run_machine_ ?k_run_machine ?a__law_shortest ?l__law_shortest ?c__law_shortest_ ?k__law_shortest ?a_first_way_out ?l_first_way_out ?c_first_way_out_ ?k_first_way_out ?a_first_fault ?l_first_fault ?c_first_fault_ ?k_first_fault ?a_law ?l_law ?c_law_ ?k_law ?a_Walk___init__ ?i_Walk___init__ ?l_Walk___init__ ?c_Walk___init___ ?k_Walk___init__ ?a_Walk_is_over ?i_Walk_is_over ?l_Walk_is_over ?c_Walk_is_over_ ?k_Walk_is_over ?a_Walk_take ?i_Walk_take ?l_Walk_take ?c_Walk_take_ ?k_Walk_take ?a_Walk_way_to ?i_Walk_way_to ?l_Walk_way_to ?c_Walk_way_to_ ?k_Walk_way_to ?a_Walk_come_to ?i_Walk_come_to ?l_Walk_come_to ?c_Walk_come_to_ ?k_Walk_come_to ?pg_Walk ?hd_Walk ?po_Walk ?sa_Walk ?mk_Walk ?kc_Walk ?na_Walk_queue ?na_Walk_steps ?na_Walk_at ?z_len ?z_int ?z_abs ?z_str ?z_list ?z_tuple ?z_dict ?z_range ?z_reversed ?z_enumerate ?z_isinstance ?z_sorted ?z_all ?z_any ?z_set ?z_bool) hmg tabs ?hq
    case hq => decide +kernel
    (case aC_Walk => k_is)
    (case a__law_tape => k_is)
    (case l__law_tape => k_is)
    (case c__law_tape_ => k_is)
    (case k__law_tape => k_is)
    (case a__law_mix => k_is)
    (case l__law_mix => k_is)
    (case c__law_mix_ => k_is)
    (case k__law_mix => k_is)
    (case a__law_take => k_is)
    (case l__law_take => k_is)
    (case c__law_take_ => k_is)
    (case k__law_take => k_is)
    (case a__law_numbered => k_is)
    (case l__law_numbered => k_is)
    (case c__law_numbered_ => k_is)
    (case k__law_numbered => k_is)
    (case a__law_machine => k_is)
    (case l__law_machine => k_is)
    (case c__law_machine_ => k_is)
    (case k__law_machine => k_is)
    (case a__law_menu => k_is)
    (case l__law_menu => k_is)
    (case c__law_menu_ => k_is)
    (case k__law_menu => k_is)
    (case a__law_input_rows => k_is)
    (case l__law_input_rows => k_is)
    (case c__law_input_rows_ => k_is)
    (case k__law_input_rows => k_is)
    (case a_is_tuple => k_is)
    (case l_is_tuple => k_is)
    (case c_is_tuple_ => k_is)
    (case k_is_tuple => k_is)
    (case a__are_tuples => k_is)
    (case l__are_tuples => k_is)
    (case c__are_tuples_ => k_is)
    (case k__are_tuples => k_is)
    (case t__are_tuples => rfl)
    (case n__are_tuples => rfl)
    (case a_are_different => k_is)
    (case l_are_different => k_is)
    (case c_are_different_ => k_is)
    (case k_are_different => k_is)
    (case a_marked => k_is)
    (case l_marked => k_is)
    (case c_marked_ => k_is)
    (case k_marked => k_is)
    (case a_key_of => k_is)
    (case l_key_of => k_is)
    (case c_key_of_ => k_is)
    (case k_key_of => k_is)
    (case a_is_whole => k_is)
    (case l_is_whole => k_is)
    (case c_is_whole_ => k_is)
    (case k_is_whole => k_is)
    (case a__is_entry => k_is)
    (case l__is_entry => k_is)
    (case c__is_entry_ => k_is)
    (case k__is_entry => k_is)
    (case a__are_numbered => k_is)
    (case l__are_numbered => k_is)
    (case c__are_numbered_ => k_is)
    (case k__are_numbered => k_is)
    (case a_is_machine => k_is)
    (case l_is_machine => k_is)
    (case c_is_machine_ => k_is)
    (case k_is_machine => k_is)
    (case t_is_machine => rfl)
    (case n_is_machine => rfl)
    (case a__law_bad => k_is)
    (case l__law_bad => k_is)
    (case c__law_bad_ => k_is)
    (case k__law_bad => k_is)
    (case a__law_same => k_is)
    (case l__law_same => k_is)
    (case c__law_same_ => k_is)
    (case k__law_same => k_is)
    (case a__law_run => k_is)
    (case l__law_run => k_is)
    (case c__law_run_ => k_is)
    (case k__law_run => k_is)
    (case a_run_machine => k_is)
    (case l_run_machine => k_is)
    (case c_run_machine_ => k_is)
    (case k_run_machine => k_is)
    (case a__law_shortest => k_is)
    (case l__law_shortest => k_is)
    (case c__law_shortest_ => k_is)
    (case k__law_shortest => k_is)
    (case a_first_way_out => k_is)
    (case l_first_way_out => k_is)
    (case c_first_way_out_ => k_is)
    (case k_first_way_out => k_is)
    (case a_first_fault => k_is)
    (case l_first_fault => k_is)
    (case c_first_fault_ => k_is)
    (case k_first_fault => k_is)
    (case a_law => k_is)
    (case l_law => k_is)
    (case c_law_ => k_is)
    (case k_law => k_is)
    (case a_Walk___init__ => k_is)
    (case i_Walk___init__ => k_is)
    (case l_Walk___init__ => k_is)
    (case c_Walk___init___ => k_is)
    (case k_Walk___init__ => k_is)
    (case a_Walk_is_over => k_is)
    (case i_Walk_is_over => k_is)
    (case l_Walk_is_over => k_is)
    (case c_Walk_is_over_ => k_is)
    (case k_Walk_is_over => k_is)
    (case a_Walk_take => k_is)
    (case i_Walk_take => k_is)
    (case l_Walk_take => k_is)
    (case c_Walk_take_ => k_is)
    (case k_Walk_take => k_is)
    (case a_Walk_way_to => k_is)
    (case i_Walk_way_to => k_is)
    (case l_Walk_way_to => k_is)
    (case c_Walk_way_to_ => k_is)
    (case k_Walk_way_to => k_is)
    (case a_Walk_come_to => k_is)
    (case i_Walk_come_to => k_is)
    (case l_Walk_come_to => k_is)
    (case c_Walk_come_to_ => k_is)
    (case k_Walk_come_to => k_is)
    (case pg_Walk => k_is)
    (case hd_Walk => k_is)
    (case po_Walk => k_is)
    (case sa_Walk => k_is)
    (case mk_Walk => k_is)
    (case kc_Walk => k_is)
    (case na_Walk_queue => k_is)
    (case na_Walk_steps => k_is)
    (case na_Walk_at => k_is)
    (case z_len => k_is)
    (case z_int => k_is)
    (case z_abs => k_is)
    (case z_str => k_is)
    (case z_list => k_is)
    (case z_tuple => k_is)
    (case z_dict => k_is)
    (case z_range => k_is)
    (case z_reversed => k_is)
    (case z_enumerate => k_is)
    (case z_isinstance => k_is)
    (case z_sorted => k_is)
    (case z_all => k_is)
    (case z_any => k_is)
    (case z_set => k_is)
    (case z_bool => k_is)
